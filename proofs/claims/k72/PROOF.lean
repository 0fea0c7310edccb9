import PyProof.Rows.All
import Wide.All
import OpenK.AllK
import Wide.FinOn
import Lean
import PyProof.EqAt
import PyProof.EqKinds
import PyProof.TupleCall
import PyProof.NeKinds
import KE.KRevIter
import PyProof.Rows.Range3
import PyProof.ZipIter
import PyProof.Rows.SortRunsK
import PyProof.Rows.SortShell
import PyProof.Rows.IntRules
import PyProof.Dict
import PyProof.Conv_int_bool
import PyProof.Rows.DictRows
import PyProof.DictTable
import PyProof.SetKind
import PyProof.Rows.SetFrom
import PyProof.Rows.SortPure
import PyProof.FactsAll.set_1
import PyProof.SetRoads
import PyProof.Walks
import PyProof.CollectWalk
import PyProof.ListRange
import PyProof.TupleKey
import PyProof.IsRules
import PyProof.WalksMore
import PyProof.EnumStmt
import PyProof.Rows.EnumRows
import PyProof.SeqI3
import PySem.Challenge.RW_chordwebs_k72_whole_ones
set_option Elab.async false
set_option linter.all false
set_option maxRecDepth 100000
namespace L2
open PySem PySem.Spec PyProof.Rows
abbrev Key := Sum Int Str
def keyIs : Key → Value → Bool
  | .inl k, v => Value.isInt k v
  | .inr x, v => Value.isStrOf x v
def keyH (w : World) : Key → Int
  | .inl k => hashInt k
  | .inr x => hashStr w x
theorem keyIs_shape : ∀ {k : Key} {v : Value}, keyIs k v = true → (∃ i t, k = Sum.inl i ∧ v = Value.int i t) ∨ (∃ x t, k = Sum.inr x ∧ v = Value.str x t)
  | .inl i, v, h => by
    obtain ⟨t, e⟩ := Value.isInt_shape (k := i) (v := v) h
    exact .inl ⟨i, t, rfl, e⟩
  | .inr x, v, h => by
    obtain ⟨t, e⟩ := Value.isStrOf_shape (x := x) (v := v) h
    exact .inr ⟨x, t, rfl, e⟩
theorem key_ll (a b : Int) : decide ((Sum.inl a : Key) = Sum.inl b) = (a == b) := by
  by_cases e : a = b
  · subst e; simp
  · have h : ¬ (Sum.inl a : Key) = Sum.inl b := fun q => e (Sum.inl.inj q)
    rw [decide_eq_false h]
    exact (beq_eq_false_iff_ne.mpr e).symm
theorem key_rr (a b : Str) : decide ((Sum.inr a : Key) = Sum.inr b) = decide (a = b) := by
  by_cases e : a = b
  · subst e; simp
  · have h : ¬ (Sum.inr a : Key) = Sum.inr b := fun q => e (Sum.inr.inj q)
    rw [decide_eq_false h, decide_eq_false e]
theorem key_lr (a : Int) (b : Str) : decide ((Sum.inl a : Key) = Sum.inr b) = false := decide_eq_false (fun q => nomatch q)
theorem key_rl (a : Str) (b : Int) : decide ((Sum.inr a : Key) = Sum.inl b) = false := decide_eq_false (fun q => nomatch q)
def mixKind (prog : Program) (w : World) : PySem.KeyKind prog w Key where
  is := keyIs
  hash := keyH w
  inj := fun v a b ha hb => by
    rcases keyIs_shape ha with ⟨i, t, rfl, rfl⟩ | ⟨x, t, rfl, rfl⟩
    · rcases keyIs_shape hb with ⟨j, u, rfl, e⟩ | ⟨y, u, rfl, e⟩
      · injection e with e1 _; rw [e1]
      · exact nomatch e
    · rcases keyIs_shape hb with ⟨j, u, rfl, e⟩ | ⟨y, u, rfl, e⟩
      · exact nomatch e
      · injection e with e1 _; rw [e1]
  byValue := fun k v h => by
    rcases keyIs_shape h with ⟨i, t, rfl, rfl⟩ | ⟨x, t, rfl, rfl⟩ <;> rfl
  pyHash := fun hv h => by
    rcases keyIs_shape hv with ⟨i, t, rfl, rfl⟩ | ⟨x, t, rfl, rfl⟩
    · exact wpAny_pyHash_int h
    · exact wpAny_pyHash_str h
  eqBool := fun hu hv h => by
    rcases keyIs_shape hu with ⟨i, t, rfl, rfl⟩ | ⟨x, t, rfl, rfl⟩
    · rcases keyIs_shape hv with ⟨j, u, rfl, rfl⟩ | ⟨y, u, rfl, rfl⟩
      · rw [key_ll] at h; exact wpAny_eqBool_int h
      · rw [key_lr] at h; exact SeqAt.EqAt.int_str i t y u _ _ _ _ h
    · rcases keyIs_shape hv with ⟨j, u, rfl, rfl⟩ | ⟨y, u, rfl, rfl⟩
      · rw [key_rl] at h; exact SeqAt.EqAt.str_int x t j u _ _ _ _ h
      · rw [key_rr] at h; exact wpAny_eqBool_str h
  «strs» := fun k x t v h => by
    rcases keyIs_shape h with ⟨i, u, rfl, e⟩ | ⟨y, u, rfl, e⟩
    · exact nomatch e
    · injection e with e1 _
      subst e1
      cases v <;> rfl
end L2
namespace L2
open PySem PySem.Spec PyProof.Rows
inductive V where
  | non | bl (b : Bool) | int (i : Int) | str (x : Str) | byt (b : Array UInt8) | flt (b : UInt64) | ref (a : Addr) | ty (n : String)
  deriving DecidableEq
def RelV : V → Value → Prop
  | .non, u => u = Value.none
  | .bl b, u => u = Value.bool b
  | .int i, u => ∃ t, u = Value.int i t
  | .str x, u => ∃ t, u = Value.str x t
  | .byt b, u => ∃ t, u = Value.bytes b t
  | .flt b, u => ∃ t, u = Value.float b t
  | .ref a, u => u = Value.ref a
  | .ty n, u => u = Value.type n
abbrev Vals : List V → List Value → Prop := Paired RelV
theorem Vals.length {xs : List V} {us : List Value} (r : Vals xs us) : xs.length = us.length := Paired.length r
theorem Vals.get : ∀ {xs : List V} {us : List Value} {i : Nat} {x : V}, Vals xs us → xs[i]? = some x → ∃ u, us[i]? = some u ∧ RelV x u
  | _, _, _, _, .nil, e => by simp at e
  | _, _, 0, _, .cons r _, e => by simp at e; subst e; exact ⟨_, rfl, r⟩
  | _, _, i + 1, x, .cons _ t, e => by
    obtain ⟨u, h1, h2⟩ := Vals.get (i := i) (x := x) t (by simpa using e)
    exact ⟨u, by simpa using h1, h2⟩
theorem Vals.set {x : V} {u : Value} (r : RelV x u) : ∀ {xs : List V} {us : List Value} (i : Nat), Vals xs us → Vals (xs.set i x) (us.set i u)
  | _, _, _, .nil => .nil
  | _, _, 0, .cons _ t => .cons r t
  | _, _, i + 1, .cons q t => .cons q (Vals.set r i t)
theorem Vals.append : ∀ {xs ys : List V} {us ws : List Value}, Vals xs us → Vals ys ws → Vals (xs ++ ys) (us ++ ws)
  | _, _, _, _, .nil, s => s
  | _, _, _, _, .cons r t, s => .cons r (Vals.append t s)
theorem Vals.take : ∀ {xs : List V} {us : List Value} (n : Nat), Vals xs us → Vals (xs.take n) (us.take n)
  | _, _, 0, _ => .nil
  | _, _, _ + 1, .nil => .nil
  | _, _, n + 1, .cons r t => .cons r (Vals.take n t)
theorem Vals.drop : ∀ {xs : List V} {us : List Value} (n : Nat), Vals xs us → Vals (xs.drop n) (us.drop n)
  | _, _, 0, r => r
  | _, _, _ + 1, .nil => .nil
  | _, _, n + 1, .cons _ t => Vals.drop n t
def RelO : Option V → Option Value → Prop
  | some v, some u => RelV v u
  | none, none => True
  | _, _ => False
def KV {κ : Type} : List (κ × V) → List (κ × Value) → Prop := Paired fun (p : κ × V) (q : κ × Value) => p.1 = q.1 ∧ RelV p.2 q.2
def kV : Key → V
  | .inl i => .int i
  | .inr x => .str x
inductive HO where
  /-- a list -/
  | lst (xs : List V)
  /-- a tuple (never changes) -/
  | tup (xs : List V)
  /-- a dict whose keys are ints and texts; one whose keys are tuples of ints and texts (the empty one is both) -/
  | dK (kvs : List (Key × V)) | dT (kvs : List (List Key × V))
  /-- a set of ints: its members, its size -/
  | set (S : Int → Bool) (n : Nat)
  /-- an instance of the class at C, its dict at dx, its attributes -/
  | ins (C dx : Addr) (fs : List (Str × V))
  /-- the dict of the instance at x -/
  | own (x : Addr)
  /-- the dict of an exception -/
  | xd (fs : List (Str × V))
  /-- a bound method, f of x -/
  | met (f x : Addr)
  /-- a range object lo, lo + 1, .. below hi -/
  | rng (lo hi : Int)
  /-- a thing that is known to the object (the script; a dict while a loop walks it): read, never written while it is so -/
  | frz (o : Obj) (u : HO)
  /-- a code object's table -/
  | tbl (ps : Array Value)
  /-- any other thing, by what is true of its one object (a def of one's own: SetO a S n := HO.ext fun h => ..) -/
  | ext (φ : Heap → Prop)
abbrev Hp := Addr → Option HO
def upd (H : Hp) (a : Addr) (o : HO) : Hp := fun b => if b = a then some o else H b
theorem upd_same {H : Hp} {a : Addr} {o : HO} : upd H a o a = some o := by unfold upd; rw [if_pos rfl]
theorem upd_ne {H : Hp} {a b : Addr} {o : HO} (h : b ≠ a) : upd H a o b = H b := by unfold upd; rw [if_neg h]
theorem ne_of {H : Hp} {a b : Addr} {o u : HO} (h : H a = some o) (h' : H b = some u) (d : o ≠ u) : a ≠ b := by
  intro e; subst e; rw [h] at h'; exact d (Option.some.inj h')
theorem ne_of_none {H : Hp} {a b : Addr} {o : HO} (h : H a = some o) (h' : H b = none) : a ≠ b := by
  intro e; subst e; rw [h] at h'; cases h'
def PTup (h : Heap) (a : Addr) (items : Array Value) : Prop := ∃ o, h.get? a = some o ∧ o.cls = .type "tuple" ∧ (∃ n, o.data = .seq items n) ∧ o.dict = none
theorem PTup.isTup {h : Heap} {a : Addr} {items : Array Value} (x : PTup h a items) : IsTup h a items := let ⟨o, h1, h2, h3, _⟩ := x; ⟨o, h1, h2, h3⟩
theorem PTup.lt {h : Heap} {a : Addr} {items : Array Value} (x : PTup h a items) : a < h.objs.size := x.isTup.lt
theorem PTup.new (h : Heap) (items : Array Value) : PTup (h.push { cls := .type "tuple", data := .seq items }) h.objs.size items := ⟨_, Heap.get?_push_size _ rfl, rfl, ⟨_, rfl⟩, rfl⟩
section
variable (P : Program) (w : World)
def ObjOk (H : Hp) (h : Heap) (a : Addr) : HO → Prop
  | .lst xs => xs.length ≤ sizeLine ∧ ∃ (its : List Value) (n : Nat), Vals xs its ∧ h.get? a = some { cls := .type "list", data := .seq its.toArray n }
  | .tup xs => xs.length ≤ sizeLine ∧ ∃ its : List Value, Vals xs its ∧ PTup h a its.toArray
  | .dK kvs => kvs.length ≤ sizeLine ∧ (a == sysModules) = false ∧ ∃ vs, KV kvs vs ∧ h.DictOf (mixKind P w) a vs
  | .dT kvs => kvs.length ≤ sizeLine ∧ (a == sysModules) = false ∧ ∃ xs : List (List Key × Addr × Value),
      Paired (fun (p : List Key × V) (q : List Key × Addr × Value) => p.1 = q.1 ∧ H q.2.1 = some (.tup (p.1.map kV)) ∧ RelV p.2 q.2.2) kvs xs ∧
      ∃ o es ep, h.get? a = some o ∧ o.ExactDict ∧ o.data = .dict es ep ∧ es.toList = xs.map (entryOfKey (tupleKind (mixKind P w))) ∧ (xs.map (·.1)).Nodup
  | .set S n => h.SetOf (intKind P w) a S n
  | .ins C dx fs => H dx = some (.own a) ∧ fs.length ≤ 1000 ∧ dx ≠ a ∧ h.get? a = some (PySem.W.instObj C dx) ∧
      ∃ mA, h.Ns1 dx mA ∧ (∀ f, RelO (fs.lookup f) (mA f)) ∧ PySem.Within mA (fs.map (·.1))
  | .own _ => ∃ o, h.get? a = some o
  | .xd fs => ∃ mA, h.Ns1 a mA ∧ ∀ f, RelO (fs.lookup f) (mA f)
  | .rng lo hi => ∃ t u v, h.get? a = some { cls := .type "range", data := .fields #[.int lo t, .int hi u, .int 1 v] }
  | .frz o u => h.get? a = some o ∧ ObjOk H h a u
  | .tbl ps => ∃ (q : Str) (t : Tok) (vs : Array Value), ps = #[.str q t] ∧ h.get? a = some (PySem.W.tabObj vs) ∧ TriplesOk vs.toList ∧ ∀ (pos : Pos) (cv : Value), codeAmong pos vs.toList = some cv →
      ∃ (c : Addr) (o : Obj) (us : Array Value) (t' : Tok), cv = .ref c ∧ H c = some (.frz o (.own 0)) ∧ o.data = .fields us ∧ us[1]? = some (.str q t')
  | .met f x => h.get? a = some (PySem.W.methodObj (.ref f) (.ref x))
  | .ext φ => φ h ∧ (∃ o, h.get? a = some o) ∧ ∀ h1 h2 : Heap, φ h1 → (∀ o, h1.get? a = some o → h2.get? a = some o) → φ h2
def HOk (H : Hp) (h : Heap) : Prop := ∀ a o, H a = some o → ObjOk P w H h a o
end
section
variable {P : Program} {w : World} {H H' : Hp} {h h' : Heap} {a : Addr} {o : HO}
theorem ObjOk.lt (x : ObjOk P w H h a o) : a < h.objs.size := by
  cases o with
  | lst xs => obtain ⟨_, _, _, _, e⟩ := x; exact Heap.lt_size e
  | tup xs => obtain ⟨_, _, _, p⟩ := x; exact p.lt
  | dK kvs => obtain ⟨_, _, _, _, o, _, _, e, _⟩ := x; exact Heap.lt_size e
  | dT kvs => obtain ⟨_, _, _, _, o, _, _, e, _⟩ := x; exact Heap.lt_size e
  | set S n => obtain ⟨o, _, _, _, e, _⟩ := x; exact Heap.lt_size e
  | ins C dx fs => obtain ⟨_, _, _, e, _⟩ := x; exact Heap.lt_size e
  | own y => obtain ⟨_, e⟩ := x; exact Heap.lt_size e
  | xd fs => obtain ⟨_, ⟨_, _, _, e, _⟩, _⟩ := x; exact Heap.lt_size e
  | rng lo hi => obtain ⟨_, _, _, e⟩ := x; exact Heap.lt_size e
  | frz ob u => obtain ⟨e, _⟩ := x; exact Heap.lt_size e
  | tbl ps => obtain ⟨_, _, _, _, e, _⟩ := x; exact Heap.lt_size e
  | met f y => exact Heap.lt_size (show h.get? a = some _ from x)
  | ext φ => obtain ⟨_, ⟨_, e⟩, _⟩ := x; exact Heap.lt_size e
theorem Paired.mapP {α β : Type} {F G : α → β → Prop} : ∀ {l₁ : List α} {l₂ : List β}, Paired F l₁ l₂ → (∀ a b, F a b → G a b) → Paired G l₁ l₂
  | _, _, .nil, _ => .nil
  | _, _, .cons r t, f => .cons (f _ _ r) (Paired.mapP t f)
theorem ObjOk.stay (x : ObjOk P w H h a o) (k : ∀ b u, (b = a ∨ H b = some (.own a)) → h.get? b = some u → h'.get? b = some u)
    (ho : ∀ b, H b = some (.own a) → H' b = some (.own a)) (ht : ∀ b xs, H b = some (.tup xs) → H' b = some (.tup xs)) (hz : ∀ b o u, H b = some (.frz o u) → H' b = some (.frz o u)) : ObjOk P w H' h' a o := by
  induction o with
  | lst xs => obtain ⟨z, its, n, r, e⟩ := x; exact ⟨z, its, n, r, k _ _ (.inl rfl) e⟩
  | tup xs => obtain ⟨z, its, r, ob, e, c⟩ := x; exact ⟨z, its, r, ob, k _ _ (.inl rfl) e, c⟩
  | dK kvs => obtain ⟨z, y, vs, r, ob, es, ep, e, c⟩ := x; exact ⟨z, y, vs, r, ob, es, ep, k _ _ (.inl rfl) e, c⟩
  | dT kvs =>
    obtain ⟨z, y, xs, r, ob, es, ep, e, c⟩ := x
    exact ⟨z, y, xs, Paired.mapP r fun p q z => ⟨z.1, ht _ _ z.2.1, z.2.2⟩, ob, es, ep, k _ _ (.inl rfl) e, c⟩
  | set S n => obtain ⟨ob, es, ep, t, e, c⟩ := x; exact ⟨ob, es, ep, t, k _ _ (.inl rfl) e, c⟩
  | ins C dx fs =>
    obtain ⟨d, z, ne, e, mA, ⟨od, es, ep, e2, c⟩, r⟩ := x
    exact ⟨ho _ d, z, ne, k _ _ (.inl rfl) e, mA, ⟨od, es, ep, k _ _ (.inr d) e2, c⟩, r⟩
  | own y => obtain ⟨ob, e⟩ := x; exact ⟨ob, k _ _ (.inl rfl) e⟩
  | xd fs => obtain ⟨mA, ⟨od, es, ep, e, c⟩, r⟩ := x; exact ⟨mA, ⟨od, es, ep, k _ _ (.inl rfl) e, c⟩, r⟩
  | rng lo hi => obtain ⟨t, u, v, e⟩ := x; exact ⟨t, u, v, k _ _ (.inl rfl) e⟩
  | frz ob u ih => obtain ⟨e, q⟩ := x; exact ⟨k _ _ (.inl rfl) e, ih q⟩
  | tbl ps =>
    obtain ⟨q, t, vs, e0, e, e1, e2⟩ := x
    refine ⟨q, t, vs, e0, k _ _ (.inl rfl) e, e1, fun pos cv z => ?_⟩
    obtain ⟨c, oc, us, t', z1, z2, z3⟩ := e2 pos cv z
    exact ⟨c, oc, us, t', z1, hz _ _ _ z2, z3⟩
  | met f y =>
    have e : h.get? a = some (PySem.W.methodObj (.ref f) (.ref y)) := x
    show h'.get? a = some (PySem.W.methodObj (.ref f) (.ref y))
    exact k a _ (.inl rfl) e
  | ext φ => obtain ⟨p, ⟨o, e⟩, st⟩ := x; exact ⟨st _ _ p fun o q => k _ _ (.inl rfl) q, ⟨o, k _ _ (.inl rfl) e⟩, st⟩
theorem HOk.lt (x : HOk P w H h) (e : H a = some o) : a < h.objs.size := (x a o e).lt
theorem HOk.fresh (x : HOk P w H h) (e : h.objs.size ≤ a) : H a = none := by
  cases q : H a with
  | none => rfl
  | some u => exact absurd (Nat.lt_of_lt_of_le (x.lt q) e) (Nat.lt_irrefl _)
theorem HOk.kept (x : HOk P w H h) (k : ∀ b u, h.get? b = some u → h'.get? b = some u) : HOk P w H h' := fun a o e =>
  (x a o e).stay (fun b u _ q => k b u q) (fun _ q => q) (fun _ _ q => q) fun _ _ _ q => q
theorem HOk.laid (x : HOk P w H h) (k : ∀ b u, h.get? b = some u → h'.get? b = some u) (hp : h.objs.size ≤ a) (new : ObjOk P w (upd H a o) h' a o) : HOk P w (upd H a o) h' := fun b u e => by
  have hn := x.fresh hp
  by_cases hb : b = a
  · subst hb; rw [upd_same] at e; cases e; exact new
  · rw [upd_ne hb] at e
    exact (x b u e).stay (fun c v _ q => k c v q) (fun c q => by rw [upd_ne (ne_of_none q hn)]; exact q) (fun c xs q => by rw [upd_ne (ne_of_none q hn)]; exact q) fun c oo u q => by rw [upd_ne (ne_of_none q hn)]; exact q
end
def Rd (H : Hp) (a : Addr) (u : HO) : Prop := H a = some u ∨ ∃ o, H a = some (.frz o u)
theorem Rd.of {H : Hp} {a : Addr} {u : HO} (h : H a = some u) : Rd H a u := .inl h
theorem Rd.ok {P : Program} {w : World} {H : Hp} {h : Heap} {a : Addr} {u : HO} (r : Rd H a u) (x : HOk P w H h) : ObjOk P w H h a u := by
  rcases r with r | ⟨o, r⟩
  · exact x a u r
  · obtain ⟨_, q⟩ := x a _ r
    exact q
def Mut : Option HO → Prop
  | some (.lst _) => True
  | some (.dK _) => True
  | some (.dT _) => True
  | some (.set _ _) => True
  | some (.ins _ _ _) => True
  | some (.ext _) => True
  | _ => False
section
variable {P : Program} {w : World} {H : Hp} {h h' : Heap} {x e : Addr} {o' : HO}
theorem HOk.write (ok : HOk P w H h) (mu : Mut (H x)) (he : e = x ∨ H e = some (.own x)) (k : ∀ b u, b ≠ e → h.get? b = some u → h'.get? b = some u) (heo : ∃ u, h'.get? e = some u)
    (new : ObjOk P w (upd H x o') h' x o') : HOk P w (upd H x o') h' := fun b u q => by
  have nown : ∀ c y, H c = some (.own y) → c ≠ x := fun c y r z => by subst z; rw [r] at mu; exact mu
  have ntup : ∀ c xs, H c = some (.tup xs) → c ≠ x := fun c xs r z => by subst z; rw [r] at mu; exact mu
  have nfrz : ∀ c oo u, H c = some (.frz oo u) → c ≠ x := fun c oo u r z => by subst z; rw [r] at mu; exact mu
  by_cases hb : b = x
  · subst hb; rw [upd_same] at q; cases q; exact new
  · rw [upd_ne hb] at q
    by_cases hbe : b = e
    · have q' : H b = some (.own x) := by
        rcases he with z | z
        · exact absurd (hbe.trans z) hb
        · rw [hbe]; exact z
      rw [q] at q'; cases q'
      obtain ⟨v, hv⟩ := heo
      exact ⟨v, by rw [hbe]; exact hv⟩
    · refine (ok b u q).stay (fun c v hc r => k c v ?_ r) (fun c r => by rw [upd_ne (nown c b r)]; exact r) (fun c xs r => by rw [upd_ne (ntup c xs r)]; exact r) fun c oo u r => by rw [upd_ne (nfrz c oo u r)]; exact r
      rcases hc with rfl | hc
      · exact hbe
      · rintro rfl
        rcases he with z | z
        · exact nown c b hc z
        · rw [hc] at z; cases z; exact hb rfl
end
structure Un (fs ex : List Addr) (H H' : Hp) (h h' : Heap) : Prop where
  keep : ∀ b o, h.get? b = some o → H b = none → b ∉ fs → b ∉ ex → h'.get? b = some o
  slot : ∀ b o, h.get? b = some o → H b = none → b ∈ fs → b ∉ ex → ∃ sl, h'.get? b = some { o with slots := sl }
  free : ∀ b o, h.get? b = some o → H b = none → b ∉ ex → H' b = none
  there : ∀ b o, h.get? b = some o → b ∉ ex → ∃ o', h'.get? b = some o'
  tups : ∀ b xs, H b = some (.tup xs) → H' b = some (.tup xs)
  frzs : ∀ b o u, H b = some (.frz o u) → H' b = some (.frz o u)
  tbls : ∀ b ps, H b = some (.tbl ps) → H' b = some (.tbl ps)
section
variable {fs fs' ex ex' : List Addr} {H H1 H2 : Hp} {h h1 h2 h' : Heap} {a x e : Addr} {o : HO}
theorem Un.any (u : Un fs ex H H1 h h1) {b : Addr} {ob : Obj} (q : h.get? b = some ob) (n : H b = none) (hx : b ∉ ex) : ∃ sl, h1.get? b = some { ob with slots := sl } := by
  by_cases hb : b ∈ fs
  · exact u.slot b ob q n hb hx
  · exact ⟨ob.slots, u.keep b ob q n hb hx⟩
theorem Un.trans (a : Un fs ex H H1 h h1) (b : Un fs ex H1 H2 h1 h2) : Un fs ex H H2 h h2 where
  keep := fun c ob q n hc hx => b.keep c ob (a.keep c ob q n hc hx) (a.free c ob q n hx) hc hx
  slot := fun c ob q n hc hx => by
    obtain ⟨sl, e1⟩ := a.slot c ob q n hc hx
    obtain ⟨sl', e2⟩ := b.slot c _ e1 (a.free c ob q n hx) hc hx
    exact ⟨sl', e2⟩
  free := fun c ob q n hx => by
    obtain ⟨o', e1⟩ := a.there c ob q hx
    exact b.free c o' e1 (a.free c ob q n hx) hx
  there := fun c ob q hx => by
    obtain ⟨o', e1⟩ := a.there c ob q hx
    exact b.there c o' e1 hx
  tups := fun c xs q => b.tups c xs (a.tups c xs q)
  frzs := fun c ob xs q => b.frzs c ob xs (a.frzs c ob xs q)
  tbls := fun c ps q => b.tbls c ps (a.tbls c ps q)
theorem Un.kept (k : ∀ b u, h.get? b = some u → h'.get? b = some u) : Un fs ex H H h h' :=
  ⟨fun b ob q _ _ _ => k b ob q, fun b ob q _ _ _ => ⟨ob.slots, k b ob q⟩, fun _ _ _ n _ => n, fun b ob q _ => ⟨ob, k b ob q⟩, fun _ _ q => q, fun _ _ _ q => q, fun _ _ q => q⟩
theorem Un.refl : Un fs ex H H h h := Un.kept fun _ _ q => q
theorem Un.laid (k : ∀ b u, h.get? b = some u → h'.get? b = some u) (hp : h.objs.size ≤ a) (hn : H a = none) : Un fs ex H (upd H a o) h h' where
  keep := fun b u q _ _ _ => k b u q
  slot := fun b u q _ _ _ => ⟨u.slots, k b u q⟩
  free := fun b u q n _ => by rw [upd_ne (Nat.ne_of_lt (Nat.lt_of_lt_of_le (Heap.lt_size q) hp))]; exact n
  there := fun b u q _ => ⟨u, k b u q⟩
  tups := fun b xs q => by rw [upd_ne (ne_of_none q hn)]; exact q
  frzs := fun b u xs q => by rw [upd_ne (ne_of_none q hn)]; exact q
  tbls := fun b ps q => by rw [upd_ne (ne_of_none q hn)]; exact q
theorem Un.write (mu : Mut (H x)) (he : e = x ∨ H e = some (.own x)) (k : ∀ b u, b ≠ e → h.get? b = some u → h'.get? b = some u) (heo : ∃ u, h'.get? e = some u) : Un fs ex H (upd H x o) h h' := by
  have hx : ∀ b, H b = none → b ≠ x := fun b n z => by subst z; rw [n] at mu; exact mu
  have hb : ∀ b, H b = none → b ≠ e := fun b n z => by
    subst z
    rcases he with r | r
    · exact hx b n r
    · rw [n] at r; cases r
  have hm : ∀ b u, H b = some u → ¬ Mut (some u) → b ≠ x := fun b u q nm z => by subst z; rw [q] at mu; exact nm mu
  refine ⟨fun b u q n _ _ => k b u (hb b n) q, fun b u q n _ _ => ⟨u.slots, k b u (hb b n) q⟩, fun b u q n _ => by rw [upd_ne (hx b n)]; exact n, fun b u q _ => ?_,
    fun b xs q => by rw [upd_ne (hm b _ q fun z => z)]; exact q, fun b u xs q => by rw [upd_ne (hm b _ q fun z => z)]; exact q, fun b ps q => by rw [upd_ne (hm b _ q fun z => z)]; exact q⟩
  by_cases hbe : b = e
  · subst hbe; exact heo
  · exact ⟨u, k b u hbe q⟩
theorem Un.mono (u : Un fs ex H H1 h h1) (hs : ∀ b ∈ fs, b ∈ fs') (hx : ∀ b ∈ ex, b ∈ ex') : Un fs' ex' H H1 h h1 :=
  ⟨fun b ob q n hb he => u.keep b ob q n (fun z => hb (hs b z)) fun z => he (hx b z), fun _ _ q n _ he => u.any q n fun z => he (hx _ z), fun b ob q n he => u.free b ob q n fun z => he (hx b z), fun b ob q he => u.there b ob q fun z => he (hx b z), u.tups, u.frzs, u.tbls⟩
end
def trk (h : Heap) (H : Hp) : List Addr := (List.range h.objs.size).filter fun a => (H a).isSome
def hidT (h : Heap) (H : Hp) : Heap := PySem.W.hideAll h (trk h H)
theorem hidT_size (h : Heap) (H : Hp) : (hidT h H).objs.size = h.objs.size := PySem.W.hideAll_size _ _
theorem hidT_get {h : Heap} {H : Hp} {b : Addr} {o : Obj} (e : h.get? b = some o) (n : H b = none) : (hidT h H).get? b = some o :=
  PySem.W.hideAll_get _ e fun hm => by
    have q : (H b).isSome = true := (List.mem_filter.mp hm).2
    rw [n] at q; simp at q
theorem of_hidT {h : Heap} {H : Hp} {b : Addr} {o : Obj} (e : (hidT h H).get? b = some o) : h.get? b = some o ∧ H b = none := by
  have e' : h.get? b = some o := PySem.W.of_hideAll (trk h H) e
  refine ⟨e', ?_⟩
  cases q : H b with
  | none => rfl
  | some x =>
    have hm : b ∈ trk h H := List.mem_filter.mpr ⟨List.mem_range.mpr (Heap.lt_size e'), by simp [q]⟩
    have z : (hidT h H).get? b = none := PySem.W.hideAll_none (trk h H) hm
    rw [z] at e; cases e
def allNews (g h : Heap) (L : Addr) : List (Addr × Obj) := (List.range h.objs.size).filterMap fun a => if a = L ∨ (g.get? a).isSome = true then none else (h.get? a).map fun o => (a, o)
def rest (g h : Heap) (L d : Addr) : List (Addr × Obj) := (allNews g h L).filter fun p => decide (p.1 ≠ d)
end L2
namespace L2
open PySem PySem.Spec PyProof.Rows
structure Mod (K : PySem.W.Frag) (mg : Str → Option Value) (base : Heap) : Prop where
  kin : K.In base
  glob : base.Ns mainGlobals mg
  blt : ∃ mb, base.Ns builtinsNs mb ∧ ∀ x : Str, x ≠ "__name__" → mb x = bootBuiltins x
  nolimit : base.NoLimit
structure Cx where
  prog : Program
  w : World
  K : PySem.W.Frag
  mg : Str → Option Value
  base : Heap
  A : Around
  N : List Str
  s₀ : Shared
  H₀ : Hp
  env : Env
  outer : List Env
  stack : List Env
  ex : List Addr
  fn : Str → Bool
  calm : Bool
  pn : List (Addr × Obj)
  xe : Value → Shared → Prop
def frs (l : List Env) : List Addr := l.filterMap (·.frame)
abbrev Cx.fs (X : Cx) : List Addr := frs X.outer
def Vis (sc : Scope) (x : Str) : Prop := sc.names.lookup x = some .local ∨ sc.names.lookup x = some .cell ∨ sc.names.lookup x = some .free
def Loc (sc : Scope) (x : Str) : Prop := sc.names.lookup x = some .local ∨ sc.names.lookup x = some .cell
def Look (env : Env) (h : Heap) (m : Str → Option Value) (x : Str) (u : Value) : Prop :=
  (env.kindOf x = some .local ∧ m x = some u) ∨ ((env.kindOf x = some .cell ∨ env.kindOf x = some .free) ∧ ∃ c, env.cells.lookup x = some c ∧ h.IsCell c (some u))
def lamDefs : List Str := []
def TabsOk (K : PySem.W.Frag) (H : Hp) : Prop := ∀ x ∈ lamDefs, ∀ c b, PySem.W.tabIn K x = some (c, b) → ∃ t, H b = some (.tbl #[.str (x ++ ".<locals>.<lambda>") t])
structure Cx.Ok (X : Cx) : Prop where
  mod : Mod X.K X.mg X.base
  kind : X.env.scope.kind = .function
  glob : X.env.globals = mainGlobals
  blt : X.env.builtins = builtinsNs
  above : X.s₀.heap.objs.size ≤ X.env.locals
  inj : ∀ x y c, X.env.cells.lookup x = some c → X.env.cells.lookup y = some c → x = y
  has : ∀ x, (X.env.kindOf x = some .cell ∨ X.env.kindOf x = some .free) → ∃ c, X.env.cells.lookup x = some c
  cab : ∀ x c, X.fn x = true → X.env.cells.lookup x = some c → X.s₀.heap.objs.size ≤ c
  hd : X.calm = true → X.A.handled = none
  frames : X.A.frames = some X.stack
  stk : X.stack = X.outer ∨ (X.stack = X.env :: X.outer ∧ X.env.frame = some X.env.locals)
  exf : ∀ b ∈ X.ex, b ≠ X.env.locals ∧ ∀ x c, X.env.cells.lookup x = some c → c ≠ b
  bs : ∀ b o, X.base.get? b = some o → X.s₀.heap.get? b = some o ∧ X.H₀ b = none
  bsz : X.base.objs.size ≤ X.s₀.heap.objs.size
  noex : ∀ b o, X.base.get? b = some o → b ∉ X.ex
  exfs : ∀ b ∈ X.ex, b ∉ X.fs
  funs : X.s₀.heap.FunFrames X.base X.outer
  frf : ∀ b ∈ X.fs, X.H₀ b = none
  tb : TabsOk X.K X.H₀
structure Inv (X : Cx) (pins : List (Addr × Obj)) (σ : List (Option V)) (H : Hp) (s : Shared) : Prop where
  ok : X.Ok
  os : s.os = X.s₀.os
  bare : AllBare s.gens
  base : Un X.fs X.ex X.H₀ H X.s₀.heap s.heap
  loc : ∃ m, s.heap.Ns X.env.locals m ∧ ∀ (i : Nat) (x : Str) (v : V), X.N[i]? = some x → σ[i]? = some (some v) → Vis X.env.scope x → ∃ u, RelV v u ∧ Look X.env s.heap m x u
  cell : ∀ x c, X.env.cells.lookup x = some c → ∃ v, s.heap.IsCell c v
  free : H X.env.locals = none
  freeC : ∀ x c, X.env.cells.lookup x = some c → H c = none
  pin : ∀ p ∈ X.pn ++ pins, s.heap.get? p.1 = some p.2 ∧ H p.1 = none ∧ p.1 ≠ X.env.locals ∧ p.1 ∉ X.fs ∧ ∀ v, p.2.data ≠ .cell v
  hok : HOk X.prog X.w H s.heap
  len : σ.length = X.N.length
section
variable {X : Cx} {pins : List (Addr × Obj)} {σ : List (Option V)} {H H' : Hp} {s : Shared} {h' : Heap}
theorem Cx.Ok.nofr (ok : X.Ok) {b : Addr} {o : Obj} (e : X.base.get? b = some o) : b ∉ X.fs := fun hb => by
  have := (ok.funs.mem hb).1
  rw [e] at this; cases this
theorem Inv.bs (I : Inv X pins σ H s) : ∀ b o, X.base.get? b = some o → s.heap.get? b = some o ∧ H b = none := fun b o e =>
  ⟨I.base.keep b o (I.ok.bs b o e).1 (I.ok.bs b o e).2 (I.ok.nofr e) (I.ok.noex b o e), I.base.free b o (I.ok.bs b o e).1 (I.ok.bs b o e).2 (I.ok.noex b o e)⟩
theorem Inv.bk (I : Inv X pins σ H s) : ∀ b o, X.base.get? b = some o → s.heap.get? b = some o := fun b o e => (I.bs b o e).1
theorem Inv.mod (I : Inv X pins σ H s) : Mod X.K X.mg X.base := I.ok.mod
theorem Inv.tabs (I : Inv X pins σ H s) : TabsOk X.K H := fun x hx c b e => by
  obtain ⟨t, q⟩ := I.ok.tb x hx c b e
  exact ⟨t, I.base.tbls b _ q⟩
theorem Inv.kIn (I : Inv X pins σ H s) : X.K.In s.heap := I.ok.mod.kin.keeps I.bk
theorem Inv.nolimit (I : Inv X pins σ H s) : s.heap.NoLimit := I.ok.mod.nolimit.keeps I.bk
theorem Inv.fr (I : Inv X pins σ H s) : ∃ m, Fr X.base X.env.locals s.heap m :=
  let ⟨m, hn, _⟩ := I.loc
  ⟨m, hn, I.bk, Nat.le_trans I.ok.bsz I.ok.above⟩
theorem Inv.lt (I : Inv X pins σ H s) : X.env.locals < s.heap.objs.size := let ⟨_, hn, _⟩ := I.loc; hn.lt
theorem Inv.sz (I : Inv X pins σ H s) : X.s₀.heap.objs.size ≤ s.heap.objs.size := Nat.le_trans I.ok.above (Nat.le_of_lt I.lt)
theorem Inv.nofs (I : Inv X pins σ H s) {a : Addr} (h : s.heap.objs.size ≤ a) : a ∉ X.fs := fun hb => by
  obtain ⟨_, o, ho, _⟩ := I.ok.funs.mem hb
  exact absurd (Nat.lt_of_lt_of_le (Heap.lt_size ho) (Nat.le_trans I.sz h)) (Nat.lt_irrefl _)
theorem Inv.cne (I : Inv X pins σ H s) : ∀ x c, X.env.cells.lookup x = some c → c ≠ X.env.locals := fun x c e z => by
  obtain ⟨v, o, ho, hd⟩ := I.cell x c e
  obtain ⟨m, ⟨o', es, ep, ho', hd', _⟩, _⟩ := I.loc
  rw [z, ho'] at ho; cases ho; rw [hd'] at hd; cases hd
theorem Inv.funs (I : Inv X pins σ H s) : s.heap.FunFrames X.base X.outer := by
  have all : ∀ (l : List Env), (∀ b ∈ frs l, b ∈ X.fs) → X.s₀.heap.FunFrames X.base l → s.heap.FunFrames X.base l := by
    intro l
    induction l with
    | nil => intro _ _; trivial
    | cons env r ih =>
      intro hs hl
      obtain ⟨hk, ⟨L, o, hf, hn, ho, hd⟩, hr⟩ := hl
      have hL : L ∈ X.fs := hs L (by unfold frs; rw [List.filterMap_cons, hf]; exact List.mem_cons_self)
      obtain ⟨sl, e⟩ := I.base.slot L o ho (I.ok.frf L hL) hL fun z => I.ok.exfs L z hL
      exact ⟨hk, ⟨L, _, hf, hn, e, hd⟩, ih (fun b hb => hs b (by unfold frs; rw [List.filterMap_cons, hf]; exact List.mem_cons_of_mem _ hb)) hr⟩
  exact all X.outer (fun _ hb => hb) I.ok.funs
theorem Inv.stack (I : Inv X pins σ H s) : s.heap.FunFrames X.base X.stack := by
  rcases I.ok.stk with e | ⟨e, hf⟩
  · rw [e]; exact I.funs
  · rw [e]
    obtain ⟨m, hn, _⟩ := I.loc
    refine .cons (by rw [I.ok.kind]; decide) hf hn ?_ I.funs
    exact Heap.get?_none_of_le (Nat.le_trans I.ok.bsz I.ok.above)
theorem Inv.stkSub (I : Inv X pins σ H s) : ∀ b ∈ frs X.stack, b ∈ X.env.locals :: X.fs := fun b hb => by
  rcases I.ok.stk with e | ⟨e, hf⟩
  · rw [e] at hb; exact List.mem_cons_of_mem _ hb
  · rw [e] at hb
    unfold frs at hb
    rw [List.filterMap_cons, hf] at hb
    exact hb
theorem Inv.stkFree (I : Inv X pins σ H s) : ∀ b ∈ frs X.stack, H b = none := fun b hb => by
  rcases List.mem_cons.mp (I.stkSub b hb) with e | hb
  · rw [e]; exact I.free
  · obtain ⟨_, o, ho, _⟩ := I.ok.funs.mem hb
    exact I.base.free b o ho (I.ok.frf b hb) fun z => I.ok.exfs b z hb
theorem Inv.step {g' : Array GenState} {t' : Nat} {d' : Drawn} {ch : List Addr} (I : Inv X pins σ H s)
    (hch : ∀ b ∈ ch, (b ∈ X.ex ∨ X.s₀.heap.objs.size ≤ b) ∧ b ≠ X.env.locals ∧ (∀ x c, X.env.cells.lookup x = some c → c ≠ b) ∧ ∀ p ∈ X.pn ++ pins, p.1 ≠ b)
    (keep : ∀ b o, b ≠ X.env.locals → b ∉ X.fs → b ∉ ch → s.heap.get? b = some o → H b = none → h'.get? b = some o)
    (slot : ∀ b o, b ≠ X.env.locals → b ∈ X.fs → b ∉ ch → s.heap.get? b = some o → H b = none → ∃ sl, h'.get? b = some { o with slots := sl }) (free : ∀ b o, b ∉ ch → s.heap.get? b = some o → H b = none → H' b = none)
    (there : ∀ b o, b ∉ ch → s.heap.get? b = some o → ∃ o', h'.get? b = some o')
    (tups : ∀ b xs, H b = some (.tup xs) → H' b = some (.tup xs)) (frzs : ∀ b o u, H b = some (.frz o u) → H' b = some (.frz o u)) (tbls : ∀ b ps, H b = some (.tbl ps) → H' b = some (.tbl ps))
    (ns : ∀ m, s.heap.Ns X.env.locals m → h'.Ns X.env.locals m) (hok : HOk X.prog X.w H' h') (hg : AllBare g') :
    Inv X pins σ H' { s with heap := h', gens := g', drawn := d', toks := t' } := by
  have neL : ∀ b o, X.s₀.heap.get? b = some o → b ≠ X.env.locals := fun b o e => Nat.ne_of_lt (Nat.lt_of_lt_of_le (Heap.lt_size e) I.ok.above)
  have neC : ∀ b o, X.s₀.heap.get? b = some o → b ∉ X.ex → b ∉ ch := fun b o e hx hb => by
    rcases (hch b hb).1 with z | z
    · exact hx z
    · exact absurd (Nat.lt_of_lt_of_le (Heap.lt_size e) z) (Nat.lt_irrefl _)
  have cellK : ∀ x c, X.env.cells.lookup x = some c → ∀ v, s.heap.IsCell c v → h'.IsCell c v := fun x c e v ⟨o, ho, hd⟩ => by
    have nch : c ∉ ch := fun z => (hch c z).2.2.1 x c e rfl
    by_cases hc : c ∈ X.fs
    · obtain ⟨sl, q⟩ := slot c o (I.cne x c e) hc nch ho (I.freeC x c e)
      exact ⟨_, q, hd⟩
    · exact ⟨o, keep c o (I.cne x c e) hc nch ho (I.freeC x c e), hd⟩
  refine ⟨I.ok, I.os, hg, ⟨fun b o e n hb hx => ?_, fun b o e n hb hx => ?_, fun b o e n hx => ?_, fun b o e hx => ?_, fun b xs e => tups b xs (I.base.tups b xs e), fun b o xs e => frzs b o xs (I.base.frzs b o xs e), fun b ps e => ?_⟩, ?_, fun x c e => ?_, ?_, fun x c e => ?_, fun p hp => ?_, hok, I.len⟩
  · exact keep b o (neL b o e) hb (neC b o e hx) (I.base.keep b o e n hb hx) (I.base.free b o e n hx)
  · obtain ⟨sl, e1⟩ := I.base.slot b o e n hb hx
    obtain ⟨sl', e2⟩ := slot b _ (neL b o e) hb (neC b o e hx) e1 (I.base.free b o e n hx)
    exact ⟨sl', e2⟩
  · obtain ⟨o', e1⟩ := I.base.there b o e hx
    exact free b o' (neC b o e hx) e1 (I.base.free b o e n hx)
  · obtain ⟨o', e1⟩ := I.base.there b o e hx
    exact there b o' (neC b o e hx) e1
  · exact tbls b _ (I.base.tbls b ps e)
  · obtain ⟨m, hn, hl⟩ := I.loc
    refine ⟨m, ns m hn, fun i x v e1 e2 e3 => ?_⟩
    obtain ⟨u, r, l⟩ := hl i x v e1 e2 e3
    refine ⟨u, r, ?_⟩
    rcases l with l | ⟨k, c, e, z⟩
    · exact .inl l
    · exact .inr ⟨k, c, e, cellK x c e _ z⟩
  · obtain ⟨v, z⟩ := I.cell x c e
    exact ⟨v, cellK x c e v z⟩
  · obtain ⟨m, ⟨o, _, _, ho, _⟩, _⟩ := I.loc
    exact free _ o (fun z => (hch _ z).2.1 rfl) ho I.free
  · obtain ⟨v, o, ho, hd⟩ := I.cell x c e
    exact free c o (fun z => (hch c z).2.2.1 x c e rfl) ho (I.freeC x c e)
  · obtain ⟨e, n, ne, nf, d⟩ := I.pin p hp
    have nch : p.1 ∉ ch := fun z => (hch p.1 z).2.2.2 p hp rfl
    exact ⟨keep p.1 p.2 ne nf nch e n, free p.1 p.2 nch e n, ne, nf, d⟩
theorem Inv.un {t' : Nat} (I : Inv X pins σ H s) (u : Un X.fs [] H H' s.heap h') (hok : HOk X.prog X.w H' h') : Inv X pins σ H' { s with heap := h', toks := t' } := by
  obtain ⟨m, ⟨o, es, ep, ho, r⟩, _⟩ := id I.loc
  obtain ⟨sl, hL⟩ := u.any ho I.free (by simp)
  exact I.step (g' := s.gens) (d' := s.drawn) (ch := []) (fun _ z => nomatch z) (fun b o _ hb _ e n => u.keep b o e n hb (by simp)) (fun b o _ hb _ e n => u.slot b o e n hb (by simp)) (fun b o _ e n => u.free b o e n (by simp)) (fun b o _ e => u.there b o e (by simp)) u.tups u.frzs u.tbls (fun m' hm => by
    obtain ⟨o', es', ep', ho', r'⟩ := hm
    rw [ho] at ho'; cases ho'
    exact ⟨_, es', ep', hL, r'⟩) hok I.bare
theorem Inv.call {g' : Array GenState} {t' : Nat} {d' : Drawn} {ch : List Addr} (I : Inv X pins σ H s) (u : Un (frs X.stack) ch H H' s.heap h') (hok : HOk X.prog X.w H' h') (hg : AllBare g')
    (hch : ∀ b ∈ ch, (b ∈ X.ex ∨ X.s₀.heap.objs.size ≤ b) ∧ b ≠ X.env.locals ∧ (∀ x c, X.env.cells.lookup x = some c → c ≠ b) ∧ ∀ p ∈ X.pn ++ pins, p.1 ≠ b) :
    Inv X pins σ H' { s with heap := h', gens := g', drawn := d', toks := t' } := by
  obtain ⟨m, ⟨o, es, ep, ho, r⟩, _⟩ := id I.loc
  obtain ⟨sl, hL⟩ := u.any ho I.free fun z => (hch _ z).2.1 rfl
  exact I.step (ch := ch) hch (fun b o hL hb hc e n => u.keep b o e n (fun z => (List.mem_cons.mp (I.stkSub b z)).elim hL hb) hc) (fun b o _ _ hc e n => u.any e n hc) (fun b o hc e n => u.free b o e n hc) (fun b o hc e => u.there b o e hc) u.tups u.frzs u.tbls (fun m' hm => by
    obtain ⟨o', es', ep', ho', r'⟩ := hm
    rw [ho] at ho'; cases ho'
    exact ⟨_, es', ep', hL, r'⟩) hok hg
theorem Inv.turned {t' : Nat} {it : Addr} (I : Inv X pins σ H s) (k : ∀ b o, b ≠ it → s.heap.get? b = some o → h'.get? b = some o) (hn : H it = none) (hL : it ≠ X.env.locals)
    (h1 : it ∈ X.ex ∨ X.s₀.heap.objs.size ≤ it) (h2 : ∀ x c, X.env.cells.lookup x = some c → c ≠ it) (h3 : ∀ p ∈ X.pn ++ pins, p.1 ≠ it) : Inv X pins σ H { s with heap := h', toks := t' } := by
  have nit : ∀ b u, H b = some u → b ≠ it := fun b u e z => by rw [z, hn] at e; cases e
  refine I.step (g' := s.gens) (d' := s.drawn) (ch := [it]) (fun b hb => ?_) (fun b o _ _ hc e _ => k b o (fun z => hc (by simp [z])) e) (fun b o _ _ hc e _ => ⟨o.slots, k b o (fun z => hc (by simp [z])) e⟩) (fun _ _ _ _ n => n)
    (fun b o hc e => ⟨o, k b o (fun z => hc (by simp [z])) e⟩) (fun _ _ e => e) (fun _ _ _ e => e) (fun _ _ e => e) (fun m hm => ?_) (fun b u e => ?_) I.bare
  · have e : b = it := by simpa using hb
    subst e
    exact ⟨h1, hL, h2, h3⟩
  · obtain ⟨o, es, ep, ho, r⟩ := hm
    exact ⟨o, es, ep, k _ o (Ne.symm hL) ho, r⟩
  · refine (I.hok b u e).stay (fun c v hc q => k c v ?_ q) (fun _ q => q) (fun _ _ q => q) fun _ _ _ q => q
    rcases hc with z | z
    · rw [z]; exact nit b u e
    · exact nit c _ z
theorem Inv.tok (I : Inv X pins σ H s) (t : Nat) : Inv X pins σ H { s with toks := t } := I.un (h' := s.heap) (t' := t) Un.refl I.hok
theorem Inv.kept {t' : Nat} (I : Inv X pins σ H s) (k : ∀ b u, s.heap.get? b = some u → h'.get? b = some u) : Inv X pins σ H { s with heap := h', toks := t' } := I.un (Un.kept k) (I.hok.kept k)
theorem Inv.laid {a : Addr} {o : HO} {t' : Nat} (I : Inv X pins σ H s) (k : ∀ b u, s.heap.get? b = some u → h'.get? b = some u) (hp : s.heap.objs.size ≤ a) (new : ObjOk X.prog X.w (upd H a o) h' a o) :
    Inv X pins σ (upd H a o) { s with heap := h', toks := t' } := I.un (Un.laid k hp (I.hok.fresh hp)) (I.hok.laid k hp new)
theorem Inv.write {x e : Addr} {o : HO} {t' : Nat} (I : Inv X pins σ H s) (mu : Mut (H x)) (he : e = x ∨ H e = some (.own x)) (k : ∀ b u, b ≠ e → s.heap.get? b = some u → h'.get? b = some u) (heo : ∃ u, h'.get? e = some u)
    (new : ObjOk X.prog X.w (upd H x o) h' x o) : Inv X pins σ (upd H x o) { s with heap := h', toks := t' } := I.un (Un.write mu he k heo) (I.hok.write mu he k heo new)
theorem Inv.weak {σ' : List (Option V)} (I : Inv X pins σ H s) (hl : σ'.length = σ.length) (w : ∀ (i : Nat) v, σ'[i]? = some (some v) → σ[i]? = some (some v)) : Inv X pins σ' H s :=
  ⟨I.ok, I.os, I.bare, I.base, let ⟨m, hn, hl'⟩ := I.loc; ⟨m, hn, fun i x v e1 e2 e3 => hl' i x v e1 (w i v e2) e3⟩, I.cell, I.free, I.freeC, I.pin, I.hok, hl.trans I.len⟩
theorem Inv.pins_of {pins' : List (Addr × Obj)} (I : Inv X pins σ H s) (h : ∀ p ∈ pins', s.heap.get? p.1 = some p.2 ∧ H p.1 = none ∧ p.1 ≠ X.env.locals ∧ p.1 ∉ X.fs ∧ ∀ v, p.2.data ≠ .cell v) : Inv X pins' σ H s :=
  ⟨I.ok, I.os, I.bare, I.base, I.loc, I.cell, I.free, I.freeC, fun p hp => (List.mem_append.mp hp).elim (fun z => I.pin p (List.mem_append_left _ z)) (h p), I.hok, I.len⟩
theorem nodup_ix {N : List Str} (hN : N.Nodup) {i j : Nat} {x : Str} (a : N[i]? = some x) (b : N[j]? = some x) : i = j := by
  obtain ⟨h1, e1⟩ := List.getElem?_eq_some_iff.mp a
  obtain ⟨h2, e2⟩ := List.getElem?_eq_some_iff.mp b
  exact (List.getElem_inj hN).mp (e1.trans e2.symm)
theorem store_ok2 {M : Model} {A : Around} {E : Value → Shared → Prop} {i : Nat} {x : Str} {v : V} {u : Value} {Q : Unit → Shared → Prop} (I : Inv X pins σ H s) (hN : X.N.Nodup) (hi : X.N[i]? = some x) (hx : Loc X.env.scope x) (r : RelV v u)
    (h : ∀ s', Inv X pins (σ.set i (some v)) H s' → (∃ a, Heap.SameBut a s.heap s'.heap ∧ (a = X.env.locals ∨ X.env.cells.lookup x = some a)) → Q () s') (hf : X.fn x = true ∨ X.env.scope.names.lookup x = some .local := by first | exact .inl rfl | exact .inr rfl | assumption) : wpAny M A (storeName X.env x u) Q E s := by
  obtain ⟨m, hn, hl⟩ := id I.loc
  have hcls : (X.env.scope.kind == .class || (X.env.scope.kind == .module && X.env.locals != X.env.globals)) = false := by rw [I.ok.kind]; rfl
  have hiσ : i < σ.length := by rw [I.len]; exact (List.getElem?_eq_some_iff.mp hi).1
  have cne := I.cne
  have tracked : ∀ {a : Addr} {h' : Heap}, (∃ o, s.heap.get? a = some o ∧ H a = none) → Heap.SameBut a s.heap h' → HOk X.prog X.w H h' := fun {a h'} ha hs b ob e => by
    obtain ⟨_, _, hfree⟩ := ha
    refine (I.hok b ob e).stay (fun c w' hc q => (hs.2 c ?_).trans q) (fun _ q => q) (fun _ _ q => q) fun _ _ _ q => q
    rintro rfl
    rcases hc with rfl | hc
    · rw [hfree] at e; cases e
    · rw [hfree] at hc; cases hc
  rcases hx with hk | hk
  · refine wpAny_storeName_local hk hn (fun h' hn' hs => ?_) hcls
    obtain ⟨oL, _, _, hoL, _⟩ := id hn
    refine h _ ⟨I.ok, I.os, I.bare, ⟨fun b o e n hb hx => ?_, fun b o e n hb hx => ?_, I.base.free, fun b o e hx => ?_, I.base.tups, I.base.frzs, I.base.tbls⟩, ⟨_, hn', fun j y v' e1 e2 e3 => ?_⟩, fun y c e => ?_, I.free, I.freeC, fun p hp => ?_, tracked ⟨oL, hoL, I.free⟩ hs, by simpa using I.len⟩ ⟨_, hs, .inl rfl⟩
    · exact (hs.2 b (Nat.ne_of_lt (Nat.lt_of_lt_of_le (Heap.lt_size e) I.ok.above))).trans (I.base.keep b o e n hb hx)
    · obtain ⟨sl, e1⟩ := I.base.slot b o e n hb hx
      exact ⟨sl, (hs.2 b (Nat.ne_of_lt (Nat.lt_of_lt_of_le (Heap.lt_size e) I.ok.above))).trans e1⟩
    · obtain ⟨o', e1⟩ := I.base.there b o e hx
      exact ⟨o', (hs.2 b (Nat.ne_of_lt (Nat.lt_of_lt_of_le (Heap.lt_size e) I.ok.above))).trans e1⟩
    · by_cases hj : j = i
      · subst hj
        rw [hi] at e1; cases e1
        rw [List.getElem?_set_self hiσ] at e2
        cases e2
        exact ⟨u, r, .inl ⟨hk, by simp⟩⟩
      · rw [List.getElem?_set_ne (Ne.symm hj)] at e2
        obtain ⟨u', r', q⟩ := hl j y v' e1 e2 e3
        refine ⟨u', r', ?_⟩
        rcases q with ⟨k, e⟩ | ⟨k, c, e, z⟩
        · refine .inl ⟨k, ?_⟩
          have : y ≠ x := fun e => hj (nodup_ix hN e1 (e ▸ hi))
          simp [this, e]
        · exact .inr ⟨k, c, e, z.sameBut hs (cne y c e)⟩
    · obtain ⟨w', z⟩ := I.cell y c e
      exact ⟨w', z.sameBut hs (cne y c e)⟩
    · obtain ⟨e, n, ne, nf, d⟩ := I.pin p hp
      exact ⟨(hs.2 p.1 ne).trans e, n, ne, nf, d⟩
  · have hfn : X.fn x = true := by
      rcases hf with z | z
      · exact z
      · rw [z] at hk; cases hk
    obtain ⟨c, hc⟩ := I.ok.has x (.inl hk)
    obtain ⟨w', z⟩ := I.cell x c hc
    refine wpAny_storeName_cell I.ok.kind hk hc z (fun h' hc' hs => ?_)
    obtain ⟨oc, hoc, hocd⟩ := id z
    refine h { s with heap := h' } ⟨I.ok, I.os, I.bare, ⟨fun b o e n hb hx => ?_, fun b o e n hb hx => ?_, I.base.free, fun b o e hx => ?_, I.base.tups, I.base.frzs, I.base.tbls⟩, ⟨m, hn.sameBut hs (Ne.symm (cne x c hc)), fun j y v' e1 e2 e3 => ?_⟩, fun y c' e => ?_, I.free, I.freeC, fun p hp => ?_, tracked ⟨oc, hoc, I.freeC x c hc⟩ hs, by simpa using I.len⟩ ⟨c, hs, .inr hc⟩
    · exact (hs.2 b (Nat.ne_of_lt (Nat.lt_of_lt_of_le (Heap.lt_size e) (I.ok.cab x c hfn hc)))).trans (I.base.keep b o e n hb hx)
    · obtain ⟨sl, e1⟩ := I.base.slot b o e n hb hx
      exact ⟨sl, (hs.2 b (Nat.ne_of_lt (Nat.lt_of_lt_of_le (Heap.lt_size e) (I.ok.cab x c hfn hc)))).trans e1⟩
    · obtain ⟨o', e1⟩ := I.base.there b o e hx
      exact ⟨o', (hs.2 b (Nat.ne_of_lt (Nat.lt_of_lt_of_le (Heap.lt_size e) (I.ok.cab x c hfn hc)))).trans e1⟩
    · by_cases hj : j = i
      · subst hj
        rw [hi] at e1; cases e1
        rw [List.getElem?_set_self hiσ] at e2
        cases e2
        exact ⟨u, r, .inr ⟨.inl hk, c, hc, hc'⟩⟩
      · rw [List.getElem?_set_ne (Ne.symm hj)] at e2
        obtain ⟨u', r', q⟩ := hl j y v' e1 e2 e3
        refine ⟨u', r', ?_⟩
        rcases q with q | ⟨k, c', e, z'⟩
        · exact .inl q
        · refine .inr ⟨k, c', e, z'.sameBut hs ?_⟩
          rintro rfl
          exact hj (nodup_ix hN e1 (I.ok.inj _ _ _ e hc ▸ hi))
    · by_cases hcc : c' = c
      · subst hcc; exact ⟨_, hc'⟩
      · obtain ⟨w2, z2⟩ := I.cell y c' e
        exact ⟨w2, z2.sameBut hs hcc⟩
    · obtain ⟨e, n, ne, nf, d⟩ := I.pin p hp
      refine ⟨(hs.2 p.1 ?_).trans e, n, ne, nf, d⟩
      intro q
      rw [q, hoc] at e
      have q' : oc = p.2 := Option.some.inj e
      exact d w' (by rw [← q']; exact hocd)
theorem store_ok {M : Model} {A : Around} {E : Value → Shared → Prop} {i : Nat} {x : Str} {v : V} {u : Value} {Q : Unit → Shared → Prop} (I : Inv X pins σ H s) (hN : X.N.Nodup) (hi : X.N[i]? = some x) (hx : Loc X.env.scope x) (r : RelV v u)
    (h : ∀ s', Inv X pins (σ.set i (some v)) H s' → Q () s') (hf : X.fn x = true ∨ X.env.scope.names.lookup x = some .local := by first | exact .inl rfl | exact .inr rfl | assumption) : wpAny M A (storeName X.env x u) Q E s :=
  store_ok2 I hN hi hx r (fun s' I' _ => h s' I') hf
theorem Inv.call' {s' : Shared} {ch : List Addr} (I : Inv X pins σ H s) (ho : s'.os = s.os) (u : Un (frs X.stack) ch H H' s.heap s'.heap) (hok : HOk X.prog X.w H' s'.heap) (hg : AllBare s'.gens)
    (hch : ∀ b ∈ ch, (b ∈ X.ex ∨ X.s₀.heap.objs.size ≤ b) ∧ b ≠ X.env.locals ∧ (∀ x c, X.env.cells.lookup x = some c → c ≠ b) ∧ ∀ p ∈ X.pn ++ pins, p.1 ≠ b) : Inv X pins σ H' s' := by
  obtain ⟨h', g', d', t', o'⟩ := s'
  have e : o' = s.os := ho
  subst e
  exact I.call (g' := g') (t' := t') (d' := d') u hok hg hch
end
abbrev XK := Value → Option Addr → Hp → Prop
abbrev St := List (Option V)
abbrev VK := V → Hp → Prop
abbrev TE := St → Hp → VK → Prop
abbrev TT := St → Hp → (Bool → Hp → Prop) → Prop
abbrev TA := St → Hp → (List V → Hp → Prop) → Prop
structure Ends where
  nx : St → Hp → Prop
  rt : VK
  bk : St → Hp → Prop := fun _ _ => False
  ct : St → Hp → Prop := fun _ _ => False
abbrev TS := Ends → St → Hp → Prop
def EP (X : Cx) (pins : List (Addr × Obj)) (σ : St) (Q : VK) (u : Value) (s' : Shared) : Prop := ∃ v H', Inv X pins σ H' s' ∧ RelV v u ∧ Q v H'
def TP (X : Cx) (pins : List (Addr × Obj)) (σ : St) (Q : Bool → Hp → Prop) (b : Bool) (s' : Shared) : Prop := ∃ H', Inv X pins σ H' s' ∧ Q b H'
def AP (X : Cx) (pins : List (Addr × Obj)) (σ : St) (Q : List V → Hp → Prop) (us : List Value) (s' : Shared) : Prop := ∃ vs H', Inv X pins σ H' s' ∧ Vals vs us ∧ Q vs H'
def SP (X : Cx) (pins : List (Addr × Obj)) (D : Ends) (f : Flow) (s' : Shared) : Prop :=
  match f with
  | .next => ∃ σ' H', Inv X pins σ' H' s' ∧ D.nx σ' H'
  | .brk => ∃ σ' H', Inv X pins σ' H' s' ∧ D.bk σ' H'
  | .cont => ∃ σ' H', Inv X pins σ' H' s' ∧ D.ct σ' H'
  | .ret u => ∃ v σ' H', Inv X pins σ' H' s' ∧ RelV v u ∧ D.rt v H'
def PE (X : Cx) (e : Expr) (t : TE) : Prop :=
  ∀ (pins : List (Addr × Obj)) (s : Shared) (σ : St) (H : Hp) (Q : VK), Inv X pins σ H s → t σ H Q → wpAny (model X.prog X.w) X.A (eval e X.env) (EP X pins σ Q) X.xe s
def PT (X : Cx) (e : Expr) (t : TT) : Prop :=
  ∀ (pins : List (Addr × Obj)) (s : Shared) (σ : St) (H : Hp) (Q : Bool → Hp → Prop), Inv X pins σ H s → t σ H Q → wpAny (model X.prog X.w) X.A (isTrue e X.env (eval e X.env)) (TP X pins σ Q) X.xe s
def PW (X : Cx) (e : Expr) (t : TT) : Prop :=
  ∀ (whole : Sem Value) (pins : List (Addr × Obj)) (s : Shared) (σ : St) (H : Hp) (Q : Bool → Hp → Prop), Inv X pins σ H s → t σ H Q → wpAny (model X.prog X.w) X.A (isTrue e X.env whole) (TP X pins σ Q) X.xe s
theorem PW.pt {X : Cx} {e : Expr} {t : TT} (h : PW X e t) : PT X e t := h _
def PA (X : Cx) (es : List Expr) (t : TA) : Prop :=
  ∀ (pos : Pos) (pins : List (Addr × Obj)) (s : Shared) (σ : St) (H : Hp) (Q : List V → Hp → Prop), Inv X pins σ H s → t σ H Q → wpAny (model X.prog X.w) X.A (spliced (backTo pos (starEach es X.env))) (AP X pins σ Q) X.xe s
def PS (X : Cx) (st : Stmt) (t : TS) : Prop :=
  ∀ (pins : List (Addr × Obj)) (s : Shared) (σ : St) (H : Hp) (D : Ends), Inv X pins σ H s → t D σ H → wpAny (model X.prog X.w) X.A (exec st X.env) (SP X pins D) X.xe s
def PSs (X : Cx) (st : List Stmt) (t : TS) : Prop :=
  ∀ (pins : List (Addr × Obj)) (s : Shared) (σ : St) (H : Hp) (D : Ends), Inv X pins σ H s → t D σ H → wpAny (model X.prog X.w) X.A (execs st X.env) (SP X pins D) X.xe s
theorem thn {α : Type} {t : Sem α} {Q Q' : α → Shared → Prop} {M : Model} {A : Around} {E : Value → Shared → Prop} {s : Shared} (h : wpAny M A t Q E s) (hQ : ∀ a s, Q a s → Q' a s) : wpAny M A t Q' E s := wpAny_mono h hQ fun _ _ x => x
end L2
namespace L2
open PySem PySem.Spec PyProof.Rows
section
variable {X : Cx}
def tVar (i : Nat) : TE := fun σ H Q => ∃ v, σ[i]? = some (some v) ∧ Q v H
def tC (v : V) : TE := fun _ H Q => Q v H
theorem pe_var {i : Nat} {x : Str} {pos : Pos} (hN : X.N[i]? = some x) (hv : Vis X.env.scope x) (hd : (x == ("__debug__" : Str)) = false := by decide) (hcd : (x == ("__classdict__" : Str)) = false := by decide) : PE X (.Name x pos) (tVar i) := by
  intro pins s σ H Q I h
  obtain ⟨v, e, h⟩ := h
  obtain ⟨m, hn, hl⟩ := I.loc
  obtain ⟨u, r, l⟩ := hl i x v hN e hv
  have fin : EP X pins σ Q u s := ⟨v, H, I, r, h⟩
  rcases l with ⟨hk, hm⟩ | ⟨hk, c, hc, hcell⟩
  · exact wpAny_Name (wpAny_loadName_local I.ok.kind hk hn hm fin) hd
  · rcases hk with hk | hk
    · exact wpAny_Name (wpAny_loadName_cell I.ok.kind hk hc hcell fin) hd
    · exact wpAny_Name (wpAny_loadName_free I.ok.kind hk hc hcell fin hcd) hd
theorem pe_int {i j pos} : PE X (.Constant (.int i) j pos) (tC (.int i)) := fun _ _ _ H _ I h => wpAny_Constant_int ⟨.int i, H, I.tok _, ⟨_, rfl⟩, h⟩
theorem pe_bl {b j pos} : PE X (.Constant (.bool b) j pos) (tC (.bl b)) := fun _ _ _ H _ I h => Constant_bool ⟨.bl b, H, I, rfl, h⟩
def Gl (X : Cx) (x : Str) : Prop := X.env.kindOf x = some .globalImplicit
theorem ld_glob {E : Value → Shared → Prop} {pins : List (Addr × Obj)} {s : Shared} {σ : St} {H : Hp} {x : Str} {u : Value} {pos : Pos} {Q : Value → Shared → Prop} (I : Inv X pins σ H s) (hg : Gl X x) (hm : X.mg x = some u) (h : Q u s)
    (hd : (x == ("__debug__" : Str)) = false := by decide) : wpAny (model X.prog X.w) X.A (eval (.Name x pos) X.env) Q E s :=
  Calls.Name_function_global I.ok.kind hg (Calls.loadGlobal_global (by rw [I.ok.glob]; exact I.mod.glob.keeps I.bk) hm h) hd
theorem ld_blt {E : Value → Shared → Prop} {pins : List (Addr × Obj)} {s : Shared} {σ : St} {H : Hp} {x : Str} {u : Value} {pos : Pos} {Q : Value → Shared → Prop} (I : Inv X pins σ H s) (hg : Gl X x) (hm : X.mg x = none) (hv : bootBuiltins x = some u) (h : Q u s)
    (hn : x ≠ "__name__" := by decide) (hd : (x == ("__debug__" : Str)) = false := by decide) : wpAny (model X.prog X.w) X.A (eval (.Name x pos) X.env) Q E s := by
  obtain ⟨mb, h1, h2⟩ := I.mod.blt
  exact Calls.Name_function_global I.ok.kind hg (Calls.loadGlobal_builtin (by rw [I.ok.glob]; exact I.mod.glob.keeps I.bk) hm (by rw [I.ok.blt]; exact h1.keeps I.bk) ((h2 x hn).trans hv) h) hd
theorem pe_glob {x : Str} {v : V} {u : Value} {pos : Pos} (hg : Gl X x) (hm : X.mg x = some u) (r : RelV v u) (hd : (x == ("__debug__" : Str)) = false := by decide) : PE X (.Name x pos) (tC v) :=
  fun _ _ _ H _ I h => ld_glob I hg hm ⟨v, H, I, r, h⟩ hd
theorem pe_bltn {x : Str} {v : V} {u : Value} {pos : Pos} (hg : Gl X x) (hm : X.mg x = none) (hv : bootBuiltins x = some u) (r : RelV v u) (hn : x ≠ "__name__" := by decide) (hd : (x == ("__debug__" : Str)) = false := by decide) : PE X (.Name x pos) (tC v) :=
  fun _ _ _ H _ I h => ld_blt I hg hm hv ⟨v, H, I, r, h⟩ hn hd
variable {a b : Expr} {ta tb : TE} {pos : Pos}
def tB (t : TE) : TT := fun σ H Q => t σ H fun x H1 => ∃ c, x = .bl c ∧ Q c H1
theorem pt_val {e : Expr} {t : TE} (h : PE X e t) (he : ∀ whole, isTrue e X.env whole = (do let v ← whole; standAt e.pos; holding [v] (truthy v)) := by intro _; rfl) : PT X e (tB t) := by
  intro pins s σ H Q I hw
  refine isTrue_plain (thn (h pins s σ H _ I hw) fun v s1 ⟨x, H1, I1, r1, q1⟩ => ?_) (he _)
  obtain ⟨d, rfl, q⟩ := q1
  cases r1
  exact wpAny_truthy_bool ⟨H1, I1, q⟩
variable {tA tB' : TT} {rest : List Expr}
def tAnd (t u : TT) : TT := fun σ H Q => t σ H fun c H1 => if c = true then u σ H1 Q else Q false H1
def tOr (t u : TT) : TT := fun σ H Q => t σ H fun c H1 => if c = true then Q true H1 else u σ H1 Q
def tNot (t : TT) : TT := fun σ H Q => t σ H fun c H1 => Q (!c) H1
theorem pw_and1 (ha : PT X a tA) : PW X (.BoolOp .And [a] pos) tA := by
  intro wh pins s σ H Q I h
  refine isTrue_and (thn (ha pins s σ H Q I h) fun c s1 e => ?_)
  cases c with
  | true => exact isTrue_and_nil e
  | false => exact e
theorem pw_or1 (ha : PT X a tA) : PW X (.BoolOp .Or [a] pos) tA := by
  intro wh pins s σ H Q I h
  refine isTrue_or (thn (ha pins s σ H Q I h) fun c s1 e => ?_)
  cases c with
  | false => exact isTrue_or_nil e
  | true => exact e
theorem pw_and (ha : PT X a tA) (hb : PW X (.BoolOp .And (b :: rest) pos) tB') : PW X (.BoolOp .And (a :: b :: rest) pos) (tAnd tA tB') := by
  intro wh pins s σ H Q I h
  refine isTrue_and (thn (ha pins s σ H _ I h) fun c s1 ⟨H1, I1, q1⟩ => ?_)
  cases c with
  | true => exact hb wh pins s1 σ H1 Q I1 q1
  | false => exact ⟨H1, I1, q1⟩
theorem pw_or (ha : PT X a tA) (hb : PW X (.BoolOp .Or (b :: rest) pos) tB') : PW X (.BoolOp .Or (a :: b :: rest) pos) (tOr tA tB') := by
  intro wh pins s σ H Q I h
  refine isTrue_or (thn (ha pins s σ H _ I h) fun c s1 ⟨H1, I1, q1⟩ => ?_)
  cases c with
  | true => exact ⟨H1, I1, q1⟩
  | false => exact hb wh pins s1 σ H1 Q I1 q1
theorem pt_not (ha : PT X a tA) : PT X (.UnaryOp .Not a pos) (tNot tA) := by
  intro pins s σ H Q I h
  exact isTrue_not (ha pins s σ H (fun c H1 => Q (!c) H1) I h)
def tAndV (ta tb : TE) : TE := fun σ H Q => ta σ H fun x H1 => ∃ c, x = .bl c ∧ if c = true then tb σ H1 Q else Q (.bl false) H1
def tNotV (ta : TE) : TE := fun σ H Q => ta σ H fun x H1 => ∃ c, x = .bl c ∧ Q (.bl (!c)) H1
theorem pe_one {op} {t : TE} (h : PE X a t) : PE X (.BoolOp op [a] pos) t := fun pins s σ H Q I hw => BoolOp_one (h pins s σ H Q I hw)
theorem pe_and (ha : PE X a ta) (hb : PE X (.BoolOp .And (b :: rest) pos) tb) : PE X (.BoolOp .And (a :: b :: rest) pos) (tAndV ta tb) := by
  intro pins s σ H Q I h
  refine BoolOp_and (thn (ha pins s σ H _ I h) fun v s1 ⟨x, H1, I1, r1, q1⟩ => ?_)
  obtain ⟨c, rfl, q1⟩ := q1
  cases r1
  refine wpAny_truthy_bool ?_
  cases c with
  | true => exact hb pins s1 σ H1 Q I1 q1
  | false => exact ⟨.bl false, H1, I1, rfl, q1⟩
theorem pe_not (ha : PE X a ta) : PE X (.UnaryOp .Not a pos) (tNotV ta) := by
  intro pins s σ H Q I h
  refine UnaryOp_ (thn (ha pins s σ H _ I h) fun v s1 ⟨x, H1, I1, r1, q1⟩ => ?_)
  obtain ⟨c, rfl, q1⟩ := q1
  cases r1
  exact not_of (wpAny_truthy_bool ⟨.bl (!c), H1, I1, rfl, q1⟩)
end
end L2
namespace L2
open PySem PySem.Spec PyProof.Rows
def SqL (K : PySem.W.Frag) (H : Hp) (a : Addr) (xs : List V) : Prop :=
  Rd H a (.lst xs) ∨
    ∃ (o : Obj) (its : Array Value) (n : Nat), K.lookup a = some o ∧ o.cls = .type "list" ∧ o.dict = none ∧ o.data = .seq its n ∧ its.size ≤ sizeLine ∧ Vals xs its.toList
def SqT (K : PySem.W.Frag) (H : Hp) (a : Addr) (xs : List V) : Prop :=
  Rd H a (.tup xs) ∨
    ∃ (o : Obj) (its : Array Value) (n : Nat), K.lookup a = some o ∧ o.cls = .type "tuple" ∧ o.data = .seq its n ∧ its.size ≤ sizeLine ∧ Vals xs its.toList ∧ o.dict = none
def absV : Value → Option V
  | .none => some .non
  | .bool b => some (.bl b)
  | .int i _ => some (.int i)
  | .str x _ => some (.str x)
  | .bytes b _ => some (.byt b)
  | .float b _ => some (.flt b)
  | .ref a => some (.ref a)
  | .type n => some (.ty n)
  | _ => none
theorem RelV.abs {x : V} {u : Value} (r : RelV x u) : absV u = some x := by
  cases x with
  | non => cases r; rfl
  | bl _ => cases r; rfl
  | int _ => obtain ⟨t, rfl⟩ := r; rfl
  | str _ => obtain ⟨t, rfl⟩ := r; rfl
  | byt _ => obtain ⟨t, rfl⟩ := r; rfl
  | flt _ => obtain ⟨t, rfl⟩ := r; rfl
  | ref _ => cases r; rfl
  | ty _ => cases r; rfl
theorem RelV.inj {x y : V} {u : Value} (r : RelV x u) (q : RelV y u) : x = y := Option.some.inj (r.abs.symm.trans q.abs)
theorem Vals.inj : ∀ {xs ys : List V} {us : List Value}, Vals xs us → Vals ys us → xs = ys
  | _, _, _, .nil, .nil => rfl
  | _, _, _, .cons r t, .cons r' t' => by rw [r.inj r', Vals.inj t t']
section
variable {X : Cx} {pins : List (Addr × Obj)} {σ : St} {H : Hp} {s : Shared} {a : Addr} {xs ys : List V}
theorem SqL.of {K : PySem.W.Frag} (h : H a = some (.lst xs)) : SqL K H a xs := .inl (.inl h)
theorem SqT.of {K : PySem.W.Frag} (h : H a = some (.tup xs)) : SqT K H a xs := .inl (.inl h)
theorem Inv.list (I : Inv X pins σ H s) (h : SqL X.K H a xs) : ∃ its : List Value, Vals xs its ∧ PlainL s.heap a its.toArray ∧ xs.length ≤ sizeLine := by
  rcases h with h | ⟨o, its, n, hk, hc, hd, hs, hz, r⟩
  · obtain ⟨z, its, n, r, e⟩ := h.ok I.hok
    exact ⟨its, r, ⟨_, n, e, rfl, rfl, rfl⟩, z⟩
  · refine ⟨its.toList, r, ⟨o, n, I.kIn a o hk, hc, hd, by simpa using hs⟩, ?_⟩
    have e := r.length
    simp only [Array.length_toList] at e
    omega
theorem Inv.tuple (I : Inv X pins σ H s) (h : SqT X.K H a xs) : ∃ its : List Value, Vals xs its ∧ IsTup s.heap a its.toArray ∧ xs.length ≤ sizeLine := by
  rcases h with h | ⟨o, its, n, hk, hc, hs, hz, r, _⟩
  · obtain ⟨z, its, r, p⟩ := h.ok I.hok
    exact ⟨its, r, p.isTup, z⟩
  · refine ⟨its.toList, r, ⟨o, I.kIn a o hk, hc, n, by simpa using hs⟩, ?_⟩
    have e := r.length
    simp only [Array.length_toList] at e
    omega
theorem Inv.noDict (I : Inv X pins σ H s) (h : SqT X.K H a xs) : s.TypeIs (.ref a) "tuple" ∧ ∃ ob, s.heap.get? a = some ob ∧ ob.dict = none := by
  rcases h with h | ⟨o, its, n, hk, hc, hs, hz, r, hd⟩
  · obtain ⟨z, its, r, o, h1, h2, h3, h4⟩ := h.ok I.hok
    exact ⟨⟨o, h1, h2⟩, o, h1, h4⟩
  · exact ⟨⟨o, I.kIn a o hk, hc⟩, o, I.kIn a o hk, hd⟩
theorem Inv.list_inj (I : Inv X pins σ H s) (h : SqL X.K H a xs) (h' : SqL X.K H a ys) : xs = ys := by
  obtain ⟨its, r, ⟨o, n, e, _, _, d⟩, _⟩ := I.list h
  obtain ⟨its', r', ⟨o', n', e', _, _, d'⟩, _⟩ := I.list h'
  rw [e] at e'; cases e'
  rw [d] at d'
  injection d' with d1 _
  have : its = its' := by simpa using congrArg Array.toList d1
  subst this
  exact r.inj r'
theorem Inv.tuple_inj (I : Inv X pins σ H s) (h : SqT X.K H a xs) (h' : SqT X.K H a ys) : xs = ys := by
  obtain ⟨its, r, ⟨o, e, _, n, d⟩, _⟩ := I.tuple h
  obtain ⟨its', r', ⟨o', e', _, n', d'⟩, _⟩ := I.tuple h'
  rw [e] at e'; cases e'
  rw [d] at d'
  injection d' with d1 _
  have : its = its' := by simpa using congrArg Array.toList d1
  subst this
  exact r.inj r'
end
abbrev Cx.wish (X : Cx) (E : Value → Shared → Prop) : Cx := { X with xe := E }
abbrev Cx.nox (X : Cx) : Cx := X.wish fun _ _ => False
theorem Cx.Ok.wish {X : Cx} (ok : X.Ok) (E : Value → Shared → Prop) : (X.wish E).Ok :=
  ⟨ok.mod, ok.kind, ok.glob, ok.blt, ok.above, ok.inj, ok.has, ok.cab, ok.hd, ok.frames, ok.stk, ok.exf, ok.bs, ok.bsz, ok.noex, ok.exfs, ok.funs, ok.frf, ok.tb⟩
theorem Cx.Ok.unwish {X : Cx} {E : Value → Shared → Prop} (ok : (X.wish E).Ok) : X.Ok :=
  ⟨ok.mod, ok.kind, ok.glob, ok.blt, ok.above, ok.inj, ok.has, ok.cab, ok.hd, ok.frames, ok.stk, ok.exf, ok.bs, ok.bsz, ok.noex, ok.exfs, ok.funs, ok.frf, ok.tb⟩
section
variable {X : Cx} {pins : List (Addr × Obj)} {σ : St} {H : Hp} {s : Shared} {E : Value → Shared → Prop}
theorem Inv.wish (I : Inv X pins σ H s) (E : Value → Shared → Prop) : Inv (X.wish E) pins σ H s := ⟨I.ok.wish E, I.os, I.bare, I.base, I.loc, I.cell, I.free, I.freeC, I.pin, I.hok, I.len⟩
theorem Inv.unwish (I : Inv (X.wish E) pins σ H s) : Inv X pins σ H s := ⟨I.ok.unwish, I.os, I.bare, I.base, I.loc, I.cell, I.free, I.freeC, I.pin, I.hok, I.len⟩
theorem SP.unwish {D : Ends} {f : Flow} {s' : Shared} (h : SP (X.wish E) pins D f s') : SP X pins D f s' := by
  cases f with
  | next => obtain ⟨σ', H', I, q⟩ := h; exact ⟨σ', H', I.unwish, q⟩
  | brk => obtain ⟨σ', H', I, q⟩ := h; exact ⟨σ', H', I.unwish, q⟩
  | cont => obtain ⟨σ', H', I, q⟩ := h; exact ⟨σ', H', I.unwish, q⟩
  | ret u => obtain ⟨v, σ', H', I, r, q⟩ := h; exact ⟨v, σ', H', I.unwish, r, q⟩
theorem PE.nox {e : Expr} {t : TE} (h : PE X.nox e t) : PE X e t := fun pins s σ H Q I hw =>
  wpAny_mono (h pins s σ H Q (I.wish _) hw) (fun _ _ ⟨v, H', I', r, q⟩ => ⟨v, H', I'.unwish, r, q⟩) fun _ _ z => False.elim z
theorem PT.nox {e : Expr} {t : TT} (h : PT X.nox e t) : PT X e t := fun pins s σ H Q I hw =>
  wpAny_mono (h pins s σ H Q (I.wish _) hw) (fun _ _ ⟨H', I', q⟩ => ⟨H', I'.unwish, q⟩) fun _ _ z => False.elim z
theorem PSs.nox {st : List Stmt} {t : TS} (h : PSs X.nox st t) : PSs X st t := fun pins s σ H D I hw =>
  wpAny_mono (h pins s σ H D (I.wish _) hw) (fun _ _ q => q.unwish) fun _ _ z => False.elim z
end
section
variable {X : Cx} {st : Stmt} {rest : List Stmt} {t u : TS} {e : Expr} {te : TE} {pos : Pos}
def tNext : TS := fun D σ H => D.nx σ H
def tSeq (t u : TS) : TS := fun D σ H => t { D with nx := u D } σ H
theorem pss_nil : PSs X [] tNext := fun _ _ σ H _ I h => wpAny_execs_nil ⟨σ, H, I, h⟩
theorem pss_cons (h1 : PS X st t) (h2 : PSs X rest u) : PSs X (st :: rest) (tSeq t u) := by
  intro pins s σ H D I h
  refine wpAny_execs_cons (thn (h1 pins s σ H { D with nx := u D } I h) fun f s1 q => ?_)
  cases f with
  | next =>
    obtain ⟨σ', H', I', q⟩ := q
    exact h2 pins s1 σ' H' D I' q
  | ret v => exact q
  | brk => exact q
  | cont => exact q
theorem pss_one (h1 : PS X st t) : PSs X [st] t := by
  intro pins s σ H D I h
  refine wpAny_execs_cons (thn (h1 pins s σ H D I h) fun f s1 q => ?_)
  cases f with
  | next => exact wpAny_execs_nil q
  | ret v => exact q
  | brk => exact q
  | cont => exact q
theorem Inv.quiet {pins : List (Addr × Obj)} {σ : St} {H : Hp} {s : Shared} (I : Inv X pins σ H s) : interactive X.env = false := by simp [interactive, I.ok.kind]
def tDrop (te : TE) : TS := fun D σ H => te σ H fun _ H1 => D.nx σ H1
theorem ps_expr (he : PE X e te) (hs : swapsWith e none pos.line X.env = pure false := by rfl) : PS X (.Expr e pos) (tDrop te) := by
  intro pins s σ H D I h
  exact wpAny_Expr_any (thn (he pins s σ H _ I h) fun v s1 ⟨x, H1, I1, r1, q1⟩ => ⟨σ, H1, I1, q1⟩) I.quiet hs
def tRet (te : TE) : TS := fun D σ H => te σ H D.rt
theorem ps_ret (he : PE X e te) : PS X (.Return (some e) pos) (tRet te) := by
  intro pins s σ H D I h
  exact wpAny_Return_some (thn (he pins s σ H _ I h) fun v s1 ⟨x, H1, I1, r1, q1⟩ => ⟨x, σ, H1, I1, r1, q1⟩)
def tIfS (c : TT) (t u : TS) : TS := fun D σ H => c σ H fun b H1 => if b = true then t D σ H1 else u D σ H1
theorem ps_if {c : Expr} {a b : List Stmt} {tc : TT} (hc : PT X c tc) (ha : PSs X a t) (hb : PSs X b u) : PS X (.If c a b pos) (tIfS tc t u) := by
  intro pins s σ H D I h
  refine wpAny_If (thn (hc pins s σ H _ I h) fun d s1 ⟨H1, I1, q1⟩ => ?_)
  cases d with
  | true => exact ha pins s1 σ H1 D I1 q1
  | false => exact hb pins s1 σ H1 D I1 q1
end
abbrev TG := V → St → Hp → (St → Hp → Prop) → Prop
abbrev TGs := List V → St → Hp → (St → Hp → Prop) → Prop
def PG (X : Cx) (target : Expr) (t : TG) : Prop :=
  ∀ (pins : List (Addr × Obj)) (s : Shared) (σ : St) (H : Hp) (v : V) (u : Value) (Q : St → Hp → Prop), Inv X pins σ H s → RelV v u → t v σ H Q →
    wpAny (model X.prog X.w) X.A (assign target X.env u) (fun _ s' => ∃ σ' H', Inv X pins σ' H' s' ∧ Q σ' H') X.xe s
def PGs (X : Cx) (ts : List Expr) (t : TGs) : Prop :=
  ∀ (pins : List (Addr × Obj)) (s : Shared) (σ : St) (H : Hp) (vs : List V) (us : List Value) (Q : St → Hp → Prop), Inv X pins σ H s → Vals vs us → t vs σ H Q →
    wpAny (model X.prog X.w) X.A (assignInOrder ((assignEach ts X.env).map (·.2)) us) (fun _ s' => ∃ σ' H', Inv X pins σ' H' s' ∧ Q σ' H') X.xe s
abbrev TSet := V → V → V → Hp → (Hp → Prop) → Prop
def PSet (X : Cx) (t : TSet) : Prop :=
  ∀ (pins : List (Addr × Obj)) (s : Shared) (σ : St) (H : Hp) (o i v : V) (ov iv u : Value) (Q : Hp → Prop), Inv X pins σ H s → RelV o ov → RelV i iv → RelV v u → t o i v H Q →
    wpAny (model X.prog X.w) X.A (setItem ov iv u) (fun _ s' => ∃ H', Inv X pins σ H' s' ∧ Q H') X.xe s
section
variable {X : Cx} {pos : Pos}
def gName (i : Nat) : TG := fun v σ H Q => Q (σ.set i (some v)) H
theorem pg_name {i : Nat} {x : Str} (hN : X.N.Nodup) (hi : X.N[i]? = some x) (hx : Loc X.env.scope x) (hf : X.fn x = true ∨ X.env.scope.names.lookup x = some .local := by first | exact .inl rfl | exact .inr rfl | assumption) : PG X (.Name x pos) (gName i) := by
  intro pins s σ H v u Q I r h
  exact wpAny_assign_Name (store_ok I hN hi hx r (fun s' I' => ⟨_, H, I', h⟩) hf)
def gNil : TGs := fun vs σ H Q => vs = [] ∧ Q σ H
def gCons (t : TG) (u : TGs) : TGs := fun vs σ H Q => ∃ v r, vs = v :: r ∧ t v σ H fun σ' H' => u r σ' H' Q
theorem pgs_nil : PGs X [] gNil := by
  intro pins s σ H vs us Q I r h
  obtain ⟨e, h⟩ := h
  subst e
  cases r
  exact assignInOrder_nil ⟨σ, H, I, h⟩
theorem pgs_cons {e : Expr} {es : List Expr} {t : TG} {u : TGs} (h1 : PG X e t) (h2 : PGs X es u)
    (hs : (assignEach (e :: es) X.env).map (·.2) = assign e X.env :: (assignEach es X.env).map (·.2) := by rfl) : PGs X (e :: es) (gCons t u) := by
  intro pins s σ H vs us Q I r h
  obtain ⟨v, vr, e1, h⟩ := h
  subst e1
  cases r with
  | cons r rr =>
    rw [hs]
    refine assignInOrder_cons (thn (h1 pins s σ H _ _ _ I r h) fun _ s1 ⟨σ1, H1, I1, q1⟩ => ?_)
    exact h2 pins s1 σ1 H1 _ _ Q I1 rr q1
def gTup (K : PySem.W.Frag) (n : Nat) (t : TGs) : TG := fun v σ H Q => ∃ a xs, v = .ref a ∧ SqT K H a xs ∧ xs.length = n ∧ t xs σ H Q
theorem pg_tup {es : List Expr} {k : Nat} {t : TGs} {n : Nat} (hc : X.calm = true) (h : PGs X es t)
    (hn : (assignEach es X.env).length = n := by rfl) (hst : (assignEach es X.env).findIdx? (·.1) = none := by rfl) : PG X (.Tuple es k pos) (gTup X.K n t) := by
  intro pins s σ H v u Q I r hw
  obtain ⟨a, xs, e1, hq, hl, hw⟩ := hw
  subst e1
  cases r
  obtain ⟨its, rv, ht, hz⟩ := I.tuple hq
  refine assign_Tuple_tuple (I.ok.hd hc) ht (by simp [hn, ← hl, rv.length]) hst fun h' hx => ?_
  have I1 : Inv X pins σ H { s with heap := h' } := I.kept (t' := s.toks) fun b o e => hx b o (Nat.ne_of_lt (Heap.lt_size e)) e
  exact h pins _ σ H xs _ Q I1 (by simpa using rv) hw
def gSub (to ti : TE) (t : TSet) : TG := fun v σ H Q => to σ H fun o H1 => ti σ H1 fun i H2 => t o i v H2 fun H3 => Q σ H3
theorem pg_sub {o i : Expr} {to ti : TE} {t : TSet} (ho : PE X o to) (hi : PE X i ti) (hs : PSet X t)
    (ha : ∀ v, assign (.Subscript o i pos) X.env v = (do
      let ov ← holding [v] (eval o X.env)
      let iv ← holding [v, ov] (eval i X.env)
      standAt pos
      holding [v, ov, iv] (setItem ov iv v)
      release [v, ov, iv] []) := by intro _; rfl) : PG X (.Subscript o i pos) (gSub to ti t) := by
  intro pins s σ H v u Q I r h
  rw [ha]
  refine wpAny_bind (wpAny_holding (thn (ho pins s σ H _ I h) fun ov s1 ⟨x, H1, I1, r1, q1⟩ => ?_))
  refine wpAny_bind (wpAny_holding (thn (hi pins s1 σ H1 _ I1 q1) fun iv s2 ⟨y, H2, I2, r2, q2⟩ => ?_))
  refine wpAny_bind (wpAny_standAt (wpAny_bind (wpAny_holding (thn (hs pins s2 σ H2 x y v ov iv u _ I2 r1 r2 r q2) fun _ s3 ⟨H3, I3, q3⟩ => ?_))))
  exact wpAny_release ⟨σ, H3, I3, q3⟩
def tAsg (te : TE) (g : TG) : TS := fun D σ H => te σ H fun x H1 => g x σ H1 D.nx
theorem ps_asg {tg e : Expr} {te : TE} {g : TG} (he : PE X e te) (hg : PG X tg g) (hs : swapsWithSole [tg] e pos.line X.env = pure false := by rfl) (hw : swappedStores [tg] e X.env = pure none := by rfl)
    (h1 : (assignEach [tg] X.env).map (·.2) = [assign tg X.env] := by rfl) : PS X (.Assign [tg] e pos) (tAsg te g) := by
  intro pins s σ H D I h
  refine wpAny_Assign_stores (thn (he pins s σ H _ I h) fun v s1 ⟨x, H1, I1, r1, q1⟩ => ?_) hs hw
  rw [h1]
  exact thn (hg pins s1 σ H1 x v _ I1 r1 q1) fun _ s2 q => q
theorem ps_set {i : Nat} {x : Str} {e : Expr} {te : TE} {pos' : Pos} (hN : X.N.Nodup) (hi : X.N[i]? = some x) (hx : Loc X.env.scope x) (he : PE X e te) (hs : swapsWith e (some (.Name x pos')) pos.line X.env = pure false := by rfl) (hf : X.fn x = true ∨ X.env.scope.names.lookup x = some .local := by first | exact .inl rfl | exact .inr rfl | assumption) :
    PS X (.Assign [.Name x pos'] e pos) (tAsg te (gName i)) := by
  intro pins s σ H D I h
  refine wpAny_Assign_Name (thn (he pins s σ H _ I h) fun v s1 ⟨y, H1, I1, r1, q1⟩ => ?_) hs
  exact store_ok I1 hN hi hx r1 (fun s2 I2 => ⟨_, H1, I2, q1⟩) hf
end
section
variable {X : Cx} {pos : Pos}
end
structure It where
  go : Nat → Hp → Prop
  yld : Nat → Hp → V → Hp → Prop
  stop : Nat → Hp → Prop
def FpOk (X : Cx) (pins : List (Addr × Obj)) (H : Hp) (b : Addr) : Prop :=
  H b = none ∧ b ≠ X.env.locals ∧ b ∉ X.fs ∧ (b ∈ X.ex ∨ X.s₀.heap.objs.size ≤ b) ∧ (∀ x c, X.env.cells.lookup x = some c → c ≠ b) ∧ ∀ p ∈ X.pn ++ pins, p.1 ≠ b
theorem Inv.fpOk {X : Cx} {pins : List (Addr × Obj)} {σ : St} {H H' : Hp} {s : Shared} {b : Addr} (I : Inv X pins σ H s) (hb : s.heap.objs.size ≤ b) (hn : H' b = none) : FpOk X pins H' b := by
  refine ⟨hn, Nat.ne_of_gt (Nat.lt_of_lt_of_le I.lt hb), I.nofs hb, .inr (Nat.le_trans I.sz hb), fun x c e z => ?_, fun p hp z => ?_⟩
  · obtain ⟨v, q⟩ := I.cell x c e
    exact absurd (Nat.lt_of_lt_of_le q.lt (by rw [z]; exact hb)) (Nat.lt_irrefl _)
  · exact absurd (Nat.lt_of_lt_of_le (Heap.lt_size (I.pin p hp).1) (by rw [z]; exact hb)) (Nat.lt_irrefl _)
structure Turn (P : Program) (w : World) (K : PySem.W.Frag) (tg : Expr) (J : It) (fp : List Addr) (it : Addr) (tn : Nat → Heap → Prop) : Prop where
  mem : it ∈ fp
  obj : ∀ i h, tn i h → ∀ b ∈ fp, ∃ o, h.get? b = some o ∧ ∀ v, o.data ≠ .cell v
  keep : ∀ i h h', tn i h → (∀ b ∈ fp, ∀ o, h.get? b = some o → h'.get? b = some o) → tn i h'
  item : ∀ (X : Cx), X.prog = P → X.w = w → X.K = K → X.calm = true → ∀ (i : Nat) (pins : List (Addr × Obj)) (s : Shared) (σ : St) (H : Hp) (E : Value → Shared → Prop), Inv X pins σ H s → (∀ b ∈ fp, FpOk X pins H b) → tn i s.heap → J.go i H →
    wpAny (model P w) X.A (pyNext (.ref it)) (fun r s1 => ∃ u, r = some u ∧
      wpAny (model P w) X.A (letOwnedTupleGo tg (.ref it) u) (fun _ s2 => ∃ x H', Inv X pins σ H' s2 ∧ RelV x u ∧ J.yld i H x H' ∧ tn (i + 1) s2.heap ∧ ∀ b ∈ fp, H' b = none) E s1) E s
  done : ∀ (X : Cx), X.prog = P → X.w = w → X.K = K → X.calm = true → ∀ (i : Nat) (pins : List (Addr × Obj)) (s : Shared) (σ : St) (H : Hp) (E : Value → Shared → Prop), Inv X pins σ H s → (∀ b ∈ fp, FpOk X pins H b) → tn i s.heap → J.stop i H →
    wpAny (model P w) X.A (pyNext (.ref it)) (fun r s1 => r = none ∧ Inv X pins σ H s1) E s
  self : ∀ (A : Around) (i : Nat) (s : Shared) (Q : Value → Shared → Prop) (E : Value → Shared → Prop), tn i s.heap → Q (.ref it) s → wpAny (model P w) A (pyIter (.ref it)) Q E s
abbrev TI := St → Hp → (It → Hp → Prop) → Prop
def PIE (X : Cx) (pins : List (Addr × Obj)) (σ : St) (tg : Expr) (R : It → Hp → Prop) (itv : Value) (s2 : Shared) : Prop :=
  ∃ (it : Addr) (fp : List Addr) (tn : Nat → Heap → Prop) (J : It) (H' : Hp), itv = .ref it ∧ Inv X pins σ H' s2 ∧ Turn X.prog X.w X.K tg J fp it tn ∧ tn 0 s2.heap ∧ (∀ b ∈ fp, FpOk X pins H' b) ∧ R J H'
def PI (X : Cx) (tg iter : Expr) (wi : TI) : Prop :=
  ∀ (pins : List (Addr × Obj)) (s : Shared) (σ : St) (H : Hp) (R : It → Hp → Prop), Inv X pins σ H s → wi σ H R →
    wpAny (model X.prog X.w) X.A (eval iter X.env) (fun v s1 => wpAny (model X.prog X.w) X.A (pyIter v) (PIE X pins σ tg R) X.xe s1) X.xe s
theorem go_of {M : Model} {A : Around} {E : Value → Shared → Prop} {s : Shared} {tg : Expr} {it : Addr} {u : Value} {o : Obj} {n : String} {vs : Array Value} {Q : Unit → Shared → Prop} (ho : s.heap.get? it = some o) (hc : o.cls = .type n) (hd : o.data = .fields vs)
    (hn : ["enumerate", "zip", "dict_itemiterator", "dict_reverseitemiterator", "odict_iterator", "itertools.zip_longest", "itertools.pairwise"].contains n = false) (hQ : Q () s) : wpAny M A (letOwnedTupleGo tg (.ref it) u) Q E s := by
  unfold letOwnedTupleGo
  cases tg <;> first
    | exact wpAny_pure hQ
    | (cases u <;> first
        | exact wpAny_pure hQ
        | (refine wpAny_bind (wpAny_load ho ?_)
           rw [hc, hd]
           show wpAny M A (if (["enumerate", "zip", "dict_itemiterator", "dict_reverseitemiterator", "odict_iterator", "itertools.zip_longest", "itertools.pairwise"].contains n && vs[0]? == some (rawInt _)) = true then _ else _) Q E s
           rw [if_neg (by intro h; rw [hn, Bool.false_and] at h; cases h)]
           exact wpAny_pure hQ))
def Itl (K : PySem.W.Frag) (a : Addr) : It :=
  ⟨fun i H => ∃ xs x, SqL K H a xs ∧ xs[i]? = some x, fun i H x H' => H' = H ∧ ∀ xs, SqL K H a xs → xs[i]? = some x, fun i H => ∃ xs, SqL K H a xs ∧ xs.length ≤ i⟩
def Itt (K : PySem.W.Frag) (a : Addr) : It :=
  ⟨fun i H => ∃ xs x, SqT K H a xs ∧ xs[i]? = some x, fun i H x H' => H' = H ∧ ∀ xs, SqT K H a xs → xs[i]? = some x, fun i H => ∃ xs, SqT K H a xs ∧ xs.length ≤ i⟩
def Itr (lo : Int) (n : Nat) : It := ⟨fun i _ => i < n, fun i H x H' => H' = H ∧ x = .int (lo + i), fun i _ => n ≤ i⟩
theorem turn_list {P : Program} {w : World} {K : PySem.W.Frag} {tg : Expr} (a it : Addr) : Turn P w K tg (Itl K a) [it] it (fun i h => h.IsListIter it a i) where
  mem := by simp
  obj := fun i h st b hb => by
    have e : b = it := by simpa using hb
    subst e
    obtain ⟨o, e, c, d⟩ := st
    exact ⟨o, e, fun v z => by rw [d] at z; cases z⟩
  keep := fun i h h' st k => st.at fun o e => k it (by simp) o e
  item := by
    intro X hP hw hK hc i pins s σ H E I hf st hg
    subst hP hw hK
    obtain ⟨xs, x, hq, hx⟩ := hg
    obtain ⟨its, rv, p, hz⟩ := I.list hq
    obtain ⟨u, hu, ru⟩ := rv.get hx
    obtain ⟨f0, f1, f2, f3, f4, f5⟩ := hf it (by simp)
    refine wpAny_pyNext_list_item st p.isList (x := u) (by simpa using hu) fun h' st' sb => ?_
    have I1 : Inv X pins σ H { s with heap := h' } := I.turned (t' := s.toks) (fun b o hb e => (sb.2 b hb).trans e) f0 f1 f3 f4 f5
    obtain ⟨o, e, c, d⟩ := id st'
    exact ⟨u, rfl, go_of (s := { s with heap := h' }) e c d (by decide) ⟨x, H, I1, ru, ⟨rfl, fun ys hy => by rw [I.list_inj hy hq]; exact hx⟩, st', fun b hb => (hf b hb).1⟩⟩
  done := by
    intro X hP hw hK hc i pins s σ H E I hf st hg
    subst hP hw hK
    obtain ⟨xs, hq, hx⟩ := hg
    obtain ⟨its, rv, p, hz⟩ := I.list hq
    obtain ⟨f0, f1, f2, f3, f4, f5⟩ := hf it (by simp)
    have hl := rv.length
    exact wpAny_pyNext_list_end (I.ok.hd hc) st p.isList (by simp; omega) fun h' eb => ⟨rfl, I.turned (t' := s.toks) (fun b o hb e => eb b o hb e) f0 f1 f3 f4 f5⟩
  self := fun _ _ _ _ _ st h => wpAny_pyIter_listiter st h
theorem turn_tuple {P : Program} {w : World} {K : PySem.W.Frag} {tg : Expr} (a it : Addr) : Turn P w K tg (Itt K a) [it] it (fun i h => h.IsTupleIter it a i) where
  mem := by simp
  obj := fun i h st b hb => by
    have e : b = it := by simpa using hb
    subst e
    obtain ⟨o, e, c, d⟩ := st
    exact ⟨o, e, fun v z => by rw [d] at z; cases z⟩
  keep := fun i h h' st k => st.at fun o e => k it (by simp) o e
  item := by
    intro X hP hw hK hc i pins s σ H E I hf st hg
    subst hP hw hK
    obtain ⟨xs, x, hq, hx⟩ := hg
    obtain ⟨its, rv, p, hz⟩ := I.tuple hq
    obtain ⟨u, hu, ru⟩ := rv.get hx
    obtain ⟨f0, f1, f2, f3, f4, f5⟩ := hf it (by simp)
    refine wpAny_pyNext_tuple_item st (show s.heap.IsTuple a its.toArray from p) (x := u) (by simpa using hu) fun h' st' sb => ?_
    have I1 : Inv X pins σ H { s with heap := h' } := I.turned (t' := s.toks) (fun b o hb e => (sb.2 b hb).trans e) f0 f1 f3 f4 f5
    obtain ⟨o, e, c, d⟩ := id st'
    exact ⟨u, rfl, go_of (s := { s with heap := h' }) e c d (by decide) ⟨x, H, I1, ru, ⟨rfl, fun ys hy => by rw [I.tuple_inj hy hq]; exact hx⟩, st', fun b hb => (hf b hb).1⟩⟩
  done := by
    intro X hP hw hK hc i pins s σ H E I hf st hg
    subst hP hw hK
    obtain ⟨xs, hq, hx⟩ := hg
    obtain ⟨its, rv, p, hz⟩ := I.tuple hq
    obtain ⟨f0, f1, f2, f3, f4, f5⟩ := hf it (by simp)
    have hl := rv.length
    exact wpAny_pyNext_tuple_end (I.ok.hd hc) st (show s.heap.IsTuple a its.toArray from p) (by simp; omega) fun h' eb => ⟨rfl, I.turned (t' := s.toks) (fun b o hb e => eb b o hb e) f0 f1 f3 f4 f5⟩
  self := fun _ _ _ _ _ st h => wpAny_pyIter_tupleiter st h
theorem turn_range {P : Program} {w : World} {K : PySem.W.Frag} {tg : Expr} (it : Addr) (lo : Int) (n : Nat) : Turn P w K tg (Itr lo n) [it] it (fun i h => IsRangeIter h it (lo + (i : Nat) * 1) ((n : Int) - (i : Nat)) 1) where
  mem := by simp
  obj := fun i h st b hb => by
    have e : b = it := by simpa using hb
    subst e
    exact ⟨_, st, fun v z => by
      have z' : Data.fields _ = Data.cell v := z
      cases z'⟩
  keep := fun i h h' st k => k it (by simp) _ st
  item := by
    intro X hP hw hK hc i pins s σ H E I hf st hg
    subst hP hw hK
    obtain ⟨f0, f1, f2, f3, f4, f5⟩ := hf it (by simp)
    have W := Walks.range (prog := X.prog) (w := X.w) (I.ok.hd hc) it lo 1 n
    refine W.item i s _ _ hg st fun v h' tk hv st' kk => ?_
    obtain ⟨t, rfl⟩ := hv
    have I1 : Inv X pins σ H { s with heap := h', toks := tk } := I.turned (fun b o hb e => kk b o (by simpa using hb) e) f0 f1 f3 f4 f5
    refine ⟨_, rfl, go_of (s := { s with heap := h', toks := tk }) (n := "range_iterator") st' rfl rfl (by decide) ⟨.int (lo + i), H, I1, ⟨t, ?_⟩, ⟨rfl, rfl⟩, st', fun b hb => (hf b hb).1⟩⟩
    rw [Int.mul_one]
  done := by
    intro X hP hw hK hc i pins s σ H E I hf st hg
    subst hP hw hK
    obtain ⟨f0, f1, f2, f3, f4, f5⟩ := hf it (by simp)
    exact wpAny_pyNext_range_end (I.ok.hd hc) st (by have : n ≤ i := hg; omega) fun h' eb => ⟨rfl, I.turned (t' := s.toks) (fun b o hb e => eb b o hb e) f0 f1 f3 f4 f5⟩
  self := fun _ _ _ _ _ st h => wpAny_pyIter_rangeiter st h
end L2
namespace L2
open PySem PySem.Spec PyProof.Rows
section
variable {X : Cx} {tg : Expr}
theorem range_it {pins : List (Addr × Obj)} {σ : St} {H : Hp} {s : Shared} {R : It → Hp → Prop} {E : Value → Shared → Prop} {lo hi : Int} {t u v : Tok} {tk : Nat} (I : Inv X pins σ H s) (h1 : -(2 ^ 62) ≤ lo) (h2 : lo < 2 ^ 62) (h3 : -(2 ^ 62) ≤ hi) (h4 : hi < 2 ^ 62)
    (q : R (Itr lo (hi - lo).toNat) H) : wpAny (model X.prog X.w) X.A (pyIter (.ref s.heap.objs.size)) (PIE X pins σ tg R) E { s with heap := s.heap.push { cls := .type "range", data := .fields #[.int lo t, .int hi u, .int 1 v] }, toks := tk } := by
  refine wpAny_pyIter_range (IsRange.new ..) (small_one h1 h2 h3 h4) ?_
  have I1 : Inv X pins σ H { s with heap := s.heap.push { cls := .type "range", data := .fields #[.int lo t, .int hi u, .int 1 v] }, toks := tk } := I.kept fun b o e => Heap.get?_push_of_some _ e
  refine ⟨(s.heap.push { cls := .type "range", data := .fields #[.int lo t, .int hi u, .int 1 v] }).objs.size, [(s.heap.push { cls := .type "range", data := .fields #[.int lo t, .int hi u, .int 1 v] }).objs.size], _, _, H, rfl,
    I1.kept (t' := tk) fun b o e => Heap.get?_push_of_some _ e, turn_range _ lo (hi - lo).toNat, ?_, fun b hb => ?_, q⟩
  · have e1 : lo + ((0 : Nat) : Int) * 1 = lo := by simp
    have e2 : (((hi - lo).toNat : Nat) : Int) - ((0 : Nat) : Int) = Builtin.Range.rangeSize lo hi 1 := by rw [rangeSize_one]; split <;> omega
    show IsRangeIter _ _ (lo + ((0 : Nat) : Int) * 1) ((((hi - lo).toNat : Nat) : Int) - ((0 : Nat) : Int)) 1
    rw [e1, e2]
    exact Heap.get?_push_size _ rfl
  · have e : b = (s.heap.push { cls := .type "range", data := .fields #[.int lo t, .int hi u, .int 1 v] }).objs.size := by simpa using hb
    subst e
    exact I1.fpOk (Nat.le_refl _) (I1.hok.fresh (Nat.le_refl _))
def iRng1 (ta : TA) : TI := fun σ H R => ta σ H fun vs H1 => ∃ j : Int, vs = [.int j] ∧ -(2 ^ 62) ≤ j ∧ j < 2 ^ 62 ∧ R (Itr 0 j.toNat) H1
def iRng2 (ta : TA) : TI := fun σ H R => ta σ H fun vs H1 => ∃ i j : Int, vs = [.int i, .int j] ∧ (-(2 ^ 62) ≤ i ∧ i < 2 ^ 62 ∧ -(2 ^ 62) ≤ j ∧ j < 2 ^ 62) ∧ R (Itr i (j - i).toNat) H1
theorem pi_range1 {a : Expr} {ta : TA} {p pos : Pos} (hg : Gl X "range") (hm : X.mg "range" = none) (ha : PA X [a] ta) (hs : starEach [a] X.env = [(false, eval a X.env)] := by rfl) : PI X tg (.Call (.Name "range" p) [a] [] pos) (iRng1 ta) := by
  intro pins s σ H R I h
  refine Call_ (ld_blt I hg hm boot_range (PyProof.Rows.callWith_type1 (thn (ha pos pins s σ H _ I h) fun us s1 ⟨vs, H1, I1, r1, q1⟩ => ?_) hs rfl))
  obtain ⟨j, e, q1, q2, q⟩ := q1
  subst e
  cases r1 with
  | cons r rr =>
    cases rr
    obtain ⟨t, rfl⟩ := r
    exact call_range_1 (range_it I1 (by omega) (by omega) q1 q2 (by simpa using q))
theorem pi_range2 {a b : Expr} {ta : TA} {p pos : Pos} (hg : Gl X "range") (hm : X.mg "range" = none) (ha : PA X [a, b] ta) (hs : starEach [a, b] X.env = [(false, eval a X.env), (false, eval b X.env)] := by rfl) (hs2 : starEach [b] X.env = [(false, eval b X.env)] := by rfl) :
    PI X tg (.Call (.Name "range" p) [a, b] [] pos) (iRng2 ta) := by
  intro pins s σ H R I h
  refine Call_ (ld_blt I hg hm boot_range (PyProof.Rows.callWith_type1 (thn (ha pos pins s σ H _ I h) fun us s1 ⟨vs, H1, I1, r1, q1⟩ => ?_) (by rw [hs, hs2]) (by rw [hs2]; rfl)))
  obtain ⟨i, j, e, ⟨q1, q2, q3, q4⟩, q⟩ := q1
  subst e
  cases r1 with
  | cons r rr =>
    cases rr with
    | cons r' rr =>
      cases rr
      obtain ⟨t, rfl⟩ := r
      obtain ⟨t', rfl⟩ := r'
      exact call_range_2 (range_it I1 q1 q2 q3 q4 q)
def tFor (wi : TI) (g : TG) (tb : TS) : TS := fun D σ H => wi σ H fun J H1 => ∃ W : Nat → Nat → St → Hp → Prop, (∃ m, W 0 m σ H1) ∧ ∀ i m σ H, W i m σ H →
  (J.stop i H ∧ D.nx σ H) ∨ (J.go i H ∧ ∃ N : St → Hp → Prop, (∀ σ' H', N σ' H' → ∃ m', m' < m ∧ W (i + 1) m' σ' H') ∧ ∀ x H', J.yld i H x H' → g x σ H' fun σ2 H2 => tb { D with nx := N, ct := N, bk := D.nx } σ2 H2)
def pinsAt (fp : List Addr) (h : Heap) : List (Addr × Obj) := fp.filterMap fun b => (h.get? b).map fun o => (b, o)
theorem mem_pinsAt {fp : List Addr} {h : Heap} {b : Addr} {o : Obj} (hb : b ∈ fp) (e : h.get? b = some o) : (b, o) ∈ pinsAt fp h := List.mem_filterMap.mpr ⟨b, hb, by rw [e]; rfl⟩
theorem of_pinsAt {fp : List Addr} {h : Heap} {p : Addr × Obj} (hp : p ∈ pinsAt fp h) : p.1 ∈ fp ∧ h.get? p.1 = some p.2 := by
  obtain ⟨b, hb, e⟩ := List.mem_filterMap.mp hp
  cases q : h.get? b with
  | none => rw [q] at e; cases e
  | some o =>
    rw [q] at e
    have e' : (b, o) = p := Option.some.inj e
    subst e'
    exact ⟨hb, q⟩
theorem Inv.pinned {pins : List (Addr × Obj)} {σ : St} {H : Hp} {s : Shared} {fp : List Addr} (I : Inv X pins σ H s) (hf : ∀ b ∈ fp, FpOk X pins H b) (ho : ∀ b ∈ fp, ∃ o, s.heap.get? b = some o ∧ ∀ v, o.data ≠ .cell v) : Inv X (pins ++ pinsAt fp s.heap) σ H s :=
  I.pins_of fun p hp => (List.mem_append.mp hp).elim (fun z => I.pin p (List.mem_append_right _ z)) fun z => by
    obtain ⟨hb, e⟩ := of_pinsAt z
    obtain ⟨f0, f1, f2, _⟩ := hf p.1 hb
    obtain ⟨o, e', d⟩ := ho p.1 hb
    rw [e] at e'; cases e'
    exact ⟨e, f0, f1, f2, d⟩
theorem Inv.unpinned {pins pl : List (Addr × Obj)} {σ : St} {H : Hp} {s : Shared} (I : Inv X (pins ++ pl) σ H s) : Inv X pins σ H s := I.pins_of fun p hp => I.pin p (List.mem_append_right _ (List.mem_append_left _ hp))
theorem ps_for {iter : Expr} {body : List Stmt} {wi : TI} {g : TG} {tb : TS} {pos : Pos} (hp : PassesOwn (model X.prog X.w) X.A X.env X.xe) (hc : X.calm = true) (hi : PI X tg iter wi) (hg : PG X tg g) (hb : PSs X body tb)
    (hs : ∀ x, foldedSetIterable iter X.env x = pure x := by intro _; rfl) : PS X (.For tg iter body [] pos) (tFor wi g tb) := by
  intro pins s σ H D I h
  refine wpAny_For (thn (hi pins s σ H _ I h) fun v s1 h1 => thn h1 fun itv s2 h2 => ?_) hs
  obtain ⟨it, fp, tn, J, H2, e, I2, T, st2, f2, W, ⟨m0, w0⟩, turn⟩ := h2
  subst e
  -- what stays true of the iterator's objects through the loop
  have stat : ∀ {H' : Hp}, (∀ b ∈ fp, H' b = none) → ∀ b ∈ fp, FpOk X pins H' b := fun hn b hb => ⟨hn b hb, (f2 b hb).2⟩
  refine codeAny_forLoop_any (fun n s' => ∃ i σ' H', Inv X pins σ' H' s' ∧ tn i s'.heap ∧ (∀ b ∈ fp, H' b = none) ∧ W i n σ' H') ?_ m0 ⟨0, σ, H2, I2, st2, fun b hb => (f2 b hb).1, w0⟩
  rintro n s3 ⟨i, σ3, H3, I3, st3, fr3, w3⟩
  rcases turn i n σ3 H3 w3 with ⟨stop, qn⟩ | ⟨go, N, hN, step⟩
  · refine wpAny_passesOwn hp (thn (T.done X rfl rfl rfl hc i pins s3 σ3 H3 X.xe I3 (stat fr3) st3 stop) fun r s4 ⟨hr, I4⟩ => ?_)
    subst hr
    exact wpAny_execs_nil ⟨σ3, H3, I4, qn⟩
  · refine wpAny_passesOwn hp (thn (T.item X rfl rfl rfl hc i pins s3 σ3 H3 X.xe I3 (stat fr3) st3 go) fun r s4 ⟨u, hr, h4⟩ => ?_)
    subst hr
    refine wpAny_passesOwn hp (thn h4 fun _ s5 ⟨x, H5, I5, r5, y5, st5, fr5⟩ => ?_)
    have I5' := I5.pinned (stat fr5) (T.obj _ _ st5)
    refine wpAny_passesOwn hp (thn (hg _ s5 σ3 H5 x u _ I5' r5 (step x H5 y5)) fun _ s6 ⟨σ6, H6, I6, q6⟩ => ?_)
    refine wpAny_passesOwn hp (thn (hb _ s6 σ6 H6 _ I6 q6) fun f s7 q7 => ?_)
    have again : ∀ {σ7 : St} {H7 : Hp}, Inv X (pins ++ pinsAt fp s5.heap) σ7 H7 s7 → N σ7 H7 → ∃ m, m < n ∧ ∃ i σ' H', Inv X pins σ' H' s7 ∧ tn i s7.heap ∧ (∀ b ∈ fp, H' b = none) ∧ W i m σ' H' := fun {σ7 H7} I7 n7 => by
      obtain ⟨m', hm, w7⟩ := hN σ7 H7 n7
      refine ⟨m', hm, i + 1, σ7, H7, I7.unpinned, T.keep _ _ _ st5 fun b hb o e => (I7.pin (b, o) (List.mem_append_right _ (List.mem_append_right _ (mem_pinsAt hb e)))).1, fun b hb => ?_, w7⟩
      obtain ⟨o, e, d⟩ := T.obj _ _ st5 b hb
      exact (I7.pin (b, o) (List.mem_append_right _ (List.mem_append_right _ (mem_pinsAt hb e)))).2.1
    cases f with
    | next => obtain ⟨σ7, H7, I7, n7⟩ := q7; exact again I7 n7
    | cont => obtain ⟨σ7, H7, I7, n7⟩ := q7; exact again I7 n7
    | brk => obtain ⟨σ7, H7, I7, q7⟩ := q7; exact ⟨σ7, H7, I7.unpinned, q7⟩
    | ret v => obtain ⟨x7, σ7, H7, I7, r7, q7⟩ := q7; exact ⟨x7, σ7, H7, I7.unpinned, r7, q7⟩
end
end L2
namespace L2
open PySem PySem.Spec PyProof.Rows
abbrev R2 := V → V → Hp → VK → Prop
def OpR (X : Cx) (f : Value → Value → Sem Value) (r : R2) : Prop :=
  ∀ (pins : List (Addr × Obj)) (s : Shared) (σ : St) (H : Hp) (x y : V) (v u : Value) (Q : VK), Inv X pins σ H s → RelV x v → RelV y u → r x y H Q →
    wpAny (model X.prog X.w) X.A (f v u) (EP X pins σ Q) X.xe s
def CallR (X : Cx) (f : Value) (r : List V → Hp → VK → Prop) : Prop :=
  ∀ (pins : List (Addr × Obj)) (s : Shared) (σ : St) (H : Hp) (xs : List V) (us : List Value) (Q : VK), Inv X pins σ H s → Vals xs us → r xs H Q →
    wpAny (model X.prog X.w) X.A (call f us) (EP X pins σ Q) X.xe s
def tOp (r : R2) (ta tb : TE) : TE := fun σ H Q => ta σ H fun x H1 => tb σ H1 fun y H2 => r x y H2 Q
def rI (C : Int → Int → Prop) (g : Int → Int → V) : R2 := fun x y H Q => ∃ i j, x = .int i ∧ y = .int j ∧ C i j ∧ Q (g i j) H
def rI0 (g : Int → Int → V) : R2 := fun x y H Q => ∃ i j, x = .int i ∧ y = .int j ∧ Q (g i j) H
section
variable {X : Cx} {a b c : Expr} {ta tb tc : TE} {pos : Pos}
theorem binT (ha : PE X a ta) (hb : PE X b tb) {pins : List (Addr × Obj)} {s : Shared} {σ : St} {H : Hp} {R : V → V → Hp → Prop} (I : Inv X pins σ H s)
    (h : ta σ H fun x H1 => tb σ H1 fun y H2 => R x y H2) {Q : Value → Shared → Prop} {f : Value → Value → Sem Value}
    (hf : ∀ v u s2 x y H2, Inv X pins σ H2 s2 → RelV x v → RelV y u → R x y H2 → wpAny (model X.prog X.w) X.A (f v u) Q X.xe s2) :
    wpAny (model X.prog X.w) X.A (eval a X.env) (fun v s₁ => wpAny (model X.prog X.w) X.A (eval b X.env) (fun u s₂ => wpAny (model X.prog X.w) X.A (f v u) Q X.xe s₂) X.xe s₁) X.xe s := by
  refine thn (ha pins s σ H _ I h) fun v s1 ⟨x, H1, I1, r1, q1⟩ => ?_
  refine thn (hb pins s1 σ H1 _ I1 q1) fun u s2 ⟨y, H2, I2, r2, q2⟩ => ?_
  exact hf v u s2 x y H2 I2 r1 r2 q2
theorem pe_op {op : Operator} {r : R2} (ho : OpR X (binaryOp op) r) (ha : PE X a ta) (hb : PE X b tb) : PE X (.BinOp a op b pos) (tOp r ta tb) := by
  intro pins s σ H Q I h
  exact wpAny_BinOp (binT ha hb I h fun v u s2 x y H2 I2 rx ry q => ho pins s2 σ H2 x y v u Q I2 rx ry q)
theorem opI {f : Value → Value → Sem Value} {C : Int → Int → Prop} {g : Int → Int → Int}
    (rule : ∀ (i j : Int) (t u : Tok) (s : Shared) (Q : Value → Shared → Prop) (E : Value → Shared → Prop), C i j → Q (.int (g i j) s.toks) { s with toks := s.toks + 1 } → wpAny (model X.prog X.w) X.A (f (.int i t) (.int j u)) Q E s) :
    OpR X f (rI C fun i j => .int (g i j)) := by
  intro pins s σ H x y v u Q I rx ry h
  obtain ⟨i, j, rfl, rfl, hc, q⟩ := h
  obtain ⟨t, rfl⟩ := rx
  obtain ⟨t', rfl⟩ := ry
  exact rule i j t t' s _ _ hc ⟨.int (g i j), H, I.tok _, ⟨_, rfl⟩, q⟩
theorem opI0 {f : Value → Value → Sem Value} {g : Int → Int → Int}
    (rule : ∀ (i j : Int) (t u : Tok) (s : Shared) (Q : Value → Shared → Prop) (E : Value → Shared → Prop), Q (.int (g i j) s.toks) { s with toks := s.toks + 1 } → wpAny (model X.prog X.w) X.A (f (.int i t) (.int j u)) Q E s) :
    OpR X f (rI0 fun i j => .int (g i j)) := by
  intro pins s σ H x y v u Q I rx ry h
  obtain ⟨i, j, rfl, rfl, q⟩ := h
  obtain ⟨t, rfl⟩ := rx
  obtain ⟨t', rfl⟩ := ry
  exact rule i j t t' s _ _ ⟨.int (g i j), H, I.tok _, ⟨_, rfl⟩, q⟩
theorem opB0 {f : Value → Value → Sem Value} {g : Int → Int → Bool}
    (rule : ∀ (i j : Int) (t u : Tok) (s : Shared) (Q : Value → Shared → Prop) (E : Value → Shared → Prop), Q (.bool (g i j)) s → wpAny (model X.prog X.w) X.A (f (.int i t) (.int j u)) Q E s) :
    OpR X f (rI0 fun i j => .bl (g i j)) := by
  intro pins s σ H x y v u Q I rx ry h
  obtain ⟨i, j, rfl, rfl, q⟩ := h
  obtain ⟨t, rfl⟩ := rx
  obtain ⟨t', rfl⟩ := ry
  exact rule i j t t' s _ _ ⟨.bl (g i j), H, I, rfl, q⟩
def CDiv (i j : Int) : Prop := 0 < j ∧ j < 1073741824
def CPow (i j : Int) : Prop := 0 ≤ j ∧ j ≤ 1000000 ∧ i.natAbs < 2 ^ 64
def CMul (i j : Int) : Prop := (-(2 ^ 64) < i ∧ i < 2 ^ 64) ∨ (-(2 ^ 64) < j ∧ j < 2 ^ 64)
theorem CMul.ok {i j : Int} (h : CMul i j) : IntMulOk i j := by
  rcases h with ⟨h1, h2⟩ | ⟨h1, h2⟩
  · exact .of_left (intBits_le_64 h1 h2)
  · exact .of_right (intBits_le_64 h1 h2)
theorem op_add : OpR X (binaryOp .Add) (rI0 fun i j => .int (i + j)) := opI0 fun _ _ _ _ _ _ _ q => add_int q
theorem op_sub : OpR X (binaryOp .Sub) (rI0 fun i j => .int (i - j)) := opI0 fun _ _ _ _ _ _ _ q => sub_int q
theorem op_mul : OpR X (binaryOp .Mult) (rI CMul fun i j => .int (i * j)) := opI fun _ _ _ _ _ _ _ hc q => mul_int q hc.ok
theorem op_fdiv : OpR X (binaryOp .FloorDiv) (rI CDiv fun i j => .int (i / j)) := opI fun i j _ _ _ _ _ hc q => by
  have h1 : (0 : Int) < j := hc.1
  have h2 : j < 1073741824 := hc.2
  exact floordiv_int (by omega) (by rw [Int.fdiv_eq_ediv_of_nonneg i (by omega)]; exact q) (.inl (PyProof.noPylong_small (by omega)))
theorem op_mod : OpR X (binaryOp .Mod) (rI (fun _ j => 0 < j) fun i j => .int (i % j)) := opI fun i j _ _ _ _ _ hc q => by
  have h1 : (0 : Int) < j := hc
  exact mod_int' (by omega) (by rw [Int.fmod_eq_emod_of_nonneg i (by omega)]; exact q)
theorem op_pow : OpR X (binaryOp .Pow) (rI CPow fun i j => .int (i ^ j.toNat)) := opI fun _ _ _ _ _ _ _ hc q => pow_int_small hc.1 hc.2.1 hc.2.2 q
theorem op_shl : OpR X (binaryOp .LShift) (rI CPow fun i j => .int (i * 2 ^ j.toNat)) := opI fun _ _ _ _ _ _ _ hc q => lshift_int_small hc.1 hc.2.1 hc.2.2 q
theorem op_xor : OpR X (binaryOp .BitXor) (rI0 fun i j => .int (Builtin.bitXor i j)) := opI0 fun _ _ _ _ _ _ _ q => xor_int q
end
section
variable {X : Cx} {a b c : Expr} {ta tb tc : TE} {pos : Pos}
theorem op_lt : OpR X (compareOp .Lt) (rI0 fun i j => .bl (decide (i < j))) := opB0 fun _ _ _ _ _ _ _ q => lt_int q
theorem op_le : OpR X (compareOp .LtE) (rI0 fun i j => .bl (decide (i ≤ j))) := opB0 fun _ _ _ _ _ _ _ q => le_int q
theorem op_ge : OpR X (compareOp .GtE) (rI0 fun i j => .bl (decide (j ≤ i))) := opB0 fun _ _ _ _ _ _ _ q => ge_int q
theorem OpR.or {f : Value → Value → Sem Value} {r r' : R2} (h : OpR X f r) (h' : OpR X f r') : OpR X f (fun x y H Q => r x y H Q ∨ r' x y H Q) := by
  intro pins s σ H x y v u Q I rx ry q
  rcases q with q | q
  · exact h pins s σ H x y v u Q I rx ry q
  · exact h' pins s σ H x y v u Q I rx ry q
theorem nomark (b : Expr) {op : CmpOp} (h : op ≠ .In := by decide) (h2 : op ≠ .NotIn := by decide) : behindInMarks op b = false := by
  have e1 : (op == CmpOp.In) = false := by cases op <;> first | rfl | exact absurd rfl h
  have e2 : (op == CmpOp.NotIn) = false := by cases op <;> first | rfl | exact absurd rfl h2
  cases b <;> simp [behindInMarks, e1, e2]
theorem pe_cmpR {op : CmpOp} {r : R2} (ho : OpR X (compareOp op) r) (ha : PE X a ta) (hb : PE X b tb) (hm : behindInMarks op b = false) : PE X (.Compare a [op] [b] pos) (tOp r ta tb) := by
  intro pins s σ H Q I h
  exact wpAny_Compare1 (binT ha hb I h fun v u s2 x y H2 I2 rx ry q => ho pins s2 σ H2 x y v u Q I2 rx ry q) hm
def tTest (t : TE) : TT := fun σ H Q => t σ H fun x H' => ∃ k, x = .bl k ∧ Q k H'
theorem pt_cmpR {op : CmpOp} {r : R2} (ho : OpR X (compareOp op) r) (ha : PE X a ta) (hb : PE X b tb) (hm : behindInMarks op b = false) : PT X (.Compare a [op] [b] pos) (tTest (tOp r ta tb)) := by
  intro pins s σ H Q I h
  refine wpAny_isTrue_Compare1 (thn (ha pins s σ H _ I h) fun v s1 ⟨x, H1, I1, r1, q1⟩ => thn (hb pins s1 σ H1 _ I1 q1) fun u s2 ⟨y, H2, I2, r2, q2⟩ =>
    thn (ho pins s2 σ H2 x y v u _ I2 r1 r2 q2) fun c s3 ⟨z, H3, I3, r3, k, e, q3⟩ => ?_) hm
  subst e
  cases r3
  exact wpAny_truthy_bool ⟨H3, I3, q3⟩
def tChain (r r' : R2) (ta tb tc : TE) : TE := fun σ H Q => ta σ H fun x H1 => tb σ H1 fun y H2 => r x y H2 fun z H3 => ∃ k, z = .bl k ∧
  (if k = true then tc σ H3 fun w' H4 => r' y w' H4 Q else Q (.bl false) H3)
theorem pe_chain {op op' : CmpOp} {r r' : R2} (ho : OpR X (compareOp op) r) (ho' : OpR X (compareOp op') r') (ha : PE X a ta) (hb : PE X b tb) (hc : PE X c tc)
    (hm : lastMarks [op, op'] [b, c] = false := by with_unfolding_all rfl) : PE X (.Compare a [op, op'] [b, c] pos) (tChain r r' ta tb tc) := by
  intro pins s σ H Q I h
  refine Compare_chain (thn (ha pins s σ H _ I h) fun v s1 ⟨x, H1, I1, r1, q1⟩ => chain_link (thn (hb pins s1 σ H1 _ I1 q1) fun u s2 ⟨y, H2, I2, r2, q2⟩ =>
    thn (ho pins s2 σ H2 x y v u _ I2 r1 r2 q2) fun d s3 ⟨z, H3, I3, r3, k, e, q3⟩ => ?_)) hm
  subst e
  cases r3
  refine wpAny_truthy_bool ?_
  cases k with
  | false => exact ite_ff ⟨.bl false, H3, I3, rfl, q3⟩
  | true => exact ite_tt (chain_last (thn (hc pins s3 σ H3 _ I3 q3) fun w' s4 ⟨z', H4, I4, r4, q4⟩ => ho' pins s4 σ H4 y z' u w' Q I4 r2 r4 q4))
theorem pt_chain {op op' : CmpOp} {r r' : R2} (ho : OpR X (compareOp op) r) (ho' : OpR X (compareOp op') r') (ha : PE X a ta) (hb : PE X b tb) (hc : PE X c tc)
    (hm : lastMarks [op, op'] [b, c] = false := by with_unfolding_all rfl) : PT X (.Compare a [op, op'] [b, c] pos) (tTest (tChain r r' ta tb tc)) := by
  intro pins s σ H Q I h
  refine isTrue_chain (thn (ha pins s σ H _ I h) fun v s1 ⟨x, H1, I1, r1, q1⟩ => test_link (thn (hb pins s1 σ H1 _ I1 q1) fun u s2 ⟨y, H2, I2, r2, q2⟩ =>
    thn (ho pins s2 σ H2 x y v u _ I2 r1 r2 q2) fun d s3 ⟨z, H3, I3, r3, k, e, q3⟩ => ?_)) hm
  subst e
  cases r3
  refine wpAny_truthy_bool ?_
  cases k with
  | false =>
    obtain ⟨k', e', q'⟩ := q3
    cases e'
    exact ite_ff ⟨H3, I3, q'⟩
  | true =>
    refine ite_tt (test_last (thn (hc pins s3 σ H3 _ I3 q3) fun w' s4 ⟨z', H4, I4, r4, q4⟩ => thn (ho' pins s4 σ H4 y z' u w' _ I4 r2 r4 q4) fun d' s5 ⟨z2, H5, I5, r5, k2, e2, q5⟩ => ?_))
    subst e2
    cases r5
    exact wpAny_truthy_bool ⟨H5, I5, q5⟩
theorem line63 : (sizeLine : Nat) < 2 ^ 63 := by rw [sizeLine_eq]; decide
theorem vals1 {x : V} {us : List Value} (r : Vals [x] us) : ∃ u, us = [u] ∧ RelV x u := by
  cases r with
  | cons r1 r2 => cases r2; exact ⟨_, rfl, r1⟩
theorem vals2 {x y : V} {us : List Value} (r : Vals [x, y] us) : ∃ u w', us = [u, w'] ∧ RelV x u ∧ RelV y w' := by
  cases r with
  | cons r1 r2 =>
    cases r2 with
    | cons r3 r4 => cases r4; exact ⟨_, _, rfl, r1, r3⟩
theorem call_max2 (hc : X.calm = true) : CallR X (.builtin "max") (fun xs H Q => ∃ i j, xs = [.int i, .int j] ∧ Q (.int (if j > i then j else i)) H) := by
  intro pins s σ H xs us Q I r h
  obtain ⟨i, j, rfl, q⟩ := h
  obtain ⟨u, w', rfl, ⟨t, rfl⟩, ⟨t', rfl⟩⟩ := vals2 r
  refine max_two_ints (I.ok.hd hc) fun h' tk k => ⟨_, H, I.kept k, ?_, q⟩
  by_cases hj : j > i
  · rw [if_pos hj, if_pos hj]; exact ⟨_, rfl⟩
  · rw [if_neg hj, if_neg hj]; exact ⟨_, rfl⟩
theorem call_min2 (hc : X.calm = true) : CallR X (.builtin "min") (fun xs H Q => ∃ i j, xs = [.int i, .int j] ∧ Q (.int (if j < i then j else i)) H) := by
  intro pins s σ H xs us Q I r h
  obtain ⟨i, j, rfl, q⟩ := h
  obtain ⟨u, w', rfl, ⟨t, rfl⟩, ⟨t', rfl⟩⟩ := vals2 r
  refine min_two_ints (I.ok.hd hc) fun h' tk k => ⟨_, H, I.kept k, ?_, q⟩
  by_cases hj : j < i
  · rw [if_pos hj, if_pos hj]; exact ⟨_, rfl⟩
  · rw [if_neg hj, if_neg hj]; exact ⟨_, rfl⟩
end
end L2
namespace L2
open PySem PySem.Spec PyProof.Rows
structure ObjM (h : Heap) (x dx C : Addr) (mA : Str → Option Value) : Prop where
  obj : h.get? x = some (PySem.W.instObj C dx)
  ns : h.Ns1 dx mA
  ne : dx ≠ x
theorem lookIn_ns {h : Heap} {dx : Addr} {mA : Str → Option Value} (n : h.Ns1 dx mA) : ∃ od, h.get? dx = some od ∧ ∀ name, PySem.W.lookIn name od = some (mA name) := by
  obtain ⟨o, es, ep, ho, hd, hk, _, hm⟩ := n
  refine ⟨o, ho, fun name => ?_⟩
  have e := hm name
  unfold nsFind findBy at e
  rw [← Array.find?_toList] at e
  unfold PySem.W.lookIn
  rw [hd]
  dsimp only
  split
  · rename_i y q
    rw [q] at e
    exact congrArg some e
  · rename_i q
    rw [q] at e
    have a : es.toList.any (·.refKey) = false := by
      rw [List.any_eq_false]
      intro y hy
      obtain ⟨z, t, hkey⟩ := hk y (Array.mem_toList_iff.mp hy)
      simp [DictEntry.refKey, hkey]
    have a' : ¬ es.toList.any (·.refKey) = true := by rw [a]; exact Bool.false_ne_true
    rw [if_neg a']
    exact congrArg some e
theorem ObjM.look {h : Heap} {x dx C : Addr} {mA : Str → Option Value} (I : ObjM h x dx C mA) : ∃ od, PySem.W.InstAt h x (PySem.W.instObj C dx) C (some od) ∧ ∀ name, PySem.W.lookIn name od = some (mA name) :=
  let ⟨od, ho, hl⟩ := lookIn_ns I.ns
  ⟨od, ⟨I.obj, rfl, rfl, ho⟩, hl⟩
section
variable {prog : Program} {w : World} {A : Around} {E : Value → Shared → Prop} {s : Shared} {K : PySem.W.Frag} {x dx C f : Addr} {mA : Str → Option Value} {name : Str} {v : Value}
theorem get_map {expr : Bool} {Q : Value → Shared → Prop} (X : K.In s.heap) (I : ObjM s.heap x dx C mA) (hg : PySem.W.plainGet K C name = true) (hh : PySem.W.hasDictIn K C = true)
    (ha : PySem.W.findIn K (.ref C) name = some none) (hv : mA name = some v) (hv' : PySem.W.handedIn v = true) (h : Q v { s with toks := s.toks + 1 }) :
    wpAny (model prog w) A (getAttr (.ref x) name expr) Q E s := by
  obtain ⟨od, J, hl⟩ := I.look
  exact PySem.W.get_value X J (PySem.W.plainGet_of hg).1 (PySem.W.findObj_own hh ha rfl (by rw [hl, hv])) hv' h
end
section
variable {P : Program} {w : World} {H H' : Hp} {h h' : Heap} {a C dx : Addr} {fs fs' : List (Str × V)}
theorem ins_get (hok : HOk P w H h) (e : H a = some (.ins C dx fs)) : ∃ mA, ObjM h a dx C mA ∧ (∀ f, RelO (fs.lookup f) (mA f)) ∧ PySem.Within mA (fs.map (·.1)) ∧ fs.length ≤ 1000 ∧ H dx = some (.own a) := by
  obtain ⟨d, z, ne, ob, mA, n, r, q⟩ := (show ObjOk P w H h a (.ins C dx fs) from hok a _ e)
  exact ⟨mA, ⟨ob, n, ne⟩, r, q, z, d⟩
end
structure Cls (K : PySem.W.Frag) (C : Addr) : Prop where
  pg : PySem.W.plainGet K C Str.empty = true
  hd : PySem.W.hasDictIn K C = true
  po : PySem.W.plainOver K C = true
  sa : PySem.W.findIn K (.ref C) "__setattr__" = some (some (.builtin "object.__setattr__"))
theorem Cls.get {K : PySem.W.Frag} {C : Addr} (c : Cls K C) (f : Str) : PySem.W.plainGet K C f = true := c.pg
structure Con (K : PySem.W.Frag) (C : Addr) (f : Str) (v : V) (u : Value) : Prop where
  at_ : PySem.W.findIn K (.ref C) f = some (some u)
  rel : RelV v u
  get : PySem.W.specialIn K u "__get__" = some none
  cp : PySem.W.copiedNames.contains f = false
structure Meth (K : PySem.W.Frag) (C : Addr) (m : Str) (f : Addr) : Prop where
  at_ : PySem.W.findIn K (.ref C) m = some (some (.ref f))
  fn : PySem.W.isFn K (.ref f) = true
  kp : PySem.W.keepIn K (.ref f) = true
section
variable {X : Cx} {pins : List (Addr × Obj)} {σ : St} {H : Hp} {s : Shared} {a C dx : Addr} {fs : List (Str × V)} {f : Str} {v : V} {A : Around} {E : Value → Shared → Prop}
end
section
variable {X : Cx} {o e value : Expr} {f : Str} {pos pos' tpos : Pos} {ta tv : TE}
end
section
variable {X : Cx} {pins : List (Addr × Obj)} {σ : St} {H : Hp} {s : Shared} {A : Around} {E : Value → Shared → Prop} {Q : Value → Shared → Prop} {c : Value} {b : Bool}
inductive TyOf (K : PySem.W.Frag) (H : Hp) : V → Value → Prop where
  | non : TyOf K H .non (.type "NoneType")
  | bl (x : Bool) : TyOf K H (.bl x) (.type "bool")
  | int (i : Int) : TyOf K H (.int i) (.type "int")
  | str (x : Str) : TyOf K H (.str x) (.type "str")
  | flt (x : UInt64) : TyOf K H (.flt x) (.type "float")
  | lst {a : Addr} {xs : List V} (e : H a = some (.lst xs)) : TyOf K H (.ref a) (.type "list")
  | frz {a : Addr} {o : Obj} {xs : List V} (e : H a = some (.frz o (.lst xs))) : TyOf K H (.ref a) (.type "list")
  | tup {a : Addr} {xs : List V} (e : H a = some (.tup xs)) : TyOf K H (.ref a) (.type "tuple")
  | dK {a : Addr} {kvs : List (Key × V)} (e : H a = some (.dK kvs)) : TyOf K H (.ref a) (.type "dict")
  | dT {a : Addr} {kvs : List (List Key × V)} (e : H a = some (.dT kvs)) : TyOf K H (.ref a) (.type "dict")
  | ins {a C dx : Addr} {fs : List (Str × V)} (e : H a = some (.ins C dx fs)) (cl : Cls K C) (ha : PySem.W.findIn K (.ref C) "__class__" = some (some (.builtin "object.__class__")))
      (hn : PySem.W.specialIn K (.builtin "object.__class__") "__get__" = some (some (.builtin "getset_descriptor.__get__"))) (htk : PySem.W.takesIn K (.builtin "object.__class__") = some true)
      (hm : PySem.W.mroIn K C (.type "object") = some true) : TyOf K H (.ref a) (.ref C)
theorem isinst_ok {x : V} {u t : Value} (I : Inv X pins σ H s) (rx : RelV x u) (ty : TyOf X.K H x t) (e : PySem.W.kitOne X.K t c = some b) (h : ∀ tk, Q (.bool b) { s with toks := tk }) :
    wpAny (model X.prog X.w) A (call (.builtin "isinstance") [u, c]) Q E s := by
  cases ty with
  | non => cases (show u = Value.none from rx); exact PySem.W.kia_one PySem.W.kitx_none I.kIn True.intro e (fun z => nomatch z) h
  | bl y => cases (show u = Value.bool y from rx); exact PySem.W.kia_one PySem.W.kitx_bool I.kIn True.intro e (fun z => nomatch z) h
  | int i => obtain ⟨t, q⟩ := (show ∃ t, u = Value.int i t from rx); cases q; exact PySem.W.kia_one PySem.W.kitx_int I.kIn True.intro e (fun z => nomatch z) h
  | str y => obtain ⟨t, q⟩ := (show ∃ t, u = Value.str y t from rx); cases q; exact PySem.W.kia_one PySem.W.kitx_str I.kIn True.intro e (fun z => nomatch z) h
  | flt y => obtain ⟨t, q⟩ := (show ∃ t, u = Value.float y t from rx); cases q; exact PySem.W.kia_one PySem.W.kitx_float I.kIn True.intro e (fun z => nomatch z) h
  | @lst a xs ea =>
    cases (show u = Value.ref a from rx)
    obtain ⟨_, _, n, _, h1⟩ := (show ObjOk X.prog X.w H s.heap a (.lst xs) from I.hok a _ ea)
    exact PySem.W.kia_one PySem.W.kitx_list I.kIn ⟨_, h1, rfl⟩ e (fun z => nomatch z) h
  | @frz a ob xs ea =>
    cases (show u = Value.ref a from rx)
    obtain ⟨_, _, _, n, _, h1⟩ := (show ObjOk X.prog X.w H s.heap a (.frz ob (.lst xs)) from I.hok a _ ea)
    exact PySem.W.kia_one PySem.W.kitx_list I.kIn ⟨_, h1, rfl⟩ e (fun z => nomatch z) h
  | @tup a xs ea =>
    cases (show u = Value.ref a from rx)
    obtain ⟨_, _, _, p⟩ := (show ObjOk X.prog X.w H s.heap a (.tup xs) from I.hok a _ ea)
    obtain ⟨o, h1, h2, _⟩ := p
    exact PySem.W.kia_one PySem.W.kitx_tuple I.kIn ⟨o, h1, h2⟩ e (fun z => nomatch z) h
  | @dK a kvs ea =>
    cases (show u = Value.ref a from rx)
    obtain ⟨_, _, vs, _, p⟩ := (show ObjOk X.prog X.w H s.heap a (.dK kvs) from I.hok a _ ea)
    obtain ⟨o, es, ep, h1, h2, _⟩ := p
    exact PySem.W.kia_one PySem.W.kitx_dict I.kIn ⟨o, h1, h2.1⟩ e (fun z => nomatch z) h
  | @dT a kvs ea =>
    cases (show u = Value.ref a from rx)
    obtain ⟨_, _, xs, _, o, es, ep, h1, h2, _⟩ := (show ObjOk X.prog X.w H s.heap a (.dT kvs) from I.hok a _ ea)
    exact PySem.W.kia_one PySem.W.kitx_dict I.kIn ⟨o, h1, h2.1⟩ e (fun z => nomatch z) h
  | @ins a C dx fs ea cl ha hn htk hm =>
    cases (show u = Value.ref a from rx)
    obtain ⟨mA, O, _⟩ := ins_get I.hok ea
    obtain ⟨od, J, _⟩ := O.look
    exact PySem.W.kia_one (PySem.W.kitx_own (cl.get _) cl.hd ha hn htk hm) I.kIn J e (fun z => nomatch z) h
end
end L2
namespace L2
open PySem PySem.Spec PyProof.Rows
structure Room (k : Nat) (A : Around) : Prop where
  hd : A.handled = none
  dp : A.depth + 3 * k + 5 < recursionLimit
  un : A.units + 16 * k + 200 < cLine
theorem Room.mono {j k : Nat} {A : Around} (r : Room k A) (h : j ≤ k) : Room j A := ⟨r.hd, by have := r.dp; omega, by have := r.un; omega⟩
theorem Room.deeper {k : Nat} {A : Around} (r : Room (k + 1) A) (env : Env) : Room k (A.deeper env) :=
  ⟨r.hd, by have := r.dp; show A.depth + 1 + 3 * k + 5 < _; omega, by have := r.un; show A.units + 3 + 16 * k + 200 < _; omega⟩
theorem Room.in1 {k : Nat} {A : Around} (r : Room (k + 1) A) : Room k A.in1 :=
  ⟨r.hd, by have := r.dp; show A.depth + 3 * k + 5 < _; omega, by have := r.un; show A.units + 1 + 16 * k + 200 < _; omega⟩
theorem Room.depth {k : Nat} {A : Around} (r : Room k A) : A.depth < recursionLimit := by have := r.dp; omega
theorem Room.units {k : Nat} {A : Around} (r : Room k A) : A.units + 64 < cLine := by have := r.un; omega
def tNil : TA := fun _ H Q => Q [] H
def tCons (ta : TE) (tr : TA) : TA := fun σ H Q => ta σ H fun x H1 => tr σ H1 fun xs H2 => Q (x :: xs) H2
section
variable {X : Cx} {e : Expr} {es : List Expr} {te : TE} {t : TA} {pos : Pos}
theorem pa_nil : PA X [] tNil := fun _ _ _ _ H Q I h => Calls.spliced_nil ⟨[], H, I, .nil, h⟩
theorem pa_cons (ha : PE X e te) (hr : PA X es t) (hs : starEach (e :: es) X.env = (false, eval e X.env) :: starEach es X.env := by rfl) : PA X (e :: es) (tCons te t) := by
  intro pos pins s σ H Q I h
  rw [hs]
  show wpAny _ _ (spliced ((false, eval e X.env) :: backTo pos (starEach es X.env))) _ _ s
  refine Calls.spliced_cons (thn (ha pins s σ H _ I h) fun u s1 ⟨x, H1, I1, r1, q1⟩ => ?_)
  exact thn (hr pos pins s1 σ H1 _ I1 q1) fun us s2 ⟨xs, H2, I2, r2, q2⟩ => ⟨x :: xs, H2, I2, .cons r1 r2, q2⟩
def tTup (t : TA) : TE := fun σ H Q => t σ H fun xs H1 => xs.length ≤ sizeLine ∧ ∀ p, H1 p = none → Q (.ref p) (upd H1 p (.tup xs))
def tLst (t : TA) : TE := fun σ H Q => t σ H fun xs H1 => xs.length ≤ sizeLine ∧ ∀ p, H1 p = none → Q (.ref p) (upd H1 p (.lst xs))
theorem pe_tup {x1} (h : PA X es t) : PE X (.Tuple es x1 pos) (tTup t) := by
  intro pins s σ H Q I hq
  refine wpAny_Tuple_spliced (thn (h pos pins s σ H _ I hq) fun us s1 ⟨xs, H1, I1, r, z, q⟩ => ⟨by rw [← r.length]; exact z, ?_⟩)
  have hf : H1 s1.heap.objs.size = none := I1.hok.fresh (Nat.le_refl _)
  refine ⟨.ref s1.heap.objs.size, upd H1 s1.heap.objs.size (.tup xs), I1.laid (t' := s1.toks) (fun b u e => Heap.get?_push_of_some _ e) (Nat.le_refl _) ?_, rfl, q _ hf⟩
  exact ⟨z, us, r, ⟨_, Heap.get?_push_size _ rfl, rfl, ⟨_, rfl⟩, rfl⟩⟩
theorem pe_lst (h : PA X es t) : PE X (.List es pos) (tLst t) := by
  intro pins s σ H Q I hq
  refine wpAny_List_spliced (thn (h pos pins s σ H _ I hq) fun us s1 ⟨xs, H1, I1, r, z, q⟩ => ⟨by rw [← r.length]; exact z, ?_⟩)
  have hf : H1 s1.heap.objs.size = none := I1.hok.fresh (Nat.le_refl _)
  refine ⟨.ref s1.heap.objs.size, upd H1 s1.heap.objs.size (.lst xs), I1.laid (t' := s1.toks) (fun b u e => Heap.get?_push_of_some _ e) (Nat.le_refl _) ?_, rfl, q _ hf⟩
  exact ⟨z, us, 0, r, Heap.get?_push_size _ rfl⟩
end
abbrev Sp := List V → Hp → VK → XK → Prop
abbrev CXT := List Env → Hp → Shared → XK → Value → Shared → Prop
structure Env0 (P : Program) (w : World) (K : PySem.W.Frag) (mg : Str → Option Value) (base : Heap) (A : Around) (outer : List Env) (s : Shared) (H : Hp) : Prop where
  frames : A.frames = some outer
  mod : Mod K mg base
  bs : ∀ b o, base.get? b = some o → s.heap.get? b = some o ∧ H b = none
  bsz : base.objs.size ≤ s.heap.objs.size
  funs : s.heap.FunFrames base outer
  frf : ∀ b ∈ frs outer, H b = none
  hok : HOk P w H s.heap
  bare : AllBare s.gens
  tb : TabsOk K H
def CE (outer : List Env) (P : Program) (w : World) (H : Hp) (s : Shared) (Q : VK) (u : Value) (s' : Shared) : Prop :=
  ∃ v H', s'.os = s.os ∧ AllBare s'.gens ∧ Un (frs outer) [] H H' s.heap s'.heap ∧ HOk P w H' s'.heap ∧ RelV v u ∧ Q v H'
def CR (CX : CXT) (outer : List Env) (P : Program) (w : World) (H : Hp) (s : Shared) (Q : VK) (E : XK) (r : Result) (s' : Shared) : Prop :=
  match r with
  | .ok (.ret u) => CE outer P w H s Q u s'
  | .ok _ => False
  | .error e => CX outer H s E e s'
structure FnOk (P : Program) (w : World) (K : PySem.W.Frag) (mg : Str → Option Value) (base : Heap) (CX : CXT) (k : Nat) (f : Addr) (fd : FuncData) (ps : List Str) (sp : Sp) : Prop where
  len : ∀ vs H Q E, sp vs H Q E → vs.length = ps.length
  run : ∀ (A : Around) (outer : List Env) (s : Shared) (H : Hp) (args : Args) (us : List Value) (vs : List V) (Q : VK) (E : XK), Room k A → Env0 P w K mg base A outer s H → BindsTo s fd args (ps.zip us) → Vals vs us → sp vs H Q E →
    codeAny (model P w) A (.call (.ref f) args) (CR CX outer P w H s Q E) s
theorem FnOk.mono {P : Program} {w : World} {K : PySem.W.Frag} {mg : Str → Option Value} {base : Heap} {CX : CXT} {j k : Nat} {f : Addr} {fd : FuncData} {ps : List Str} {sp : Sp} (F : FnOk P w K mg base CX j f fd ps sp) (h : j ≤ k) :
    FnOk P w K mg base CX k f fd ps sp := ⟨F.len, fun A outer s H args us vs Q E hr => F.run A outer s H args us vs Q E (hr.mono h)⟩
theorem FnOk.imp {P : Program} {w : World} {K : PySem.W.Frag} {mg : Str → Option Value} {base : Heap} {CX : CXT} {k : Nat} {f : Addr} {fd : FuncData} {ps : List Str} {sp sp' : Sp} (F : FnOk P w K mg base CX k f fd ps sp)
    (h : ∀ vs H Q E, sp' vs H Q E → sp vs H Q E) : FnOk P w K mg base CX k f fd ps sp' :=
  ⟨fun vs H Q E q => F.len vs H Q E (h _ _ _ _ q), fun A outer s H args us vs Q E hr he hb hv hs => F.run A outer s H args us vs Q E hr he hb hv (h _ _ _ _ hs)⟩
theorem Env0.in1 {P : Program} {w : World} {K : PySem.W.Frag} {mg : Str → Option Value} {base : Heap} {A : Around} {outer : List Env} {s : Shared} {H : Hp} (e : Env0 P w K mg base A outer s H) :
    Env0 P w K mg base A.in1 outer s H := ⟨e.frames, e.mod, e.bs, e.bsz, e.funs, e.frf, e.hok, e.bare, e.tb⟩
section
variable {X : Cx} {pins : List (Addr × Obj)} {σ : St} {H : Hp} {s s' : Shared}
theorem Inv.env0 (I : Inv X pins σ H s) : Env0 X.prog X.w X.K X.mg X.base X.A X.stack s H :=
  ⟨I.ok.frames, I.ok.mod, I.bs, Nat.le_trans I.ok.bsz I.sz, I.stack, I.stkFree, I.hok, I.bare, I.tabs⟩
theorem Inv.after {Q : VK} {u : Value} (I : Inv X pins σ H s) (h : CE X.stack X.prog X.w H s Q u s') : EP X pins σ Q u s' := by
  obtain ⟨v, H', os, bare, un, hok, r, q⟩ := h
  obtain ⟨hh, g, d, t, os'⟩ := s'
  obtain rfl : os' = s.os := os
  exact ⟨v, H', I.call (h' := hh) (g' := g) (d' := d) (t' := t) (ch := []) un hok bare (fun b z => absurd z (by simp)), r, q⟩
end
def tCall (sp : Sp) (dvs : List V) (E : XK) (t : TA) : TE := fun σ H Q => t σ H fun vs H1 => sp (vs ++ dvs) H1 Q E
def Binds (K : PySem.W.Frag) (fd : FuncData) (ps : List Str) (ds : List Value) : Prop :=
  ∀ (s : Shared) (us : List Value), K.In s.heap → (us ++ ds).length = ps.length → BindsTo s fd ⟨us, []⟩ (ps.zip (us ++ ds))
theorem Binds.all {K : PySem.W.Frag} {fd : FuncData} {ps : List Str} (h : ∀ us : List Value, us.length = ps.length → bindArgs fd ⟨us, []⟩ = pure (ps.zip us)) : Binds K fd ps [] := fun s us _ hl => by
  rw [List.append_nil] at hl ⊢
  exact .of_eq (h us hl)
def Passes (CX : CXT) (X : Cx) (E : XK) : Prop := ∀ (pins : List (Addr × Obj)) (σ : St) (H : Hp) (s : Shared) (e : Value) (s' : Shared), Inv X pins σ H s → CX X.stack H s E e s' → X.xe e s'
section
variable {X : Cx} {CX : CXT} {k : Nat} {f C : Addr} {fd : FuncData} {ps : List Str} {sp : Sp} {dvs : List V} {ds : List Value} {E : XK} {x m : Str} {p pos apos : Pos} {e o : Expr} {es : List Expr} {ta : TE} {t : TA}
theorem run_fn {pins : List (Addr × Obj)} {σ : St} {H : Hp} {s : Shared} {Q : VK} {us : List Value} {vs : List V} (F : FnOk X.prog X.w X.K X.mg X.base CX k f fd ps sp) (hr : Room k X.A) (hb : Binds X.K fd ps ds) (hd : Vals dvs ds) (hx : Passes CX X E)
    (I : Inv X pins σ H s) (r : Vals vs us) (h : sp (vs ++ dvs) H Q E) : wpAny (model X.prog X.w) X.A (call (.ref f) us) (EP X pins σ Q) X.xe s := by
  have r2 : Vals (vs ++ dvs) (us ++ ds) := r.append hd
  have hl : (us ++ ds).length = ps.length := by rw [← r2.length]; exact F.len _ _ _ _ h
  refine wpAny_call (codeAny_mono (F.run X.A X.stack s H ⟨us, []⟩ (us ++ ds) (vs ++ dvs) Q E hr I.env0 (hb s us I.kIn hl) r2 h) fun r s' hq => ?_)
  cases r with
  | error e => exact hx pins σ H s e s' I hq
  | ok fl =>
    cases fl with
    | ret u => exact I.after hq
    | next => exact False.elim hq
    | brk => exact False.elim hq
    | cont => exact False.elim hq
theorem pe_call (F : FnOk X.prog X.w X.K X.mg X.base CX k f fd ps sp) (hr : Room k X.A) (hg : Gl X x) (hm : X.mg x = some (.ref f)) (hk : PySem.W.keepIn X.K (.ref f) = true) (hb : Binds X.K fd ps ds) (hd : Vals dvs ds) (hx : Passes CX X E)
    (ha : PA X (e :: es) t) (hdb : (x == ("__debug__" : Str)) = false := by decide) (he : starEach (e :: es) X.env = (false, eval e X.env) :: starEach es X.env := by rfl) (hpl : (backTo pos (starEach es X.env)).any (·.1) = false := by rfl) :
    PE X (.Call (.Name x p) (e :: es) [] pos) (tCall sp dvs E t) := by
  intro pins s σ H Q I h
  refine wpAny_Call_Name_kw (ld_glob I hg hm ?_ hdb)
  refine PySem.W.callWith_K (h₀ := X.base) I.ok.mod.kin hk (thn (ha pos pins s σ H _ I h) fun us s1 ⟨vs, H1, I1, r, q⟩ => ⟨I1.kIn, ?_⟩) he hpl
  exact run_fn F hr hb hd hx I1 r q
structure Mk (K : PySem.W.Frag) (C f : Addr) : Prop where
  makes : PySem.W.makesIn K C = true
  init : PySem.W.findIn K (.ref C) "__init__" = some (some (.ref f))
  fn : PySem.W.isFn K (.ref f) = true
  kp : PySem.W.keepIn K (.ref C) = true
end
section
variable {X : Cx} {CX : CXT} {k : Nat} {f C : Addr} {fd : FuncData} {ps ks : List Str} {sp : Sp} {E : XK} {x m : Str} {p pos apos kpos : Pos} {e o : Expr} {es : List Expr} {kws : List Keyword} {te ta : TE} {t tk : TA} {nm : Option Str}
structure KBinds (K : PySem.W.Frag) (fd : FuncData) (ps ks : List Str) (g : List Value → List Value → List Value) (gV : List V → List V → List V) : Prop where
  to : ∀ (s : Shared) (us ws : List Value), K.In s.heap → (g us ws).length = ps.length → BindsTo s fd ⟨us, ks.zip ws⟩ (ps.zip (g us ws))
  rel : ∀ {vs : List V} {us : List Value} {zs : List V} {ws : List Value}, Vals vs us → Vals zs ws → Vals (gV vs zs) (g us ws)
variable {g : List Value → List Value → List Value} {gV : List V → List V → List V}
end
structure FnScope (N P : List Str) (sc : Scope) : Prop where
  kind : sc.kind = .function
  co : sc.isCoroutine = false
  gen : sc.isGenerator = false
  nd : N.Nodup
  pre : N.take P.length = P
  par : ∀ x ∈ P, sc.names.lookup x = some .local ∨ sc.names.lookup x = some .cell
  nofree : ∀ y ∈ sc.names, y.2 ≠ .free
theorem bindL_out {kindOf : Str → Option NameKind} {x : Str} : ∀ {binds : List (Str × Value)} {m : Str → Option Value}, (∀ v, (x, v) ∉ binds) → bindL kindOf binds m x = m x
  | [], _, _ => rfl
  | (n, v) :: r, m, h => by
    unfold bindL
    rw [bindL_out fun w hw => h w (List.mem_cons_of_mem _ hw)]
    split
    · have : x ≠ n := by rintro rfl; exact h v List.mem_cons_self
      simp [this]
    · rfl
theorem bindC_out {kindOf : Str → Option NameKind} {x : Str} : ∀ {binds : List (Str × Value)} {m : Str → Option Value}, (∀ v, (x, v) ∉ binds) → bindC kindOf binds m x = m x
  | [], _, _ => rfl
  | (n, v) :: r, m, h => by
    unfold bindC
    rw [bindC_out fun w hw => h w (List.mem_cons_of_mem _ hw)]
    split
    · rfl
    · have : x ≠ n := by rintro rfl; exact h v List.mem_cons_self
      simp [this]
theorem bindL_get {kindOf : Str → Option NameKind} {x : Str} {v : Value} : ∀ {P : List Str} {vs : List Value} {i : Nat} {m : Str → Option Value}, P.Nodup → P[i]? = some x → vs[i]? = some v → kindOf x = some .local →
    bindL kindOf (P.zip vs) m x = some v
  | [], _, _, _, _, h, _, _ => by simp at h
  | _ :: _, [], _, _, _, _, h, _ => by simp at h
  | p :: P, w :: vs, 0, m, nd, h1, h2, hk => by
    simp at h1 h2; subst h1; subst h2
    show bindL kindOf ((p, w) :: P.zip vs) m p = _
    unfold bindL
    rw [bindL_out fun v hv => (List.nodup_cons.mp nd).1 (List.of_mem_zip hv).1, if_pos hk]
    simp
  | p :: P, w :: vs, i + 1, m, nd, h1, h2, hk => by
    show bindL kindOf ((p, w) :: P.zip vs) m x = _
    unfold bindL
    exact bindL_get (i := i) (List.nodup_cons.mp nd).2 (by simpa using h1) (by simpa using h2) hk
theorem bindC_get {kindOf : Str → Option NameKind} {x : Str} {v : Value} : ∀ {P : List Str} {vs : List Value} {i : Nat} {m : Str → Option Value}, P.Nodup → P[i]? = some x → vs[i]? = some v → kindOf x ≠ some .local →
    bindC kindOf (P.zip vs) m x = some v
  | [], _, _, _, _, h, _, _ => by simp at h
  | _ :: _, [], _, _, _, _, h, _ => by simp at h
  | p :: P, w :: vs, 0, m, nd, h1, h2, hk => by
    simp at h1 h2; subst h1; subst h2
    show bindC kindOf ((p, w) :: P.zip vs) m p = _
    unfold bindC
    rw [bindC_out fun v hv => (List.nodup_cons.mp nd).1 (List.of_mem_zip hv).1, if_neg hk]
    simp
  | p :: P, w :: vs, i + 1, m, nd, h1, h2, hk => by
    show bindC kindOf ((p, w) :: P.zip vs) m x = _
    unfold bindC
    exact bindC_get (i := i) (List.nodup_cons.mp nd).2 (by simpa using h1) (by simpa using h2) hk
def start (N : List Str) (vs : List V) : St := vs.map some ++ List.replicate (N.length - vs.length) none
def cxOf (CX : CXT) (P : Program) (w : World) (K : PySem.W.Frag) (mg : Str → Option Value) (base : Heap) (N : List Str) (qual : Str) (scope : Scope) (f : Addr) (cd : Value) (A : Around) (outer : List Env) (s : Shared) (H : Hp) (E : XK) : Cx where
  prog := P
  w := w
  K := K
  mg := mg
  base := base
  A := A.deeper (envOfC qual scope s.heap.objs.size f cd)
  N := N
  s₀ := s
  H₀ := H
  env := envOfC qual scope s.heap.objs.size f cd
  outer := outer
  stack := envOfC qual scope s.heap.objs.size f cd :: outer
  ex := []
  calm := true
  fn := fun _ => true
  pn := []
  xe := fun e s' => wpAny (model P w) (A.deeper (envOfC qual scope s.heap.objs.size f cd)) (leaving (envOfC qual scope s.heap.objs.size f cd) e) (fun _ s'' => CX outer H s E e s'') (fun e' s'' => CX outer H s E e' s'') s'
theorem cell_has {sc : Scope} {n : Nat} {x : Str} (h : sc.names.lookup x = some .cell) : ∃ c, (cellsFrom n sc.names []).lookup x = some c := by
  have q := PySem.W.cellsFrom_some sc.names n [] (.inl h)
  exact Option.isSome_iff_exists.mp q
theorem inv_start {CX : CXT} {P : Program} {w : World} {K : PySem.W.Frag} {mg : Str → Option Value} {base : Heap} {N ps : List Str} {qual : Str} {scope : Scope} {f : Addr} {cd : Value} {A : Around} {outer : List Env} {s s1 : Shared} {H : Hp} {E : XK} {us : List Value} {vs : List V}
    (S : FnScope N ps scope) (hd : A.handled = none) (e0 : Env0 P w K mg base A outer s H) (hl : vs.length = ps.length) (r : Vals vs us)
    (x : InCallC s s.heap.objs.size (bindL (envOfC qual scope s.heap.objs.size f cd).kindOf (ps.zip us) fun _ => none) (cellsFrom (s.heap.objs.size + 1) scope.names []) (bindC (envOfC qual scope s.heap.objs.size f cd).kindOf (ps.zip us) fun _ => none) s1) :
    Inv (cxOf CX P w K mg base N qual scope f cd A outer s H E) [] (start N vs) H s1 := by
  have hpl : ps.length ≤ N.length := by have := congrArg List.length S.pre; rw [List.length_take] at this; omega
  obtain ⟨h1, tk, rfl, hk⟩ := x.done
  have noA : ∀ b : Addr, b ∉ (cxOf CX P w K mg base N qual scope f cd A outer s H E).ex := fun b z => absurd (show b ∈ ([] : List Addr) from z) (by simp)
  refine ⟨⟨e0.mod, S.kind, rfl, rfl, Nat.le_refl _, fun y z c h1 h2 => ?_, fun y hy => ?_, fun y c _ h => ?_, fun _ => hd, Around.frames_deeper e0.frames, .inr ⟨rfl, rfl⟩, fun b z => absurd z (noA b), e0.bs, e0.bsz, fun b _ _ => noA b, fun b z => absurd z (noA b), e0.funs, e0.frf, e0.tb⟩,
    rfl, e0.bare, Un.kept hk, ⟨_, x.toInCall.ns, fun i y v h1 h2 h3 => ?_⟩, fun y c h => ⟨_, x.cell y c h⟩, e0.hok.fresh (Nat.le_refl _), fun y c h => ?_, fun p hp => absurd (show p ∈ ([] : List (Addr × Obj)) from hp) (by simp), e0.hok.kept hk, ?_⟩
  · exact name_of_addr x.apart (PySem.mem_of_lookup h1) (PySem.mem_of_lookup h2)
  · have hy : scope.names.lookup y = some .cell ∨ scope.names.lookup y = some .free := hy
    rcases hy with hy | hy
    · exact cell_has hy
    · exact absurd rfl (S.nofree _ (PySem.mem_of_lookup hy))
  · exact Nat.le_of_lt (x.above y c (PySem.mem_of_lookup h))
  · have hi : i < vs.length := by
      unfold start at h2
      by_cases hi : i < vs.length
      · exact hi
      · rw [List.getElem?_append_right (by simpa using hi)] at h2
        rw [List.getElem?_replicate] at h2
        split at h2 <;> cases h2
    have ha : vs[i]? = some v := by
      unfold start at h2
      rw [List.getElem?_append_left (by simpa using hi), List.getElem?_map] at h2
      cases e : vs[i]? with
      | none => rw [e] at h2; cases h2
      | some a => rw [e] at h2; cases h2; rfl
    obtain ⟨u, hu, rv⟩ := r.get ha
    have hp : ps[i]? = some y := by
      rw [← S.pre, List.getElem?_take_of_lt (by omega)]; exact h1
    have ndP : ps.Nodup := by rw [← S.pre]; exact S.nd.sublist (List.take_sublist _ _)
    refine ⟨u, rv, ?_⟩
    rcases S.par y (List.mem_of_getElem? hp) with k | k
    · exact .inl ⟨k, bindL_get ndP hp hu k⟩
    · obtain ⟨c, e⟩ := cell_has (n := s.heap.objs.size + 1) k
      refine .inr ⟨.inl k, c, e, ?_⟩
      have q := x.cell y c e
      rw [bindC_get ndP hp hu (by show scope.names.lookup y ≠ _; rw [k]; decide)] at q
      exact q
  · exact e0.hok.fresh (Nat.le_of_lt (x.above y c (PySem.mem_of_lookup h)))
  · unfold start
    show _ = N.length
    rw [List.length_append, List.length_map, List.length_replicate]
    omega
theorem fn_of {CX : CXT} {P : Program} {w : World} {K : PySem.W.Frag} {mg : Str → Option Value} {base : Heap} {k : Nat} {f : Addr} {name qual : Str} {params : Arguments} {body : List Stmt} {scope : Scope} {dV kV doc pm cdv ct oc : Value} {an od : Option Addr}
    {osl : Array (Option Value)} {N ps : List Str} {sp : Sp} (lk : K.lookup f = some ⟨oc, od, .func (PySem.W.fnOf name qual params body scope dV kV doc pm an cdv ct), osl⟩) (hcd : PySem.W.codeIn K cdv qual = true) (S : FnScope N ps scope)
    (len : ∀ vs H Q E, sp vs H Q E → vs.length = ps.length)
    (hbody : ∀ (A : Around) (outer : List Env) (s : Shared) (H : Hp) (vs : List V) (Q : VK) (E : XK), Room k (A.deeper (envOfC qual scope s.heap.objs.size f cdv)) → sp vs H Q E →
      ∃ t, PSs (cxOf CX P w K mg base N qual scope f cdv A outer s H E) body t ∧ t { nx := fun _ H' => Q .non H', rt := Q } (start N vs) H) :
    FnOk P w K mg base CX (k + 1) f (PySem.W.fnOf name qual params body scope dV kV doc pm an cdv ct) ps sp := by
  refine ⟨len, fun A outer s H args us vs Q E hr e0 hb r hsp => ?_⟩
  have hl := len _ _ _ _ hsp
  have KX : K.In s.heap := e0.mod.kin.keeps fun b o e => (e0.bs b o e).1
  have lim : s.heap.NoLimit := e0.mod.nolimit.keeps fun b o e => (e0.bs b o e).1
  have hkind : ∀ y ∈ ps.zip us, scope.names.lookup y.1 = some .local ∨ (scope.names.lookup y.1 = some .cell ∧ ((cellsFrom (s.heap.objs.size + 1) scope.names []).lookup y.1).isSome = true) := fun ⟨n, v⟩ hy => by
    rcases S.par n (List.of_mem_zip hy).1 with q | q
    · exact .inl q
    · exact .inr ⟨q, PySem.W.cellsFrom_some _ _ _ (.inl q)⟩
  refine codeAny_call_function hr.depth (KX _ _ lk) rfl S.co S.gen rfl (PySem.W.codeRec_of KX hcd) (hb _ _ _ _ ?_)
  refine wpAny_newFunctionEnv_cells S.kind hkind fun env he s1 x => ?_
  subst he
  refine ⟨lim.keeps x.toInCall.keep, codeAny_func ?_⟩
  obtain ⟨t, ht, hq⟩ := hbody A outer s H vs Q E (hr.deeper _) hsp
  have I : Inv (cxOf CX P w K mg base N qual scope f cdv A outer s H E) [] (start N vs) H s1 := inv_start S hr.hd e0 hl r x
  refine wpAny_mono (ht [] s1 (start N vs) H _ I hq) (fun fl s' hs => ?_) fun e s' hs => hs
  have fin : ∀ {σ' : St} {H' : Hp} {v : V} {u : Value}, Inv (cxOf CX P w K mg base N qual scope f cdv A outer s H E) [] σ' H' s' → RelV v u → Q v H' → CE outer P w H s Q u s' :=
    fun {σ' H' v u} J rv q => ⟨v, H', J.os, J.bare, J.base, J.hok, rv, q⟩
  cases fl with
  | ret u =>
    obtain ⟨v, σ', H', J, rv, q⟩ := hs
    exact fin J rv q
  | next =>
    obtain ⟨σ', H', J, q⟩ := hs
    exact fin (v := V.non) (u := Value.none) J rfl q
  | brk =>
    obtain ⟨_, _, _, q⟩ := hs
    exact False.elim q
  | cont =>
    obtain ⟨_, _, _, q⟩ := hs
    exact False.elim q
end L2
namespace L2
open PySem PySem.Spec PyProof.Rows
section
variable {X : Cx} {x : Str} {p pos : Pos} {e : Expr} {es : List Expr} {t : TA} {id T : String} {r : List V → Hp → VK → Prop}
def tCB (r : List V → Hp → VK → Prop) (t : TA) : TE := fun σ H Q => t σ H fun vs H1 => r vs H1 Q
theorem pe_callB (hc : CallR X (.builtin id) r) (hg : Gl X x) (hm : X.mg x = none) (hv : bootBuiltins x = some (.builtin id)) (ha : PA X (e :: es) t) (hn : x ≠ "__name__" := by decide) (hdb : (x == ("__debug__" : Str)) = false := by decide)
    (he : starEach (e :: es) X.env = (false, eval e X.env) :: starEach es X.env := by rfl) (hpl : (backTo pos (starEach es X.env)).any (·.1) = false := by rfl) : PE X (.Call (.Name x p) (e :: es) [] pos) (tCB r t) := by
  intro pins s σ H Q I h
  refine wpAny_Call_Name_kw (ld_blt I hg hm hv ?_ hn hdb)
  exact PyProof.Rows.callWith_builtin1 (thn (ha pos pins s σ H _ I h) fun us s1 ⟨vs, H1, I1, r1, q1⟩ => hc pins s1 σ H1 vs us Q I1 r1 q1) he hpl
theorem pe_callTy (hc : CallR X (.type T) r) (hg : Gl X x) (hm : X.mg x = none) (hv : bootBuiltins x = some (.type T)) (ha : PA X (e :: es) t) (hn : x ≠ "__name__" := by decide) (hdb : (x == ("__debug__" : Str)) = false := by decide)
    (he : starEach (e :: es) X.env = (false, eval e X.env) :: starEach es X.env := by rfl) (hpl : (backTo pos (starEach es X.env)).any (·.1) = false := by rfl) : PE X (.Call (.Name x p) (e :: es) [] pos) (tCB r t) := by
  intro pins s σ H Q I h
  refine wpAny_Call_Name_kw (ld_blt I hg hm hv ?_ hn hdb)
  exact PyProof.Rows.callWith_type1 (thn (ha pos pins s σ H _ I h) fun us s1 ⟨vs, H1, I1, r1, q1⟩ => hc pins s1 σ H1 vs us Q I1 r1 q1) he hpl
end
end L2
namespace HT
open PySem PyProof.Rows
section
open PySem.SeqAt
open PySem.AutoSeq1 (wpAny_loadPart')
open PySem.MeetsSeq PySem.MeetsSeq2 PySem.MeetsSeq3
end
section
variable {prog : Program} {w : World} {A : Around} {E : Value → Shared → Prop} {s : Shared}
theorem cat_tup {t b : Addr} {vs ws : List Value} {Q : Value → Shared → Prop} (ht : IsTup s.heap t vs.toArray) (hb : IsTup s.heap b ws.toArray) (hv : vs ≠ [])
    (h1 : ws = [] → Q (.ref t) s) (h2 : ws ≠ [] → Q (.ref s.heap.objs.size) { s with heap := s.heap.push { cls := .type "tuple", data := .seq (vs ++ ws).toArray } })
    (hsz : vs.length + ws.length ≤ sizeLine) : wpAny (model prog w) A (binaryOp .Add (.ref t) (.ref b)) Q E s := by
  obtain ⟨⟨cls, dd, data, sl⟩, ho, hc, n, hd⟩ := id ht
  obtain ⟨⟨cls2, dd2, data2, sl2⟩, ho2, hc2, n2, hd2⟩ := id hb
  simp only at hc hd hc2 hd2
  subst hc hd hc2 hd2
  have e : vs.toArray ++ ws.toArray = (vs ++ ws).toArray := by simp
  by_cases hw : ws = []
  · exact concat_meets ⟨_, ho, rfl⟩ ⟨_, ho2, rfl⟩ noFill_tuple_add seq_tuple_add PySem.F.slot_tuple_add PySem.F.entry_tuple_add (PySem.F.args_tuple_add_2 _ _)
      (tuple_addW1 t b vs.toArray ws.toArray n n2 dd dd2 sl sl2 (by simpa using hv) (by simp [hw])) ⟨ho, ho2, h1 hw⟩
  · refine concat_meets ⟨_, ho, rfl⟩ ⟨_, ho2, rfl⟩ noFill_tuple_add seq_tuple_add PySem.F.slot_tuple_add PySem.F.entry_tuple_add (PySem.F.args_tuple_add_2 _ _)
      (tuple_addW2 t b vs.toArray ws.toArray n n2 dd dd2 sl sl2 (by simpa using hv) (by simpa using hw) (by rw [List.size_toArray, List.size_toArray]; exact hsz)) ⟨ho, ho2, ?_⟩
    rw [e]
    exact h2 hw
end
end HT
namespace L2
open PySem PySem.Spec PyProof.Rows
abbrev TO := St → Hp → (Option Int → Hp → Prop) → Prop
theorem intsAre_of {ns : List Int} : ∀ {us : List Value}, Vals (ns.map V.int) us → IntsAre us ns := by
  induction ns with
  | nil => intro us r; rw [List.map_nil] at r; cases r; exact .nil
  | cons n ns ih =>
    intro us r
    rw [List.map_cons] at r
    cases r with
    | cons r1 r2 =>
      obtain ⟨t, e⟩ := r1
      subst e
      exact .cons n t (ih r2)
section
variable {X : Cx} {e : Expr} {te : TE} {lo hi : Option Expr} {tl th : TO} {pos p2 : Pos}
def SlR (X : Cx) (r : V → Option Int → Option Int → Hp → VK → Prop) : Prop :=
  ∀ (pins : List (Addr × Obj)) (s : Shared) (σ : St) (H : Hp) (x : V) (v vl vu : Value) (lo hi : Option Int) (sl : Addr) (Q : VK), Inv X pins σ H s → RelV x v → s.heap.IsSliceOf sl vl vu .none → IsPart vl lo → IsPart vu hi → r x lo hi H Q →
    ∃ T id, typeLookup (.type T) "__getitem__" = pure (some (.builtin id)) ∧ s.TypeIs v T ∧ wpAny (model X.prog X.w) X.A (getItem v (.ref sl)) (EP X pins σ Q) X.xe s
theorem SlR.or {r r' : V → Option Int → Option Int → Hp → VK → Prop} (h : SlR X r) (h' : SlR X r') : SlR X (fun x lo hi H Q => r x lo hi H Q ∨ r' x lo hi H Q) := by
  intro pins s σ H x v vl vu lo hi sl Q I rx hs pl pu q
  rcases q with q | q
  · exact h pins s σ H x v vl vu lo hi sl Q I rx hs pl pu q
  · exact h' pins s σ H x v vl vu lo hi sl Q I rx hs pl pu q
def rCatT (K : PySem.W.Frag) : R2 := fun x y H Q => ∃ a b xs ys, x = .ref a ∧ y = .ref b ∧ SqT K H a xs ∧ SqT K H b ys ∧ xs ≠ [] ∧ xs.length + ys.length ≤ sizeLine ∧
  (ys = [] → Q (.ref a) H) ∧ (ys ≠ [] → ∀ p, H p = none → Q (.ref p) (upd H p (.tup (xs ++ ys))))
theorem Vals.nil_iff {xs : List V} {us : List Value} (r : Vals xs us) : us = [] ↔ xs = [] := by
  cases r with
  | nil => simp
  | cons _ _ => simp
theorem op_catT : OpR X (binaryOp .Add) (rCatT X.K) := by
  intro pins s σ H x y v u Q I rx ry h
  obtain ⟨a, b, xs, ys, rfl, rfl, ha, hb, hx, hz, q1, q2⟩ := h
  cases rx
  cases ry
  obtain ⟨its, r1, p1, _⟩ := I.tuple ha
  obtain ⟨its2, r2, p2, _⟩ := I.tuple hb
  refine HT.cat_tup p1 p2 (fun z => hx (r1.nil_iff.mp z)) (fun z => ⟨.ref a, H, I, rfl, q1 (r2.nil_iff.mp z)⟩) (fun z => ?_) (by rw [← r1.length, ← r2.length]; exact hz)
  refine ⟨.ref s.heap.objs.size, _, I.laid (t' := s.toks) (o := .tup (xs ++ ys)) (fun b ob q => Heap.get?_push_of_some _ q) (Nat.le_refl _) ?_, rfl, q2 (fun w => z (r2.nil_iff.mpr w)) _ (I.hok.fresh (Nat.le_refl _))⟩
  exact ⟨by rw [List.length_append]; exact hz, _, r1.append r2, PTup.new _ _⟩
end
end L2
namespace L2
open PySem PySem.Spec PyProof.Rows
def ixN (n : Nat) (i : Int) : Option Nat := if 0 ≤ i then (if i < n then some i.toNat else none) else if -(n : Int) ≤ i then some (i + n).toNat else none
def atI {α : Type} (xs : List α) (i : Int) : Option α := (ixN xs.length i).bind fun j => xs[j]?
theorem ixN_seq {n : Nat} {i : Int} {j : Nat} (h : ixN n i = some j) : seqIndex? i n = some j ∧ j < n ∧ -(n : Int) ≤ i ∧ i < n := by
  unfold ixN at h
  by_cases h0 : 0 ≤ i
  · rw [if_pos h0] at h
    by_cases h1 : i < n
    · rw [if_pos h1] at h
      have e : i.toNat = j := Option.some.inj h
      exact ⟨by rw [seqIndex_of h0 h1, e], by omega, by omega, h1⟩
    · rw [if_neg h1] at h; cases h
  · rw [if_neg h0] at h
    by_cases h1 : -(n : Int) ≤ i
    · rw [if_pos h1] at h
      have e : (i + n).toNat = j := Option.some.inj h
      exact ⟨by rw [seqIndex_neg (by omega) h1, e], by omega, h1, by omega⟩
    · rw [if_neg h1] at h; cases h
theorem atI_get {α : Type} {xs : List α} {i : Int} {v : α} (h : atI xs i = some v) : ∃ j, seqIndex? i xs.length = some j ∧ xs[j]? = some v ∧ j < xs.length ∧ -(xs.length : Int) ≤ i ∧ i < xs.length := by
  unfold atI at h
  cases e : ixN xs.length i with
  | none => rw [e] at h; cases h
  | some j =>
    rw [e] at h
    obtain ⟨h1, h2, h3, h4⟩ := ixN_seq e
    exact ⟨j, h1, h, h2, h3, h4⟩
theorem atI_nat {α : Type} {xs : List α} {j : Nat} {v : α} (h : xs[j]? = some v) : atI xs (j : Int) = some v := by
  have hj : j < xs.length := (List.getElem?_eq_some_iff.mp h).1
  have e : ixN xs.length (j : Int) = some j := by
    unfold ixN
    rw [if_pos (by omega), if_pos (by omega)]; simp
  unfold atI; rw [e]; exact h
def PlainIx (b : Expr) : Prop := ∀ o i, subscripted b false o i = operate [o, i] (getItem o i)
def IxR (X : Cx) (r : R2) : Prop :=
  ∀ (value slice : Expr) (pins : List (Addr × Obj)) (s : Shared) (σ : St) (H : Hp) (x y : V) (v u : Value) (Q : VK), Inv X pins σ H s → RelV x v → RelV y u → r x y H Q →
    subscripted slice false v u = operate [v, u] (getItem v u) → wpAny (model X.prog X.w) X.A (subscriptTail value slice v u) (EP X pins σ Q) X.xe s
def MtR (X : Cx) (id : String) (r : V → List V → Hp → VK → Prop) : Prop :=
  ∀ (pins : List (Addr × Obj)) (s : Shared) (σ : St) (H : Hp) (x : V) (xs : List V) (v : Value) (us : List Value) (Q : VK), Inv X pins σ H s → RelV x v → Vals xs us → r x xs H Q →
    wpAny (model X.prog X.w) X.A (call (.builtin id) (v :: us)) (EP X pins σ Q) X.xe s
section
variable {X : Cx} {a b : Expr} {ta tb : TE} {pos : Pos}
theorem IxR.or {r r' : R2} (h : IxR X r) (h' : IxR X r') : IxR X (fun x y H Q => r x y H Q ∨ r' x y H Q) := by
  intro value slice pins s σ H x y v u Q I rx ry q hs
  rcases q with q | q
  · exact h value slice pins s σ H x y v u Q I rx ry q hs
  · exact h' value slice pins s σ H x y v u Q I rx ry q hs
theorem MtR.or {id : String} {r r' : V → List V → Hp → VK → Prop} (h : MtR X id r) (h' : MtR X id r') : MtR X id (fun x xs H Q => r x xs H Q ∨ r' x xs H Q) := by
  intro pins s σ H x xs v us Q I rx rs q
  rcases q with q | q
  · exact h pins s σ H x xs v us Q I rx rs q
  · exact h' pins s σ H x xs v us Q I rx rs q
theorem pe_ix {r : R2} (hr : IxR X r) (ha : PE X a ta) (hb : PE X b tb) (hs : PlainIx b) : PE X (.Subscript a b pos) (tOp r ta tb) := by
  intro pins s σ H Q I h
  exact Subscript_ (binT ha hb I h fun v u s2 x y H2 I2 rx ry q => hr a b pins s2 σ H2 x y v u Q I2 rx ry q (hs _ _))
def rIxL (K : PySem.W.Frag) : R2 := fun x y H Q => ∃ p xs i v, x = .ref p ∧ y = .int i ∧ SqL K H p xs ∧ atI xs i = some v ∧ Q v H
def rIxT (K : PySem.W.Frag) : R2 := fun x y H Q => ∃ p xs i v, x = .ref p ∧ y = .int i ∧ SqT K H p xs ∧ atI xs i = some v ∧ Q v H
theorem ix_list : IxR X (rIxL X.K) := by
  intro value slice pins s σ H x y v u Q I rx ry h hs
  obtain ⟨p, xs, i, z, rfl, rfl, hq, he, q⟩ := h
  cases rx
  obtain ⟨t, rfl⟩ := ry
  obtain ⟨its, r, pl, hz⟩ := I.list hq
  obtain ⟨j, h1, h2, h3, h4, h5⟩ := atI_get he
  obtain ⟨w, ew, rw'⟩ := r.get h2
  have hl := r.length
  have hn := line63
  have fin : EP X pins σ Q w s := ⟨z, H, I, rw', q⟩
  by_cases h0 : 0 ≤ i
  · have hj : i.toNat = j := by
      rw [seqIndex_of h0 h5] at h1
      exact Option.some.inj h1
    exact item_listR pl.isList h0 (by omega) (by rw [hj]; simpa using ew) fin hs
  · have hj : (i + (its.toArray.size : Int)).toNat = j := by
      rw [seqIndex_neg (by omega) h4] at h1
      rw [List.size_toArray, ← hl]
      exact Option.some.inj h1
    exact subscriptTail_builtinR (x := w) pl.isList.typeIs slot_list_getitem.lookup
      (wpAny_getItem_list_neg (Q := fun r s' => r = w ∧ EP X pins σ Q r s') pl.isList (by omega) (by rw [List.size_toArray] <;> omega) (by omega) (by rw [hj]; simpa using ew) ⟨rfl, fin⟩) hs
theorem ix_tup : IxR X (rIxT X.K) := by
  intro value slice pins s σ H x y v u Q I rx ry h hs
  obtain ⟨p, xs, i, z, rfl, rfl, hq, he, q⟩ := h
  cases rx
  obtain ⟨t, rfl⟩ := ry
  obtain ⟨its, r, pl, hz⟩ := I.tuple hq
  obtain ⟨j, h1, h2, h3, h4, h5⟩ := atI_get he
  obtain ⟨w, ew, rw'⟩ := r.get h2
  have hl := r.length
  have hn := line63
  have fin : EP X pins σ Q w s := ⟨z, H, I, rw', q⟩
  exact subscriptTail_builtinR (x := w) pl.typeIs slot_tuple_getitem.lookup
    (getItem_tuple (j := j) (Q := fun r s' => r = w ∧ EP X pins σ Q r s') pl (by omega) (by omega) (by rw [List.size_toArray, ← hl]; exact h1) (by simpa using ew) ⟨rfl, fin⟩) hs
theorem mapSeq_set (its : List Value) (n j : Nat) (u : Value) : Obj.mapSeq (·.setIfInBounds j u) { cls := .type "list", data := .seq its.toArray n } = { cls := .type "list", data := .seq (its.set j u).toArray n } := by
  simp [Obj.mapSeq]
theorem Inv.lst {pins : List (Addr × Obj)} {σ : St} {H : Hp} {s : Shared} {p : Addr} {xs : List V} (I : Inv X pins σ H s) (h : H p = some (.lst xs)) :
    ∃ (its : List Value) (n : Nat), Vals xs its ∧ s.heap.get? p = some { cls := .type "list", data := .seq its.toArray n } ∧ xs.length ≤ sizeLine := by
  obtain ⟨z, its, n, r, e⟩ := I.hok p _ h
  exact ⟨its, n, r, e, z⟩
theorem Inv.lstUpd {pins : List (Addr × Obj)} {σ : St} {H : Hp} {s : Shared} {p : Addr} {xs ys : List V} {its its' : List Value} {n n' : Nat} {f : Obj → Obj} (I : Inv X pins σ H s) (h : H p = some (.lst xs))
    (ho : s.heap.get? p = some { cls := .type "list", data := .seq its.toArray n }) (hf : f { cls := .type "list", data := .seq its.toArray n } = { cls := .type "list", data := .seq its'.toArray n' }) (r : Vals ys its') (hz : ys.length ≤ sizeLine) (t : Nat) :
    Inv X pins σ (upd H p (.lst ys)) { s with heap := s.heap.update p f, toks := t } := by
  have e : (s.heap.update p f).get? p = some { cls := .type "list", data := .seq its'.toArray n' } := by
    rw [Heap.get?_update_self f ho (by rw [hf] <;> rfl), hf]
  refine I.write (x := p) (e := p) (by rw [h]; trivial) (.inl rfl) (fun b u hb q => (Heap.get?_update_other _ _ (Ne.symm hb)).trans q) ⟨_, e⟩ ?_
  exact ⟨hz, its', n', r, e⟩
def rSetL : V → V → V → Hp → (Hp → Prop) → Prop := fun o i v H Q => ∃ p xs k j, o = .ref p ∧ i = .int k ∧ H p = some (.lst xs) ∧ ixN xs.length k = some j ∧ Q (upd H p (.lst (xs.set j v)))
theorem set_list : PSet X rSetL := by
  intro pins s σ H o i v ov iv u Q I ro ri rv h
  obtain ⟨p, xs, k, j, rfl, rfl, hp, hj, q⟩ := h
  cases ro
  obtain ⟨t, rfl⟩ := ri
  obtain ⟨its, n, r, ho, hz⟩ := I.lst hp
  obtain ⟨h1, h2, h3, h4⟩ := ixN_seq hj
  have hl := r.length
  have hn := line63
  have I' : Inv X pins σ (upd H p (.lst (xs.set j v))) { s with heap := s.heap.update p (Obj.mapSeq (·.setIfInBounds j u)) } :=
    I.lstUpd hp ho (mapSeq_set its n j u) (r.set rv j) (by rw [List.length_set]; exact hz) s.toks
  by_cases h0 : 0 ≤ k
  · have hk : k.toNat = j := by
      rw [seqIndex_of h0 h4] at h1
      exact Option.some.inj h1
    exact PySem.W.ki_setAt ho h0 (by omega) (by rw [List.size_toArray, ← hl]; exact h4) (by rw [hk]; exact ⟨_, I', q⟩)
  · have hk : (k + (its.toArray.size : Int)).toNat = j := by
      rw [seqIndex_neg (by omega) h3] at h1
      rw [List.size_toArray, ← hl]
      exact Option.some.inj h1
    exact PySem.W.ki_setBack ho (by omega) (by rw [List.size_toArray, ← hl]; exact h3) (by omega) (by rw [hk]; exact ⟨_, I', q⟩)
def flatV : V → Bool
  | .non => true
  | .bl _ => true
  | .int _ => true
  | .str _ => true
  | _ => false
def eqV : V → V → Bool
  | .non, .non => true
  | .bl a, .bl b => a == b
  | .bl a, .int b => (if a then 1 else 0) == b
  | .int a, .bl b => a == (if b then 1 else 0)
  | .int a, .int b => a == b
  | .str a, .str b => a == b
  | _, _ => false
theorem eqAt_V {A : Around} {s : Shared} {y x : V} {u v : Value} (ry : RelV y u) (rx : RelV x v) (fy : flatV y = true) (fx : flatV x = true) : SeqAt.EqAt A s u v (eqV y x) := by
  cases y with
  | non =>
    cases ry
    cases x with
    | non => cases rx; exact SeqAt.EqAt.same _
    | bl b => cases rx; exact SeqAt.EqAt.none_bool b
    | int b => obtain ⟨t, rfl⟩ := rx; exact SeqAt.EqAt.none_int b t
    | str b => obtain ⟨t, rfl⟩ := rx; exact SeqAt.EqAt.none_str b t
    | _ => exact absurd (show false = true from fx) Bool.false_ne_true
  | bl a =>
    cases ry
    cases x with
    | non => cases rx; exact SeqAt.EqAt.bool_none a
    | bl b => cases rx; exact SeqAt.EqAt.bool_bool a b
    | int b => obtain ⟨t, rfl⟩ := rx; exact SeqAt.EqAt.bool_int a b t
    | str b => obtain ⟨t, rfl⟩ := rx; exact SeqAt.EqAt.bool_str a b t
    | _ => exact absurd (show false = true from fx) Bool.false_ne_true
  | int a =>
    obtain ⟨t', rfl⟩ := ry
    cases x with
    | non => cases rx; exact SeqAt.EqAt.int_none a t'
    | bl b => cases rx; exact SeqAt.EqAt.int_bool a t' b
    | int b => obtain ⟨t, rfl⟩ := rx; exact SeqAt.EqAt.int_int a t' b t
    | str b => obtain ⟨t, rfl⟩ := rx; exact SeqAt.EqAt.int_str a t' b t
    | _ => exact absurd (show false = true from fx) Bool.false_ne_true
  | str a =>
    obtain ⟨t', rfl⟩ := ry
    cases x with
    | non => cases rx; exact SeqAt.EqAt.str_none a t'
    | bl b => cases rx; exact SeqAt.EqAt.str_bool a t' b
    | int b => obtain ⟨t, rfl⟩ := rx; exact SeqAt.EqAt.str_int a t' b t
    | str b => obtain ⟨t, rfl⟩ := rx; exact SeqAt.EqAt.str_str a t' b t
    | _ => exact absurd (show false = true from fx) Bool.false_ne_true
  | _ => exact absurd (show false = true from fy) Bool.false_ne_true
theorem call_len_seq : CallR X (.builtin "len") (fun xs H Q => ∃ p ys, xs = [.ref p] ∧ (SqL X.K H p ys ∨ SqT X.K H p ys) ∧ Q (.int ys.length) H) := by
  intro pins s σ H xs us Q I r h
  obtain ⟨p, ys, rfl, hq, q⟩ := h
  obtain ⟨u, rfl, rx⟩ := vals1 r
  cases rx
  have hn := line63
  rcases hq with hq | hq
  · obtain ⟨its, r', pl, hz⟩ := I.list hq
    have hlen := r'.length
    exact Calls.call_len_list pl.isList (by simp only [List.size_toArray] <;> omega) ⟨.int ys.length, H, I.tok _, ⟨s.toks + 1, by rw [List.size_toArray, hlen]⟩, q⟩
  · obtain ⟨its, r', pl, hz⟩ := I.tuple hq
    have hlen := r'.length
    exact len_tuple pl (by simp only [List.size_toArray] <;> omega) ⟨.int ys.length, H, I.tok _, ⟨s.toks + 1, by rw [List.size_toArray, hlen]⟩, q⟩
theorem CallR.or {f : Value} {r r' : List V → Hp → VK → Prop} (h : CallR X f r) (h' : CallR X f r') : CallR X f (fun xs H Q => r xs H Q ∨ r' xs H Q) := by
  intro pins s σ H xs us Q I rs q
  rcases q with q | q
  · exact h pins s σ H xs us Q I rs q
  · exact h' pins s σ H xs us Q I rs q
theorem call_tuple_of : CallR X (.type "tuple") (fun xs H Q => ∃ p ys, xs = [.ref p] ∧ ((SqL X.K H p ys ∧ ∀ l, H l = none → Q (.ref l) (upd H l (.tup ys))) ∨ (SqT X.K H p ys ∧ Q (.ref p) H))) := by
  intro pins s σ H xs us Q I r h
  obtain ⟨p, ys, rfl, h⟩ := h
  obtain ⟨u, rfl, rx⟩ := vals1 r
  cases rx
  rcases h with ⟨hq, q⟩ | ⟨hq, q⟩
  · obtain ⟨its, r', pl, hz⟩ := I.list hq
    have hlen := r'.length
    refine call_tuple_list pl.isList (fun h' kp => ?_) (by simp only [List.size_toArray] <;> omega)
    have I1 : Inv X pins σ H { s with heap := h' } := I.kept (t' := s.toks) kp
    have I2 : Inv X pins σ (upd H h'.objs.size (.tup ys)) { s with heap := h'.push { cls := .type "tuple", data := .seq its.toArray } } :=
      I1.laid (t' := s.toks) (fun b o e => Heap.get?_push_of_some _ e) (Nat.le_refl _) (show ObjOk X.prog X.w _ _ _ (.tup ys) from ⟨hz, its, r', PTup.new _ _⟩)
    exact ⟨.ref h'.objs.size, _, I2, rfl, q _ (I1.hok.fresh (Nat.le_refl _))⟩
  · obtain ⟨its, r', pl, hz⟩ := I.tuple hq
    exact call_tuple_same pl ⟨.ref p, H, I, rfl, q⟩
def tyV (K : PySem.W.Frag) (T : String) (x : V) (H : Hp) : Prop := match x with
  | .str _ => T = "str"
  | .int _ => T = "int"
  | .ref p => (T = "list" ∧ ∃ xs, SqL K H p xs) ∨ (T = "tuple" ∧ ∃ xs, SqT K H p xs) ∨
      (T = "dict" ∧ ((∃ kvs, H p = some (.dK kvs)) ∨ ∃ kvs, H p = some (.dT kvs))) ∨ (T = "set" ∧ ∃ S n, H p = some (.set S n))
  | _ => False
theorem tyV_is {pins : List (Addr × Obj)} {σ : St} {H : Hp} {s : Shared} {T : String} {x : V} {v : Value} (I : Inv X pins σ H s) (r : RelV x v) (ty : tyV X.K T x H) :
    s.TypeIs v T ∧ ∀ a, v = .ref a → ∃ ob, s.heap.get? a = some ob ∧ ob.dict = none := by
  cases x with
  | str z =>
    obtain ⟨t, rfl⟩ := r
    cases (show T = "str" from ty)
    exact ⟨typeIs_str s z t, fun _ e => nomatch e⟩
  | int i =>
    obtain ⟨t, rfl⟩ := r
    cases (show T = "int" from ty)
    exact ⟨typeIs_int s i t, fun _ e => nomatch e⟩
  | ref p =>
    cases r
    rcases ty with ⟨rfl, xs, hq⟩ | ⟨rfl, xs, hq⟩ | ⟨rfl, hk⟩ | ⟨rfl, S, n, hk⟩
    · obtain ⟨its, _, pl, _⟩ := I.list hq
      refine ⟨pl.isList.typeIs, fun a e => ?_⟩
      cases e
      obtain ⟨o, n, e, c, hd, _⟩ := pl
      exact ⟨o, e, hd⟩
    · obtain ⟨h1, o, h2, h3⟩ := I.noDict hq
      refine ⟨h1, fun a e => ?_⟩
      cases e
      exact ⟨o, h2, h3⟩
    · have z : ∃ o, s.heap.get? p = some o ∧ o.ExactDict := by
        rcases hk with ⟨kvs, hk⟩ | ⟨kvs, hk⟩
        · obtain ⟨_, _, _, _, o, _, _, e, ex, _⟩ := I.hok p _ hk
          exact ⟨o, e, ex⟩
        · obtain ⟨_, _, _, _, o, _, _, e, ex, _⟩ := I.hok p _ hk
          exact ⟨o, e, ex⟩
      obtain ⟨o, e, ex⟩ := z
      refine ⟨⟨o, e, ex.1⟩, fun a e2 => ?_⟩
      cases e2
      exact ⟨o, e, ex.2.1⟩
    · obtain ⟨o, _, _, _, e, ex, _⟩ := I.hok p _ hk
      refine ⟨⟨o, e, ex.1⟩, fun a e2 => ?_⟩
      cases e2
      exact ⟨o, e, ex.2.1⟩
  | _ => exact False.elim ty
def tBM (K : PySem.W.Frag) (T : String) (r : V → List V → Hp → VK → Prop) (to : TE) (t : TA) : TE := fun σ H Q => to σ H fun x H1 => tyV K T x H1 ∧ t σ H1 fun xs H2 => r x xs H2 Q
variable {o e : Expr} {es : List Expr} {to : TE} {t : TA} {name : Str} {apos cpos : Pos} {T id : String} {r : V → List V → Hp → VK → Prop}
theorem pe_bm (pa : PlainAttrs T) (slot : Slot T name id) (hty : typeOf (.builtin id) = pure (.type "method_descriptor")) (hm : MtR X id r) (ho : PE X o to) (ha : PA X (e :: es) t)
    (hbase : attributeBase o name X.env (eval o X.env) = eval o X.env := by rfl)
    (hfew : ((backTo cpos (starEach (e :: es) X.env)).all (fun x => !x.1) && (backToKw cpos (keywordEach [] X.env)).all (fun x => x.1.isSome)
      && decide ((e :: es).length + ([] : List Keyword).length + (if ([] : List Keyword).isEmpty then 0 else 1) < 30)) = true := by rfl)
    (hline : (apos.endLine == cpos.line) = true := by rfl) (hs : starEach (e :: es) X.env = (false, eval e X.env) :: starEach es X.env := by rfl) (hplain : (backTo cpos (starEach es X.env)).any (·.1) = false := by rfl) :
    PE X (.Call (.Attribute o name apos) (e :: es) [] cpos) (tBM X.K T r to t) := by
  intro pins s σ H Q I h
  refine wpAny_Call_method_late hbase hfew hline rfl (thn (ho pins s σ H _ I h) fun v s1 ⟨x, H1, I1, r1, ty, q1⟩ => ?_)
  obtain ⟨h1, h2⟩ := tyV_is I1 r1 ty
  refine ⟨T, id, pa, slot, hty, h1, h2, ?_⟩
  have hA := ha cpos pins s1 σ H1 _ I1 q1
  rw [hs] at hA ⊢
  refine Calls.callWith_builtin (by show (false || (backTo cpos (starEach es X.env)).any (·.1)) = false; rw [hplain] <;> rfl) (Calls.evalArgs_plain ?_)
  exact thn hA fun us s2 ⟨vs, H2, I2, r2, q2⟩ => hm pins s2 σ H2 x vs v us Q I2 r1 r2 q2
end
end L2
namespace L2
open PySem PySem.Spec PyProof.Rows
def MtM (X : Cx) (id : String) (r : V → List V → Hp → VK → Prop) : Prop :=
  ∀ (pins : List (Addr × Obj)) (s : Shared) (σ : St) (H : Hp) (x : V) (xs : List V) (v : Value) (us : List Value) (Q : VK), Inv X pins σ H s → RelV x v → Vals xs us → r x xs H Q →
    wpAny (model X.prog X.w) X.A (call (.builtin id) (v :: us)) (EP X pins σ Q) X.xe s
theorem Vals.one : ∀ {x : V} {us : List Value}, Vals [x] us → ∃ u, us = [u] ∧ RelV x u
  | _, _, .cons r .nil => ⟨_, rfl, r⟩
theorem Vals.zero : ∀ {us : List Value}, Vals [] us → us = []
  | _, .nil => rfl
theorem Vals.eraseIdx : ∀ {xs : List V} {us : List Value} (i : Nat), Vals xs us → Vals (xs.eraseIdx i) (us.eraseIdx i)
  | _, _, _, .nil => .nil
  | _, _, 0, .cons _ t => t
  | _, _, i + 1, .cons r t => .cons r (Vals.eraseIdx i t)
theorem Vals.reverse {xs : List V} {us : List Value} (h : Vals xs us) : Vals xs.reverse us.reverse := by
  induction h with
  | nil => exact .nil
  | cons r t ih => rw [List.reverse_cons, List.reverse_cons]; exact Vals.append ih (.cons r .nil)
theorem Vals.rep {xs : List V} {us : List Value} (h : Vals xs us) : ∀ k : Nat, Vals (List.replicate k xs).flatten (List.replicate k us).flatten
  | 0 => .nil
  | k + 1 => by
    rw [List.replicate_succ, List.replicate_succ, List.flatten_cons, List.flatten_cons]
    exact Vals.append h (Vals.rep h k)
theorem len_erase {α : Type} : ∀ (l : List α) (i : Nat), (l.eraseIdx i).length ≤ l.length
  | [], _ => Nat.le_refl _
  | _ :: _, 0 => Nat.le_succ _
  | _ :: r, i + 1 => Nat.succ_le_succ (len_erase r i)
theorem foldl_rep (its : List Value) : ∀ (k : Nat) (acc : List Value),
    List.foldl (fun x1 x2 => x1 ++ x2) acc.toArray (List.replicate k its.toArray) = (acc ++ (List.replicate k its).flatten).toArray
  | 0, acc => by simp
  | k + 1, acc => by
    have e : acc.toArray ++ its.toArray = (acc ++ its).toArray := by simp
    have e2 : (acc ++ its) ++ (List.replicate k its).flatten = acc ++ (List.replicate (k + 1) its).flatten := by
      rw [List.replicate_succ, List.flatten_cons, List.append_assoc]
    rw [← e2, ← foldl_rep its k (acc ++ its), ← e, List.replicate_succ, List.foldl_cons]
section
variable {X : Cx} {pins : List (Addr × Obj)} {σ : St} {H : Hp} {s : Shared} {l b : Addr} {xs ys zs : List V}
theorem Inv.lset {its its' : List Value} {n : Nat} {f : Array Value → Array Value} {t' : Nat} (I : Inv X pins σ H s) (hH : H l = some (.lst xs))
    (e : s.heap.get? l = some { cls := .type "list", data := .seq its.toArray n }) (hf : f its.toArray = its'.toArray) (hv : Vals ys its') (hz : ys.length ≤ sizeLine) :
    Inv X pins σ (upd H l (.lst ys)) { s with heap := s.heap.update l (Obj.mapSeq f), toks := t' } := by
  have q := PySem.IsL.update e f
  rw [hf] at q
  refine I.write (x := l) (e := l) (by rw [hH]; exact trivial) (.inl rfl) (fun b' u hb hu => (Heap.get?_update_other s.heap (Obj.mapSeq f) (Ne.symm hb)).trans hu) ⟨_, q⟩ ?_
  exact ⟨hz, its', _, hv, q⟩
theorem Inv.lnew {its : List Value} {t' : Nat} (I : Inv X pins σ H s) (hv : Vals ys its) (hz : ys.length ≤ sizeLine) :
    Inv X pins σ (upd H s.heap.objs.size (.lst ys)) { s with heap := s.heap.push { cls := .type "list", data := .seq its.toArray }, toks := t' } :=
  I.laid (fun _ _ q => Heap.get?_push_of_some _ q) (Nat.le_refl _) ⟨hz, its, 0, hv, Heap.get?_push_size _ rfl⟩
theorem Inv.fresh (I : Inv X pins σ H s) : H s.heap.objs.size = none := I.hok.fresh (Nat.le_refl _)
theorem Inv.lstM (I : Inv X pins σ H s) (hH : H l = some (.lst xs)) : xs.length ≤ sizeLine ∧ ∃ (its : List Value) (n : Nat), Vals xs its ∧ xs.length = its.length ∧ s.heap.get? l = some { cls := .type "list", data := .seq its.toArray n } := by
  obtain ⟨z, its, n, r, e⟩ := I.hok l _ hH
  exact ⟨z, its, n, r, r.length, e⟩
theorem notLongL {n : Nat} (h : n ≤ sizeLine) : Builtin.List.listTooLong n = false := by
  unfold Builtin.List.listTooLong
  exact decide_eq_false (by omega)
end
section
variable {X : Cx}
def rAppend : V → List V → Hp → VK → Prop := fun x vs H Q => ∃ l xs y, x = .ref l ∧ vs = [y] ∧ H l = some (.lst xs) ∧ xs.length < sizeLine ∧ Q .non (upd H l (.lst (xs ++ [y])))
theorem mt_append : MtM X "list.append" rAppend := by
  intro pins s σ H x vs v us Q I rx rv h
  obtain ⟨l, xs, y, rfl, rfl, hH, hz, q⟩ := h
  cases rx
  obtain ⟨u, rfl, ru⟩ := rv.one
  obtain ⟨z, its, n, r, hl, e⟩ := I.lstM hH
  refine call_meets F.slot_list_append ⟨_, e, rfl⟩ F.entry_list_append (F.args_list_append_2 _ _) (PySem.list_append l its.toArray n u (by rw [List.size_toArray]; omega)) ⟨e, ?_⟩
  refine ⟨.non, _, I.lset (its' := its ++ [u]) hH e (by simp) (r.append (.cons ru .nil)) ?_, rfl, q⟩
  rw [List.length_append, List.length_singleton]
  omega
def rExtend : V → List V → Hp → VK → Prop := fun x vs H Q => ∃ l b xs zs, x = .ref l ∧ vs = [.ref b] ∧ H l = some (.lst xs) ∧ H b = some (.lst zs) ∧ xs.length + zs.length ≤ sizeLine ∧ Q .non (upd H l (.lst (xs ++ zs)))
theorem mt_extend : MtM X "list.extend" rExtend := by
  intro pins s σ H x vs v us Q I rx rv h
  obtain ⟨l, b, xs, zs, rfl, rfl, hH, hB, hz, q⟩ := h
  cases rx
  obtain ⟨u, rfl, ru⟩ := rv.one
  cases ru
  obtain ⟨z, its, n, r, hl, e⟩ := I.lstM hH
  obtain ⟨z2, its2, n2, r2, hl2, e2⟩ := I.lstM hB
  have hsz : its.toArray.size + its2.toArray.size ≤ sizeLine := by rw [List.size_toArray, List.size_toArray]; omega
  have hlong : ¬ (!its.toArray.isEmpty && Builtin.List.listTooLong (its.toArray.size + its2.toArray.size)) = true := by
    rw [notLongL hsz, Bool.and_false]
    exact Bool.false_ne_true
  refine call_meets F.slot_list_extend ⟨_, e, rfl⟩ F.entry_list_extend (F.args_list_extend_2 _ _)
    (AutoSeq1.list_extend_list_list_0 l its.toArray n b its2.toArray n2 hlong (by rw [List.size_toArray]; omega) (by omega)) ⟨e, e2, ?_⟩
  refine ⟨.non, _, I.lset (its' := its ++ its2) hH e (by simp) (r.append r2) ?_, rfl, q⟩
  rw [List.length_append]
  omega
def rPopAt : V → List V → Hp → VK → Prop := fun x vs H Q => ∃ l xs i k y, x = .ref l ∧ vs = [.int i] ∧ H l = some (.lst xs) ∧ -(2 ^ 63) ≤ i ∧ i < 2 ^ 63 ∧ seqIndex? i xs.length = some k ∧ xs[k]? = some y ∧ Q y (upd H l (.lst (xs.eraseIdx k)))
theorem mt_popAt : MtM X "list.pop" rPopAt := by
  intro pins s σ H x vs v us Q I rx rv h
  obtain ⟨l, xs, i, k, y, rfl, rfl, hH, h1, h2, hk, hy, q⟩ := h
  cases rx
  obtain ⟨u, rfl, ru⟩ := rv.one
  obtain ⟨t, rfl⟩ := ru
  obtain ⟨z, its, n, r, hl, e⟩ := I.lstM hH
  obtain ⟨w, hw, rw'⟩ := r.get hy
  refine call_meets F.slot_list_pop ⟨_, e, rfl⟩ F.entry_list_pop (F.args_list_pop_2 _ _)
    (MeetsSeq.list_pop_at l its.toArray n i t k w (fitsIndex_both h1 h2) (by rw [List.size_toArray, ← hl]; exact hk) (by rw [← Array.getElem?_toList]; exact hw) (by rw [List.size_toArray]; omega)) ⟨e, ?_⟩
  refine ⟨y, _, I.lset (its' := its.eraseIdx k) hH e ?_ (r.eraseIdx k) ?_, rw', q⟩
  · show its.toArray.eraseIdxIfInBounds k = (its.eraseIdx k).toArray
    rw [List.eraseIdxIfInBounds_toArray]
  · have := len_erase xs k
    omega
def rCat : R2 := fun x y H Q => ∃ l b xs zs, x = .ref l ∧ y = .ref b ∧ H l = some (.lst xs) ∧ H b = some (.lst zs) ∧ xs.length + zs.length ≤ sizeLine ∧ ∀ p, H p = none → Q (.ref p) (upd H p (.lst (xs ++ zs)))
theorem op_cat : OpR X (binaryOp .Add) rCat := by
  intro pins s σ H x y v u Q I rx ry h
  obtain ⟨l, b, xs, zs, rfl, rfl, hH, hB, hz, q⟩ := h
  cases rx
  cases ry
  obtain ⟨z, its, n, r, hl, e⟩ := I.lstM hH
  obtain ⟨z2, its2, n2, r2, hl2, e2⟩ := I.lstM hB
  refine PySem.P.add_list e e2 ?_ (by rw [List.size_toArray, List.size_toArray]; omega)
  have ea : its.toArray ++ its2.toArray = (its ++ its2).toArray := by simp
  rw [ea]
  exact ⟨.ref _, _, I.lnew (t' := s.toks) (r.append r2) (by rw [List.length_append]; omega), rfl, q _ I.fresh⟩
def rRep : R2 := fun x y H Q => ∃ l k xs, x = .ref l ∧ y = .int k ∧ H l = some (.lst xs) ∧ -(2 ^ 63) ≤ k ∧ k < 2 ^ 63 ∧ xs.length * k.toNat ≤ sizeLine ∧
  ∀ p, H p = none → Q (.ref p) (upd H p (.lst (List.replicate k.toNat xs).flatten))
theorem len_rep {α : Type} (xs : List α) (k : Nat) : (List.replicate k xs).flatten.length = k * xs.length := by
  induction k with
  | zero => simp
  | succ k ih => rw [List.replicate_succ, List.flatten_cons, List.length_append, ih, Nat.succ_mul, Nat.add_comm]
theorem op_rep : OpR X (binaryOp .Mult) rRep := by
  intro pins s σ H x y v u Q I rx ry h
  obtain ⟨l, k, xs, rfl, rfl, hH, h1, h2, hz, q⟩ := h
  cases rx
  obtain ⟨t, rfl⟩ := ry
  obtain ⟨z, its, n, r, hl, e⟩ := I.lstM hH
  have hlen : its.toArray.size * k.toNat ≤ sizeLine := by rw [List.size_toArray, ← hl]; exact hz
  have hcap : ¬ its.toArray.size * k.toNat > (2 ^ 63 - 1) / 8 := by
    have : (sizeLine : Nat) ≤ (2 ^ 63 - 1) / 8 := by decide
    omega
  have hfit : ¬ (!Builtin.List.listFitsIndex k) = true := by
    rw [fitsIndex_both h1 h2]
    exact Bool.false_ne_true
  have hlong : ¬ Builtin.List.listTooLong (its.toArray.size * k.toNat) = true := by
    rw [notLongL hlen]
    exact Bool.false_ne_true
  have hnew : List.foldl (fun x1 x2 => x1 ++ x2) #[] (List.replicate (if its.toArray.isEmpty = true then 0 else k.toNat) its.toArray) = (List.replicate k.toNat its).flatten.toArray := by
    have f0 : ∀ m : Nat, List.foldl (fun x1 x2 => x1 ++ x2) #[] (List.replicate m its.toArray) = (List.replicate m its).flatten.toArray := fun m => by
      have := foldl_rep its m []
      rw [List.nil_append] at this
      exact this
    rw [f0]
    cases its with
    | nil => simp
    | cons a r' => rw [if_neg (by simp)]
  refine wpAny_binaryOp_repeat_ref (T := "list") (U := "int") (by decide) ⟨_, e, rfl⟩ (fun s' => typeIs_int s' k t) noFill_list_mul F.fills_int_mul F.slot_int_rmul repeat_list F.slot_int_index.lookup
    (call_meets F.slot_int_rmul (typeIs_int s k t) F.entry_int_rmul (F.args_int_rmul_2 _ _) (int___rmul___int_list k t l its.toArray n)
      ⟨e, rfl, ⟨_, e, rfl⟩, call_meets F.slot_list_mul ⟨_, e, rfl⟩ F.entry_list_mul (F.args_list_mul_2 _ _) (AutoListH.list___mul___list_int_3 l its.toArray n k t hfit hcap hlong) ⟨e, ?_⟩⟩)
  rw [hnew]
  exact ⟨.ref _, _, I.lnew (t' := s.toks) (r.rep k.toNat) (by rw [len_rep, Nat.mul_comm]; exact hz), rfl, q _ I.fresh⟩
end
section
variable {prog : Program} {w : World} {A : Around} {E : Value → Shared → Prop} {s : Shared}
theorem bounds_run {a c n : Nat} (hac : a ≤ c) (hc : c ≤ n) : sliceBounds (some (a : Int)) (some (c : Int)) none n = ((a : Int), (c : Int), 1) := by
  simp only [sliceBounds, Option.getD_none]
  have h1 : ¬ ((a : Int) < 0) := by omega
  have h2 : ¬ ((c : Int) < 0) := by omega
  simp only [h1, h2, if_false, show (1 : Int) > 0 by decide, if_true]
  congr 1
  · omega
  · congr 1; omega
set_option maxRecDepth 100000 in
theorem setItem_slice {l b sl : Addr} {items new : Array Value} {n n2 : Nat} {vl vu : Value} {a c : Nat} {Q : Unit → Shared → Prop}
    (e : s.heap.get? l = some { cls := .type "list", data := .seq items n }) (e2 : s.heap.get? b = some { cls := .type "list", data := .seq new n2 }) (hne : l ≠ b)
    (hs : s.heap.IsSliceOf sl vl vu .none) (pl : IsPart vl (some (a : Int))) (pu : IsPart vu (some (c : Int))) (hac : a ≤ c) (hc : c ≤ items.size)
    (hsz : items.size + new.size ≤ sizeLine) (h : Q () { s with heap := s.heap.update l (Obj.mapSeq fun xs => xs.extract 0 a ++ new ++ xs.extract c xs.size) }) :
    wpAny (model prog w) A (setItem (.ref l) (.ref sl) (.ref b)) Q E s := by
  have hl : s.heap.IsList l items := PySem.IsL.isList e
  have hb : s.heap.IsList b new := PySem.IsL.isList e2
  obtain ⟨os, hos, hcs, hds⟩ := id hs
  have hTs : s.TypeIs (.ref sl) "slice" := ⟨os, hos, hcs⟩
  have hstep : ¬ ((rawPart none == rawInt 0) = true) := Bool.false_ne_true
  have hsame : Builtin.List.listSameRef (.ref l) (.ref b) = false := by
    unfold Builtin.List.listSameRef
    exact beq_eq_false_iff_ne.mpr hne
  have hmax : (max (a : Int) (c : Int)).toNat = c := by omega
  have hz' : ((fun xs : Array Value => xs.extract 0 a ++ new ++ xs.extract c xs.size) items).size ≤ sizeLine + 1 := by
    simp only [Array.size_append, Array.size_extract]
    omega
  unfold setItem
  try with_reducible refine wpAny_holding ?_
  first | refine wpAny_bind (wpAny_pure ?_) | skip
  refine wpAny_bind (wpAny_sequenceKey hl.typeIs (by decide) ?_)
  refine wpAny_bind (wpAny_callSpecial?_slot (name := Str.ofString "__setitem__") hl.typeIs slot_list_setitem
    (wpAny_call_entry slot_list_setitem hl.typeIs entry_list_setitem ?_ (args_list_setitem _ _ _)))
  show wpAny _ _ (Builtin.List.listSubscript? (.ref sl) >>= _) _ _ s
  refine wpAny_bind ?_
  unfold Builtin.List.listSubscript?
  refine wpAny_bind (wpAny_specialOf hTs slice_no_index ?_)
  simp only [Option.isNone_none, if_true]
  refine wpAny_pure ?_
  show wpAny _ _ (typeOf (.ref sl) >>= _) _ _ s
  refine wpAny_bind (wpAny_typeOf hTs ?_)
  first
    | rw [if_neg (by decide)]
    | refine PySem.W.KFB.if_not (by decide) ?_
  rw [listSliceParts_eq]
  refine wpAny_bind (wpAny_bind (wpAny_field hos hds (x := .none) rfl (wpAny_bind (wpAny_listPart .none ?_))))
  rw [if_neg hstep]
  refine wpAny_bind (wpAny_field hos hds (x := vl) rfl (wpAny_bind (wpAny_listPart pl ?_)))
  refine wpAny_bind (wpAny_field hos hds (x := vu) rfl (wpAny_bind (wpAny_listPart pu (wpAny_pure ?_))))
  first
    | simp only [hsame, Bool.false_eq_true, if_false]
    | refine PySem.W.KFB.if_not hsame ?_
    | (dsimp only
       rw [if_neg (by rw [hsame]; exact Bool.false_ne_true)])
  refine wpAny_bind (m := Builtin.List.listAllItems (.ref b) "must assign iterable to extended slice") ?_
  unfold Builtin.List.listAllItems
  refine wpAny_bind (wpAny_typeOf hb.typeIs ?_)
  first
    | refine PySem.W.KFB.if_so (by decide) ?_
    | rw [if_pos (by decide)]
    | simp only [beq_self_eq_true, Bool.true_or, if_true]
  unfold Builtin.List.listItems
  refine wpAny_bind (wpAny_seqItems e2 rfl (wpAny_pure ?_))
  refine wpAny_bind (wpAny_bind (wpAny_seqItems e rfl (wpAny_pure ?_)))
  refine wpAny_bind (wpAny_of_eq ((sliceIndices_raw (some (a : Int)) (some (c : Int)) none items.size (by simp)).trans (congrArg (pure : Int × Int × Int → Sem (Int × Int × Int)) (bounds_run hac hc))) ?_)
  show wpAny _ _ (if ((1 : Int) == 1) = true then _ else _) _ _ s
  rw [if_pos (by decide)]
  refine wpAny_bind (wpAny_rule ?_)
  first
    | simp only [notLongL hsz, Bool.false_eq_true, if_false]
    | refine PySem.W.KFB.if_not (notLongL hsz) ?_
  first | refine wpAny_bind (wpAny_pure ?_) | skip
  show wpAny _ _ (updateSeq l (fun xs => xs.extract 0 ((a : Int)).toNat ++ new ++ xs.extract (max (a : Int) (c : Int)).toNat xs.size) >>= _) _ _ s
  rw [hmax, Int.toNat_natCast]
  refine wpAny_bind (wpAny_updateSeq (hz := Nat.le_trans (Nat.le_add_right _ _) hsz) (_hz' := hz') e rfl ?_)
  refine wpAny_bind (wpAny_letGo ?_)
  first
    | exact wpAny_bind (wpAny_pure (wpAny_pure ⟨.none, rfl, wpAny_pure h⟩))
    | exact wpAny_pure ⟨.none, rfl, wpAny_pure h⟩
end
section
variable {X : Cx}
end
end L2
namespace Att
open PySem PySem.W PySem.Calls PyProof.Rows
theorem ints_of_wellAll {P : Params} {h : Heap} : ∀ (ns : List Int) (vs : List Value), WellAll P h vs (ns.map WData.int) → IntsAre vs ns := by
  intro ns
  induction ns with
  | nil =>
    intro vs w
    rw [List.map_nil] at w
    cases w
    exact .nil
  | cons n ns ih =>
    intro vs w
    rw [List.map_cons] at w
    cases w with
    | cons a b =>
      cases a
      exact .cons _ _ (ih _ b)
theorem script_of {l : OpenLaw} {n : Nat} (hn : l.most = some n) {P : Params} {h : Heap} {args : List WData} {vals : List Value}
    (hpre : l.row.toRowW.claim.pre args = true) (hwl : WellAll P h vals args) :
    ∃ a vs ns, vals = [Value.ref a] ∧ args = [WData.list (ns.map WData.int)] ∧ h.get? a = some { cls := .type "list", data := .seq vs.toArray } ∧ IntsAre vs ns ∧ ns.length ≤ n := by
  have hsh : WShape.hasAll [] args [.list .int] = true := (pre_splitW hpre).1
  have hc : l.pre.holds [] { args := args } = true := (pre_splitW hpre).2
  obtain ⟨d, r, rfl, h1, h2⟩ := hasAllW_cons hsh
  obtain rfl := hasAllW_nil h2
  obtain ⟨xs, rfl, h3⟩ := hasW_list h1
  obtain ⟨ns, rfl⟩ := items_int h3
  have hlen : ns.length ≤ n := by
    unfold OpenLaw.pre at hc
    have h4 : (WTm.not (.lt (.lit (.int (n : Int))) (.len (.arg 0)))).holds [] { args := [.list (ns.map .int)] } = true := by
      have h4 := (holds_andW hc).1
      rw [hn] at h4
      exact h4
    have h5 := condW_of h4 (w_not (w_lt w_lit (w_len_list (w_arg rfl))))
    rw [List.length_map] at h5
    refine Nat.le_of_not_lt fun q => ?_
    have q' : (n : Int) < ((ns.length : Nat) : Int) := by omega
    first
      | (rw [decide_eq_true q'] at h5; exact absurd h5 (by decide))
      | (simp at h5; omega)
  cases hwl with
  | cons w1 w2 =>
    cases w2
    cases w1 with
    | list ho hall => exact ⟨_, _, ns, rfl, rfl, ho, ints_of_wellAll ns _ hall, hlen⟩
theorem post_true (l : OpenLaw) (args : List WData) : l.row.toRowW.claim.post args (.bool true) args = true :=
  postW_of (r := l.row.toRowW) (X := (true == true))
    (show WShape.has [] (.bool true) .bool = true by first | rfl | decide | simp [WShape.has, WShape.arms, WShape.armsAll])
    (show (WTm.eq .res (.lit (.bool true))).value [] { args := args, res := some (.bool true), after := args } = some (.bool (true == true)) from w_eq_bool (w_res rfl) w_lit) rfl
theorem attach_call {l : OpenLaw} {n : Nat} {q : Program} {loose : List Str} {XP : (Str → Option Value) → Heap → Prop} {YP : World → Heap → Prop} {d : DefRec}
    (hn : l.most = some n) (hdf : d.params.defaults = [])
    (call : ∀ (w : World) (s₀ s₁ : Shared) (mg mb : Str → Option Value) (fa : Addr) (o : Obj) (pm cd doc : Value) (a : Addr) (vs : List Value) (ns : List Int),
      Ground q loose [] XP w s₀ mg mb s₁.heap → YP w s₁.heap →
      s₁.heap.get? fa = some o → o.data = .func (docDef d.name d.params d.body d.scope pm cd doc) → s₁.heap.CodeRec cd d.name → mg d.name = some (.ref fa) →
      s₁.heap.get? a = some { cls := .type "list", data := .seq vs.toArray } → IntsAre vs ns → ns.length ≤ n → s₁.gens = #[] →
      codeAny (model l.prog w) callerA (.call (.ref fa) ⟨[.ref a], []⟩) (fun r s' => r = .ok (.ret (.bool true)) ∧ OldK s₁.heap s'.heap ∧ s'.os = s₁.os ∧ AllBare s'.gens) s₁) :
    WalkO q loose XP YP l.row.toRowW d [] (fun f vs => PySem.call f vs) := by
  intro w s₀ s₁ mg mb G Y fa o pm cd doc dV kV ho hd hcd hD hmg hg args vals as hpre hlay hrd hwl hlo
  obtain rfl : dV = .none := Dflts.none hD hdf
  obtain rfl : kV = .none := Dflts.noKw hD
  obtain ⟨a, vs, ns, rfl, rfl, hobj, hints, hlen⟩ := script_of hn hpre hwl
  refine enter_call (codeAny_mono (call w s₀ s₁ mg mb fa o pm cd doc a vs ns G Y ho (fd_plain hd) hcd hmg hobj hints hlen hg) fun r s' hq => ?_)
  obtain ⟨rfl, h2, h3, h4⟩ := hq
  exact ⟨.inl ⟨.bool true, .bool true, [], rfl, fun _ => rfl, .bool true, post_true l _, fun _ => ⟨List.Pairwise.nil, fun _ hm => (nomatch hm)⟩⟩, h2, h3, h4⟩
section
variable {prog : Program} {w : World} {A : Around} {E : Value → Shared → Prop} {s : Shared} {K : Frag}
end
end Att
namespace L2
open PySem PySem.Spec PyProof.Rows
theorem vals_ints : ∀ {vs : List Value} {ns : List Int}, IntsAre vs ns → Vals (ns.map V.int) vs
  | _, _, .nil => .nil
  | _, _, .cons n t h => .cons ⟨t, rfl⟩ (vals_ints h)
def Only (H : Hp) : Prop := ∀ b, H b = none ∨ (∃ o xs, H b = some (.frz o (.lst xs))) ∨ ∃ ps, H b = some (.tbl ps)
structure TabsAt (K : PySem.W.Frag) (h : Heap) (ts : List Addr) (qn : Addr → Str) : Prop where
  obj : ∀ P ∈ ts, h.get? P = some (PySem.W.tabObj #[])
  out : ∀ P ∈ ts, K.lookup P = none
  code : ∀ P ∈ ts, isCodeTable h P
  name : ∀ x ∈ lamDefs, ∀ c b, PySem.W.tabIn K x = some (c, b) → b ∈ ts ∧ qn b = x ++ ".<locals>.<lambda>"
theorem law_call {P' : Program} {w : World} {K : PySem.W.Frag} {mg mb : Str → Option Value} {CX : CXT} {k : Nat} {fa a : Addr} {fd : FuncData} {x : Str} {sp : Sp} {s₁ : Shared} {vs : List Value} {ns : List Int} {ts : List Addr} {qn : Addr → Str}
    (TB : TabsAt K s₁.heap ts qn) (KX : K.In s₁.heap) (hns : s₁.heap.Ns mainGlobals mg) (hb : s₁.heap.Ns builtinsNs mb) (hbb : ∀ x : Str, x ≠ "__name__" → mb x = bootBuiltins x) (hlim : s₁.heap.NoLimit) (hg : s₁.gens = #[])
    (ha : s₁.heap.get? a = some { cls := .type "list", data := .seq vs.toArray }) (hi : IntsAre vs ns) (hl : ns.length ≤ sizeLine) (hr : Room k callerA)
    (F : ∀ base : Heap, K.In base → base.Ns mainGlobals mg → FnOk P' w K mg base CX k fa fd [x] sp) (hbind : ∀ (s : Shared) (u : Value), BindsTo s fd ⟨[u], []⟩ [(x, u)])
    (hsp : ∀ H : Hp, Only H → SqL K H a (ns.map V.int) → sp [.ref a] H (fun v _ => v = .bl true) fun _ _ _ => False)
    (hCX : ∀ H e s', CX [] H s₁ (fun _ _ _ => False) e s' → False) :
    codeAny (model P' w) callerA (.call (.ref fa) ⟨[.ref a], []⟩) (fun r s' => r = .ok (.ret (.bool true)) ∧ OldK s₁.heap s'.heap ∧ s'.os = s₁.os ∧ AllBare s'.gens) s₁ := by
  have rv := vals_ints hi
  have lenV := hi.length
  -- from an abstract heap in which nothing but the script may be tracked
  have core : ∀ H : Hp, Only H → SqL K H a (ns.map V.int) → HOk P' w H s₁.heap → (∀ b, H b ≠ none → b = a ∨ b ∈ ts) → (H a ≠ none → K.lookup a = none) → (∀ P ∈ ts, H P = some (.tbl #[.str (qn P) 0])) →
      codeAny (model P' w) callerA (.call (.ref fa) ⟨[.ref a], []⟩) (fun r s' => r = .ok (.ret (.bool true)) ∧ OldK s₁.heap s'.heap ∧ s'.os = s₁.os ∧ AllBare s'.gens) s₁ := by
    intro H hO hS hok hA hK hT
    have base_of : ∀ {b : Addr} {o : Obj}, s₁.heap.get? b = some o → H b = none → (hidT s₁.heap H).get? b = some o := fun e n => hidT_get e n
    have noA : ∀ {b : Addr} {o : Obj} {es : Array DictEntry} {ep : Nat}, s₁.heap.get? b = some o → o.data = .dict es ep → H b = none := fun {b o es ep} e d => by
      cases q : H b with
      | none => rfl
      | some u =>
        rcases hA b (by rw [q]; simp) with e' | e'
        · subst e'
          rw [ha] at e; cases e
          have d' : Data.seq vs.toArray _ = Data.dict es ep := d
          cases d'
        · rw [TB.obj b e'] at e; cases e
          have d' : Data.fields #[] = Data.dict es ep := d
          cases d'
    have nsK : ∀ {b : Addr} {m : Str → Option Value}, s₁.heap.Ns b m → (hidT s₁.heap H).Ns b m := fun {b m} ⟨o, es, ep, e, d, r⟩ => ⟨o, es, ep, base_of e (noA e d), d, r⟩
    have hKb : K.In (hidT s₁.heap H) := fun b o e => base_of (KX b o e) (by
      cases q : H b with
      | none => rfl
      | some u =>
        rcases hA b (by rw [q]; simp) with e' | e'
        · subst e'
          rw [hK (by rw [q]; simp)] at e; cases e
        · rw [TB.out b e'] at e; cases e)
    have hM : Mod K mg (hidT s₁.heap H) := ⟨hKb, nsK hns, ⟨mb, nsK hb, hbb⟩, let ⟨mc, h1, h2⟩ := hlim; ⟨mc, nsK h1, h2⟩⟩
    have e0 : Env0 P' w K mg (hidT s₁.heap H) callerA [] s₁ H := ⟨rfl, hM, fun b o e => of_hidT e, Nat.le_of_eq (hidT_size _ _), trivial, fun b hb => absurd (show b ∈ ([] : List Addr) from hb) (by simp), hok, .of_eq hg, fun x hx c b e => by
      obtain ⟨z1, z2⟩ := TB.name x hx c b e
      exact ⟨0, by rw [← z2]; exact hT b z1⟩⟩
    refine codeAny_mono ((F _ hKb (nsK hns)).run callerA [] s₁ H ⟨[.ref a], []⟩ [.ref a] [.ref a] _ _ hr e0 (hbind s₁ (.ref a)) (.cons rfl .nil) (hsp H hO hS)) fun r s' h => ?_
    cases r with
    | error e => exact (hCX H e s' h).elim
    | ok fl =>
      cases fl with
      | next => exact False.elim h
      | brk => exact False.elim h
      | cont => exact False.elim h
      | ret u =>
        obtain ⟨v, H', os, bare, un, hok', r', q⟩ := h
        have q' : v = .bl true := q
        subst q'
        obtain rfl : u = Value.bool true := r'
        have K1 : ∀ b o, b ∉ ts → s₁.heap.get? b = some o → s'.heap.get? b = some o := fun b o hb e => by
          cases q : H b with
          | none => exact un.keep b o e q (by intro z; exact absurd (show b ∈ ([] : List Addr) from z) (by simp)) (by simp)
          | some u =>
            rcases hO b with z | ⟨ob, xs, z⟩ | ⟨ps, z⟩
            · rw [q] at z; cases z
            · have z2 := un.frzs b ob _ z
              obtain ⟨e1, _⟩ := hok b _ z
              obtain ⟨e2, _⟩ := hok' b _ z2
              rw [e] at e1; cases e1
              exact e2
            · rcases hA b (by rw [q]; simp) with e' | e'
              · obtain ⟨_, _, _, _, w1, _⟩ := hok b _ z
                rw [e', ha] at w1; cases w1
              · exact absurd e' hb
        have K2 : ∀ b, b ∈ ts → ∃ vs, s'.heap.get? b = some (PySem.W.tabObj vs) := fun b hb => by
          have z2 := un.tbls b _ (hT b hb)
          obtain ⟨_, _, vs, _, w1, _⟩ := hok' b _ z2
          exact ⟨vs, w1⟩
        refine ⟨rfl, ⟨fun b o e => ?_, fun b o e => ?_⟩, os, bare⟩
        · by_cases hb : b ∈ ts
          · obtain ⟨vs, w1⟩ := K2 b hb
            rw [TB.obj b hb] at e
            cases e
            exact .inr (.inl ⟨TB.code b hb, rfl, #[], vs, rfl, by simpa using w1⟩)
          · exact .inl (K1 b o hb e)
        · by_cases hb : b ∈ ts
          · obtain ⟨vs, w1⟩ := K2 b hb
            exact ⟨_, w1⟩
          · exact ⟨o, K1 b o hb e⟩
  have naT : ∀ P ∈ ts, P ≠ a := fun P hP z => by
    have e := TB.obj P hP
    rw [z, ha] at e; cases e
  have tok : ∀ (H : Hp), ∀ P ∈ ts, ObjOk P' w H s₁.heap P (.tbl #[.str (qn P) 0]) := fun H P hP => ⟨qn P, 0, #[], rfl, TB.obj P hP, trivial, fun pos cv e => by cases e⟩
  cases hk : K.lookup a with
  | some o =>
    -- the script is one of the module's own objects
    have e := KX a o hk
    rw [ha] at e
    cases e
    refine core (fun b => if b ∈ ts then some (.tbl #[.str (qn b) 0]) else none) (fun b => ?_) (.inr ⟨_, vs.toArray, _, hk, rfl, rfl, rfl, by rw [List.size_toArray, lenV]; exact hl, by simpa using rv⟩) (fun b u z => ?_) (fun b z => ?_) (fun z => ?_) fun P hP => if_pos hP
    · by_cases hb : b ∈ ts
      · exact .inr (.inr ⟨_, if_pos hb⟩)
      · exact .inl (if_neg hb)
    · by_cases hb : b ∈ ts
      · have z' := (if_pos hb).symm.trans z
        cases z'
        exact tok _ b hb
      · have z' := (if_neg hb).symm.trans z
        cases z'
    · by_cases hb : b ∈ ts
      · exact .inr hb
      · exact absurd (if_neg hb) z
    · by_cases hb : a ∈ ts
      · exact absurd rfl (naT a hb)
      · exact absurd (if_neg hb) z
  | none =>
    refine core (fun b => if b = a then some (.frz { cls := .type "list", data := .seq vs.toArray } (.lst (ns.map V.int))) else if b ∈ ts then some (.tbl #[.str (qn b) 0]) else none) (fun b => ?_) (.inl (.inr ⟨{ cls := .type "list", data := .seq vs.toArray }, if_pos rfl⟩)) (fun b u z => ?_) (fun b z => ?_) (fun _ => hk) fun P hP => ?_
    · by_cases hb : b = a
      · exact .inr (.inl ⟨_, _, if_pos hb⟩)
      · by_cases hb2 : b ∈ ts
        · exact .inr (.inr ⟨_, (if_neg hb).trans (if_pos hb2)⟩)
        · exact .inl ((if_neg hb).trans (if_neg hb2))
    · by_cases hb : b = a
      · have z' := (if_pos hb).symm.trans z
        cases z'
        subst hb
        exact ⟨ha, by rw [List.length_map]; exact hl, vs, _, rv, ha⟩
      · by_cases hb2 : b ∈ ts
        · have z' := ((if_neg hb).trans (if_pos hb2)).symm.trans z
          cases z'
          exact tok _ b hb2
        · have z' := ((if_neg hb).trans (if_neg hb2)).symm.trans z
          cases z'
    · by_cases hb : b = a
      · exact .inl hb
      · by_cases hb2 : b ∈ ts
        · exact .inr hb2
        · exact absurd ((if_neg hb).trans (if_neg hb2)) z
    · exact (if_neg (naT P hP)).trans (if_pos hP)
end L2
namespace L2
open PySem PySem.Spec PyProof.Rows
theorem walk_of {l : PySem.W.OpenLaw} {n k : Nat} {q : Program} {loose : List Str} {XP : (Str → Option Value) → Heap → Prop} {YP : World → Heap → Prop} {d : DefRec} {K : Params → PySem.W.Frag} {CX : World → CXT} {sp : World → Sp} {x : Str}
    (hn : l.most = some n) (hn2 : n ≤ sizeLine) (hdf : d.params.defaults = []) (hr : Room k callerA)
    (hY : ∀ (w : World) (h : Heap), YP w h → (K w.params).In h ∧ ∃ ts qn, TabsAt (K w.params) h ts qn)
    (F : ∀ (w : World) (mg : Str → Option Value) (fa : Addr) (h : Heap), (K w.params).In h → h.Ns mainGlobals mg → mg d.name = some (.ref fa) →
      ∃ fd : FuncData, (∀ (s : Shared) (u : Value), BindsTo s fd ⟨[u], []⟩ [(x, u)]) ∧
        ∀ base : Heap, (K w.params).In base → base.Ns mainGlobals mg → FnOk l.prog w (K w.params) mg base (CX w) k fa fd [x] (sp w))
    (hsp : ∀ (w : World) (H : Hp) (a : Addr) (ns : List Int), ns.length ≤ n → Only H → SqL (K w.params) H a (ns.map V.int) → sp w [.ref a] H (fun v _ => v = .bl true) fun _ _ _ => False)
    (hCX : ∀ (w : World) (H : Hp) (s : Shared) (e : Value) (s' : Shared), CX w [] H s (fun _ _ _ => False) e s' → False) :
    PySem.W.WalkO q loose XP YP l.row.toRowW d [] (fun f vs => PySem.call f vs) := by
  refine Att.attach_call hn hdf fun w s₀ s₁ mg mb fa o pm cd doc a vs ns G Y ho hd hcd hmg hobj hints hlen hg => ?_
  obtain ⟨KX, ts, qn, TB⟩ := hY w _ Y
  obtain ⟨fd, hb, hF⟩ := F w mg fa _ KX G.T.g hmg
  exact law_call TB KX G.T.g G.T.b G.T.builtins G.T.nolimit hg hobj hints (Nat.le_trans hlen hn2) hr hF hb (fun H hO hS => hsp w H a ns hlen hO hS) fun H e s' => hCX w H s₁ e s'
end L2
namespace L2
open PySem PySem.Spec PyProof.Rows
def defArgs (s : Stmt) : Arguments := match s with
  | .FunctionDef _ a _ _ _ _ _ _ _ _ => a
  | _ => { posonlyargs := [], args := [], vararg := none, kwonlyargs := [], kw_defaults := [], kwarg := none, defaults := [] }
def defBody (s : Stmt) : List Stmt := match s with
  | .FunctionDef _ _ b _ _ _ _ _ _ _ => b
  | _ => []
def defScope (s : Stmt) : Scope := match s with
  | .FunctionDef _ _ _ _ _ _ sc _ _ _ => sc
  | _ => { kind := .function, names := [], isGenerator := false, isCoroutine := false }
abbrev CX0 : CXT := fun _ _ _ _ _ _ => False
abbrev E0 : XK := fun _ _ _ => False
theorem pass0 {X : Cx} : Passes CX0 X E0 := fun _ _ _ _ _ _ _ h => h.elim
structure Fun (K : PySem.W.Frag) (x qual : Str) (st : Stmt) (f : Addr) (fd : FuncData) : Prop where
  ex : ∃ (oc : Value) (od : Option Addr) (kV doc pm : Value) (an : Option Addr) (cdv ct : Value) (osl : Array (Option Value)),
    fd = PySem.W.fnOf x qual (defArgs st) (defBody st) (defScope st) .none kV doc pm an cdv ct ∧ K.lookup f = some ⟨oc, od, .func fd, osl⟩ ∧ PySem.W.codeIn K cdv qual = true
  kp : PySem.W.keepIn K (.ref f) = true
section
variable {P : Program} {w : World} {K : PySem.W.Frag} {mg : Str → Option Value} {base : Heap}
theorem Fun.ok {x qual : Str} {st : Stmt} {f : Addr} {fd : FuncData} {N ps : List Str} {k : Nat} {sp : Sp} (F : Fun K x qual st f fd) (S : FnScope N ps (defScope st)) (len : ∀ vs H Q E, sp vs H Q E → vs.length = ps.length)
    (hbody : ∀ (cdv : Value) (A : Around) (outer : List Env) (s : Shared) (H : Hp) (vs : List V) (Q : VK) (E : XK), Room k (A.deeper (envOfC qual (defScope st) s.heap.objs.size f cdv)) → sp vs H Q E →
      ∃ t, PSs (cxOf CX0 P w K mg base N qual (defScope st) f cdv A outer s H E).nox (defBody st) t ∧ t { nx := fun _ H' => Q .non H', rt := Q } (start N vs) H) : FnOk P w K mg base CX0 (k + 1) f fd ps sp := by
  obtain ⟨oc, od, kV, doc, pm, an, cdv, ct, osl, rfl, lk, hcd⟩ := F.ex
  refine fn_of lk hcd S len fun A outer s H vs Q E hr hsp => ?_
  obtain ⟨t, h, q⟩ := hbody cdv A outer s H vs Q E hr hsp
  exact ⟨t, h.nox, q⟩
theorem Fun.binds {x qual : Str} {st : Stmt} {f : Addr} {fd : FuncData} {ps : List Str} (F : Fun K x qual st f fd)
    (h : ∀ (kV doc pm : Value) (an : Option Addr) (cdv ct : Value) (us : List Value), us.length = ps.length → bindArgs (PySem.W.fnOf x qual (defArgs st) (defBody st) (defScope st) .none kV doc pm an cdv ct) ⟨us, []⟩ = pure (ps.zip us)) : Binds K fd ps [] := by
  obtain ⟨oc, od, kV, doc, pm, an, cdv, ct, osl, rfl, lk, hcd⟩ := F.ex
  exact .all (h kV doc pm an cdv ct)
theorem fun_mk {x qual : Str} {st : Stmt} {f : Addr} {oc : Value} {od an : Option Addr} {osl : Array (Option Value)} {kV doc pm cdv ct : Value} (l : K.lookup f = some ⟨oc, od, .func (PySem.W.fnOf x qual (defArgs st) (defBody st) (defScope st) .none kV doc pm an cdv ct), osl⟩)
    (c : PySem.W.codeIn K cdv qual = true) (k : PySem.W.keepIn K (.ref f) = true) : Fun K x qual st f (PySem.W.fnOf x qual (defArgs st) (defBody st) (defScope st) .none kV doc pm an cdv ct) := ⟨⟨oc, od, kV, doc, pm, an, cdv, ct, osl, rfl, l, c⟩, k⟩
end
section
variable {X : Cx}
end
def Same (H H' : Hp) : Prop := ∀ b o, H b = some o → H' b = some o
theorem Same.refl (H : Hp) : Same H H := fun _ _ h => h
theorem Same.trans {H H1 H2 : Hp} (a : Same H H1) (b : Same H1 H2) : Same H H2 := fun c o h => b c o (a c o h)
theorem Same.free {H H' : Hp} (e : Same H H') {l : Addr} (h : H' l = Option.none) : H l = Option.none := by
  cases q : H l with
  | none => rfl
  | some o =>
    rw [e l o q] at h
    cases h
theorem Same.seq {K : PySem.W.Frag} {H H' : Hp} {a : Addr} {xs : List V} (e : Same H H') (h : SqL K H a xs) : SqL K H' a xs := by
  rcases h with (h | ⟨o, h⟩) | h
  · exact .inl (.inl (e _ _ h))
  · exact .inl (.inr ⟨o, e _ _ h⟩)
  · exact .inr h
end L2
set_option Elab.async false
set_option linter.all false
namespace K
end K
namespace K
end K
set_option Elab.async false
set_option linter.all false
set_option maxRecDepth 100000
set_option maxHeartbeats 4000000
namespace L2
open PySem PySem.Spec PyProof.Rows
def clGo (env : Env) : List (Str × NameKind) → List (Str × Addr) → List (Str × Addr)
  | [], cs => cs
  | (n, k) :: r, cs => clGo env r (if k == .free then match env.cells.lookup n with | some a => (n, a) :: cs | none => cs else cs)
def clOf (sc : Scope) (env : Env) : List (Str × Addr) := clGo env sc.names []
theorem clGo_look {env : Env} : ∀ {ns : List (Str × NameKind)} {cs : List (Str × Addr)} {x : Str} {c : Addr}, (∀ y a, cs.lookup y = some a → env.cells.lookup y = some a) → (clGo env ns cs).lookup x = some c → env.cells.lookup x = some c
  | [], _, _, _, h, e => h _ _ e
  | (n, k) :: r, cs, x, c, h, e => by
    unfold clGo at e
    refine clGo_look (ns := r) (fun y a q => ?_) e
    by_cases hk : (k == NameKind.free) = true
    · rw [if_pos hk] at q
      cases hc : env.cells.lookup n with
      | none => rw [hc] at q; exact h y a q
      | some d =>
        rw [hc] at q
        cases hy : y == n with
        | true =>
          simp only [List.lookup_cons, hy] at q
          have : y = n := by simpa using hy
          rw [this, hc]; exact q
        | false =>
          simp only [List.lookup_cons, hy] at q
          exact h y a q
    · rw [if_neg hk] at q; exact h y a q
theorem clOf_look {sc : Scope} {env : Env} {x : Str} {c : Addr} (e : (clOf sc env).lookup x = some c) : env.cells.lookup x = some c :=
  clGo_look (fun _ _ q => by simp at q) e
theorem clGo_has {env : Env} : ∀ {ns : List (Str × NameKind)} {cs : List (Str × Addr)} {x : Str}, (∀ y ∈ ns, y.2 = .free → ∃ c, env.cells.lookup y.1 = some c) → ((∃ c, cs.lookup x = some c) ∨ (x, NameKind.free) ∈ ns) → ∃ c, (clGo env ns cs).lookup x = some c
  | [], cs, x, _, h => by
    rcases h with h | h
    · exact h
    · cases h
  | (n, k) :: r, cs, x, hh, h => by
    unfold clGo
    refine clGo_has (ns := r) (fun y hy => hh y (List.mem_cons_of_mem _ hy)) ?_
    by_cases hk : k = .free
    · subst hk
      obtain ⟨c, hc⟩ := hh (n, .free) List.mem_cons_self rfl
      have hc' : env.cells.lookup n = some c := hc
      simp only [beq_self_eq_true, if_true, hc']
      cases hx : x == n with
      | true => exact .inl ⟨c, by simp [List.lookup_cons, hx]⟩
      | false =>
        rcases h with ⟨d, h⟩ | h
        · exact .inl ⟨d, by simp [List.lookup_cons, hx, h]⟩
        · rcases List.mem_cons.mp h with e | h
          · injection e with e1 _
            subst e1; simp at hx
          · exact .inr h
    · have hb : (k == NameKind.free) = false := by simpa using hk
      simp only [hb, Bool.false_eq_true, if_false]
      rcases h with h | h
      · exact .inl h
      · rcases List.mem_cons.mp h with e | h
        · injection e with _ e2
          exact absurd e2.symm hk
        · exact .inr h
theorem clGo_run {env : Env} : ∀ {ns : List (Str × NameKind)} {cs : List (Str × Addr)}, (∀ y ∈ ns, y.2 = .free → ∃ c, env.cells.lookup y.1 = some c) →
    (forIn ns cs fun (x : Str × NameKind) (r : List (Str × Addr)) => if (x.2 == NameKind.free) = true then (do let a ← cellOf env x.1; pure (ForInStep.yield ((x.1, a) :: r)) : Sem _) else pure (ForInStep.yield r)) = (pure (clGo env ns cs) : Sem _)
  | [], _, _ => rfl
  | (n, k) :: r, cs, hh => by
    rw [List.forIn_cons]
    have ih := fun cs' => clGo_run (env := env) (ns := r) (cs := cs') fun y hy => hh y (List.mem_cons_of_mem _ hy)
    by_cases hk : k = .free
    · subst hk
      obtain ⟨c, hc⟩ := hh (n, .free) List.mem_cons_self rfl
      have hc' : env.cells.lookup n = some c := hc
      have e : cellOf env n = pure c := by unfold cellOf; rw [hc']
      simp only [beq_self_eq_true, if_true, e, pure_bind]
      rw [ih]
      have q : clGo env ((n, NameKind.free) :: r) cs = clGo env r ((n, c) :: cs) := by simp only [clGo, beq_self_eq_true, if_true, hc']
      rw [q]
    · have hb : (k == NameKind.free) = false := by simpa using hk
      simp only [hb, Bool.false_eq_true, if_false, pure_bind]
      rw [ih]
      have q : clGo env ((n, k) :: r) cs = clGo env r cs := by simp only [clGo, hb, Bool.false_eq_true, if_false]
      rw [q]
theorem closureFor_of {sc : Scope} {env : Env} (hh : ∀ y ∈ sc.names, y.2 = .free → ∃ c, env.cells.lookup y.1 = some c) : closureFor sc env = pure (clOf sc env) := by
  have e := clGo_run (env := env) (ns := sc.names) (cs := []) hh
  unfold closureFor
  show (forIn sc.names [] (fun (x : Str × NameKind) (r : List (Str × Addr)) => (match x with | (name, kind) => if (kind == NameKind.free) = true then (do let a ← cellOf env name; pure (ForInStep.yield ((name, a) :: r))) else pure (ForInStep.yield r) : Sem (ForInStep (List (Str × Addr))))) >>= fun s => pure s) = _
  have hb : (fun (x : Str × NameKind) (r : List (Str × Addr)) => (match x with | (name, kind) => if (kind == NameKind.free) = true then (do let a ← cellOf env name; pure (ForInStep.yield ((name, a) :: r))) else pure (ForInStep.yield r) : Sem (ForInStep (List (Str × Addr))))) =
      fun (x : Str × NameKind) (r : List (Str × Addr)) => if (x.2 == NameKind.free) = true then (do let a ← cellOf env x.1; pure (ForInStep.yield ((x.1, a) :: r)) : Sem _) else pure (ForInStep.yield r) := by
    funext x r
    obtain ⟨n, k⟩ := x
    rfl
  rw [hb, e]
  rfl
def Cx.comp (X : Cx) (N' : List Str) (sc : Scope) (C : Addr) (s : Shared) (H : Hp) (fp : List Addr) (pins : List (Addr × Obj)) : Cx :=
  { X with N := N', s₀ := s, H₀ := H, env := compEnvC sc (clOf sc X.env) C X.env, outer := X.stack, ex := fp, fn := fun _ => false, pn := X.pn ++ pins, xe := fun _ _ => False }
def PTs (X : Cx) (ifs : List Expr) (t : TT) : Prop :=
  ∀ (pins : List (Addr × Obj)) (s : Shared) (σ : St) (H : Hp) (Q : Bool → Hp → Prop), Inv X pins σ H s → t σ H Q →
    wpAny (model X.prog X.w) X.A (forIn ifs true fun c r => if r = true then do let ok ← isTrue c X.env (eval c X.env); pure (ForInStep.yield ok) else pure (ForInStep.yield r)) (TP X pins σ Q) X.xe s
def tYes : TT := fun _ H Q => Q true H
theorem pts_nil {X : Cx} : PTs X [] tYes := fun _ _ _ H _ I h => wpAny_tests_nil ⟨H, I, h⟩
theorem pts_one {X : Cx} {c : Expr} {t : TT} (h : PT X c t) : PTs X [c] t := fun pins s σ H Q I hq => wpAny_tests_one (h pins s σ H Q I hq)
def tComp (n0 : Nat) (wi : TI) (g : TG) (tc : TT) (te : TE) : TE := fun σ H Q => wi σ H fun J H1 => ∀ D, H1 D = none → ∃ W : Nat → Nat → Hp → Prop, (∃ m, W 0 m (upd H1 D (.lst []))) ∧
  ∀ i m H2, W i m H2 → (J.stop i H2 ∧ Q (.ref D) H2) ∨
    (J.go i H2 ∧ ∀ x H3, J.yld i H2 x H3 → g x (σ ++ List.replicate n0 none) H3 fun σ4 H4 => σ4.take σ.length = σ ∧ σ4.length = σ.length + n0 ∧ tc σ4 H4 fun b H5 =>
      if b = true then te σ4 H5 fun v H6 => ∃ acc, H6 D = some (.lst acc) ∧ acc.length < sizeLine ∧ ∃ m', m' < m ∧ W (i + 1) m' (upd H6 D (.lst (acc ++ [v]))) else ∃ m', m' < m ∧ W (i + 1) m' H5)
theorem PE.mono {X : Cx} {e : Expr} {t t' : TE} (h : PE X e t) (hm : ∀ σ H Q, t' σ H Q → t σ H Q) : PE X e t' := fun pins s σ H Q I q => h pins s σ H Q I (hm σ H Q q)
theorem PT.mono {X : Cx} {e : Expr} {t t' : TT} (h : PT X e t) (hm : ∀ σ H Q, t' σ H Q → t σ H Q) : PT X e t' := fun pins s σ H Q I q => h pins s σ H Q I (hm σ H Q q)
theorem PS.mono {X : Cx} {e : Stmt} {t t' : TS} (h : PS X e t) (hm : ∀ D σ H, t' D σ H → t D σ H) : PS X e t' := fun pins s σ H D I q => h pins s σ H D I (hm D σ H q)
section
variable {X : Cx} {tg elt iter : Expr} {ifs : List Expr} {sc : Scope} {pos : Pos} {N0 own : List Str} {wi : TI} {g : TG} {tc : TT} {te : TE}
structure CompOk (X : Cx) (sc : Scope) (N0 : List Str) : Prop where
  kind : sc.kind = .function
  cell : ∀ y ∈ sc.names, y.2 ≠ .cell
  names : ∀ y ∈ sc.names, y.2 = .local → sc.names.lookup y.1 = some .local
  cap : ∀ y ∈ sc.names, y.2 = .free → X.env.kindOf y.1 = some .cell ∨ X.env.kindOf y.1 = some .free
  len : N0.length = X.N.length
  vis : ∀ (i : Nat) (x : Str), N0[i]? = some x → Vis (relabel sc X.env) x → X.N[i]? = some x ∧ sc.names.lookup x = some .free
theorem relabel_not_local {env : Env} : ∀ {names : List (Str × NameKind)} {x : Str}, (∀ y ∈ names, y.2 ≠ .cell) →
    ((names.map fun (n, k) => if (k == NameKind.free && env.scope.kind == .function && env.kindOf n == some .cell) then (n, NameKind.cell) else (n, k)).lookup x = some .cell ∨
     (names.map fun (n, k) => if (k == NameKind.free && env.scope.kind == .function && env.kindOf n == some .cell) then (n, NameKind.cell) else (n, k)).lookup x = some .free) → names.lookup x = some .free
  | [], _, _, h => by rcases h with h | h <;> simp at h
  | (n, k) :: r, x, hc, h => by
    have ih := @relabel_not_local env r x fun y hy => hc y (List.mem_cons_of_mem _ hy)
    have hk : k ≠ .cell := hc (n, k) List.mem_cons_self
    have hd : ∀ (z : NameKind), (((n, k) :: r).map fun (n, k) => if (k == NameKind.free && env.scope.kind == .function && env.kindOf n == some .cell) then (n, NameKind.cell) else (n, k)).lookup x = some z →
        if (x == n) = true then (if (k == NameKind.free && env.scope.kind == .function && env.kindOf n == some .cell) = true then z = .cell else z = k) else (r.map fun (n, k) => if (k == NameKind.free && env.scope.kind == .function && env.kindOf n == some .cell) then (n, NameKind.cell) else (n, k)).lookup x = some z := by
      intro z e
      have e' : List.lookup x ((if (k == NameKind.free && env.scope.kind == .function && env.kindOf n == some .cell) = true then (n, NameKind.cell) else (n, k)) :: (r.map fun (n, k) => if (k == NameKind.free && env.scope.kind == .function && env.kindOf n == some .cell) then (n, NameKind.cell) else (n, k))) = some z := e
      cases hx : x == n with
      | true =>
        rw [if_pos rfl]
        by_cases hq : (k == NameKind.free && env.scope.kind == .function && env.kindOf n == some .cell) = true
        · rw [if_pos hq] at e' ⊢
          simp only [List.lookup_cons, hx] at e'
          exact (Option.some.inj e').symm
        · rw [if_neg hq] at e' ⊢
          simp only [List.lookup_cons, hx] at e'
          exact (Option.some.inj e').symm
      | false =>
        rw [if_neg (by simp)]
        by_cases hq : (k == NameKind.free && env.scope.kind == .function && env.kindOf n == some .cell) = true
        · rw [if_pos hq] at e'; simpa only [List.lookup_cons, hx] using e'
        · rw [if_neg hq] at e'; simpa only [List.lookup_cons, hx] using e'
    cases hx : x == n with
    | true =>
      simp only [List.lookup_cons, hx]
      rcases h with h | h
      · have q := hd _ h
        rw [if_pos hx] at q
        by_cases hq : (k == NameKind.free && env.scope.kind == .function && env.kindOf n == some .cell) = true
        · have : (k == NameKind.free) = true := by
            cases hk' : k == NameKind.free with
            | true => rfl
            | false => simp [hk'] at hq
          have : k = .free := by simpa using this
          rw [this]
        · rw [if_neg hq] at q; exact absurd q.symm hk
      · have q := hd _ h
        rw [if_pos hx] at q
        by_cases hq : (k == NameKind.free && env.scope.kind == .function && env.kindOf n == some .cell) = true
        · rw [if_pos hq] at q; cases q
        · rw [if_neg hq] at q; rw [← q]
    | false =>
      simp only [List.lookup_cons, hx]
      refine ih ?_
      rcases h with h | h
      · have q := hd _ h
        rw [if_neg (by simp [hx])] at q; exact .inl q
      · have q := hd _ h
        rw [if_neg (by simp [hx])] at q; exact .inr q
theorem comp_block {pins : List (Addr × Obj)} {σ : St} {s₂ : Shared} {itv : Value} {Q : VK} {E : Value → Shared → Prop} (hc : X.calm = true) (T : CompOk X sc N0)
    (hg : ∀ C s H fp pins, PG (X.comp (N0 ++ own) sc C s H fp pins) tg g) (ht : ∀ C s H fp pins, PTs (X.comp (N0 ++ own) sc C s H fp pins) ifs tc) (he : ∀ C s H fp pins, PE (X.comp (N0 ++ own) sc C s H fp pins) elt te)
    (h : PIE X pins σ tg (fun J H1 => ∀ D, H1 D = none → ∃ W : Nat → Nat → Hp → Prop, (∃ m, W 0 m (upd H1 D (.lst []))) ∧
      ∀ i m H2, W i m H2 → (J.stop i H2 ∧ Q (.ref D) H2) ∨
        (J.go i H2 ∧ ∀ x H3, J.yld i H2 x H3 → g x (σ ++ List.replicate own.length none) H3 fun σ4 H4 => σ4.take σ.length = σ ∧ σ4.length = σ.length + own.length ∧ tc σ4 H4 fun b H5 =>
          if b = true then te σ4 H5 fun v H6 => ∃ acc, H6 D = some (.lst acc) ∧ acc.length < sizeLine ∧ ∃ m', m' < m ∧ W (i + 1) m' (upd H6 D (.lst (acc ++ [v]))) else ∃ m', m' < m ∧ W (i + 1) m' H5)) itv s₂) :
    wpAny (model X.prog X.w) X.A (newList []) (fun acc s₃ => wpAny (model X.prog X.w) X.A (newFunctionEnv sc X.env.globals (clOf sc X.env) [] X.env.qual none .none (some X.env)) (fun cenv s₄ =>
      codeAny (model X.prog X.w) X.A (.compStart (.ListComp elt [⟨tg, iter, ifs, 0⟩] sc pos) 0 itv acc { cenv with scope := relabel sc X.env })
        (fun r s' => ∃ D H' m, r = .ok .next ∧ acc = .ref D ∧ Inv X pins σ H' s' ∧ FpOk X pins H' cenv.locals ∧ s'.heap.Ns cenv.locals m ∧ Q (.ref D) H') s₄) E s₃) E s₂ := by
  obtain ⟨it, fp, tn, J, H1, rfl, I2, Tn, st2, f2, hR⟩ := h
  refine wpAny_newObj_type (wpAny_newFunctionEnv T.cell (by intro y hy; simp at hy) (fun h₁ hns₁ hsb₁ => ?_) T.kind)
  dsimp only at hns₁ hsb₁ ⊢
  generalize hH2 : s₂.heap.push { cls := .type "list", dict := none, data := .seq ([] : List Value).toArray } = h3 at hns₁ hsb₁ ⊢
  have hC : h3.objs.size = s₂.heap.objs.size + 1 := by rw [← hH2, Heap.size_push]
  -- the list
  have I3 : Inv X pins σ (upd H1 s₂.heap.objs.size (.lst [])) { s₂ with heap := h3 } := by
    rw [← hH2]
    exact I2.laid (t' := s₂.toks) (fun b u e => Heap.get?_push_of_some _ e) (Nat.le_refl _) ⟨by simp, [], 0, .nil, Heap.get?_push_size _ rfl⟩
  have fD : H1 s₂.heap.objs.size = none := I2.hok.fresh (Nat.le_refl _)
  obtain ⟨W, ⟨m0, w0⟩, turn⟩ := hR _ fD
  have kp : ∀ b o, h3.get? b = some o → h₁.get? b = some o := fun b o e => hsb₁.extBut b o (Nat.ne_of_lt (Heap.lt_size e)) (Heap.get?_push_of_some _ e)
  have fp2 : ∀ b ∈ fp, b < s₂.heap.objs.size := fun b hb => by
    obtain ⟨o, e, _⟩ := Tn.obj _ _ st2 b hb
    exact Heap.lt_size e
  -- the block's context
  have CK : ∀ x c, (clOf sc X.env).lookup x = some c → X.env.cells.lookup x = some c := fun x c e => clOf_look e
  have nofs : ∀ {b : Addr}, h3.objs.size ≤ b → b ∉ frs X.stack := fun {b} hb z => by
    rcases List.mem_cons.mp (I3.stkSub b z) with e | z
    · exact absurd (Nat.lt_of_lt_of_le I3.lt (show h3.objs.size ≤ X.env.locals by rw [← e]; exact hb)) (Nat.lt_irrefl _)
    · exact I3.nofs (a := b) hb z
  have fpS : ∀ b ∈ fp, b ∉ frs X.stack := fun b hb z => by
    rcases List.mem_cons.mp (I3.stkSub b z) with e | z
    · exact (f2 b hb).2.1 e
    · exact (f2 b hb).2.2.1 z
  have fpD : ∀ b ∈ fp, upd H1 s₂.heap.objs.size (.lst []) b = none := fun b hb => by rw [upd_ne (Nat.ne_of_lt (fp2 b hb))]; exact (f2 b hb).1
  have pinS : ∀ p ∈ X.pn ++ pins, p.1 ∉ frs X.stack := fun p hp z => by
    obtain ⟨_, _, n1, n2, _⟩ := I3.pin p hp
    rcases List.mem_cons.mp (I3.stkSub p.1 z) with e | z
    · exact n1 e
    · exact n2 z
  let X' := X.comp (N0 ++ own) sc h3.objs.size { s₂ with heap := h3 } (upd H1 s₂.heap.objs.size (.lst [])) fp pins
  have cells' : ∀ x, (X'.env.kindOf x = some .cell ∨ X'.env.kindOf x = some .free) → sc.names.lookup x = some .free := fun x hx => relabel_not_local T.cell hx
  have hfree : ∀ y ∈ sc.names, y.2 = .free → ∃ c, X.env.cells.lookup y.1 = some c := fun y hy hf => I2.ok.has _ (T.cap y hy hf)
  have ok' : X'.Ok := by
    refine ⟨I3.ok.mod, ?_, I3.ok.glob, I3.ok.blt, Nat.le_refl _, fun x y c e1 e2 => I3.ok.inj x y c (CK _ _ e1) (CK _ _ e2), fun x hx => ?_, fun x c z => (by cases z), I3.ok.hd, I3.ok.frames, .inl rfl, fun b hb => ⟨?_, fun x c e => ?_⟩, I3.bs, Nat.le_trans I3.ok.bsz I3.sz, fun b o e hb => ?_, fpS, I3.stack, I3.stkFree, I3.tabs⟩
    · exact T.kind
    · have hx' := cells' x hx
      exact clGo_has hfree (.inr (PySem.mem_of_lookup hx'))
    · exact Nat.ne_of_lt (Nat.lt_of_lt_of_le (fp2 b hb) (by show s₂.heap.objs.size ≤ h3.objs.size; rw [hC]; exact Nat.le_succ _))
    · exact (f2 b hb).2.2.2.2.1 x c (CK x c e)
    · have := (I3.bs b o e).1
      rcases (f2 b hb).2.2.2.1 with z | z
      · exact I3.ok.noex b o e z
      · have := Nat.lt_of_lt_of_le (Heap.lt_size e) I3.ok.bsz
        exact absurd (Nat.lt_of_lt_of_le this z) (Nat.lt_irrefl _)
  have hlook : ∀ (i : Nat) (x : Str) (v : V), (N0 ++ own)[i]? = some x → (σ ++ List.replicate own.length none)[i]? = some (some v) → Vis (relabel sc X.env) x → ∃ c u, RelV v u ∧ X'.env.cells.lookup x = some c ∧ (X'.env.kindOf x = some .cell ∨ X'.env.kindOf x = some .free) ∧ h3.IsCell c (some u) := by
    intro i x v e1 e2 e3
    have hi : i < σ.length := by
      by_cases hi : i < σ.length
      · exact hi
      · rw [List.getElem?_append_right (by omega), List.getElem?_replicate] at e2
        split at e2 <;> cases e2
    have e2' : σ[i]? = some (some v) := by rw [List.getElem?_append_left hi] at e2; exact e2
    have hi0 : i < N0.length := by rw [T.len, ← I3.len]; exact hi
    have e1' : N0[i]? = some x := by rw [List.getElem?_append_left hi0] at e1; exact e1
    obtain ⟨n1, n2⟩ := T.vis i x e1' e3
    have cp := T.cap _ (PySem.mem_of_lookup n2) rfl
    obtain ⟨m, hn, hl⟩ := I3.loc
    have vis : Vis X.env.scope x := by
      rcases cp with z | z
      · exact .inr (.inl z)
      · exact .inr (.inr z)
    obtain ⟨u, r, l⟩ := hl i x v n1 e2' vis
    obtain ⟨c', hc'⟩ := clGo_has (env := X.env) (ns := sc.names) (cs := []) (x := x) hfree (.inr (PySem.mem_of_lookup n2))
    have hc2 : (clOf sc X.env).lookup x = some c' := hc'
    rcases l with ⟨z, _⟩ | ⟨_, c, e, q⟩
    · rcases cp with z' | z' <;> (rw [z] at z'; cases z')
    · have : c = c' := by
        have := CK _ _ hc2
        rw [e] at this; exact Option.some.inj this
      subst this
      refine ⟨c, u, r, hc2, ?_, q⟩
      rcases e3 with z | z | z
      · exfalso
        have := lookup_relabel_local (env := X.env) (names := sc.names) (x := x)
        -- a free name is not relabelled local
        have nl : ∀ {names : List (Str × NameKind)}, names.lookup x = some .free → (names.map fun (n, k) => if (k == NameKind.free && X.env.scope.kind == .function && X.env.kindOf n == some .cell) then (n, NameKind.cell) else (n, k)).lookup x ≠ some .local := by
          intro names
          induction names with
          | nil => intro h; simp at h
          | cons p r ih =>
            obtain ⟨n, k⟩ := p
            intro h
            show List.lookup x ((if (k == NameKind.free && X.env.scope.kind == .function && X.env.kindOf n == some .cell) = true then (n, NameKind.cell) else (n, k)) :: _) ≠ _
            cases hx : x == n with
            | true =>
              simp only [List.lookup_cons, hx] at h
              cases h
              by_cases hq : (NameKind.free == NameKind.free && X.env.scope.kind == .function && X.env.kindOf n == some .cell) = true
              · rw [if_pos hq]; simp [List.lookup_cons, hx]
              · rw [if_neg hq]; simp [List.lookup_cons, hx]
            | false =>
              simp only [List.lookup_cons, hx] at h
              by_cases hq : (k == NameKind.free && X.env.scope.kind == .function && X.env.kindOf n == some .cell) = true
              · rw [if_pos hq]; simp only [List.lookup_cons, hx]; exact ih h
              · rw [if_neg hq]; simp only [List.lookup_cons, hx]; exact ih h
        exact nl n2 z
      · exact .inl z
      · exact .inr z
  have σl : (σ ++ List.replicate own.length none).length = (N0 ++ own).length := by
    rw [List.length_append, List.length_append, List.length_replicate, T.len, ← I3.len]
  have I4 : Inv X' [] (σ ++ List.replicate own.length none) (upd H1 s₂.heap.objs.size (.lst [])) { s₂ with heap := h₁, toks := s₂.toks + ([] : List (Str × Value)).length } := by
    refine ⟨ok', rfl, I3.bare, Un.kept kp, ⟨_, hns₁, fun i x v e1 e2 e3 => ?_⟩, fun x c e => ?_, I3.hok.fresh (Nat.le_refl _), fun x c e => I3.freeC x c (CK x c e), fun p hp => ?_, I3.hok.kept kp, σl⟩
    · obtain ⟨c, u, r, q1, q2, q3⟩ := hlook i x v e1 e2 e3
      obtain ⟨o, ho, hd⟩ := q3
      exact ⟨u, r, .inr ⟨q2, c, q1, o, kp c o ho, hd⟩⟩
    · obtain ⟨v, o, ho, hd⟩ := I3.cell x c (CK x c e)
      exact ⟨v, o, kp c o ho, hd⟩
    · have hp' : p ∈ X.pn ++ pins := by
        have : p ∈ (X.pn ++ pins) ++ [] := hp
        simpa using this
      obtain ⟨e, n, ne, nf, d⟩ := I3.pin p hp'
      exact ⟨kp _ _ e, n, Nat.ne_of_lt (Heap.lt_size e), pinS p hp', d⟩
  have fpX : ∀ {H : Hp}, (∀ b ∈ fp, H b = none) → ∀ b ∈ fp, FpOk X' [] H b := fun {H} hn b hb => by
    refine ⟨hn b hb, (ok'.exf b hb).1, fpS b hb, .inl hb, (ok'.exf b hb).2, fun p hp => ?_⟩
    have hp' : p ∈ X.pn ++ pins := by
      have : p ∈ (X.pn ++ pins) ++ [] := hp
      simpa using this
    exact (f2 b hb).2.2.2.2.2 p hp'
  have st4 : tn 0 h₁ := Tn.keep 0 s₂.heap h₁ st2 fun b hb o e => kp b o (hH2 ▸ Heap.get?_push_of_some _ e)
  -- back to the context around
  have back : ∀ {σ' : St} {H' : Hp} {s' : Shared}, Inv X' [] σ' H' s' → Inv X pins σ H' s' ∧ FpOk X pins H' h3.objs.size ∧ ∃ m, s'.heap.Ns h3.objs.size m := fun {σ' H' s'} J => by
    have u : Un (frs X.stack) fp (upd H1 s₂.heap.objs.size (.lst [])) H' h3 s'.heap := J.base
    have J3 : Inv X pins σ H' s' := I3.call' J.os u J.hok J.bare fun b hb => ⟨(f2 b hb).2.2.2.1, (f2 b hb).2.1, (f2 b hb).2.2.2.2.1, (f2 b hb).2.2.2.2.2⟩
    obtain ⟨m, hn, _⟩ := J.loc
    refine ⟨J3, ?_, m, hn⟩
    refine ⟨J.free, Nat.ne_of_gt I3.lt, I3.nofs (Nat.le_refl _), .inr I3.sz, fun x c e z => ?_, fun p hp z => ?_⟩
    · obtain ⟨v, q⟩ := I3.cell x c e
      exact absurd (Nat.lt_of_lt_of_le q.lt (by rw [z]; exact Nat.le_refl _)) (Nat.lt_irrefl _)
    · exact absurd (Nat.lt_of_lt_of_le (Heap.lt_size (I3.pin p hp).1) (by rw [z]; exact Nat.le_refl _)) (Nat.lt_irrefl _)
  have loop : ∀ s₅ : Shared, s₅ = { s₂ with heap := h₁, toks := s₂.toks + ([] : List (Str × Value)).length } →
      codeAny (model X.prog X.w) X.A (.compLoop (.ListComp elt [⟨tg, iter, ifs, 0⟩] sc pos) 0 (.ref it) (.ref s₂.heap.objs.size) X'.env)
        (fun r s' => ∃ D H' m, r = .ok .next ∧ Value.ref s₂.heap.objs.size = .ref D ∧ Inv X pins σ H' s' ∧ FpOk X pins H' h3.objs.size ∧ s'.heap.Ns h3.objs.size m ∧ Q (.ref D) H') s₅ := by
    rintro s₅ rfl
    refine codeAny_loop rfl (fun n s' => ∃ i H', Inv X' [] (σ ++ List.replicate own.length none) H' s' ∧ tn i s'.heap ∧ (∀ b ∈ fp, H' b = none) ∧ W i n H') (fun n s6 => ?_) m0 ⟨0, _, I4, st4, fpD, w0⟩
    rintro ⟨i, H6, I6, st6, fr6, w6⟩
    show wpAny _ X.A ((compTurn (.ListComp elt [⟨tg, iter, ifs, 0⟩] sc pos) 0 (.ref it) (.ref s₂.heap.objs.size) X'.env).onRaise (fun x => do noteFrame x X'.env; theTreesLotGoes x)) _ _ s6
    refine wpAny_noted ?_
    rw [compTurn_list]
    have nox : ∀ {α : Type} {t : Sem α} {Q : α → Shared → Prop} {E' : Value → Shared → Prop} {s : Shared}, wpAny (model X.prog X.w) X.A t Q (fun _ _ => False) s → wpAny (model X.prog X.w) X.A t Q E' s := fun h => wpAny_mono h (fun _ _ q => q) fun _ _ z => z.elim
    refine wpAny_bind (wpAny_standAt (wpAny_bind ?_))
    rcases turn i n H6 w6 with ⟨stop, qn⟩ | ⟨go, step⟩
    · refine nox (thn (Tn.done X' rfl rfl rfl hc i [] s6 _ H6 _ I6 (fpX fr6) st6 stop) fun r s7 ⟨hr, I7⟩ => ?_)
      subst hr
      obtain ⟨b1, b2, m, b3⟩ := back I7
      exact wpAny_pure ⟨_, H6, m, rfl, rfl, b1, b2, b3, qn⟩
    · refine nox (thn (Tn.item X' rfl rfl rfl hc i [] s6 _ H6 _ I6 (fpX fr6) st6 go) fun r s7 ⟨u, hr, h7⟩ => ?_)
      subst hr
      refine wpAny_bind (nox (thn h7 fun _ s8 ⟨x, H8, I8, r8, y8, st8, fr8⟩ => ?_))
      have I8' := I8.pinned (fpX fr8) (Tn.obj _ _ st8)
      refine wpAny_bind (nox (thn (hg _ _ _ _ _ _ s8 _ H8 x u _ I8' r8 (step x H8 y8)) fun _ s9 ⟨σ9, H9, I9, q1, q2, q9⟩ => ?_))
      have again : ∀ {s' : Shared} {H' : Hp}, Inv X' ([] ++ pinsAt fp s8.heap) σ9 H' s' → (∃ m', m' < n ∧ W (i + 1) m' H') → ∃ m, m < n ∧ ∃ i H', Inv X' [] (σ ++ List.replicate own.length none) H' s' ∧ tn i s'.heap ∧ (∀ b ∈ fp, H' b = none) ∧ W i m H' := by
        intro s' H' J ⟨m', hm, w'⟩
        refine ⟨m', hm, i + 1, H', ?_, Tn.keep _ _ _ st8 fun b hb o e => (J.pin (b, o) (List.mem_append_right _ (List.mem_append_right _ (mem_pinsAt hb e)))).1, fun b hb => ?_, w'⟩
        · refine (J.unpinned).weak ?_ fun j v e => ?_
          · rw [q2, List.length_append, List.length_replicate]
          · have hj : j < σ.length := by
              by_cases hj : j < σ.length
              · exact hj
              · rw [List.getElem?_append_right (by omega), List.getElem?_replicate] at e
                split at e <;> cases e
            rw [List.getElem?_append_left hj] at e
            rw [← q1, List.getElem?_take_of_lt hj] at e
            exact e
        · obtain ⟨o, e, d⟩ := Tn.obj _ _ st8 b hb
          exact (J.pin (b, o) (List.mem_append_right _ (List.mem_append_right _ (mem_pinsAt hb e)))).2.1
      refine wpAny_bind (nox (thn (ht _ _ _ _ _ _ s9 σ9 H9 _ I9 q9) fun ok s10 ⟨H10, I10, q10⟩ => ?_))
      cases ok with
      | false => exact wpAny_pure ⟨rfl, again I10 q10⟩
      | true =>
        refine wpAny_bind (wpAny_bind (nox (thn (he _ _ _ _ _ _ s10 σ9 H10 _ I10 q10) fun uv s11 ⟨v, H11, I11, r11, acc, hD11, hz, q11⟩ => ?_)))
        refine wpAny_bind (nox (thn (mt_append _ s11 σ9 H11 (.ref s₂.heap.objs.size) [v] (.ref s₂.heap.objs.size) [uv] (fun _ H12 => H12 = upd H11 s₂.heap.objs.size (.lst (acc ++ [v]))) I11 rfl (.cons r11 .nil) ⟨_, acc, v, rfl, rfl, hD11, hz, rfl⟩) fun _ s12 ⟨_, H12, I12, _, q12⟩ => ?_))
        subst q12
        exact wpAny_pure (wpAny_pure ⟨rfl, again I12 q11⟩)
  exact codeAny_compStart_list (loop _ rfl) (Tn.self _ 0 _ _ _ st4 (loop _ rfl))
theorem pe_comp (hc : X.calm = true) (T : CompOk X sc N0) (hi : PI X tg iter wi)
    (hg : ∀ C s H fp pins, PG (X.comp (N0 ++ own) sc C s H fp pins) tg g) (ht : ∀ C s H fp pins, PTs (X.comp (N0 ++ own) sc C s H fp pins) ifs tc) (he : ∀ C s H fp pins, PE (X.comp (N0 ++ own) sc C s H fp pins) elt te)
    (hs : ∀ x, foldedSetIterable iter X.env x = pure x := by intro _; rfl) : PE X (.ListComp elt [⟨tg, iter, ifs, 0⟩] sc pos) (tComp own.length wi g tc te) := by
  intro pins s σ H Q I h
  rw [eval_ListComp]
  refine wpAny_comprehension_free (use := none) rfl hs (closureFor_of fun y hy hf => I.ok.has _ (T.cap y hy hf)) T.kind T.names ?_
  refine thn (hi pins s σ H _ I h) fun xv s₁ h₁ => thn h₁ fun it s₂ h₂ => ?_
  refine thn (comp_block (iter := iter) (pos := pos) (E := X.xe) (Q := Q) hc T hg ht he h₂) fun acc s₃ h₃ => thn h₃ fun cenv s₄ h₄ => codeAny_mono h₄ fun r s' hr => ?_
  obtain ⟨D, H', m, rfl, rfl, J, f, hn, q⟩ := hr
  refine ⟨m, hn, fun h' hs' => ⟨.ref D, H', ?_, rfl, q⟩⟩
  exact J.turned (t' := s'.toks) (fun b o hb e => (hs'.2 b hb).trans e) f.1 f.2.1 f.2.2.2.1 f.2.2.2.2.1 f.2.2.2.2.2
theorem ps_setComp {i : Nat} {y : Str} {py spos : Pos} (hc : X.calm = true) (T : CompOk X sc N0) (hi : PI X tg iter wi)
    (hg : ∀ C s H fp pins, PG (X.comp (N0 ++ own) sc C s H fp pins) tg g) (ht : ∀ C s H fp pins, PTs (X.comp (N0 ++ own) sc C s H fp pins) ifs tc) (he : ∀ C s H fp pins, PE (X.comp (N0 ++ own) sc C s H fp pins) elt te)
    (hN : X.N.Nodup) (hy : X.N[i]? = some y) (hl : X.env.scope.names.lookup y = some .local)
    (hsw : swapsWith (.ListComp elt [⟨tg, iter, ifs, 0⟩] sc pos) (some (.Name y py)) spos.line X.env = pure true)
    (hs : ∀ x, foldedSetIterable iter X.env x = pure x := by intro _; rfl) : PS X (.Assign [.Name y py] (.ListComp elt [⟨tg, iter, ifs, 0⟩] sc pos) spos) (fun D σ H => tComp own.length wi g tc te σ H fun v H1 => D.nx (σ.set i (some v)) H1) := by
  intro pins s σ H D I h
  rw [exec_Assign_Name_used _ _ _ _ hsw]
  refine wpAny_bind (wpAny_standAt (wpAny_bind ?_))
  show wpAny _ X.A (do let _ ← comprehension (.ListComp elt [⟨tg, iter, ifs, 0⟩] sc pos) sc X.env _ (newList []) false (eval iter X.env) (some (assign (.Name y py) X.env))) _ _ s
  refine wpAny_bind (wpAny_mono (wpAny_comprehension_free (use := some (assign (.Name y py) X.env)) (Q := fun _ s' => SP X pins D .next s') rfl hs (closureFor_of fun y hy hf => I.ok.has _ (T.cap y hy hf)) T.kind T.names
    (thn (hi pins s σ H _ I h) fun xv s₁ h₁ => thn h₁ fun it s₂ h₂ => ?_)) (fun _ s' hq => wpAny_pure (wpAny_pure hq)) fun _ _ e => e)
  refine thn (comp_block (iter := iter) (pos := pos) (E := X.xe) (Q := fun v H1 => D.nx (σ.set i (some v)) H1) hc T hg ht he h₂) fun acc s₃ h₃ => thn h₃ fun cenv s₄ h₄ => codeAny_mono h₄ fun r s' hr => ?_
  obtain ⟨A, H', m, rfl, rfl, J, f, hn, q⟩ := hr
  show wpAny _ X.A (assign (.Name y py) X.env (.ref A)) _ _ _
  refine wpAny_assign_Name (store_ok2 J hN hy (.inl hl) (v := .ref A) rfl (fun s'' J' ⟨a, sb, ha⟩ => ?_) (.inr hl))
  have hCa : cenv.locals ≠ a := by
    rcases ha with z | z
    · rw [z]; exact f.2.1
    · exact fun e => f.2.2.2.2.1 y a z e.symm
  refine ⟨m, hn.sameBut sb hCa, fun h' hs' => ⟨_, H', ?_, q⟩⟩
  exact J'.turned (t' := s''.toks) (fun b o hb e => (hs'.2 b hb).trans e) f.1 f.2.1 f.2.2.2.1 f.2.2.2.2.1 f.2.2.2.2.2
end
end L2
set_option Elab.async false
set_option linter.all false
set_option maxRecDepth 100000
set_option maxHeartbeats 4000000
namespace L3
open PySem PySem.Spec PyProof.Rows L2
inductive D where
  | non | bl (b : Bool) | int (i : Int) | str (x : Str) | tup (ds : List D) | adr (a : Addr) | dic (a : Addr)
mutual
def Den (K : PySem.W.Frag) (H : Hp) : D → V → Prop
  | .non, v => v = V.non
  | .bl b, v => v = V.bl b
  | .int i, v => v = V.int i
  | .str x, v => v = V.str x
  | .adr a, v => v = V.ref a
  | .dic a, v => v = V.ref a ∧ ∃ o x, H a = some (.frz o (.own x)) ∧ o.cls = .type "dict"
  | .tup ds, v => ∃ a xs, v = V.ref a ∧ SqT K H a xs ∧ Dens K H ds xs
def Dens (K : PySem.W.Frag) (H : Hp) : List D → List V → Prop
  | [], xs => xs = []
  | d :: ds, xs => ∃ x r, xs = x :: r ∧ Den K H d x ∧ Dens K H ds r
end
structure Gp where
  m : Addr → Option (List D)
  ro : Addr → Option (List D)
def gset (G : Gp) (a : Addr) (o : List D) : Gp := { G with m := fun b => if b = a then some o else G.m b }
theorem gset_same {G : Gp} {a : Addr} {o : List D} : (gset G a o).m a = some o := if_pos rfl
theorem gset_ne {G : Gp} {a b : Addr} {o : List D} (h : b ≠ a) : (gset G a o).m b = G.m b := if_neg h
theorem gset_gset {G : Gp} {a : Addr} {o u : List D} : gset (gset G a o) a u = gset G a u := by
  unfold gset
  congr 1
  funext b; by_cases h : b = a
  · simp only [if_pos h]
  · simp only [if_neg h]
theorem gne {G : Gp} {a b : Addr} {o : List D} (h : G.m a = some o) (h' : G.m b = none) : a ≠ b := fun e => by rw [e, h'] at h; cases h
structure Sub (G G' : Gp) : Prop where
  m : ∀ a o, G.m a = some o → G'.m a = some o
  ro : ∀ a o, G.ro a = some o → G'.ro a = some o
theorem Sub.refl (G : Gp) : Sub G G := ⟨fun _ _ h => h, fun _ _ h => h⟩
theorem Sub.trans {G G1 G2 : Gp} (h : Sub G G1) (h' : Sub G1 G2) : Sub G G2 := ⟨fun a o e => h'.m a o (h.m a o e), fun a o e => h'.ro a o (h.ro a o e)⟩
theorem Sub.new {G : Gp} {p : Addr} {o : List D} (h : G.m p = none) : Sub G (gset G p o) := ⟨fun a u e => by rw [gset_ne (gne e h)]; exact e, fun _ _ e => e⟩
def Ls (G : Gp) (a : Addr) (ds : List D) : Prop := G.m a = some ds ∨ G.ro a = some ds
theorem Ls.sub {G G' : Gp} {a : Addr} {ds : List D} (h : Ls G a ds) (s : Sub G G') : Ls G' a ds := by
  rcases h with h | h
  · exact .inl (s.m a ds h)
  · exact .inr (s.ro a ds h)
theorem Ls.own {G : Gp} {a : Addr} {ds : List D} : Ls (gset G a ds) a ds := .inl gset_same
def RoL (K : PySem.W.Frag) (H : Hp) (a : Addr) (xs : List V) : Prop :=
  (∃ o, H a = some (.frz o (.lst xs))) ∨ ∃ (o : Obj) (its : Array Value) (n : Nat), K.lookup a = some o ∧ o.cls = .type "list" ∧ o.dict = none ∧ o.data = .seq its n ∧ its.size ≤ sizeLine ∧ Vals xs its.toList
theorem RoL.sq {K : PySem.W.Frag} {H : Hp} {a : Addr} {xs : List V} (h : RoL K H a xs) : SqL K H a xs := by
  rcases h with h | h
  · exact .inl (.inr h)
  · exact .inr h
structure RelG (K : PySem.W.Frag) (G : Gp) (H : Hp) : Prop where
  m : ∀ a ds, G.m a = some ds → ∃ xs, H a = some (.lst xs) ∧ Dens K H ds xs
  ro : ∀ a ds, G.ro a = some ds → ∃ xs, RoL K H a xs ∧ Dens K H ds xs
structure Grow (H H' : Hp) : Prop where
  tups : ∀ a xs, H a = some (.tup xs) → H' a = some (.tup xs)
  frzs : ∀ a o u, H a = some (.frz o u) → H' a = some (.frz o u)
section
variable {K : PySem.W.Frag} {H H' H'' : Hp} {G G' : Gp}
theorem Grow.refl (H : Hp) : Grow H H := ⟨fun _ _ h => h, fun _ _ _ h => h⟩
theorem Grow.trans (a : Grow H H') (b : Grow H' H'') : Grow H H'' := ⟨fun c xs h => b.tups c xs (a.tups c xs h), fun c o u h => b.frzs c o u (a.frzs c o u h)⟩
theorem Grow.fresh {p : Addr} {o : HO} (h : H p = none) : Grow H (upd H p o) := ⟨fun a xs e => by rw [upd_ne (ne_of_none e h)]; exact e, fun a o u e => by rw [upd_ne (ne_of_none e h)]; exact e⟩
theorem Grow.lst {p : Addr} {xs : List V} {o : HO} (h : H p = some (.lst xs)) : Grow H (upd H p o) :=
  ⟨fun a ys e => by rw [upd_ne (ne_of e h (by intro z; cases z))]; exact e, fun a o u e => by rw [upd_ne (ne_of e h (by intro z; cases z))]; exact e⟩
theorem Grow.sqT (g : Grow H H') {a : Addr} {xs : List V} (h : SqT K H a xs) : SqT K H' a xs := by
  rcases h with (h | ⟨o, h⟩) | h
  · exact .inl (.inl (g.tups _ _ h))
  · exact .inl (.inr ⟨o, g.frzs _ _ _ h⟩)
  · exact .inr h
theorem Grow.roL (g : Grow H H') {a : Addr} {xs : List V} (h : RoL K H a xs) : RoL K H' a xs := by
  rcases h with ⟨o, h⟩ | h
  · exact .inl ⟨o, g.frzs _ _ _ h⟩
  · exact .inr h
mutual
theorem Den.grow (g : Grow H H') : ∀ {d : D} {v : V}, Den K H d v → Den K H' d v
  | .non, _, h => by unfold Den at h ⊢; exact h
  | .bl _, _, h => by unfold Den at h ⊢; exact h
  | .int _, _, h => by unfold Den at h ⊢; exact h
  | .str _, _, h => by unfold Den at h ⊢; exact h
  | .adr _, _, h => by unfold Den at h ⊢; exact h
  | .dic _, _, h => by unfold Den at h ⊢; obtain ⟨e, o, x, q, c⟩ := h; exact ⟨e, o, x, g.frzs _ _ _ q, c⟩
  | .tup ds, v, h => by
    unfold Den at h ⊢
    obtain ⟨a, xs, e, s, r⟩ := h
    exact ⟨a, xs, e, g.sqT s, Dens.grow g r⟩
theorem Dens.grow (g : Grow H H') : ∀ {ds : List D} {xs : List V}, Dens K H ds xs → Dens K H' ds xs
  | [], _, h => by unfold Dens at h ⊢; exact h
  | d :: ds, xs, h => by
    unfold Dens at h ⊢
    obtain ⟨x, r, e, h1, h2⟩ := h
    exact ⟨x, r, e, Den.grow g h1, Dens.grow g h2⟩
end
theorem Dens.length : ∀ {ds : List D} {xs : List V}, Dens K H ds xs → ds.length = xs.length
  | [], xs, h => by unfold Dens at h; rw [h]; rfl
  | d :: ds, xs, h => by
    unfold Dens at h
    obtain ⟨x, r, rfl, _, h2⟩ := h
    simp [Dens.length h2]
theorem Dens.get : ∀ {ds : List D} {xs : List V} {i : Nat} {d : D}, Dens K H ds xs → ds[i]? = some d → ∃ x, xs[i]? = some x ∧ Den K H d x
  | [], _, _, _, _, e => by simp at e
  | d :: ds, xs, 0, d', h, e => by
    unfold Dens at h
    obtain ⟨x, r, rfl, h1, _⟩ := h
    simp at e; subst e
    exact ⟨x, rfl, h1⟩
  | d :: ds, xs, i + 1, d', h, e => by
    unfold Dens at h
    obtain ⟨x, r, rfl, _, h2⟩ := h
    obtain ⟨y, e1, e2⟩ := Dens.get (i := i) (d := d') h2 (by simpa using e)
    exact ⟨y, by simpa using e1, e2⟩
theorem Dens.got : ∀ {ds : List D} {xs : List V} {i : Nat} {x : V}, Dens K H ds xs → xs[i]? = some x → ∃ d, ds[i]? = some d ∧ Den K H d x
  | ds, xs, i, x, h, e => by
    have hl := h.length
    have hi : i < ds.length := by rw [hl]; exact (List.getElem?_eq_some_iff.mp e).1
    obtain ⟨y, e1, e2⟩ := h.get (i := i) (d := ds[i]) (by simp [hi])
    rw [e] at e1; cases e1
    exact ⟨ds[i], by simp [hi], e2⟩
theorem Dens.nil : Dens K H [] [] := by unfold Dens; rfl
theorem Dens.cons {d : D} {ds : List D} {x : V} {xs : List V} (h : Den K H d x) (h' : Dens K H ds xs) : Dens K H (d :: ds) (x :: xs) := by unfold Dens; exact ⟨x, xs, rfl, h, h'⟩
theorem Dens.append : ∀ {ds es : List D} {xs ys : List V}, Dens K H ds xs → Dens K H es ys → Dens K H (ds ++ es) (xs ++ ys)
  | [], _, xs, _, h, h' => by unfold Dens at h; rw [h]; exact h'
  | d :: ds, _, xs, _, h, h' => by
    unfold Dens at h
    obtain ⟨x, r, rfl, h1, h2⟩ := h
    exact Dens.cons h1 (Dens.append h2 h')
theorem Dens.of_get : ∀ {ds : List D} {xs : List V}, ds.length = xs.length → (∀ (i : Nat) d x, ds[i]? = some d → xs[i]? = some x → Den K H d x) → Dens K H ds xs
  | [], [], _, _ => .nil
  | [], _ :: _, h, _ => by simp at h
  | _ :: _, [], h, _ => by simp at h
  | d :: ds, x :: xs, h, g => .cons (g 0 d x rfl rfl) (Dens.of_get (by simpa using h) fun i d' x' e1 e2 => g (i + 1) d' x' (by simpa using e1) (by simpa using e2))
theorem Dens.take {n : Nat} {ds : List D} {xs : List V} (h : Dens K H ds xs) : Dens K H (ds.take n) (xs.take n) :=
  .of_get (by simp [h.length]) fun i d x e1 e2 => by
    rw [List.getElem?_take] at e1 e2
    split at e1
    · rename_i hi
      rw [if_pos hi] at e2
      obtain ⟨y, e, r⟩ := h.get e1
      rw [e2] at e; cases e; exact r
    · cases e1
theorem Dens.drop {n : Nat} {ds : List D} {xs : List V} (h : Dens K H ds xs) : Dens K H (ds.drop n) (xs.drop n) :=
  .of_get (by simp [h.length]) fun i d x e1 e2 => by
    rw [List.getElem?_drop] at e1 e2
    obtain ⟨y, e, r⟩ := h.get e1
    rw [e2] at e; cases e; exact r
theorem Dens.set {ds : List D} {xs : List V} {d : D} {x : V} (i : Nat) (h : Dens K H ds xs) (hd : Den K H d x) : Dens K H (ds.set i d) (xs.set i x) :=
  .of_get (by simp [h.length]) fun j d' x' e1 e2 => by
    by_cases hj : i = j
    · subst hj
      have hi : i < ds.length := by
        have := (List.getElem?_eq_some_iff.mp e1).1; simpa using this
      rw [List.getElem?_set_self hi] at e1
      rw [List.getElem?_set_self (by rw [← h.length]; exact hi)] at e2
      cases e1; cases e2; exact hd
    · rw [List.getElem?_set_ne hj] at e1 e2
      obtain ⟨y, e, r⟩ := h.get e1
      rw [e2] at e; cases e; exact r
theorem Dens.eraseIdx : ∀ {ds : List D} {xs : List V} (i : Nat), Dens K H ds xs → Dens K H (ds.eraseIdx i) (xs.eraseIdx i)
  | [], xs, i, h => by unfold Dens at h; subst h; exact .nil
  | d :: ds, xs, 0, h => by
    unfold Dens at h
    obtain ⟨x, r, rfl, h1, h2⟩ := h
    exact h2
  | d :: ds, xs, i + 1, h => by
    unfold Dens at h
    obtain ⟨x, r, rfl, h1, h2⟩ := h
    exact .cons h1 (Dens.eraseIdx i h2)
theorem Dens.reverse : ∀ {ds : List D} {xs : List V}, Dens K H ds xs → Dens K H ds.reverse xs.reverse
  | [], xs, h => by unfold Dens at h; subst h; exact .nil
  | d :: ds, xs, h => by
    unfold Dens at h
    obtain ⟨x, r, rfl, h1, h2⟩ := h
    rw [List.reverse_cons, List.reverse_cons]
    exact (Dens.reverse h2).append (.cons h1 .nil)
theorem Dens.ints (ns : List Int) : Dens K H (ns.map D.int) (ns.map V.int) := by
  induction ns with
  | nil => exact .nil
  | cons n r ih => exact .cons (by unfold Den; rfl) ih
theorem RelG.fresh {p : Addr} {o : HO} (h : H p = none) (r : RelG K G H) : RelG K G (upd H p o) :=
  ⟨fun a ds e => by
    obtain ⟨xs, e1, e2⟩ := r.m a ds e
    exact ⟨xs, by rw [upd_ne (ne_of_none e1 h)]; exact e1, e2.grow (.fresh h)⟩,
   fun a ds e => by
    obtain ⟨xs, e1, e2⟩ := r.ro a ds e
    exact ⟨xs, (Grow.fresh h).roL e1, e2.grow (.fresh h)⟩⟩
theorem RelG.free {p : Addr} (r : RelG K G H) (h : H p = none) : G.m p = none := by
  cases q : G.m p with
  | none => rfl
  | some ds => obtain ⟨xs, e1, _⟩ := r.m p _ q; rw [h] at e1; cases e1
theorem RelG.own {l : Addr} {ds : List D} {xs : List V} (r : RelG K G H) (e : H l = some (.lst xs)) (d : Dens K H ds xs) : RelG K (gset G l ds) H :=
  ⟨fun b u q => by
    by_cases hb : b = l
    · subst hb; rw [gset_same] at q; cases q; exact ⟨xs, e, d⟩
    · rw [gset_ne hb] at q; exact r.m b u q,
   r.ro⟩
theorem RelG.new {p : Addr} {ds : List D} {xs : List V} (h : H p = none) (r : RelG K G H) (d : Dens K H ds xs) : RelG K (gset G p ds) (upd H p (.lst xs)) :=
  (r.fresh h).own upd_same (d.grow (.fresh h))
theorem RelG.put {p : Addr} {ds' : List D} {xs xs' : List V} (h : H p = some (.lst xs)) (r : RelG K G H) (d : Dens K H ds' xs') : RelG K (gset G p ds') (upd H p (.lst xs')) :=
  ⟨fun a u e => by
    by_cases ha : a = p
    · subst ha
      rw [gset_same] at e; cases e
      exact ⟨xs', upd_same, d.grow (.lst h)⟩
    · rw [gset_ne ha] at e
      obtain ⟨ys, e1, e2⟩ := r.m a u e
      exact ⟨ys, by rw [upd_ne ha]; exact e1, e2.grow (.lst h)⟩,
   fun a u e => by
    obtain ⟨ys, e1, e2⟩ := r.ro a u e
    exact ⟨ys, (Grow.lst h).roL e1, e2.grow (.lst h)⟩⟩
theorem RelG.sub (s : Sub G G') (r : RelG K G' H) : RelG K G H := ⟨fun a u e => r.m a u (s.m a u e), fun a u e => r.ro a u (s.ro a u e)⟩
theorem RelG.sq {a : Addr} {ds : List D} (r : RelG K G H) (e : Ls G a ds) : ∃ xs, SqL K H a xs ∧ Dens K H ds xs := by
  rcases e with e | e
  · obtain ⟨xs, e1, e2⟩ := r.m a _ e
    exact ⟨xs, .of e1, e2⟩
  · obtain ⟨xs, e1, e2⟩ := r.ro a _ e
    exact ⟨xs, e1.sq, e2⟩
end
abbrev S2 := List (Option D)
abbrev TE2 := S2 → Gp → (D → Gp → Prop) → Prop
abbrev TT2 := S2 → Gp → (Bool → Gp → Prop) → Prop
abbrev TA2 := S2 → Gp → (List D → Gp → Prop) → Prop
structure Ends2 where
  nx : S2 → Gp → Prop
  rt : D → Gp → Prop
  bk : S2 → Gp → Prop := fun _ _ => False
  ct : S2 → Gp → Prop := fun _ _ => False
abbrev TS2 := Ends2 → S2 → Gp → Prop
def look : S2 → Nat → Option D
  | [], _ => none
  | o :: _, 0 => o
  | _ :: r, i + 1 => look r i
theorem look_get : ∀ {σ : S2} {i : Nat} {d : D}, look σ i = some d → σ[i]? = some (some d)
  | [], _, _, e => by cases e
  | o :: _, 0, d, e => by simp [look] at e; simp [e]
  | _ :: r, i + 1, d, e => by simpa using look_get (σ := r) (i := i) (d := d) e
structure Rel (K : PySem.W.Frag) (σ : S2) (G : Gp) (σ1 : L2.St) (H : Hp) : Prop where
  g : RelG K G H
  len : σ.length = σ1.length
  val : ∀ (i : Nat) d, σ[i]? = some (some d) → ∃ v, σ1[i]? = some (some v) ∧ Den K H d v
theorem Rel.to {K : PySem.W.Frag} {σ : S2} {G G' : Gp} {σ1 : L2.St} {H H' : Hp} (r : Rel K σ G σ1 H) (g : Grow H H') (r' : RelG K G' H') : Rel K σ G' σ1 H' :=
  ⟨r', r.len, fun i d e => by obtain ⟨v, e1, e2⟩ := r.val i d e; exact ⟨v, e1, e2.grow g⟩⟩
theorem Rel.set {K : PySem.W.Frag} {σ : S2} {G : Gp} {σ1 : L2.St} {H : Hp} (r : Rel K σ G σ1 H) (i : Nat) {d : D} {v : V} (h : Den K H d v) : Rel K (σ.set i (some d)) G (σ1.set i (some v)) H :=
  ⟨r.g, by simp [r.len], fun j d' e => by
    by_cases hj : i = j
    · subst hj
      have hi : i < σ.length := by
        have := (List.getElem?_eq_some_iff.mp e).1; simpa using this
      rw [List.getElem?_set_self hi] at e
      cases e
      exact ⟨v, by rw [List.getElem?_set_self (by rw [← r.len]; exact hi)], h⟩
    · rw [List.getElem?_set_ne hj] at e
      obtain ⟨u, e1, e2⟩ := r.val j d' e
      exact ⟨u, by rw [List.getElem?_set_ne hj]; exact e1, e2⟩⟩
def lE (K : PySem.W.Frag) (t : TE2) : TE := fun σ1 H Q => ∃ σ G R, Rel K σ G σ1 H ∧ t σ G R ∧ ∀ d G', R d G' → ∀ v H', Grow H H' → RelG K G' H' → Den K H' d v → Q v H'
def lT (K : PySem.W.Frag) (t : TT2) : TT := fun σ1 H Q => ∃ σ G R, Rel K σ G σ1 H ∧ t σ G R ∧ ∀ b G', R b G' → ∀ H', Grow H H' → RelG K G' H' → Q b H'
def lA (K : PySem.W.Frag) (t : TA2) : TA := fun σ1 H Q => ∃ σ G R, Rel K σ G σ1 H ∧ t σ G R ∧ ∀ ds G', R ds G' → ∀ vs H', Grow H H' → RelG K G' H' → Dens K H' ds vs → Q vs H'
structure ER (K : PySem.W.Frag) (H : Hp) (D2 : Ends2) (E : Ends) : Prop where
  nx : ∀ σ G, D2.nx σ G → ∀ σ1 H', Grow H H' → Rel K σ G σ1 H' → E.nx σ1 H'
  bk : ∀ σ G, D2.bk σ G → ∀ σ1 H', Grow H H' → Rel K σ G σ1 H' → E.bk σ1 H'
  ct : ∀ σ G, D2.ct σ G → ∀ σ1 H', Grow H H' → Rel K σ G σ1 H' → E.ct σ1 H'
  rt : ∀ d G, D2.rt d G → ∀ v H', Grow H H' → RelG K G H' → Den K H' d v → E.rt v H'
theorem ER.to {K : PySem.W.Frag} {H H' : Hp} {D2 : Ends2} {E : Ends} (e : ER K H D2 E) (g : Grow H H') : ER K H' D2 E :=
  ⟨fun σ G h σ1 H1 g1 => e.nx σ G h σ1 H1 (g.trans g1), fun σ G h σ1 H1 g1 => e.bk σ G h σ1 H1 (g.trans g1), fun σ G h σ1 H1 g1 => e.ct σ G h σ1 H1 (g.trans g1), fun d G h v H1 g1 => e.rt d G h v H1 (g.trans g1)⟩
def lS (K : PySem.W.Frag) (t : TS2) : TS := fun E σ1 H => ∃ σ G D2, Rel K σ G σ1 H ∧ t D2 σ G ∧ ER K H D2 E
def E2 (X : Cx) (e : Expr) (t : TE2) : Prop := PE X e (lE X.K t)
def T2 (X : Cx) (e : Expr) (t : TT2) : Prop := PT X e (lT X.K t)
def A2 (X : Cx) (es : List Expr) (t : TA2) : Prop := PA X es (lA X.K t)
def P2 (X : Cx) (st : Stmt) (t : TS2) : Prop := PS X st (lS X.K t)
def Ps2 (X : Cx) (st : List Stmt) (t : TS2) : Prop := PSs X st (lS X.K t)
section
variable {X : Cx} {a b c e o : Expr} {es : List Expr} {pos p : Pos} {ta tb tc te : TE2}
def xVar (i : Nat) : TE2 := fun σ G R => match look σ i with | some d => R d G | none => False
def xC (d : D) : TE2 := fun _ G R => R d G
theorem e_var (i : Nat) {x : Str} (hN : X.N[i]? = some x := by rfl) (hv : Vis X.env.scope x := by first | exact Or.inl rfl | exact Or.inr (Or.inl rfl) | exact Or.inr (Or.inr rfl)) (hd : (x == ("__debug__" : Str)) = false := by decide)
    (hcd : (x == ("__classdict__" : Str)) = false := by decide) : E2 X (.Name x pos) (xVar i) := by
  refine PE.mono (pe_var hN hv hd hcd) ?_
  rintro σ1 H Q ⟨σ, G, R, r, t, k⟩
  unfold xVar at t
  cases q : look σ i with
  | none => rw [q] at t; exact t.elim
  | some d =>
    rw [q] at t
    obtain ⟨v, e1, e2⟩ := r.val i d (look_get q)
    exact ⟨v, e1, k d G t v H (.refl H) r.g e2⟩
theorem e_int {i j} : E2 X (.Constant (.int i) j pos) (xC (.int i)) := by
  refine PE.mono pe_int ?_
  rintro σ1 H Q ⟨σ, G, R, r, t, k⟩
  exact k _ G t _ H (.refl H) r.g (by unfold Den; rfl)
theorem e_bl {i j} : E2 X (.Constant (.bool i) j pos) (xC (.bl i)) := by
  refine PE.mono pe_bl ?_
  rintro σ1 H Q ⟨σ, G, R, r, t, k⟩
  exact k _ G t _ H (.refl H) r.g (by unfold Den; rfl)
abbrev Q2 := D → Gp → Prop
def Fit (K : PySem.W.Frag) (r : R2) (f : D → D → Gp → Q2 → Prop) : Prop :=
  ∀ dx dy G R x y H Q, f dx dy G R → RelG K G H → Den K H dx x → Den K H dy y → (∀ d G', R d G' → ∀ v H', Grow H H' → RelG K G' H' → Den K H' d v → Q v H') → r x y H Q
def xOp (f : D → D → Gp → Q2 → Prop) (ta tb : TE2) : TE2 := fun σ G R => ta σ G fun x G1 => tb σ G1 fun y G2 => f x y G2 R
theorem lift2 {K : PySem.W.Frag} {r : R2} {f : D → D → Gp → Q2 → Prop} (hf : Fit K r f) {σ1 : L2.St} {H : Hp} {Q : VK} (h : lE K (xOp f ta tb) σ1 H Q) : tOp r (lE K ta) (lE K tb) σ1 H Q := by
  obtain ⟨σ, G, R, rl, t, k⟩ := h
  refine ⟨σ, G, _, rl, t, fun dx G1 t1 x H1 g1 r1 d1 => ?_⟩
  refine ⟨σ, G1, _, rl.to g1 r1, t1, fun dy G2 t2 y H2 g2 r2 d2 => ?_⟩
  exact hf dx dy G2 R x y H2 Q t2 r2 (d1.grow g2) d2 fun d G' q v H' g' r' d' => k d G' q v H' ((g1.trans g2).trans g') r' d'
theorem e_op {op : Operator} {r : R2} {f : D → D → Gp → Q2 → Prop} (ho : OpR X (binaryOp op) r) (hf : Fit X.K r f) (ha : E2 X a ta) (hb : E2 X b tb) : E2 X (.BinOp a op b pos) (xOp f ta tb) :=
  PE.mono (pe_op ho ha hb) fun σ1 H Q h => lift2 hf h
theorem e_cmp {op : CmpOp} {r : R2} {f : D → D → Gp → Q2 → Prop} (ho : OpR X (compareOp op) r) (hf : Fit X.K r f) (ha : E2 X a ta) (hb : E2 X b tb) (hm : behindInMarks op b = false) : E2 X (.Compare a [op] [b] pos) (xOp f ta tb) :=
  PE.mono (pe_cmpR ho ha hb hm) fun σ1 H Q h => lift2 hf h
def xB (t : TE2) : TT2 := fun σ G R => t σ G fun d G1 => match d with | .bl b => R b G1 | _ => False
theorem t_cmp {op : CmpOp} {r : R2} {f : D → D → Gp → Q2 → Prop} (ho : OpR X (compareOp op) r) (hf : Fit X.K r f) (ha : E2 X a ta) (hb : E2 X b tb) (hm : behindInMarks op b = false) : T2 X (.Compare a [op] [b] pos) (xB (xOp f ta tb)) := by
  refine PT.mono (pt_cmpR ho ha hb hm) ?_
  rintro σ1 H Q ⟨σ, G, R, rl, t, k⟩
  refine lift2 hf ⟨σ, G, _, rl, t, fun d G' q v H' g' r' d' => ?_⟩
  cases d with
  | bl b =>
    unfold Den at d'
    exact ⟨b, d', k b G' q H' g' r'⟩
  | _ => exact q.elim
def fII (g : Int → Int → D) : D → D → Gp → Q2 → Prop := fun x y G R => match x, y with | .int i, .int j => R (g i j) G | _, _ => False
def flat1 : D → Bool
  | .tup _ => false
  | .adr _ => false
  | .dic _ => false
  | _ => true
def vOf : D → V
  | .non => .non | .bl b => .bl b | .int i => .int i | .str x => .str x | .tup _ => .non | .adr a => .ref a | .dic a => .ref a
theorem den_vOf {K : PySem.W.Frag} {H : Hp} {d : D} (h : flat1 d = true) : Den K H d (vOf d) := by
  cases d <;> first | (cases h; done) | (unfold Den; rfl)
theorem fit_ii {K : PySem.W.Frag} {gv : Int → Int → V} {g : Int → Int → D} (hg : ∀ i j, flat1 (g i j) = true ∧ gv i j = vOf (g i j)) : Fit K (rI0 gv) (fII g) := by
  intro dx dy G R x y H Q h r d1 d2 k
  unfold fII at h
  cases dx with
  | int i =>
    cases dy with
    | int j =>
      unfold Den at d1 d2
      subst d1 d2
      exact ⟨i, j, rfl, rfl, k _ G h _ H (.refl H) r (by rw [(hg i j).2]; exact den_vOf (hg i j).1)⟩
    | _ => exact h.elim
  | _ => exact h.elim
def fIIC (C : Int → Int → Prop) (g : Int → Int → D) : D → D → Gp → Q2 → Prop := fun x y G R => match x, y with | .int i, .int j => C i j ∧ R (g i j) G | _, _ => False
theorem fit_iic {K : PySem.W.Frag} {C : Int → Int → Prop} {gv : Int → Int → V} {g : Int → Int → D} (hg : ∀ i j, flat1 (g i j) = true ∧ gv i j = vOf (g i j)) : Fit K (rI C gv) (fIIC C g) := by
  intro dx dy G R x y H Q h r d1 d2 k
  unfold fIIC at h
  cases dx with
  | int i =>
    cases dy with
    | int j =>
      unfold Den at d1 d2
      subst d1 d2
      exact ⟨i, j, rfl, rfl, h.1, k _ G h.2 _ H (.refl H) r (by rw [(hg i j).2]; exact den_vOf (hg i j).1)⟩
    | _ => exact h.elim
  | _ => exact h.elim
end
end L3
set_option Elab.async false
set_option linter.all false
set_option maxRecDepth 100000
set_option maxHeartbeats 4000000
namespace L3
open PySem PySem.Spec PyProof.Rows L2
section
variable {X : Cx} {a b c e o : Expr} {es : List Expr} {pos p : Pos} {ta tb tc te : TE2}
abbrev TL2 := S2 → Gp → (List D → Gp → Prop) → Prop
def lL (K : PySem.W.Frag) (t : TL2) : TE := fun σ1 H Q => ∃ σ G R, Rel K σ G σ1 H ∧ t σ G R ∧ ∀ ds G', R ds G' → ∀ l xs H', Grow H H' → RelG K G' H' → G'.m l = none → H' l = some (.lst xs) → Dens K H' ds xs → Q (.ref l) H'
def F2 (X : Cx) (e : Expr) (t : TL2) : Prop := PE X e (lL X.K t)
def xNew (t : TL2) : TE2 := fun σ G R => t σ G fun ds G' => ∀ l, G'.m l = none → R (.adr l) (gset G' l ds)
theorem e_new {t : TL2} (h : F2 X e t) : E2 X e (xNew t) := by
  refine PE.mono h ?_
  rintro σ1 H Q ⟨σ, G, R, r, q, k⟩
  exact ⟨σ, G, _, r, q, fun ds G' q' l xs H' g r' n e' d => k _ _ (q' l n) _ H' g (r'.own e' d) (by unfold Den; rfl)⟩
def xNil : TA2 := fun _ G R => R [] G
def xCons (ta : TE2) (tr : TA2) : TA2 := fun σ G R => ta σ G fun x G1 => tr σ G1 fun xs G2 => R (x :: xs) G2
theorem a_nil : A2 X [] xNil := by
  intro pos pins s σ1 H Q I h
  refine pa_nil pos pins s σ1 H Q I ?_
  obtain ⟨σ, G, R, r, q, k⟩ := h
  exact k [] G q [] H (.refl H) r.g .nil
theorem a_cons {tr : TA2} (ha : E2 X e ta) (hr : A2 X es tr) (hs : starEach (e :: es) X.env = (false, eval e X.env) :: starEach es X.env := by rfl) : A2 X (e :: es) (xCons ta tr) := by
  intro pos pins s σ1 H Q I h
  refine pa_cons ha hr hs pos pins s σ1 H Q I ?_
  obtain ⟨σ, G, R, r, q, k⟩ := h
  refine ⟨σ, G, _, r, q, fun d G1 q1 v H1 g1 r1 d1 => ?_⟩
  refine ⟨σ, G1, _, r.to g1 r1, q1, fun ds G2 q2 vs H2 g2 r2 d2 => ?_⟩
  exact k _ G2 q2 _ H2 (g1.trans g2) r2 (.cons (d1.grow g2) d2)
def xTup (t : TA2) : TE2 := fun σ G R => t σ G fun ds G1 => ds.length ≤ sizeLine ∧ R (.tup ds) G1
theorem e_tup {t : TA2} {x1} (h : A2 X es t) : E2 X (.Tuple es x1 pos) (xTup t) := by
  refine PE.mono (pe_tup h) ?_
  rintro σ1 H Q ⟨σ, G, R, r, q, k⟩
  refine ⟨σ, G, _, r, q, fun ds G1 q1 vs H1 g1 r1 d1 => ⟨by rw [← d1.length]; exact q1.1, fun p hp => ?_⟩⟩
  refine k _ G1 q1.2 _ _ (g1.trans (.fresh hp)) (r1.fresh hp) ?_
  unfold Den
  exact ⟨p, vs, rfl, .of upd_same, d1.grow (.fresh hp)⟩
def xLst (t : TA2) : TL2 := fun σ G R => t σ G fun ds G1 => ds.length ≤ sizeLine ∧ R ds G1
theorem f_lst {t : TA2} (h : A2 X es t) : F2 X (.List es pos) (xLst t) := by
  refine PE.mono (pe_lst h) ?_
  rintro σ1 H Q ⟨σ, G, R, r, q, k⟩
  refine ⟨σ, G, _, r, q, fun ds G1 q1 vs H1 g1 r1 d1 => ⟨by rw [← d1.length]; exact q1.1, fun p hp => ?_⟩⟩
  exact k ds G1 q1.2 p vs _ (g1.trans (.fresh hp)) (r1.fresh hp) (r1.free hp) upd_same (d1.grow (.fresh hp))
abbrev Sp2 := List D → Gp → Q2 → Prop
def lSp (K : PySem.W.Frag) (sp : Sp2) : Sp := fun vs H Q _ => ∃ ds G R, Dens K H ds vs ∧ RelG K G H ∧ sp ds G R ∧ ∀ d G', R d G' → ∀ v H', Grow H H' → RelG K G' H' → Den K H' d v → Q v H'
def Df (P : Program) (w : World) (K : PySem.W.Frag) (mg : Str → Option Value) (base : Heap) (k : Nat) (x : Str) (ps : List Str) (sp : Sp2) : Prop :=
  ∃ f fd, FnOk P w K mg base CX0 k f fd ps (lSp K sp) ∧ mg x = some (.ref f) ∧ PySem.W.keepIn K (.ref f) = true ∧ Binds K fd ps []
def xCall (sp : Sp2) (t : TA2) : TE2 := fun σ G R => t σ G fun ds G1 => sp ds G1 R
theorem e_call {sp : Sp2} {t : TA2} {k k' : Nat} {x : Str} {ps : List Str} (F : Df X.prog X.w X.K X.mg X.base k x ps sp) (hr : Room k' X.A) (hk : k ≤ k') (hg : Gl X x) (ha : A2 X (e :: es) t)
    (hdb : (x == ("__debug__" : Str)) = false := by decide) (he : starEach (e :: es) X.env = (false, eval e X.env) :: starEach es X.env := by rfl) (hpl : (backTo pos (starEach es X.env)).any (·.1) = false := by rfl) :
    E2 X (.Call (.Name x p) (e :: es) [] pos) (xCall sp t) := by
  obtain ⟨f, fd, F, hm, hkp, hb⟩ := F
  refine PE.mono (pe_call (dvs := []) F (hr.mono hk) hg hm hkp hb .nil pass0 ha hdb he hpl) ?_
  rintro σ1 H Q ⟨σ, G, R, r, q, kk⟩
  refine ⟨σ, G, _, r, q, fun ds G1 q1 vs H1 g1 r1 d1 => ?_⟩
  show lSp X.K _ (vs ++ []) H1 Q E0
  rw [List.append_nil]
  exact ⟨ds, G1, R, d1, r1, q1, fun d G' q' v H' g' => kk d G' q' v H' (g1.trans g')⟩
def spL (sp : List D → Gp → (List D → Gp → Prop) → Prop) : Sp2 := fun ds G R => sp ds G fun ls G' => ∀ l, G'.m l = none → R (.adr l) (gset G' l ls)
def xCallL (sp : List D → Gp → (List D → Gp → Prop) → Prop) (t : TA2) : TL2 := fun σ G R => t σ G fun ds G1 => sp ds G1 R
theorem f_call {sp : List D → Gp → (List D → Gp → Prop) → Prop} {t : TA2} {k k' : Nat} {x : Str} {ps : List Str} (F : Df X.prog X.w X.K X.mg X.base k x ps (spL sp)) (hmono : ∀ ds G R R', (∀ ls G', R ls G' → R' ls G') → sp ds G R → sp ds G R') (hr : Room k' X.A) (hk : k ≤ k') (hg : Gl X x) (ha : A2 X (e :: es) t)
    (hdb : (x == ("__debug__" : Str)) = false := by decide) (he : starEach (e :: es) X.env = (false, eval e X.env) :: starEach es X.env := by rfl) (hpl : (backTo pos (starEach es X.env)).any (·.1) = false := by rfl) :
    F2 X (.Call (.Name x p) (e :: es) [] pos) (xCallL sp t) := by
  obtain ⟨f, fd, F, hm, hkp, hb⟩ := F
  refine PE.mono (pe_call (dvs := []) F (hr.mono hk) hg hm hkp hb .nil pass0 ha hdb he hpl) ?_
  rintro σ1 H Q ⟨σ, G, R, r, q, kk⟩
  refine ⟨σ, G, _, r, q, fun ds G1 q1 vs H1 g1 r1 d1 => ?_⟩
  show lSp X.K _ (vs ++ []) H1 Q E0
  rw [List.append_nil]
  refine ⟨ds, G1, fun d G' => ∃ l ls G0, d = .adr l ∧ G0.m l = none ∧ G' = gset G0 l ls ∧ R ls G0, d1, r1, hmono _ _ _ _ (fun ls G' q l n => ⟨l, ls, G', rfl, n, rfl, q⟩) q1, ?_⟩
  rintro d G' ⟨l, ls, G0, rfl, n, rfl, q'⟩ v H' g' r' dv
  unfold Den at dv
  subst dv
  obtain ⟨xs, e1, e2⟩ := r'.m l ls gset_same
  exact kk ls G0 q' l xs H' (g1.trans g') (r'.sub (.new n)) n e1 e2
section
variable {st : Stmt} {rest : List Stmt} {t u : TS2}
def xNext : TS2 := fun E σ G => E.nx σ G
def xSeq (t u : TS2) : TS2 := fun E σ G => t { E with nx := u E } σ G
theorem ps_nil : Ps2 X [] xNext := by
  intro pins s σ1 H E I h
  refine pss_nil pins s σ1 H E I ?_
  obtain ⟨σ, G, D2, r, q, k⟩ := h
  exact k.nx σ G q σ1 H (.refl H) r
theorem ps_cons (h1 : P2 X st t) (h2 : Ps2 X rest u) : Ps2 X (st :: rest) (xSeq t u) := by
  intro pins s σ1 H E I h
  refine pss_cons h1 h2 pins s σ1 H E I ?_
  obtain ⟨σ, G, D2, r, q, k⟩ := h
  refine ⟨σ, G, _, r, q, ⟨fun σ' G' q' σ1' H' g' r' => ⟨σ', G', D2, r', q', k.to g'⟩, k.bk, k.ct, k.rt⟩⟩
theorem ps_one (h1 : P2 X st t) : Ps2 X [st] t := pss_one h1
def xRet (te : TE2) : TS2 := fun E σ G => te σ G E.rt
theorem p_ret (he : E2 X e te) : P2 X (.Return (some e) pos) (xRet te) := by
  refine PS.mono (L2.ps_ret he) ?_
  rintro E σ1 H ⟨σ, G, D2, r, q, k⟩
  exact ⟨σ, G, _, r, q, fun d G' q' v H' g' r' d' => k.rt d G' q' v H' g' r' d'⟩
def xDrop (te : TE2) : TS2 := fun E σ G => te σ G fun _ G1 => E.nx σ G1
theorem p_expr (he : E2 X e te) (hs : swapsWith e none pos.line X.env = pure false := by rfl) : P2 X (.Expr e pos) (xDrop te) := by
  refine PS.mono (L2.ps_expr he hs) ?_
  rintro E σ1 H ⟨σ, G, D2, r, q, k⟩
  exact ⟨σ, G, _, r, q, fun d G' q' v H' g' r' d' => k.nx σ G' q' σ1 H' g' (r.to g' r')⟩
def xIf (c : TT2) (t u : TS2) : TS2 := fun E σ G => c σ G fun b G1 => if b = true then t E σ G1 else u E σ G1
theorem p_if {x y : List Stmt} {tc : TT2} (hc : T2 X c tc) (ha : Ps2 X x t) (hb : Ps2 X y u) : P2 X (.If c x y pos) (xIf tc t u) := by
  refine PS.mono (L2.ps_if hc ha hb) ?_
  rintro E σ1 H ⟨σ, G, D2, r, q, k⟩
  refine ⟨σ, G, _, r, q, fun b G' q' H' g' r' => ?_⟩
  cases b with
  | true => exact ⟨σ, G', D2, r.to g' r', q', k.to g'⟩
  | false => exact ⟨σ, G', D2, r.to g' r', q', k.to g'⟩
abbrev TG2 := D → S2 → Gp → (S2 → Gp → Prop) → Prop
def lG (K : PySem.W.Frag) (g : TG2) : TG := fun v σ1 H Q => ∃ σ G d R, Rel K σ G σ1 H ∧ Den K H d v ∧ g d σ G R ∧ ∀ σ' G', R σ' G' → ∀ σ1' H', Grow H H' → Rel K σ' G' σ1' H' → Q σ1' H'
def G2 (X : Cx) (tg : Expr) (g : TG2) : Prop := PG X tg (lG X.K g)
theorem PG.mono {tg : Expr} {t t' : TG} (h : PG X tg t) (hm : ∀ v σ H Q, t' v σ H Q → t v σ H Q) : PG X tg t' := fun pins s σ H v u Q I r q => h pins s σ H v u Q I r (hm v σ H Q q)
def gN (i : Nat) : TG2 := fun d σ G R => R (σ.set i (some d)) G
theorem g_name (i : Nat) {x : Str} (hN : X.N.Nodup) (hi : X.N[i]? = some x := by rfl) (hx : Loc X.env.scope x := by first | exact Or.inl rfl | exact Or.inr rfl) (hf : X.fn x = true ∨ X.env.scope.names.lookup x = some .local := by first | exact .inl rfl | exact .inr rfl | assumption) : G2 X (.Name x pos) (gN i) := by
  refine PG.mono (pg_name hN hi hx hf) ?_
  rintro v σ1 H Q ⟨σ, G, d, R, r, dv, q, k⟩
  exact k _ G q _ H (.refl H) (r.set i dv)
def gNN (i j : Nat) : TG2 := fun d σ G R => match d with | .tup [a, b] => R ((σ.set i (some a)).set j (some b)) G | _ => False
theorem g_two (i j : Nat) {x y : Str} {px py : Pos} {kk : Nat} (hc : X.calm = true) (hN : X.N.Nodup) (hi : X.N[i]? = some x := by rfl) (hj : X.N[j]? = some y := by rfl) (hx : Loc X.env.scope x := by first | exact Or.inl rfl | exact Or.inr rfl) (hy : Loc X.env.scope y := by first | exact Or.inl rfl | exact Or.inr rfl)
    (hf : X.fn x = true ∨ X.env.scope.names.lookup x = some .local := by first | exact .inl rfl | exact .inr rfl | assumption) (hf' : X.fn y = true ∨ X.env.scope.names.lookup y = some .local := by first | exact .inl rfl | exact .inr rfl | assumption) :
    G2 X (.Tuple [.Name x px, .Name y py] kk pos) (gNN i j) := by
  refine PG.mono (pg_tup (n := 2) hc (pgs_cons (pg_name hN hi hx hf) (pgs_cons (pg_name hN hj hy hf') pgs_nil))) ?_
  rintro v σ1 H Q ⟨σ, G, d, R, r, dv, q, k⟩
  unfold gNN at q
  split at q
  · rename_i d1 d2
    unfold Den at dv
    obtain ⟨a, xs, rfl, hs, hd⟩ := dv
    unfold Dens at hd
    obtain ⟨x1, r1, rfl, h1, hd⟩ := hd
    unfold Dens at hd
    obtain ⟨x2, r2, rfl, h2, hd⟩ := hd
    unfold Dens at hd
    subst hd
    exact ⟨a, [x1, x2], rfl, hs, rfl, x1, [x2], rfl, x2, [], rfl, rfl, k _ G q _ H (.refl H) ((r.set i h1).set j h2)⟩
  · exact q.elim
def xAsg (te : TE2) (g : TG2) : TS2 := fun E σ G => te σ G fun d G1 => g d σ G1 E.nx
theorem lift_asg {g : TG2} {E : Ends} {σ1 : L2.St} {H : Hp} {K : PySem.W.Frag} (h : lS K (xAsg te g) E σ1 H) : tAsg (lE K te) (lG K g) E σ1 H := by
  obtain ⟨σ, G, D2, r, q, k⟩ := h
  refine ⟨σ, G, _, r, q, fun d G' q' v H' g' r' d' => ⟨σ, G', d, _, r.to g' r', d', q', fun σ' G'' q'' σ1' H'' g'' r'' => k.nx σ' G'' q'' σ1' H'' (g'.trans g'') r''⟩⟩
theorem p_set (i : Nat) {x : Str} {pos' : Pos} (hN : X.N.Nodup) (he : E2 X e te) (hi : X.N[i]? = some x := by rfl) (hx : Loc X.env.scope x := by first | exact Or.inl rfl | exact Or.inr rfl) (hs : swapsWith e (some (.Name x pos')) pos.line X.env = pure false := by rfl) (hf : X.fn x = true ∨ X.env.scope.names.lookup x = some .local := by first | exact .inl rfl | exact .inr rfl | assumption) :
    P2 X (.Assign [.Name x pos'] e pos) (xAsg te (gN i)) := by
  refine PS.mono (L2.ps_set hN hi hx he hs hf) fun E σ1 H h => ?_
  obtain ⟨σ, G, D2, r, q, k⟩ := h
  refine ⟨σ, G, _, r, q, fun d G' q' v H' g' r' d' => ?_⟩
  exact k.nx _ G' q' _ H' g' ((r.to g' r').set i d')
theorem p_asg {tg : Expr} {g : TG2} (he : E2 X e te) (hg : G2 X tg g) (hs : swapsWithSole [tg] e pos.line X.env = pure false := by rfl) (hw : swappedStores [tg] e X.env = pure none := by rfl)
    (h1 : (assignEach [tg] X.env).map (·.2) = [assign tg X.env] := by rfl) : P2 X (.Assign [tg] e pos) (xAsg te g) :=
  PS.mono (L2.ps_asg he hg hs hw h1) fun _ _ _ h => lift_asg h
def gIx (to ti : TE2) : TG2 := fun d σ G R => to σ G fun o G1 => ti σ G1 fun i G2 => match o, i with
  | .adr l, .int k => match G2.m l with
    | some ds => match ixN ds.length k with | some j => R σ (gset G2 l (ds.set j d)) | none => False
    | none => False
  | _, _ => False
theorem g_ix {i : Expr} {to ti : TE2} (ho : E2 X o to) (hi : E2 X i ti)
    (ha : ∀ v, assign (.Subscript o i pos) X.env v = (do
      let ov ← holding [v] (eval o X.env)
      let iv ← holding [v, ov] (eval i X.env)
      standAt pos
      holding [v, ov, iv] (setItem ov iv v)
      release [v, ov, iv] []) := by intro _; rfl) : G2 X (.Subscript o i pos) (gIx to ti) := by
  refine PG.mono (pg_sub ho hi set_list ha) ?_
  rintro v σ1 H Q ⟨σ, G, d, R, r, dv, q, k⟩
  refine ⟨σ, G, _, r, q, fun dx G1 q1 x H1 g1 r1 d1 => ⟨σ, G1, _, r.to g1 r1, q1, fun dy G2' q2 y H2 g2 r2 d2 => ?_⟩⟩
  cases dx with
  | adr l =>
    cases dy with
    | int j =>
      dsimp only at q2
      cases e1 : G2'.m l with
      | none => rw [e1] at q2; exact q2.elim
      | some ds =>
        rw [e1] at q2
        dsimp only at q2
        cases e2 : ixN ds.length j with
        | none => rw [e2] at q2; exact q2.elim
        | some jj =>
          rw [e2] at q2
          dsimp only at q2
          have d1' := d1.grow g2
          unfold Den at d1' d2
          subst d1' d2
          obtain ⟨xs, h1, h2⟩ := r2.m l ds e1
          refine ⟨l, xs, j, jj, rfl, rfl, h1, by rw [← h2.length]; exact e2, ?_⟩
          have g3 : Grow H2 (upd H2 l (.lst (xs.set jj v))) := .lst h1
          exact k _ _ q2 _ _ ((g1.trans g2).trans g3) ((r.to (g1.trans g2) r2).to g3 (r2.put h1 (h2.set jj (dv.grow (g1.trans g2)))))
    | _ => exact q2.elim
  | _ => exact q2.elim
end
end
end L3
set_option Elab.async false
set_option linter.all false
set_option maxRecDepth 100000
set_option maxHeartbeats 4000000
namespace L3
open PySem PySem.Spec PyProof.Rows L2
abbrev TI2 := S2 → Gp → (List D → (Gp → Prop) → Gp → Prop) → Prop
structure Walk (K : PySem.W.Frag) (H0 : Hp) (ds : List D) (gd : Gp → Prop) (J : It) : Prop where
  go : ∀ i G H, gd G → RelG K G H → Grow H0 H → i < ds.length → J.go i H
  stop : ∀ G H, gd G → RelG K G H → Grow H0 H → J.stop ds.length H
  yld : ∀ i G H x H', gd G → RelG K G H → Grow H0 H → i < ds.length → J.yld i H x H' → Grow H H' ∧ RelG K G H' ∧ ∃ d, ds[i]? = some d ∧ Den K H' d x
def lI (K : PySem.W.Frag) (wi : TI2) : TI := fun σ1 H R => ∃ σ G R2, Rel K σ G σ1 H ∧ wi σ G R2 ∧ ∀ ds gd G', R2 ds gd G' → ∀ J H', Grow H H' → RelG K G' H' → Walk K H' ds gd J → ds.length ≤ sizeLine → R J H'
def I2 (X : Cx) (tg iter : Expr) (wi : TI2) : Prop := PI X tg iter (lI X.K wi)
theorem PI.mono {X : Cx} {tg iter : Expr} {t t' : TI} (h : PI X tg iter t) (hm : ∀ σ H R, t' σ H R → t σ H R) : PI X tg iter t' := fun pins s σ H R I q => h pins s σ H R I (hm σ H R q)
section
variable {X : Cx} {tg : Expr} {a b c e o l iter elt : Expr} {es : List Expr} {pos p : Pos} {ta tb te : TE2}
theorem pi_seq {l : Expr} {tl : TE} (hl : PE X l tl) : PI X tg l (fun σ H R => tl σ H fun x H1 => ∃ a xs, x = .ref a ∧ ((SqL X.K H1 a xs ∧ (xs.length ≤ sizeLine → R (Itl X.K a) H1)) ∨ (SqT X.K H1 a xs ∧ (xs.length ≤ sizeLine → R (Itt X.K a) H1)))) := by
  intro pins s σ H R I h
  refine thn (hl pins s σ H _ I h) fun v s1 ⟨x, H1, I1, r1, q1⟩ => ?_
  obtain ⟨a, xs, e, q⟩ := q1
  subst e
  cases r1
  have fpk : ∀ b ∈ [s1.heap.objs.size], FpOk X pins H1 b := fun b hb => by
    have e : b = s1.heap.objs.size := by simpa using hb
    subst e
    exact I1.fpOk (Nat.le_refl _) (I1.hok.fresh (Nat.le_refl _))
  rcases q with ⟨hq, q⟩ | ⟨hq, q⟩
  · obtain ⟨its, rv, p, hz⟩ := I1.list hq
    refine wpAny_pyIter_list p.isList ?_
    exact ⟨s1.heap.objs.size, [s1.heap.objs.size], _, _, H1, rfl, I1.kept (t' := s1.toks) fun b o e => Heap.get?_push_of_some _ e, turn_list a _, ⟨_, Heap.get?_push_size _ rfl, rfl, rfl⟩, fpk, q hz⟩
  · obtain ⟨its, rv, p, hz⟩ := I1.tuple hq
    refine wpAny_pyIter_tuple (show s1.heap.IsTuple a its.toArray from p) ?_
    exact ⟨s1.heap.objs.size, [s1.heap.objs.size], _, _, H1, rfl, I1.kept (t' := s1.toks) fun b o e => Heap.get?_push_of_some _ e, turn_tuple a _, ⟨_, Heap.get?_push_size _ rfl, rfl, rfl⟩, fpk, q hz⟩
theorem walk_list {K : PySem.W.Frag} {H0 : Hp} {a : Addr} {ds : List D} : Walk K H0 ds (fun G => Ls G a ds) (Itl K a) where
  go := fun i G H g r _ hi => by
    obtain ⟨xs, h1, h2⟩ := r.sq g
    exact ⟨xs, xs[i]'(by rw [← h2.length]; exact hi), h1, by simp⟩
  stop := fun G H g r _ => by
    obtain ⟨xs, h1, h2⟩ := r.sq g
    exact ⟨xs, h1, Nat.le_of_eq h2.length.symm⟩
  yld := fun i G H x H' g r _ hi y => by
    obtain ⟨xs, h1, h2⟩ := r.sq g
    obtain ⟨e, y⟩ := y
    subst e
    obtain ⟨d, e1, e2⟩ := h2.got (y xs h1)
    exact ⟨.refl _, r, d, e1, e2⟩
theorem walk_tup {K : PySem.W.Frag} {H0 : Hp} {a : Addr} {xs : List V} {ds : List D} (h : SqT K H0 a xs) (hd : Dens K H0 ds xs) : Walk K H0 ds (fun _ => True) (Itt K a) where
  go := fun i G H _ r g hi => ⟨xs, xs[i]'(by rw [← hd.length]; exact hi), g.sqT h, by simp⟩
  stop := fun G H _ r g => ⟨xs, g.sqT h, Nat.le_of_eq hd.length.symm⟩
  yld := fun i G H x H' _ r g hi y => by
    obtain ⟨e, y⟩ := y
    subst e
    obtain ⟨d, e1, e2⟩ := (hd.grow g).got (y xs (g.sqT h))
    exact ⟨.refl _, r, d, e1, e2⟩
def rangeD (lo : Int) (n : Nat) : List D := (List.range n).map fun (k : Nat) => D.int (lo + (k : Int))
theorem rangeD_len (lo : Int) (n : Nat) : (rangeD lo n).length = n := by simp [rangeD]
theorem rangeD_get {lo : Int} {n i : Nat} (h : i < n) : (rangeD lo n)[i]? = some (.int (lo + i)) := by simp [rangeD, h]
theorem walk_range {K : PySem.W.Frag} {H0 : Hp} {lo : Int} {n : Nat} : Walk K H0 (rangeD lo n) (fun _ => True) (Itr lo n) where
  go := fun i G H _ _ _ hi => by rw [rangeD_len] at hi; exact hi
  stop := fun G H _ _ _ => by rw [rangeD_len]; exact Nat.le_refl _
  yld := fun i G H x H' _ r _ hi y => by
    rw [rangeD_len] at hi
    obtain ⟨e, rfl⟩ := y
    subst e
    exact ⟨.refl _, r, _, rangeD_get hi, by unfold Den; rfl⟩
def iV (t : TE2) : TI2 := fun σ G R => t σ G fun d G1 => match d with
  | .tup ds => R ds (fun _ => True) G1
  | .adr a => ∃ ds, Ls G1 a ds ∧ R ds (fun G => Ls G a ds) G1
  | _ => False
theorem i_val (h : E2 X l ta) : I2 X tg l (iV ta) := by
  refine PI.mono (pi_seq h) ?_
  rintro σ1 H R ⟨σ, G, R2, r, q, k⟩
  refine ⟨σ, G, _, r, q, fun d G1 q1 v H1 g1 r1 d1 => ?_⟩
  cases d with
  | tup ds =>
    unfold Den at d1
    obtain ⟨a, xs, rfl, h1, h2⟩ := d1
    exact ⟨a, xs, rfl, .inr ⟨h1, fun hz => k ds _ G1 q1 _ H1 g1 r1 (walk_tup h1 h2) (by rw [h2.length]; exact hz)⟩⟩
  | adr a =>
    unfold Den at d1
    subst d1
    obtain ⟨ds, e, q1⟩ := q1
    obtain ⟨xs, h1, h2⟩ := r1.sq e
    exact ⟨a, xs, rfl, .inl ⟨h1, fun hz => k ds _ G1 q1 _ H1 g1 r1 walk_list (by rw [h2.length]; exact hz)⟩⟩
  | _ => exact q1.elim
def iF (t : TL2) : TI2 := fun σ G R => t σ G fun ds G1 => ∀ a, G1.m a = none → R ds (fun G => Ls G a ds) (gset G1 a ds)
theorem i_new {t : TL2} (h : F2 X l t) : I2 X tg l (iF t) := by
  refine PI.mono (pi_seq h) ?_
  rintro σ1 H R ⟨σ, G, R2, r, q, k⟩
  refine ⟨σ, G, _, r, q, fun ds G1 q1 a xs H1 g1 r1 n e1 d1 => ?_⟩
  exact ⟨a, xs, rfl, .inl ⟨.of e1, fun hz => k ds _ _ (q1 a n) _ H1 g1 (r1.own e1 d1) walk_list (by rw [d1.length]; exact hz)⟩⟩
def iR1 (t : TA2) : TI2 := fun σ G R => t σ G fun ds G1 => match ds with | [.int j] => (-1000000 ≤ j ∧ j ≤ 1000000) ∧ R (rangeD 0 j.toNat) (fun _ => True) G1 | _ => False
def iR2 (t : TA2) : TI2 := fun σ G R => t σ G fun ds G1 => match ds with | [.int i, .int j] => ((-1000000 ≤ i ∧ i ≤ 1000000) ∧ -1000000 ≤ j ∧ j ≤ 1000000) ∧ R (rangeD i (j - i).toNat) (fun _ => True) G1 | _ => False
theorem i_range1 {t : TA2} (hg : Gl X "range") (hm : X.mg "range" = none) (ha : A2 X [a] t) (hs : starEach [a] X.env = [(false, eval a X.env)] := by rfl) : I2 X tg (.Call (.Name "range" p) [a] [] pos) (iR1 t) := by
  refine PI.mono (pi_range1 hg hm ha hs) ?_
  rintro σ1 H R ⟨σ, G, R2, r, q, k⟩
  refine ⟨σ, G, _, r, q, fun ds G1 q1 vs H1 g1 r1 d1 => ?_⟩
  split at q1
  · rename_i j
    unfold Dens at d1
    obtain ⟨x, r', rfl, d1, d2⟩ := d1
    unfold Den at d1
    unfold Dens at d2
    subst d1 d2
    refine ⟨j, rfl, by omega, by omega, k _ _ G1 q1.2 _ H1 g1 r1 walk_range ?_⟩
    rw [rangeD_len, sizeLine_eq]; omega
  · exact q1.elim
theorem i_range2 {t : TA2} (hg : Gl X "range") (hm : X.mg "range" = none) (ha : A2 X [a, b] t) (hs : starEach [a, b] X.env = [(false, eval a X.env), (false, eval b X.env)] := by rfl) (hs2 : starEach [b] X.env = [(false, eval b X.env)] := by rfl) : I2 X tg (.Call (.Name "range" p) [a, b] [] pos) (iR2 t) := by
  refine PI.mono (pi_range2 hg hm ha hs hs2) ?_
  rintro σ1 H R ⟨σ, G, R2, r, q, k⟩
  refine ⟨σ, G, _, r, q, fun ds G1 q1 vs H1 g1 r1 d1 => ?_⟩
  split at q1
  · rename_i i j
    unfold Dens at d1
    obtain ⟨x, r', rfl, d1, d2⟩ := d1
    unfold Dens at d2
    obtain ⟨y, r', rfl, d2, d3⟩ := d2
    unfold Den at d1 d2
    unfold Dens at d3
    subst d1 d2 d3
    refine ⟨i, j, rfl, ⟨by omega, by omega, by omega, by omega⟩, k _ _ G1 q1.2 _ H1 g1 r1 walk_range ?_⟩
    rw [rangeD_len, sizeLine_eq]; omega
  · exact q1.elim
structure SubS (σ σ' : S2) : Prop where
  len : σ.length = σ'.length
  val : ∀ (i : Nat) d, σ[i]? = some (some d) → σ'[i]? = some (some d)
theorem SubS.refl (σ : S2) : SubS σ σ := ⟨rfl, fun _ _ h => h⟩
def Fg (P : S2 → Gp → Prop) : S2 → Gp → Prop := fun σ G => ∃ σ' G', SubS σ' σ ∧ Sub G' G ∧ P σ' G'
theorem Fg.of {P : S2 → Gp → Prop} {σ : S2} {G : Gp} (h : P σ G) : Fg P σ G := ⟨σ, G, .refl σ, .refl G, h⟩
theorem Rel.sub {K : PySem.W.Frag} {σ σ' : S2} {G G' : Gp} {σ1 : L2.St} {H : Hp} (r : Rel K σ G σ1 H) (s : SubS σ' σ) (g : Sub G' G) : Rel K σ' G' σ1 H :=
  ⟨r.g.sub g, s.len.trans r.len, fun i d e => r.val i d (s.val i d e)⟩
def xFor (wi : TI2) (g : TG2) (tb : TS2) : TS2 := fun E σ G => wi σ G fun ds gd G1 => ∃ Pv : Nat → S2 → Gp → Prop, Pv 0 σ G1 ∧ (∀ i σ G, i ≤ ds.length → Pv i σ G → gd G) ∧
  (∀ i x σ G, ds[i]? = some x → Pv i σ G → g x σ G fun σ2 G2 => tb { E with nx := Fg (Pv (i + 1)), ct := Fg (Pv (i + 1)), bk := E.nx } σ2 G2) ∧ ∀ σ G, Pv ds.length σ G → E.nx σ G
theorem p_for {wi : TI2} {g : TG2} {tb : TS2} {body : List Stmt} (hp : PassesOwn (model X.prog X.w) X.A X.env X.xe) (hc : X.calm = true) (hi : I2 X tg iter wi) (hg : G2 X tg g) (hb : Ps2 X body tb)
    (hs : ∀ x, foldedSetIterable iter X.env x = pure x := by intro _; rfl) : P2 X (.For tg iter body [] pos) (xFor wi g tb) := by
  refine PS.mono (L2.ps_for hp hc hi hg hb hs) ?_
  rintro E σ1 H ⟨σ, G, D2, r, q, k⟩
  refine ⟨σ, G, _, r, q, fun ds gd G1 q1 J H1 g1 r1 W hz => ?_⟩
  obtain ⟨Pv, p0, pg, pt, pd⟩ := q1
  refine ⟨fun i m σ1' H' => m = ds.length - i ∧ i ≤ ds.length ∧ Grow H1 H' ∧ ∃ σ' G', Rel X.K σ' G' σ1' H' ∧ Pv i σ' G', ⟨ds.length, by simp, Nat.zero_le _, .refl _, σ, G1, r.to g1 r1, p0⟩, ?_⟩
  rintro i m σ1' H' ⟨rfl, hi', g', σ', G', r', p'⟩
  have gd' := pg i σ' G' hi' p'
  by_cases hlt : i < ds.length
  · refine .inr ⟨W.go i G' H' gd' r'.g g' hlt, fun σ1'' H'' => Grow H1 H'' ∧ ∃ σ'' G'', Rel X.K σ'' G'' σ1'' H'' ∧ Pv (i + 1) σ'' G'', fun σ1'' H'' ⟨a1, σ'', G'', a2, a3⟩ => ⟨ds.length - (i + 1), by omega, rfl, hlt, a1, σ'', G'', a2, a3⟩, fun x H'' y => ?_⟩
    obtain ⟨gy, ry, d, e1, e2⟩ := W.yld i G' H' x H'' gd' r'.g g' hlt y
    replace g' := g'.trans gy
    refine ⟨σ', G', d, _, r'.to gy ry, e2, pt i d σ' G' e1 p', fun σ2 G2 q2 σ12 H2 g2 r2 => ⟨σ2, G2, _, r2, q2, ?_⟩⟩
    have back : ∀ σ3 G3, Fg (Pv (i + 1)) σ3 G3 → ∀ σ13 H3, Grow H2 H3 → Rel X.K σ3 G3 σ13 H3 → Grow H1 H3 ∧ ∃ σ'' G'', Rel X.K σ'' G'' σ13 H3 ∧ Pv (i + 1) σ'' G'' := by
      rintro σ3 G3 ⟨σ4, G4, a1, a2, a3⟩ σ13 H3 g3 r3
      exact ⟨(g'.trans g2).trans g3, σ4, G4, r3.sub a1 a2, a3⟩
    exact ⟨back, fun σ3 G3 q3 σ13 H3 g3 r3 => k.nx σ3 G3 q3 σ13 H3 (((g1.trans g').trans g2).trans g3) r3, back, fun d3 G3 q3 v3 H3 g3 r3 dv => k.rt d3 G3 q3 v3 H3 (((g1.trans g').trans g2).trans g3) r3 dv⟩
  · have e : i = ds.length := by omega
    subst e
    exact .inl ⟨W.stop G' H' gd' r'.g g', k.nx σ' G' (pd σ' G' p') σ1' H' (g1.trans g') r'⟩
def FgG (P : Gp → Prop) : Gp → Prop := fun G => ∃ G', Sub G' G ∧ P G'
theorem FgG.of {P : Gp → Prop} {G : Gp} (h : P G) : FgG P G := ⟨G, .refl G, h⟩
def xComp (wi : TI2) (bd : D → Option (List D)) (tc : TT2) (te : TE2) : TL2 := fun σ G R => wi σ G fun ds gd G1 => ∀ A, G1.m A = none → ∃ Pv : Nat → List D → Gp → Prop, Pv 0 [] (gset G1 A []) ∧ (∀ i acc G, i ≤ ds.length → Pv i acc G → gd G ∧ G.m A = some acc ∧ acc.length ≤ i) ∧
  (∀ i x acc G, ds[i]? = some x → Pv i acc G → match bd x with
    | some us => tc (σ ++ us.map some) G fun b G3 => if b = true then te (σ ++ us.map some) G3 fun d G4 => G4.m A = some acc ∧ FgG (Pv (i + 1) (acc ++ [d])) (gset G4 A (acc ++ [d])) else FgG (Pv (i + 1) acc) G3
    | none => False) ∧ ∀ acc G, Pv ds.length acc G → ∃ G', G'.m A = none ∧ Sub G' G ∧ R acc G'
def Ts2 (X : Cx) (ifs : List Expr) (t : TT2) : Prop := PTs X ifs (lT X.K t)
def xYes : TT2 := fun _ G R => R true G
theorem ts_nil : Ts2 X [] xYes := by
  intro pins s σ1 H Q I h
  refine pts_nil pins s σ1 H Q I ?_
  obtain ⟨σ, G, R, r, q, k⟩ := h
  exact k true G q H (.refl H) r.g
theorem ts_one {t : TT2} (h : T2 X c t) : Ts2 X [c] t := pts_one h
theorem Rel.app {K : PySem.W.Frag} {σ : S2} {G : Gp} {σ1 : L2.St} {H : Hp} (r : Rel K σ G σ1 H) {ds : List D} {vs : List V} (h : Dens K H ds vs) : Rel K (σ ++ ds.map some) G (σ1 ++ vs.map some) H :=
  ⟨r.g, by simp [r.len, h.length], fun i d e => by
    by_cases hi : i < σ.length
    · rw [List.getElem?_append_left hi] at e
      obtain ⟨v, e1, e2⟩ := r.val i d e
      exact ⟨v, by rw [List.getElem?_append_left (by rw [← r.len]; exact hi)]; exact e1, e2⟩
    · rw [List.getElem?_append_right (by omega), List.getElem?_map] at e
      cases q : ds[i - σ.length]? with
      | none => rw [q] at e; cases e
      | some d' =>
        rw [q] at e; cases e
        obtain ⟨v, e1, e2⟩ := h.get q
        exact ⟨v, by rw [List.getElem?_append_right (by rw [← r.len]; omega), List.getElem?_map, ← r.len, e1]; rfl, e2⟩⟩
theorem lift_comp {K : PySem.W.Frag} {wi : TI2} {bd : D → Option (List D)} {tc : TT2} {te : TE2} {n : Nat} {g : TG} {N : Nat}
    (hb : ∀ (σ1 : L2.St) (H : Hp) (d : D) (v : V) (us : List D) (Q : L2.St → Hp → Prop), σ1.length = N → Den K H d v → bd d = some us → us.length = n → (∀ vs, Dens K H us vs → Q (σ1 ++ vs.map some) H) → g v (σ1 ++ List.replicate n none) H Q)
    (hn : ∀ d us, bd d = some us → us.length = n)
    {σ1 : L2.St} {H : Hp} {Q : VK} (hl : σ1.length = N) (h : lL K (xComp wi bd tc te) σ1 H Q) : tComp n (lI K wi) g (lT K tc) (lE K te) σ1 H Q := by
  obtain ⟨σ, G, R, r, q, k⟩ := h
  refine ⟨σ, G, _, r, q, fun ds gd G1 q1 J H1 g1 r1 W hz A hA => ?_⟩
  obtain ⟨Pv, p0, pg, pt, pd⟩ := q1 A (r1.free hA)
  refine ⟨fun i m H2 => m = ds.length - i ∧ i ≤ ds.length ∧ Grow H1 H2 ∧ ∃ as G2, RelG K G2 H2 ∧ Pv i as G2, ⟨ds.length, by simp, Nat.zero_le _, .fresh hA, [], gset G1 A [], r1.new hA .nil, p0⟩, ?_⟩
  rintro i m H2 ⟨rfl, hi', g2, as, G2, r2, p2⟩
  obtain ⟨gd2, al, hlen⟩ := pg i as G2 hi' p2
  by_cases hlt : i < ds.length
  · refine .inr ⟨W.go i G2 H2 gd2 r2 g2 hlt, fun x H3 y => ?_⟩
    obtain ⟨gy, ry, d, e3, dv⟩ := W.yld i G2 H2 x H3 gd2 r2 g2 hlt y
    replace g2 := g2.trans gy
    replace r2 := ry
    have q3 := pt i d as G2 e3 p2
    cases eb : bd d with
    | none => rw [eb] at q3; exact q3.elim
    | some us =>
      rw [eb] at q3
      dsimp only at q3
      have hus := hn d us eb
      refine hb σ1 H3 d x us _ hl dv eb hus fun vs hv => ⟨?_, ?_, ?_⟩
      · rw [List.take_append_of_le_length (Nat.le_refl _), List.take_length]
      · rw [List.length_append, List.length_map, ← hv.length, hus]
      · have rr : Rel K (σ ++ us.map some) G2 (σ1 ++ vs.map some) H3 := (r.to (g1.trans g2) r2).app hv
        refine ⟨σ ++ us.map some, G2, _, rr, q3, fun b G4 q4 H4 g4 r4 => ?_⟩
        cases b with
        | false =>
          obtain ⟨G5, s5, p5⟩ := q4
          exact ⟨ds.length - (i + 1), by omega, rfl, hlt, g2.trans g4, as, G5, r4.sub s5, p5⟩
        | true =>
          refine ⟨σ ++ us.map some, G4, _, rr.to g4 r4, q4, fun d5 G5 q5 v H5 g5 r5 d5v => ?_⟩
          obtain ⟨a5, G6, s6, p6⟩ := q5
          obtain ⟨acc, e6, d6⟩ := r5.m A as a5
          refine ⟨acc, e6, by rw [← d6.length]; omega, ds.length - (i + 1), by omega, rfl, hlt, ((g2.trans g4).trans g5).trans (.lst e6), as ++ [d5], G6, ?_, p6⟩
          exact (r5.put e6 (d6.append (.cons d5v .nil))).sub s6
  · have e : i = ds.length := by omega
    subst e
    obtain ⟨G', n', s', q'⟩ := pd as G2 p2
    obtain ⟨acc, e6, d6⟩ := r2.m A as al
    exact .inl ⟨W.stop G2 H2 gd2 r2 g2, k as G' q' A acc H2 (g1.trans g2) (r2.sub s') n' e6 d6⟩
def bd1 : D → Option (List D) := fun d => some [d]
def bd2 : D → Option (List D) := fun d => match d with | .tup [a, b] => some [a, b] | _ => none
section
variable {ifs : List Expr} {sc : Scope} {N0 : List Str} {wi : TI2} {tc : TT2}
theorem PE.at {t t' : TE} (h : PE X e t) (hm : ∀ σ H Q, σ.length = X.N.length → t' σ H Q → t σ H Q) : PE X e t' := fun pins s σ H Q I q => h pins s σ H Q I (hm σ H Q I.len q)
theorem PS.at {st : Stmt} {t t' : TS} (h : PS X st t) (hm : ∀ E σ H, σ.length = X.N.length → t' E σ H → t E σ H) : PS X st t' := fun pins s σ H E I q => h pins s σ H E I (hm E σ H I.len q)
theorem set_app0 (s t : List (Option V)) (x : Option V) : List.set (s ++ t) (List.length s) x = s ++ t.set 0 x := by
  rw [List.set_append_right _ _ (Nat.le_refl _), Nat.sub_self]
theorem set_app1 (s t : List (Option V)) (x : Option V) : List.set (s ++ t) (List.length s + 1) x = s ++ t.set 1 x := by
  rw [List.set_append_right _ _ (show s.length ≤ s.length + 1 by omega), Nat.add_sub_cancel_left]
theorem bind1 {K : PySem.W.Frag} {N : Nat} (σ1 : L2.St) (H : Hp) (d : D) (v : V) (us : List D) (Q : L2.St → Hp → Prop) (hl : σ1.length = N) (dv : Den K H d v) (eb : bd1 d = some us) (hus : us.length = 1) (h : ∀ vs, Dens K H us vs → Q (σ1 ++ vs.map some) H) : gName N v (σ1 ++ List.replicate 1 none) H Q := by
  cases eb
  have := h [v] (.cons dv .nil)
  show Q (List.set (σ1 ++ [none]) N (some v)) H
  rw [← hl, set_app0]
  exact this
theorem bind2 {K : PySem.W.Frag} {N : Nat} (σ1 : L2.St) (H : Hp) (d : D) (v : V) (us : List D) (Q : L2.St → Hp → Prop) (hl : σ1.length = N) (dv : Den K H d v) (eb : bd2 d = some us) (hus : us.length = 2) (h : ∀ vs, Dens K H us vs → Q (σ1 ++ vs.map some) H) : gTup K 2 (gCons (gName N) (gCons (gName (N + 1)) gNil)) v (σ1 ++ List.replicate 2 none) H Q := by
  unfold bd2 at eb
  split at eb
  · rename_i d1 d2
    cases eb
    unfold Den at dv
    obtain ⟨a, xs, rfl, hs, hd⟩ := dv
    have hd0 := hd
    unfold Dens at hd
    obtain ⟨x1, r1, rfl, h1, hd⟩ := hd
    unfold Dens at hd
    obtain ⟨x2, r2, rfl, h2, hd⟩ := hd
    unfold Dens at hd
    subst hd
    refine ⟨a, [x1, x2], rfl, hs, rfl, x1, [x2], rfl, x2, [], rfl, rfl, ?_⟩
    have := h [x1, x2] hd0
    rw [← hl]
    have e1 : List.set (σ1 ++ List.replicate 2 none) (List.length σ1) (some x1) = σ1 ++ [some x1, none] := set_app0 σ1 _ _
    rw [e1, set_app1]
    exact this
  · cases eb
theorem f_comp1 (x : Str) {px : Pos} (hc : X.calm = true) (T : CompOk X sc N0) (hi : I2 X (.Name x px) iter wi)
    (hnd : (N0 ++ [x]).Nodup) (hx : (relabel sc X.env).names.lookup x = some .local)
    (ht : ∀ C s H fp pins, Ts2 (X.comp (N0 ++ [x]) sc C s H fp pins) ifs tc) (he : ∀ C s H fp pins, E2 (X.comp (N0 ++ [x]) sc C s H fp pins) elt te)
    (hs : ∀ x, foldedSetIterable iter X.env x = pure x := by intro _; rfl) : F2 X (.ListComp elt [⟨.Name x px, iter, ifs, 0⟩] sc pos) (xComp wi bd1 tc te) := by
  refine PE.at (pe_comp (own := [x]) (g := gName X.N.length) (tc := lT X.K tc) (te := lE X.K te) hc T hi (fun C s H fp pins => pg_name (X := X.comp (N0 ++ [x]) sc C s H fp pins) hnd (by
    show (N0 ++ [x])[X.N.length]? = some x
    rw [← T.len]; simp) (.inl hx) (.inr hx)) ht he hs) fun σ H Q hl h => ?_
  exact lift_comp (n := 1) (N := X.N.length) bind1 (fun d us e => by cases e; rfl) hl h
theorem f_comp2 (x y : Str) {px py pt : Pos} {kk : Nat} (hc : X.calm = true) (T : CompOk X sc N0) (hi : I2 X (.Tuple [.Name x px, .Name y py] kk pt) iter wi)
    (hnd : (N0 ++ [x, y]).Nodup) (hx : (relabel sc X.env).names.lookup x = some .local) (hy : (relabel sc X.env).names.lookup y = some .local)
    (ht : ∀ C s H fp pins, Ts2 (X.comp (N0 ++ [x, y]) sc C s H fp pins) ifs tc) (he : ∀ C s H fp pins, E2 (X.comp (N0 ++ [x, y]) sc C s H fp pins) elt te)
    (hs : ∀ x, foldedSetIterable iter X.env x = pure x := by intro _; rfl) : F2 X (.ListComp elt [⟨.Tuple [.Name x px, .Name y py] kk pt, iter, ifs, 0⟩] sc pos) (xComp wi bd2 tc te) := by
  refine PE.at (pe_comp (own := [x, y]) (g := gTup X.K 2 (gCons (gName X.N.length) (gCons (gName (X.N.length + 1)) gNil))) (tc := lT X.K tc) (te := lE X.K te) hc T hi (fun C s H fp pins => ?_) ht he hs) fun σ H Q hl h => ?_
  · have e1 : (X.comp (N0 ++ [x, y]) sc C s H fp pins).N[X.N.length]? = some x := by
      show (N0 ++ [x, y])[X.N.length]? = some x
      rw [← T.len]; simp
    have e2 : (X.comp (N0 ++ [x, y]) sc C s H fp pins).N[X.N.length + 1]? = some y := by
      show (N0 ++ [x, y])[X.N.length + 1]? = some y
      rw [← T.len]; simp
    exact pg_tup (X := X.comp (N0 ++ [x, y]) sc C s H fp pins) (n := 2) hc (pgs_cons (pg_name hnd e1 (.inl hx) (.inr hx)) (pgs_cons (pg_name hnd e2 (.inl hy) (.inr hy)) pgs_nil))
  · refine lift_comp (n := 2) (N := X.N.length) bind2 (fun d us e => ?_) hl h
    unfold bd2 at e
    split at e <;> first | (cases e; rfl) | (cases e; done)
def xSetF (i : Nat) (t : TL2) : TS2 := fun E σ G => t σ G fun ds G' => ∀ l, G'.m l = none → E.nx (σ.set i (some (.adr l))) (gset G' l ds)
theorem p_setComp1 (i : Nat) (x : Str) {y : Str} {px py spos : Pos} (hc : X.calm = true) (T : CompOk X sc N0) (hi : I2 X (.Name x px) iter wi)
    (hnd : (N0 ++ [x]).Nodup) (hx : (relabel sc X.env).names.lookup x = some .local)
    (ht : ∀ C s H fp pins, Ts2 (X.comp (N0 ++ [x]) sc C s H fp pins) ifs tc) (he : ∀ C s H fp pins, E2 (X.comp (N0 ++ [x]) sc C s H fp pins) elt te)
    (hN : X.N.Nodup) (hy : X.N[i]? = some y) (hl : X.env.scope.names.lookup y = some .local)
    (hsw : swapsWith (.ListComp elt [⟨.Name x px, iter, ifs, 0⟩] sc pos) (some (.Name y py)) spos.line X.env = pure true)
    (hs : ∀ x, foldedSetIterable iter X.env x = pure x := by intro _; rfl) : P2 X (.Assign [.Name y py] (.ListComp elt [⟨.Name x px, iter, ifs, 0⟩] sc pos) spos) (xSetF i (xComp wi bd1 tc te)) := by
  refine PS.at (ps_setComp (own := [x]) (g := gName X.N.length) (tc := lT X.K tc) (te := lE X.K te) hc T hi (fun C s H fp pins => pg_name (X := X.comp (N0 ++ [x]) sc C s H fp pins) hnd (by
    show (N0 ++ [x])[X.N.length]? = some x
    rw [← T.len]; simp) (.inl hx) (.inr hx)) ht he hN hy hl hsw hs) fun E σ1 H hl h => ?_
  obtain ⟨σ, G, D2, r, q, k⟩ := h
  refine lift_comp (n := 1) (N := X.N.length) bind1 (fun d us e => by cases e; rfl) hl ⟨σ, G, _, r, q, fun ds G' q' l xs H' g' r' n e d => ?_⟩
  exact k.nx _ _ (q' l n) _ H' g' ((r.to g' (r'.own e d)).set i (by unfold Den; rfl))
end
end
end L3
set_option Elab.async false
set_option linter.all false
set_option maxRecDepth 100000
set_option maxHeartbeats 4000000
namespace L3
open PySem PySem.Spec PyProof.Rows L2
section
variable {X : Cx} {a b c e o : Expr} {es : List Expr} {pos p : Pos} {ta tb te : TE2}
def xAnd (ta tb : TE2) : TE2 := fun σ G R => ta σ G fun x G1 => match x with | .bl c => if c = true then tb σ G1 R else R (.bl false) G1 | _ => False
def xNot (ta : TE2) : TE2 := fun σ G R => ta σ G fun x G1 => match x with | .bl c => R (.bl (!c)) G1 | _ => False
theorem e_one {op} (h : E2 X a ta) : E2 X (.BoolOp op [a] pos) ta := pe_one h
theorem e_and {rest : List Expr} (ha : E2 X a ta) (hb : E2 X (.BoolOp .And (b :: rest) pos) tb) : E2 X (.BoolOp .And (a :: b :: rest) pos) (xAnd ta tb) := by
  refine PE.mono (pe_and ha hb) ?_
  rintro σ1 H Q ⟨σ, G, R, r, q, k⟩
  refine ⟨σ, G, _, r, q, fun d G1 q1 v H1 g1 r1 d1 => ?_⟩
  cases d with
  | bl c =>
    unfold Den at d1
    refine ⟨c, d1, ?_⟩
    cases c with
    | true => exact ⟨σ, G1, R, r.to g1 r1, q1, fun d G' q' v H' g' => k d G' q' v H' (g1.trans g')⟩
    | false => exact k _ G1 q1 _ H1 g1 r1 (by unfold Den; rfl)
  | _ => exact q1.elim
theorem e_not (ha : E2 X a ta) : E2 X (.UnaryOp .Not a pos) (xNot ta) := by
  refine PE.mono (pe_not ha) ?_
  rintro σ1 H Q ⟨σ, G, R, r, q, k⟩
  refine ⟨σ, G, _, r, q, fun d G1 q1 v H1 g1 r1 d1 => ?_⟩
  cases d with
  | bl c =>
    unfold Den at d1
    exact ⟨c, d1, k _ G1 q1 _ H1 g1 r1 (by unfold Den; rfl)⟩
  | _ => exact q1.elim
theorem t_val (h : E2 X e te) (he : ∀ whole, isTrue e X.env whole = (do let v ← whole; standAt e.pos; holding [v] (truthy v)) := by intro _; rfl) : T2 X e (xB te) := by
  refine PT.mono (pt_val h he) ?_
  rintro σ1 H Q ⟨σ, G, R, r, q, k⟩
  refine ⟨σ, G, _, r, q, fun d G1 q1 v H1 g1 r1 d1 => ?_⟩
  cases d with
  | bl c =>
    unfold Den at d1
    exact ⟨c, d1, k _ G1 q1 H1 g1 r1⟩
  | _ => exact q1.elim
section
variable {t u : TT2} {rest : List Expr}
def W2 (X : Cx) (e : Expr) (t : TT2) : Prop := PW X e (lT X.K t)
theorem W2.test (h : W2 X e t) : T2 X e t := PW.pt h
def xTAnd (t u : TT2) : TT2 := fun σ G R => t σ G fun c G1 => if c = true then u σ G1 R else R false G1
def xTOr (t u : TT2) : TT2 := fun σ G R => t σ G fun c G1 => if c = true then R true G1 else u σ G1 R
def xTNot (t : TT2) : TT2 := fun σ G R => t σ G fun c G1 => R (!c) G1
theorem PW.mono {t t' : TT} (h : PW X e t) (hm : ∀ σ H Q, t' σ H Q → t σ H Q) : PW X e t' := fun w pins s σ H Q I q => h w pins s σ H Q I (hm σ H Q q)
theorem w_and1 (ha : T2 X a t) : W2 X (.BoolOp .And [a] pos) t := pw_and1 ha
theorem w_or1 (ha : T2 X a t) : W2 X (.BoolOp .Or [a] pos) t := pw_or1 ha
theorem w_and (ha : T2 X a t) (hb : W2 X (.BoolOp .And (b :: rest) pos) u) : W2 X (.BoolOp .And (a :: b :: rest) pos) (xTAnd t u) := by
  refine PW.mono (pw_and ha hb) ?_
  rintro σ1 H Q ⟨σ, G, R, r, q, k⟩
  refine ⟨σ, G, _, r, q, fun c G1 q1 H1 g1 r1 => ?_⟩
  cases c with
  | true => exact ⟨σ, G1, R, r.to g1 r1, q1, fun b G' q' H' g' => k b G' q' H' (g1.trans g')⟩
  | false => exact k _ G1 q1 H1 g1 r1
theorem w_or (ha : T2 X a t) (hb : W2 X (.BoolOp .Or (b :: rest) pos) u) : W2 X (.BoolOp .Or (a :: b :: rest) pos) (xTOr t u) := by
  refine PW.mono (pw_or ha hb) ?_
  rintro σ1 H Q ⟨σ, G, R, r, q, k⟩
  refine ⟨σ, G, _, r, q, fun c G1 q1 H1 g1 r1 => ?_⟩
  cases c with
  | true => exact k _ G1 q1 H1 g1 r1
  | false => exact ⟨σ, G1, R, r.to g1 r1, q1, fun b G' q' H' g' => k b G' q' H' (g1.trans g')⟩
theorem t_not (ha : T2 X a t) : T2 X (.UnaryOp .Not a pos) (xTNot t) := by
  refine PT.mono (pt_not ha) ?_
  rintro σ1 H Q ⟨σ, G, R, r, q, k⟩
  exact ⟨σ, G, _, r, q, fun c G1 q1 H1 g1 r1 => k _ G1 q1 H1 g1 r1⟩
end
theorem e_sub (ha : E2 X a ta) (hb : E2 X b tb) : E2 X (.BinOp a .Sub b pos) (xOp (fII fun i j => .int (i - j)) ta tb) := e_op op_sub (fit_ii fun _ _ => ⟨rfl, rfl⟩) ha hb
theorem e_mulI (ha : E2 X a ta) (hb : E2 X b tb) : E2 X (.BinOp a .Mult b pos) (xOp (fIIC CMul fun i j => .int (i * j)) ta tb) := e_op op_mul (fit_iic fun _ _ => ⟨rfl, rfl⟩) ha hb
theorem e_fdiv (ha : E2 X a ta) (hb : E2 X b tb) : E2 X (.BinOp a .FloorDiv b pos) (xOp (fIIC CDiv fun i j => .int (i / j)) ta tb) := e_op op_fdiv (fit_iic fun _ _ => ⟨rfl, rfl⟩) ha hb
theorem e_mod (ha : E2 X a ta) (hb : E2 X b tb) : E2 X (.BinOp a .Mod b pos) (xOp (fIIC (fun _ j => 0 < j) fun i j => .int (i % j)) ta tb) := e_op op_mod (fit_iic fun _ _ => ⟨rfl, rfl⟩) ha hb
theorem e_pow (ha : E2 X a ta) (hb : E2 X b tb) : E2 X (.BinOp a .Pow b pos) (xOp (fIIC CPow fun i j => .int (i ^ j.toNat)) ta tb) := e_op op_pow (fit_iic fun _ _ => ⟨rfl, rfl⟩) ha hb
theorem e_lt (ha : E2 X a ta) (hb : E2 X b tb) : E2 X (.Compare a [.Lt] [b] pos) (xOp (fII fun i j => .bl (decide (i < j))) ta tb) := e_cmp op_lt (fit_ii fun _ _ => ⟨rfl, rfl⟩) ha hb (nomark _)
theorem e_le (ha : E2 X a ta) (hb : E2 X b tb) : E2 X (.Compare a [.LtE] [b] pos) (xOp (fII fun i j => .bl (decide (i ≤ j))) ta tb) := e_cmp op_le (fit_ii fun _ _ => ⟨rfl, rfl⟩) ha hb (nomark _)
theorem e_ge (ha : E2 X a ta) (hb : E2 X b tb) : E2 X (.Compare a [.GtE] [b] pos) (xOp (fII fun i j => .bl (decide (j ≤ i))) ta tb) := e_cmp op_ge (fit_ii fun _ _ => ⟨rfl, rfl⟩) ha hb (nomark _)
theorem t_lt (ha : E2 X a ta) (hb : E2 X b tb) : T2 X (.Compare a [.Lt] [b] pos) (xB (xOp (fII fun i j => .bl (decide (i < j))) ta tb)) := t_cmp op_lt (fit_ii fun _ _ => ⟨rfl, rfl⟩) ha hb (nomark _)
theorem t_ge (ha : E2 X a ta) (hb : E2 X b tb) : T2 X (.Compare a [.GtE] [b] pos) (xB (xOp (fII fun i j => .bl (decide (j ≤ i))) ta tb)) := t_cmp op_ge (fit_ii fun _ _ => ⟨rfl, rfl⟩) ha hb (nomark _)
mutual
def eqD : D → D → Bool
  | .non, .non => true
  | .bl a, .bl b => a == b
  | .int a, .int b => a == b
  | .bl a, .int b => (if a then 1 else 0) == b
  | .int a, .bl b => a == (if b then 1 else 0)
  | .str a, .str b => a == b
  | .tup a, .tup b => eqDs a b
  | _, _ => false
def eqDs : List D → List D → Bool
  | [], [] => true
  | x :: xs, y :: ys => eqD x y && eqDs xs ys
  | _, _ => false
end
def flat : Nat → D → Bool
  | _, .non => true
  | _, .bl _ => true
  | _, .int _ => true
  | _, .str _ => true
  | _, .adr _ => false
  | _, .dic _ => false
  | 0, .tup _ => false
  | n + 1, .tup ds => ds.all (flat n)
theorem eqDs_all : ∀ (xs ys : List D), eqDs xs ys = ((List.range (min xs.length ys.length)).all (fun j => eqD (xs.getD j .non) (ys.getD j .non)) && xs.length == ys.length)
  | [], [] => by simp [eqDs]
  | [], y :: ys => by simp [eqDs]
  | x :: xs, [] => by simp [eqDs]
  | x :: xs, y :: ys => by
    unfold eqDs
    rw [eqDs_all xs ys]
    have e1 : min (x :: xs).length (y :: ys).length = min xs.length ys.length + 1 := by simp only [List.length_cons]; omega
    rw [e1, List.range_succ_eq_map, List.all_cons, List.all_map]
    have e2 : ((x :: xs).length == (y :: ys).length) = (xs.length == ys.length) := by
      rw [Bool.eq_iff_iff]; simp
    rw [e2, Bool.and_assoc]
    rfl
mutual
theorem eqD_refl : ∀ d : D, (∀ n, flat n d = true → eqD d d = true)
  | .non, _, _ => by simp [eqD]
  | .bl _, _, _ => by simp [eqD]
  | .int _, _, _ => by simp [eqD]
  | .str _, _, _ => by simp [eqD]
  | .adr _, n, h => by cases n <;> simp [flat] at h
  | .dic _, n, h => by cases n <;> simp [flat] at h
  | .tup ds, 0, h => by simp [flat] at h
  | .tup ds, n + 1, h => by
    unfold eqD
    exact eqDs_refl ds n (by simpa [flat] using h)
theorem eqDs_refl : ∀ ds : List D, (∀ n, (∀ d ∈ ds, flat n d = true) → eqDs ds ds = true)
  | [], _, _ => by simp [eqDs]
  | d :: ds, n, h => by
    unfold eqDs
    rw [eqD_refl d n (h d List.mem_cons_self), eqDs_refl ds n fun x hx => h x (List.mem_cons_of_mem _ hx)]
    rfl
end
section
variable {pins : List (Addr × Obj)} {σ1 : L2.St} {H : Hp} {s : Shared}
mutual
theorem Den.inj (I : Inv X pins σ1 H s) : ∀ {d d' : D} {v : V} {n n' : Nat}, Den X.K H d v → Den X.K H d' v → flat n d = true → flat n' d' = true → d = d' 
  | .non, d', v, n, n', h, h', f, f' => by
    unfold Den at h; subst h
    cases d' with
    | tup _ => unfold Den at h'; obtain ⟨_, _, e, _⟩ := h'; cases e
    | dic _ => unfold Den at h'; cases h'.1
    | _ => unfold Den at h'; first | rfl | cases h'
  | .bl b, d', v, n, n', h, h', f, f' => by
    unfold Den at h; subst h
    cases d' with
    | tup _ => unfold Den at h'; obtain ⟨_, _, e, _⟩ := h'; cases e
    | dic _ => unfold Den at h'; cases h'.1
    | _ => unfold Den at h'; first | cases h'; rfl | cases h'
  | .int b, d', v, n, n', h, h', f, f' => by
    unfold Den at h; subst h
    cases d' with
    | tup _ => unfold Den at h'; obtain ⟨_, _, e, _⟩ := h'; cases e
    | dic _ => unfold Den at h'; cases h'.1
    | _ => unfold Den at h'; first | cases h'; rfl | cases h'
  | .str b, d', v, n, n', h, h', f, f' => by
    unfold Den at h; subst h
    cases d' with
    | tup _ => unfold Den at h'; obtain ⟨_, _, e, _⟩ := h'; cases e
    | dic _ => unfold Den at h'; cases h'.1
    | _ => unfold Den at h'; first | cases h'; rfl | cases h'
  | .adr _, d', v, n, n', h, h', f, f' => by cases n <;> simp [flat] at f
  | .dic _, d', v, n, n', h, h', f, f' => by cases n <;> simp [flat] at f
  | .tup ds, d', v, n, n', h, h', f, f' => by
    unfold Den at h
    obtain ⟨a, xs, rfl, hs, hd⟩ := h
    cases d' with
    | tup ds' =>
      unfold Den at h'
      obtain ⟨a', xs', e, hs', hd'⟩ := h'
      cases e
      have := I.tuple_inj hs hs'
      subst this
      cases n with
      | zero => simp [flat] at f
      | succ n =>
        cases n' with
        | zero => simp [flat] at f'
        | succ n' => rw [Dens.inj I hd hd' (by simpa [flat] using f) (by simpa [flat] using f')]
    | adr _ => cases n' <;> simp [flat] at f'
    | dic _ => cases n' <;> simp [flat] at f'
    | _ => unfold Den at h'; cases h'
theorem Dens.inj (I : Inv X pins σ1 H s) : ∀ {ds ds' : List D} {xs : List V} {n n' : Nat}, Dens X.K H ds xs → Dens X.K H ds' xs → (∀ d ∈ ds, flat n d = true) → (∀ d ∈ ds', flat n' d = true) → ds = ds'
  | [], ds', xs, n, n', h, h', f, f' => by
    unfold Dens at h; subst h
    cases ds' with
    | nil => rfl
    | cons _ _ => unfold Dens at h'; obtain ⟨_, _, e, _⟩ := h'; cases e
  | d :: ds, ds', xs, n, n', h, h', f, f' => by
    unfold Dens at h
    obtain ⟨x, r, rfl, h1, h2⟩ := h
    cases ds' with
    | nil => unfold Dens at h'; cases h'
    | cons d' ds' =>
      unfold Dens at h'
      obtain ⟨x', r', e, h1', h2'⟩ := h'
      cases e
      rw [Den.inj I h1 h1' (f d List.mem_cons_self) (f' d' List.mem_cons_self), Dens.inj I h2 h2' (fun z hz => f z (List.mem_cons_of_mem _ hz)) fun z hz => f' z (List.mem_cons_of_mem _ hz)]
end
theorem in1_units {A : Around} : A.in1.units = A.units + 1 := rfl
theorem eqAt_D (I : Inv X pins σ1 H s) : ∀ (n : Nat) (d d' : D) (v v' : V) (u u' : Value) (A : Around), Den X.K H d v → Den X.K H d' v' → RelV v u → RelV v' u' → flat n d = true → flat n d' = true → A.units + n < cLine → SeqAt.EqAt A s u u' (eqD d d') := by
  intro n
  induction n with
  | zero =>
    intro d d' v v' u u' A h h' r r' f f' hu
    have fv : ∀ {d : D} {v : V}, flat 0 d = true → Den X.K H d v → flatV v = true ∧ v = vOf d := fun {d v} f h => by
      cases d <;> first | (simp [flat] at f; done) | (unfold Den at h; subst h; exact ⟨rfl, rfl⟩)
    obtain ⟨f1, e1⟩ := fv f h
    obtain ⟨f2, e2⟩ := fv f' h'
    have q := eqAt_V (A := A) (s := s) r r' f1 f2
    have e : eqV v v' = eqD d d' := by
      rw [e1, e2]
      cases d <;> first | (simp [flat] at f; done) | (cases d' <;> first | (simp [flat] at f'; done) | rfl)
    rw [← e]; exact q
  | succ n ih =>
    intro d d' v v' u u' A h h' r r' f f' hu
    by_cases hs : flat 0 d = true ∧ flat 0 d' = true
    · have fv : ∀ {d : D} {v : V}, flat 0 d = true → Den X.K H d v → flatV v = true ∧ v = vOf d := fun {d v} f h => by
        cases d <;> first | (simp [flat] at f; done) | (unfold Den at h; subst h; exact ⟨rfl, rfl⟩)
      obtain ⟨f1, e1⟩ := fv hs.1 h
      obtain ⟨f2, e2⟩ := fv hs.2 h'
      have q := eqAt_V (A := A) (s := s) r r' f1 f2
      have e : eqV v v' = eqD d d' := by
        rw [e1, e2]
        cases d <;> first | (simp [flat] at hs; done) | (cases d' <;> first | (simp [flat] at hs; done) | rfl)
      rw [← e]; exact q
    · have hu0 : A.units < cLine := by omega
      cases d with
      | tup ds =>
        unfold Den at h
        obtain ⟨a, xs, rfl, hsq, hd⟩ := h
        cases r
        obtain ⟨its, rv, tp, _⟩ := I.tuple hsq
        have tp' : s.heap.IsTuple a its.toArray := tp
        cases d' with
        | tup ds' =>
          unfold Den at h'
          obtain ⟨a', xs', rfl, hsq', hd'⟩ := h'
          cases r'
          obtain ⟨its', rv', tp2, _⟩ := I.tuple hsq'
          by_cases ha : a = a'
          · subst ha
            have := I.tuple_inj hsq hsq'
            subst this
            have hds : ds = ds' := Dens.inj I hd hd' (by simpa [flat] using f) (by simpa [flat] using f')
            subst hds
            have e : eqD (.tup ds) (.tup ds) = true := eqD_refl _ _ f
            rw [e]
            exact SeqAt.EqAt.same _
          · have q := SeqAt.EqAt.of_refs ha (SeqAt.RcAt.tuples (A := A) (s := s) (e := fun j => eqD (ds.getD j .non) (ds'.getD j .non)) tp' (show s.heap.IsTuple a' its'.toArray from tp2) hu0 fun j h1 h2 => by
              have h1' : j < its.length := by simpa using h1
              have h2' : j < its'.length := by simpa using h2
              have l1 := hd.length
              have l2 := rv.length
              have l3 := hd'.length
              have l4 := rv'.length
              obtain ⟨x, ex, dx⟩ := hd.get (i := j) (d := ds[j]'(by omega)) (by simp)
              obtain ⟨y, ey, dy⟩ := hd'.get (i := j) (d := ds'[j]'(by omega)) (by simp)
              obtain ⟨ux, eux, rx⟩ := rv.get ex
              obtain ⟨uy, euy, ry⟩ := rv'.get ey
              have e1 : its.toArray[j] = ux := by
                have := (List.getElem?_eq_some_iff.mp eux).2
                simpa using this
              have e2 : its'.toArray[j] = uy := by
                have := (List.getElem?_eq_some_iff.mp euy).2
                simpa using this
              have g1 : ds.getD j .non = ds[j]'(by omega) := by simp [List.getD, (show j < ds.length by omega)]
              have g2 : ds'.getD j .non = ds'[j]'(by omega) := by simp [List.getD, (show j < ds'.length by omega)]
              rw [e1, e2]
              show SeqAt.EqAt A.in1 s ux uy (eqD (ds.getD j .non) (ds'.getD j .non))
              rw [g1, g2]
              refine ih _ _ x y ux uy A.in1 dx dy rx ry ?_ ?_ (by rw [in1_units]; omega)
              · have : ∀ d ∈ ds, flat n d = true := by simpa [flat] using f
                exact this _ (List.getElem_mem _)
              · have : ∀ d ∈ ds', flat n d = true := by simpa [flat] using f'
                exact this _ (List.getElem_mem _))
            have e : eqD (.tup ds) (.tup ds') = ((List.range (min its.toArray.size its'.toArray.size)).all (fun j => eqD (ds.getD j .non) (ds'.getD j .non)) && its.toArray.size == its'.toArray.size) := by
              show eqDs ds ds' = _
              rw [eqDs_all]
              simp [hd.length, rv.length, hd'.length, rv'.length]
            rw [e]; exact q
        | adr _ => simp [flat] at f'
        | dic _ => simp [flat] at f'
        | non => unfold Den at h'; subst h'; cases r'; exact SeqAt.EqAt.tuple_none tp' hu0
        | bl _ => unfold Den at h'; subst h'; cases r'; exact SeqAt.EqAt.tuple_bool _ tp' hu0
        | int _ => unfold Den at h'; subst h'; obtain ⟨t, rfl⟩ := r'; exact SeqAt.EqAt.tuple_int _ _ tp' hu0
        | str _ => unfold Den at h'; subst h'; obtain ⟨t, rfl⟩ := r'; exact SeqAt.EqAt.tuple_str _ _ tp' hu0
      | adr _ => simp [flat] at f
      | dic _ => simp [flat] at f
      | non =>
        cases d' with
        | tup ds' =>
          unfold Den at h h'; subst h; cases r
          obtain ⟨a', xs', rfl, hsq', hd'⟩ := h'
          cases r'
          obtain ⟨its', rv', tp2, _⟩ := I.tuple hsq'
          exact SeqAt.EqAt.none_tuple (show s.heap.IsTuple a' its'.toArray from tp2) hu0
        | adr _ => simp [flat] at f'
        | dic _ => simp [flat] at f'
        | _ => exact absurd ⟨rfl, rfl⟩ hs
      | bl _ =>
        cases d' with
        | tup ds' =>
          unfold Den at h h'; subst h; cases r
          obtain ⟨a', xs', rfl, hsq', hd'⟩ := h'
          cases r'
          obtain ⟨its', rv', tp2, _⟩ := I.tuple hsq'
          exact SeqAt.EqAt.bool_tuple _ (show s.heap.IsTuple a' its'.toArray from tp2) hu0
        | adr _ => simp [flat] at f'
        | dic _ => simp [flat] at f'
        | _ => exact absurd ⟨rfl, rfl⟩ hs
      | int _ =>
        cases d' with
        | tup ds' =>
          unfold Den at h h'; subst h; obtain ⟨t, rfl⟩ := r
          obtain ⟨a', xs', rfl, hsq', hd'⟩ := h'
          cases r'
          obtain ⟨its', rv', tp2, _⟩ := I.tuple hsq'
          exact SeqAt.EqAt.int_tuple _ _ (show s.heap.IsTuple a' its'.toArray from tp2) hu0
        | adr _ => simp [flat] at f'
        | dic _ => simp [flat] at f'
        | _ => exact absurd ⟨rfl, rfl⟩ hs
      | str _ =>
        cases d' with
        | tup ds' =>
          unfold Den at h h'; subst h; obtain ⟨t, rfl⟩ := r
          obtain ⟨a', xs', rfl, hsq', hd'⟩ := h'
          cases r'
          obtain ⟨its', rv', tp2, _⟩ := I.tuple hsq'
          exact SeqAt.EqAt.str_tuple _ _ (show s.heap.IsTuple a' its'.toArray from tp2) hu0
        | adr _ => simp [flat] at f'
        | dic _ => simp [flat] at f'
        | _ => exact absurd ⟨rfl, rfl⟩ hs
end
end
end L3
set_option Elab.async false
set_option linter.all false
set_option maxRecDepth 100000
set_option maxHeartbeats 4000000
namespace L3
open PySem PySem.Spec PyProof.Rows L2
section
variable {X : Cx} {pins : List (Addr × Obj)} {σ1 : L2.St} {H : Hp} {s : Shared} {A : Around}
theorem itemsAt (I : Inv X pins σ1 H s) {n : Nat} {ds ds' : List D} {xs xs' : List V} {its its' : List Value} (hd : Dens X.K H ds xs) (hd' : Dens X.K H ds' xs') (rv : Vals xs its) (rv' : Vals xs' its')
    (f : ∀ d ∈ ds, flat n d = true) (f' : ∀ d ∈ ds', flat n d = true) (hu : A.units + n < cLine) (j : Nat) (h1 : j < its.toArray.size) (h2 : j < its'.toArray.size) :
    SeqAt.EqAt A s its.toArray[j] its'.toArray[j] (eqD (ds.getD j .non) (ds'.getD j .non)) := by
  have h1' : j < its.length := by simpa using h1
  have h2' : j < its'.length := by simpa using h2
  have l1 := hd.length
  have l2 := rv.length
  have l3 := hd'.length
  have l4 := rv'.length
  obtain ⟨x, ex, dx⟩ := hd.get (i := j) (d := ds[j]'(by omega)) (by simp)
  obtain ⟨y, ey, dy⟩ := hd'.get (i := j) (d := ds'[j]'(by omega)) (by simp)
  obtain ⟨ux, eux, rx⟩ := rv.get ex
  obtain ⟨uy, euy, ry⟩ := rv'.get ey
  have e1 : its.toArray[j] = ux := by
    have := (List.getElem?_eq_some_iff.mp eux).2
    simpa using this
  have e2 : its'.toArray[j] = uy := by
    have := (List.getElem?_eq_some_iff.mp euy).2
    simpa using this
  have g1 : ds.getD j .non = ds[j]'(by omega) := by simp [List.getD, (show j < ds.length by omega)]
  have g2 : ds'.getD j .non = ds'[j]'(by omega) := by simp [List.getD, (show j < ds'.length by omega)]
  rw [e1, e2, g1, g2]
  exact eqAt_D I n _ _ x y ux uy A dx dy rx ry (f _ (List.getElem_mem _)) (f' _ (List.getElem_mem _)) hu
theorem eqDs_sizes {ds ds' : List D} {n n' : Nat} (h : ds.length = n) (h' : ds'.length = n') : eqDs ds ds' = ((List.range (min n n')).all (fun j => eqD (ds.getD j .non) (ds'.getD j .non)) && n == n') := by
  rw [eqDs_all, h, h']
theorem rcAt_D (I : Inv X pins σ1 H s) {n : Nat} {d d' : D} {v v' : V} {u u' : Value} (h : Den X.K H d v) (h' : Den X.K H d' v') (r : RelV v u) (r' : RelV v' u') (f : flat n d = true) (f' : flat n d' = true) (hu : A.units + n + 1 < cLine) :
    SeqAt.RcAt A s u u' (eqD d d') := by
  have hu0 : A.units < cLine := by omega
  have tupI : ∀ {d : D} {v : V} {u : Value} {ds : List D}, d = .tup ds → Den X.K H d v → RelV v u → ∃ a xs its, u = .ref a ∧ Dens X.K H ds xs ∧ Vals xs its ∧ s.heap.IsTuple a its.toArray := fun {d v u ds} e h r => by
    subst e
    unfold Den at h
    obtain ⟨a, xs, rfl, hs, hd⟩ := h
    cases r
    obtain ⟨its, rv, tp, _⟩ := I.tuple hs
    exact ⟨a, xs, its, rfl, hd, rv, tp⟩
  cases d with
  | tup ds =>
    obtain ⟨a, xs, its, rfl, hd, rv, tp⟩ := tupI rfl h r
    cases d' with
    | tup ds' =>
      obtain ⟨a', xs', its', rfl, hd', rv', tp'⟩ := tupI rfl h' r'
      cases n with
      | zero => simp [flat] at f
      | succ n =>
        have q := SeqAt.RcAt.tuples (A := A) (s := s) tp tp' hu0 (itemsAt (A := A.in1) I hd hd' rv rv' (by simpa [flat] using f) (by simpa [flat] using f') (by rw [in1_units]; omega))
        have e : eqD (.tup ds) (.tup ds') = ((List.range (min its.toArray.size its'.toArray.size)).all (fun j => eqD (ds.getD j .non) (ds'.getD j .non)) && its.toArray.size == its'.toArray.size) :=
          eqDs_sizes (by simp [hd.length, rv.length]) (by simp [hd'.length, rv'.length])
        rw [e]; exact q
    | adr _ => cases n <;> simp [flat] at f'
    | dic _ => cases n <;> simp [flat] at f'
    | non => unfold Den at h'; subst h'; cases r'; exact SeqAt.RcAt.tuple_none tp hu0
    | bl _ => unfold Den at h'; subst h'; cases r'; exact SeqAt.RcAt.tuple_bool _ tp hu0
    | int _ => unfold Den at h'; subst h'; obtain ⟨t, rfl⟩ := r'; exact SeqAt.RcAt.tuple_int _ _ tp hu0
    | str _ => unfold Den at h'; subst h'; obtain ⟨t, rfl⟩ := r'; exact SeqAt.RcAt.tuple_str _ _ tp hu0
  | adr _ => cases n <;> simp [flat] at f
  | dic _ => cases n <;> simp [flat] at f
  | non =>
    unfold Den at h; subst h; cases r
    cases d' with
    | tup ds' => obtain ⟨a', xs', its', rfl, hd', rv', tp'⟩ := tupI rfl h' r'; exact SeqAt.RcAt.none_tuple tp' hu0
    | adr _ => cases n <;> simp [flat] at f'
    | dic _ => cases n <;> simp [flat] at f'
    | non => unfold Den at h'; subst h'; cases r'; exact SeqAt.RcAt.none_none
    | bl _ => unfold Den at h'; subst h'; cases r'; exact SeqAt.RcAt.none_bool _
    | int _ => unfold Den at h'; subst h'; obtain ⟨t, rfl⟩ := r'; exact SeqAt.RcAt.none_int _ _
    | str _ => unfold Den at h'; subst h'; obtain ⟨t, rfl⟩ := r'; exact SeqAt.RcAt.none_str _ _
  | bl _ =>
    unfold Den at h; subst h; cases r
    cases d' with
    | tup ds' => obtain ⟨a', xs', its', rfl, hd', rv', tp'⟩ := tupI rfl h' r'; exact SeqAt.RcAt.bool_tuple _ tp' hu0
    | adr _ => cases n <;> simp [flat] at f'
    | dic _ => cases n <;> simp [flat] at f'
    | non => unfold Den at h'; subst h'; cases r'; exact SeqAt.RcAt.bool_none _
    | bl _ => unfold Den at h'; subst h'; cases r'; exact SeqAt.RcAt.bool_bool _ _
    | int _ => unfold Den at h'; subst h'; obtain ⟨t, rfl⟩ := r'; exact SeqAt.RcAt.bool_int _ _ _
    | str _ => unfold Den at h'; subst h'; obtain ⟨t, rfl⟩ := r'; exact SeqAt.RcAt.bool_str _ _ _
  | int _ =>
    unfold Den at h; subst h; obtain ⟨t, rfl⟩ := r
    cases d' with
    | tup ds' => obtain ⟨a', xs', its', rfl, hd', rv', tp'⟩ := tupI rfl h' r'; exact SeqAt.RcAt.int_tuple _ _ tp' hu0
    | adr _ => cases n <;> simp [flat] at f'
    | dic _ => cases n <;> simp [flat] at f'
    | non => unfold Den at h'; subst h'; cases r'; exact SeqAt.RcAt.int_none _ _
    | bl _ => unfold Den at h'; subst h'; cases r'; exact SeqAt.RcAt.int_bool _ _ _
    | int _ => unfold Den at h'; subst h'; obtain ⟨t, rfl⟩ := r'; exact SeqAt.RcAt.int_int _ _ _ _
    | str _ => unfold Den at h'; subst h'; obtain ⟨t, rfl⟩ := r'; exact SeqAt.RcAt.int_str _ _ _ _
  | str _ =>
    unfold Den at h; subst h; obtain ⟨t, rfl⟩ := r
    cases d' with
    | tup ds' => obtain ⟨a', xs', its', rfl, hd', rv', tp'⟩ := tupI rfl h' r'; exact SeqAt.RcAt.str_tuple _ _ tp' hu0
    | adr _ => cases n <;> simp [flat] at f'
    | dic _ => cases n <;> simp [flat] at f'
    | non => unfold Den at h'; subst h'; cases r'; exact SeqAt.RcAt.str_none _ _
    | bl _ => unfold Den at h'; subst h'; cases r'; exact SeqAt.RcAt.str_bool _ _ _
    | int _ => unfold Den at h'; subst h'; obtain ⟨t, rfl⟩ := r'; exact SeqAt.RcAt.str_int _ _ _ _
    | str _ => unfold Den at h'; subst h'; obtain ⟨t, rfl⟩ := r'; exact SeqAt.RcAt.str_str _ _ _ _
theorem rcAt_L (I : Inv X pins σ1 H s) {n : Nat} {ds ds' : List D} {xs xs' : List V} {a a' : Addr} (hs : SqL X.K H a xs) (hd : Dens X.K H ds xs) (hs' : SqL X.K H a' xs') (hd' : Dens X.K H ds' xs') (f : ∀ d ∈ ds, flat n d = true) (f' : ∀ d ∈ ds', flat n d = true) (hu : A.units + n + 1 < cLine) :
    SeqAt.RcAt A s (.ref a) (.ref a') (eqDs ds ds') := by
  have hu0 : A.units < cLine := by omega
  obtain ⟨its, rv, pl, _⟩ := I.list hs
  obtain ⟨its', rv', pl', _⟩ := I.list hs'
  have e := eqDs_sizes (ds := ds) (ds' := ds') (n := its.toArray.size) (n' := its'.toArray.size) (by simp [hd.length, rv.length]) (by simp [hd'.length, rv'.length])
  by_cases hl : its.toArray.size = its'.toArray.size
  · have q := SeqAt.RcAt.lists (A := A) (s := s) pl.isList pl'.isList hl hu0 (itemsAt (A := A.in1) I hd hd' rv rv' f f' (by rw [in1_units]; omega))
    have e' : eqDs ds ds' = (List.range its.toArray.size).all (fun j => eqD (ds.getD j .non) (ds'.getD j .non)) := by
      rw [e, ← hl]; simp
    rw [e']; exact q
  · have e' : eqDs ds ds' = false := by
      rw [e]
      have : (its.toArray.size == its'.toArray.size) = false := by simpa using hl
      rw [this, Bool.and_false]
    rw [e']
    exact SeqAt.RcAt.lists_lengths pl.isList pl'.isList (by simpa using hl) hu0
def rEqD (K : PySem.W.Frag) (ng : Bool) : R2 := fun x y H Q => (∃ d d', Den K H d x ∧ Den K H d' y ∧ flat 8 d = true ∧ flat 8 d' = true ∧ Q (.bl (if ng then !eqD d d' else eqD d d')) H) ∨
  (∃ a a' xs xs' ds ds', x = .ref a ∧ y = .ref a' ∧ SqL K H a xs ∧ SqL K H a' xs' ∧ Dens K H ds xs ∧ Dens K H ds' xs' ∧ (∀ d ∈ ds, flat 8 d = true) ∧ (∀ d ∈ ds', flat 8 d = true) ∧ Q (.bl (if ng then !eqDs ds ds' else eqDs ds ds')) H)
theorem op_eqD (hu : X.A.units + 10 < cLine) : OpR X (compareOp .Eq) (rEqD X.K false) := by
  intro pins s σ H x y v u Q I rx ry h
  rcases h with ⟨d, d', h1, h2, f1, f2, q⟩ | ⟨a, a', xs, xs', ds, ds', rfl, rfl, h1, h2, h3, h4, f1, f2, q⟩
  · exact rcAt_D (A := X.A) I h1 h2 rx ry f1 f2 (by omega) X.prog X.w X.xe _ ⟨.bl _, H, I, rfl, q⟩
  · cases rx; cases ry
    exact rcAt_L (A := X.A) I h1 h3 h2 h4 f1 f2 (by omega) X.prog X.w X.xe _ ⟨.bl _, H, I, rfl, q⟩
end
section
variable {X : Cx} {pins : List (Addr × Obj)} {σ1 : L2.St} {H : Hp} {s : Shared} {A : Around}
theorem rnAt_D (I : Inv X pins σ1 H s) {n : Nat} {d d' : D} {v v' : V} {u u' : Value} (h : Den X.K H d v) (h' : Den X.K H d' v') (r : RelV v u) (r' : RelV v' u') (f : flat n d = true) (f' : flat n d' = true) (hu : A.units + n + 1 < cLine) :
    SeqAt.RcNeAt A s u u' (!eqD d d') := by
  have hu0 : A.units < cLine := by omega
  have tupI : ∀ {d : D} {v : V} {u : Value} {ds : List D}, d = .tup ds → Den X.K H d v → RelV v u → ∃ a xs its, u = .ref a ∧ Dens X.K H ds xs ∧ Vals xs its ∧ s.heap.IsTuple a its.toArray := fun {d v u ds} e h r => by
    subst e
    unfold Den at h
    obtain ⟨a, xs, rfl, hs, hd⟩ := h
    cases r
    obtain ⟨its, rv, tp, _⟩ := I.tuple hs
    exact ⟨a, xs, its, rfl, hd, rv, tp⟩
  cases d with
  | tup ds =>
    obtain ⟨a, xs, its, rfl, hd, rv, tp⟩ := tupI rfl h r
    cases d' with
    | tup ds' =>
      obtain ⟨a', xs', its', rfl, hd', rv', tp'⟩ := tupI rfl h' r'
      cases n with
      | zero => simp [flat] at f
      | succ n =>
        have q := SeqAt.RcNeAt.tuples (A := A) (s := s) tp tp' hu0 (itemsAt (A := A.in1) I hd hd' rv rv' (by simpa [flat] using f) (by simpa [flat] using f') (by rw [in1_units]; omega))
        have e : eqD (.tup ds) (.tup ds') = ((List.range (min its.toArray.size its'.toArray.size)).all (fun j => eqD (ds.getD j .non) (ds'.getD j .non)) && its.toArray.size == its'.toArray.size) :=
          eqDs_sizes (by simp [hd.length, rv.length]) (by simp [hd'.length, rv'.length])
        rw [e]; exact q
    | adr _ => cases n <;> simp [flat] at f'
    | dic _ => cases n <;> simp [flat] at f'
    | non => unfold Den at h'; subst h'; cases r'; exact SeqAt.RcNeAt.tuple_none tp hu0
    | bl _ => unfold Den at h'; subst h'; cases r'; exact SeqAt.RcNeAt.tuple_bool _ tp hu0
    | int _ => unfold Den at h'; subst h'; obtain ⟨t, rfl⟩ := r'; exact SeqAt.RcNeAt.tuple_int _ _ tp hu0
    | str _ => unfold Den at h'; subst h'; obtain ⟨t, rfl⟩ := r'; exact SeqAt.RcNeAt.tuple_str _ _ tp hu0
  | adr _ => cases n <;> simp [flat] at f
  | dic _ => cases n <;> simp [flat] at f
  | non =>
    unfold Den at h; subst h; cases r
    cases d' with
    | tup ds' => obtain ⟨a', xs', its', rfl, hd', rv', tp'⟩ := tupI rfl h' r'; exact SeqAt.RcNeAt.none_tuple tp' hu0
    | adr _ => cases n <;> simp [flat] at f'
    | dic _ => cases n <;> simp [flat] at f'
    | non => unfold Den at h'; subst h'; cases r'; exact SeqAt.RcNeAt.none_none
    | bl _ => unfold Den at h'; subst h'; cases r'; exact SeqAt.RcNeAt.none_bool _
    | int _ => unfold Den at h'; subst h'; obtain ⟨t, rfl⟩ := r'; exact SeqAt.RcNeAt.none_int _ _
    | str _ => unfold Den at h'; subst h'; obtain ⟨t, rfl⟩ := r'; exact SeqAt.RcNeAt.none_str _ _
  | bl _ =>
    unfold Den at h; subst h; cases r
    cases d' with
    | tup ds' => obtain ⟨a', xs', its', rfl, hd', rv', tp'⟩ := tupI rfl h' r'; exact SeqAt.RcNeAt.bool_tuple _ tp' hu0
    | adr _ => cases n <;> simp [flat] at f'
    | dic _ => cases n <;> simp [flat] at f'
    | non => unfold Den at h'; subst h'; cases r'; exact SeqAt.RcNeAt.bool_none _
    | bl _ => unfold Den at h'; subst h'; cases r'; exact SeqAt.RcNeAt.bool_bool _ _
    | int _ => unfold Den at h'; subst h'; obtain ⟨t, rfl⟩ := r'; exact SeqAt.RcNeAt.bool_int _ _ _
    | str _ => unfold Den at h'; subst h'; obtain ⟨t, rfl⟩ := r'; exact SeqAt.RcNeAt.bool_str _ _ _
  | int _ =>
    unfold Den at h; subst h; obtain ⟨t, rfl⟩ := r
    cases d' with
    | tup ds' => obtain ⟨a', xs', its', rfl, hd', rv', tp'⟩ := tupI rfl h' r'; exact SeqAt.RcNeAt.int_tuple _ _ tp' hu0
    | adr _ => cases n <;> simp [flat] at f'
    | dic _ => cases n <;> simp [flat] at f'
    | non => unfold Den at h'; subst h'; cases r'; exact SeqAt.RcNeAt.int_none _ _
    | bl _ => unfold Den at h'; subst h'; cases r'; exact SeqAt.RcNeAt.int_bool _ _ _
    | int _ => unfold Den at h'; subst h'; obtain ⟨t, rfl⟩ := r'; exact SeqAt.RcNeAt.int_int _ _ _ _
    | str _ => unfold Den at h'; subst h'; obtain ⟨t, rfl⟩ := r'; exact SeqAt.RcNeAt.int_str _ _ _ _
  | str _ =>
    unfold Den at h; subst h; obtain ⟨t, rfl⟩ := r
    cases d' with
    | tup ds' => obtain ⟨a', xs', its', rfl, hd', rv', tp'⟩ := tupI rfl h' r'; exact SeqAt.RcNeAt.str_tuple _ _ tp' hu0
    | adr _ => cases n <;> simp [flat] at f'
    | dic _ => cases n <;> simp [flat] at f'
    | non => unfold Den at h'; subst h'; cases r'; exact SeqAt.RcNeAt.str_none _ _
    | bl _ => unfold Den at h'; subst h'; cases r'; exact SeqAt.RcNeAt.str_bool _ _ _
    | int _ => unfold Den at h'; subst h'; obtain ⟨t, rfl⟩ := r'; exact SeqAt.RcNeAt.str_int _ _ _ _
    | str _ => unfold Den at h'; subst h'; obtain ⟨t, rfl⟩ := r'; exact SeqAt.RcNeAt.str_str _ _ _ _
theorem rnAt_L (I : Inv X pins σ1 H s) {n : Nat} {ds ds' : List D} {xs xs' : List V} {a a' : Addr} (hs : SqL X.K H a xs) (hd : Dens X.K H ds xs) (hs' : SqL X.K H a' xs') (hd' : Dens X.K H ds' xs') (f : ∀ d ∈ ds, flat n d = true) (f' : ∀ d ∈ ds', flat n d = true) (hu : A.units + n + 1 < cLine) :
    SeqAt.RcNeAt A s (.ref a) (.ref a') (!eqDs ds ds') := by
  have hu0 : A.units < cLine := by omega
  obtain ⟨its, rv, pl, _⟩ := I.list hs
  obtain ⟨its', rv', pl', _⟩ := I.list hs'
  have e := eqDs_sizes (ds := ds) (ds' := ds') (n := its.toArray.size) (n' := its'.toArray.size) (by simp [hd.length, rv.length]) (by simp [hd'.length, rv'.length])
  by_cases hl : its.toArray.size = its'.toArray.size
  · have q := SeqAt.RcNeAt.lists (A := A) (s := s) pl.isList pl'.isList hl hu0 (itemsAt (A := A.in1) I hd hd' rv rv' f f' (by rw [in1_units]; omega))
    have e' : eqDs ds ds' = (List.range its.toArray.size).all (fun j => eqD (ds.getD j .non) (ds'.getD j .non)) := by
      rw [e, ← hl]; simp
    rw [e']; exact q
  · have e' : eqDs ds ds' = false := by
      rw [e]
      have : (its.toArray.size == its'.toArray.size) = false := by simpa using hl
      rw [this, Bool.and_false]
    rw [e']
    exact SeqAt.RcNeAt.lists_lengths pl.isList pl'.isList (by simpa using hl) hu0
theorem op_neD (hu : X.A.units + 10 < cLine) : OpR X (compareOp .NotEq) (rEqD X.K true) := by
  intro pins s σ H x y v u Q I rx ry h
  rcases h with ⟨d, d', h1, h2, f1, f2, q⟩ | ⟨a, a', xs, xs', ds, ds', rfl, rfl, h1, h2, h3, h4, f1, f2, q⟩
  · exact rnAt_D (A := X.A) I h1 h2 rx ry f1 f2 (by omega) X.prog X.w X.xe _ ⟨.bl _, H, I, rfl, q⟩
  · cases rx; cases ry
    exact rnAt_L (A := X.A) I h1 h3 h2 h4 f1 f2 (by omega) X.prog X.w X.xe _ ⟨.bl _, H, I, rfl, q⟩
end
section
variable {X : Cx} {pins : List (Addr × Obj)} {σ1 : L2.St} {H : Hp} {s : Shared} {A : Around}
def rInD (K : PySem.W.Frag) (ng : Bool) : R2 := fun x y H Q => ∃ d ds a xs, Den K H d x ∧ y = .ref a ∧ (SqL K H a xs ∨ SqT K H a xs) ∧ Dens K H ds xs ∧ flat 8 d = true ∧ (∀ z ∈ ds, flat 8 z = true) ∧ Q (.bl (if ng then !ds.any fun z => eqD z d else ds.any fun z => eqD z d)) H
theorem any_pairs {its : List Value} {ds : List D} (g : D → Bool) (hl : its.length = ds.length) (hinj : ∀ (i j : Nat) (u : Value) (z z' : D), its[i]? = some u → its[j]? = some u → ds[i]? = some z → ds[j]? = some z' → z = z') :
    ∃ e : Value → Bool, (∀ (j : Nat) (u : Value) (z : D), its[j]? = some u → ds[j]? = some z → e u = g z) ∧ its.any e = ds.any g := by
  classical
  have key : ∀ (j : Nat) (u : Value) (z : D), its[j]? = some u → ds[j]? = some z → decide (∃ (j : Nat) (z : D), its[j]? = some u ∧ ds[j]? = some z ∧ g z = true) = g z := by
    intro j u z h1 h2
    cases hg : g z with
    | true => exact decide_eq_true ⟨j, z, h1, h2, hg⟩
    | false =>
      refine decide_eq_false ?_
      rintro ⟨j', z', h3, h4, h5⟩
      rw [hinj j j' u z z' h1 h3 h2 h4, h5] at hg
      cases hg
  refine ⟨fun u => decide (∃ (j : Nat) (z : D), its[j]? = some u ∧ ds[j]? = some z ∧ g z = true), key, ?_⟩
  rw [Bool.eq_iff_iff, List.any_eq_true, List.any_eq_true]
  constructor
  · rintro ⟨u, hu, he⟩
    obtain ⟨j, z, h1, h2, h3⟩ := of_decide_eq_true he
    exact ⟨z, List.mem_of_getElem? h2, h3⟩
  · rintro ⟨z, hz, hg⟩
    obtain ⟨j, hj⟩ := List.getElem?_of_mem hz
    have hj' : j < ds.length := (List.getElem?_eq_some_iff.mp hj).1
    refine ⟨its[j]'(by omega), List.getElem_mem _, decide_eq_true ⟨j, z, by simp, hj, hg⟩⟩
theorem any_eqs (I : Inv X pins σ1 H s) {n : Nat} {ds : List D} {xs : List V} {its : List Value} {d : D} {v : V} {u : Value} (hd : Dens X.K H ds xs) (rv : Vals xs its) (h : Den X.K H d v) (r : RelV v u) (f : ∀ z ∈ ds, flat n z = true) (f' : flat n d = true) (hu : A.units + n < cLine) :
    ∃ e : Value → Bool, (∀ y, y ∈ its.toArray → SeqAt.EqAt A s y u (e y)) ∧ its.toArray.any e = ds.any fun z => eqD z d := by
  have l1 := hd.length
  have l2 := rv.length
  obtain ⟨e, h1, h2⟩ := any_pairs (its := its) (ds := ds) (fun z => eqD z d) (by omega) (by
    intro i j w z z' a1 a2 a3 a4
    obtain ⟨x, b1, b2⟩ := hd.get a3
    obtain ⟨x', b3, b4⟩ := hd.get a4
    obtain ⟨w1, c1, c2⟩ := rv.get b1
    obtain ⟨w2, c3, c4⟩ := rv.get b3
    rw [a1] at c1; cases c1
    rw [a2] at c3; cases c3
    have := c2.inj c4
    subst this
    exact Den.inj I b2 b4 (f z (List.mem_of_getElem? a3)) (f z' (List.mem_of_getElem? a4)))
  refine ⟨e, fun y hy => ?_, by simpa using h2⟩
  have hy' : y ∈ its := by simpa using hy
  obtain ⟨j, hj⟩ := List.getElem?_of_mem hy'
  have hjl : j < its.length := (List.getElem?_eq_some_iff.mp hj).1
  obtain ⟨x, b1, b2⟩ := hd.get (i := j) (d := ds[j]'(by omega)) (by simp)
  obtain ⟨w1, c1, c2⟩ := rv.get b1
  rw [hj] at c1; cases c1
  rw [h1 j _ (ds[j]'(by omega)) hj (by simp)]
  exact eqAt_D I n _ _ x v _ u A b2 h c2 r (f _ (List.getElem_mem _)) f' hu
theorem op_inD (hu : X.A.units + 10 < cLine) : OpR X (compareOp .In) (rInD X.K false) := by
  intro pins s σ H x y v u Q I rx ry h
  obtain ⟨d, ds, a, xs, h1, rfl, h2, h3, f1, f2, q⟩ := h
  cases ry
  rcases h2 with h2 | h2
  · obtain ⟨its, rv, pl, _⟩ := I.list h2
    obtain ⟨e, e1, e2⟩ := any_eqs (A := X.A.in1) I h3 rv h1 rx f2 f1 (by rw [in1_units]; omega)
    exact SeqAt.in_listAt e pl.isList e1 ⟨.bl _, H, I, rfl, by rw [e2]; exact q⟩
  · obtain ⟨its, rv, tp, _⟩ := I.tuple h2
    obtain ⟨e, e1, e2⟩ := any_eqs (A := X.A.in1) I h3 rv h1 rx f2 f1 (by rw [in1_units]; omega)
    exact SeqAt.in_tupleAt e (show s.heap.IsTuple a its.toArray from tp) e1 ⟨.bl _, H, I, rfl, by rw [e2]; exact q⟩
theorem op_notInD (hu : X.A.units + 10 < cLine) : OpR X (compareOp .NotIn) (rInD X.K true) := by
  intro pins s σ H x y v u Q I rx ry h
  obtain ⟨d, ds, a, xs, h1, rfl, h2, h3, f1, f2, q⟩ := h
  cases ry
  rcases h2 with h2 | h2
  · obtain ⟨its, rv, pl, _⟩ := I.list h2
    obtain ⟨e, e1, e2⟩ := any_eqs (A := X.A.in1) I h3 rv h1 rx f2 f1 (by rw [in1_units]; omega)
    exact SeqAt.notIn_listAt e pl.isList e1 ⟨.bl _, H, I, rfl, by rw [e2]; exact q⟩
  · obtain ⟨its, rv, tp, _⟩ := I.tuple h2
    obtain ⟨e, e1, e2⟩ := any_eqs (A := X.A.in1) I h3 rv h1 rx f2 f1 (by rw [in1_units]; omega)
    exact SeqAt.notIn_tupleAt e (show s.heap.IsTuple a its.toArray from tp) e1 ⟨.bl _, H, I, rfl, by rw [e2]; exact q⟩
end
section
variable {X : Cx} {a b c e o : Expr} {es : List Expr} {pos p : Pos} {ta tb te : TE2}
def fEq (ng : Bool) : D → D → Gp → Q2 → Prop := fun x y G R => match x, y with
  | .adr l, .adr l' => ∃ ds ds', Ls G l ds ∧ Ls G l' ds' ∧ (∀ d ∈ ds, flat 8 d = true) ∧ (∀ d ∈ ds', flat 8 d = true) ∧ R (.bl (if ng then !eqDs ds ds' else eqDs ds ds')) G
  | x, y => flat 8 x = true ∧ flat 8 y = true ∧ R (.bl (if ng then !eqD x y else eqD x y)) G
theorem fit_eq {K : PySem.W.Frag} {ng : Bool} : Fit K (rEqD K ng) (fEq ng) := by
  intro dx dy G R x y H Q h r d1 d2 k
  unfold fEq at h
  split at h
  · rename_i l l'
    obtain ⟨ds, ds', e1, e2, f1, f2, h⟩ := h
    obtain ⟨xs, s1, t1⟩ := r.sq e1
    obtain ⟨xs', s2, t2⟩ := r.sq e2
    unfold Den at d1 d2
    exact .inr ⟨l, l', xs, xs', ds, ds', d1, d2, s1, s2, t1, t2, f1, f2, k _ G h _ H (.refl H) r (by unfold Den; rfl)⟩
  · obtain ⟨f1, f2, h⟩ := h
    exact .inl ⟨_, _, d1, d2, f1, f2, k _ G h _ H (.refl H) r (by unfold Den; rfl)⟩
def fIn (ng : Bool) : D → D → Gp → Q2 → Prop := fun x y G R => match y with
  | .adr l => ∃ ds, Ls G l ds ∧ flat 8 x = true ∧ (∀ d ∈ ds, flat 8 d = true) ∧ R (.bl (if ng then !ds.any fun z => eqD z x else ds.any fun z => eqD z x)) G
  | .tup ds => flat 8 x = true ∧ (∀ d ∈ ds, flat 8 d = true) ∧ R (.bl (if ng then !ds.any fun z => eqD z x else ds.any fun z => eqD z x)) G
  | _ => False
theorem fit_in {K : PySem.W.Frag} {ng : Bool} : Fit K (rInD K ng) (fIn ng) := by
  intro dx dy G R x y H Q h r d1 d2 k
  unfold fIn at h
  split at h
  · rename_i l
    obtain ⟨ds, e1, f1, f2, h⟩ := h
    obtain ⟨xs, s1, t1⟩ := r.sq e1
    unfold Den at d2
    exact ⟨dx, ds, l, xs, d1, d2, .inl s1, t1, f1, f2, k _ G h _ H (.refl H) r (by unfold Den; rfl)⟩
  · rename_i ds
    obtain ⟨f1, f2, h⟩ := h
    unfold Den at d2
    obtain ⟨l, xs, e, s1, t1⟩ := d2
    exact ⟨dx, ds, l, xs, d1, e, .inr s1, t1, f1, f2, k _ G h _ H (.refl H) r (by unfold Den; rfl)⟩
  · exact h.elim
theorem e_eq {k : Nat} (hr : Room k X.A) (ha : E2 X a ta) (hb : E2 X b tb) : E2 X (.Compare a [.Eq] [b] pos) (xOp (fEq false) ta tb) := e_cmp (op_eqD (by have := hr.units; omega)) fit_eq ha hb (nomark _)
theorem e_in {k : Nat} (hr : Room k X.A) (ha : E2 X a ta) (hb : E2 X b tb) (hm : behindInMarks .In b = false := by rfl) : E2 X (.Compare a [.In] [b] pos) (xOp (fIn false) ta tb) := e_cmp (op_inD (by have := hr.units; omega)) fit_in ha hb hm
theorem t_eq {k : Nat} (hr : Room k X.A) (ha : E2 X a ta) (hb : E2 X b tb) : T2 X (.Compare a [.Eq] [b] pos) (xB (xOp (fEq false) ta tb)) := t_cmp (op_eqD (by have := hr.units; omega)) fit_eq ha hb (nomark _)
theorem t_ne {k : Nat} (hr : Room k X.A) (ha : E2 X a ta) (hb : E2 X b tb) : T2 X (.Compare a [.NotEq] [b] pos) (xB (xOp (fEq true) ta tb)) := t_cmp (op_neD (by have := hr.units; omega)) fit_eq ha hb (nomark _)
theorem t_in {k : Nat} (hr : Room k X.A) (ha : E2 X a ta) (hb : E2 X b tb) (hm : behindInMarks .In b = false := by rfl) : T2 X (.Compare a [.In] [b] pos) (xB (xOp (fIn false) ta tb)) := t_cmp (op_inD (by have := hr.units; omega)) fit_in ha hb hm
theorem t_notIn {k : Nat} (hr : Room k X.A) (ha : E2 X a ta) (hb : E2 X b tb) (hm : behindInMarks .NotIn b = false := by rfl) : T2 X (.Compare a [.NotIn] [b] pos) (xB (xOp (fIn true) ta tb)) := t_cmp (op_notInD (by have := hr.units; omega)) fit_in ha hb hm
def fIx : D → D → Gp → Q2 → Prop := fun x y G R => match x, y with
  | .adr l, .int k => ∃ ds d, Ls G l ds ∧ atI ds k = some d ∧ R d G
  | .tup ds, .int k => match atI ds k with | some d => R d G | none => False
  | _, _ => False
theorem atI_dens {K : PySem.W.Frag} {H : Hp} {ds : List D} {xs : List V} {k : Int} {d : D} (h : Dens K H ds xs) (e : atI ds k = some d) : ∃ x, atI xs k = some x ∧ Den K H d x := by
  unfold atI at e ⊢
  rw [h.length] at e
  cases q : ixN xs.length k with
  | none => rw [q] at e; cases e
  | some j =>
    rw [q] at e
    exact h.get e
theorem fit_ix {K : PySem.W.Frag} : Fit K (fun x y H Q => rIxL K x y H Q ∨ rIxT K x y H Q) fIx := by
  intro dx dy G R x y H Q h r d1 d2 k
  unfold fIx at h
  split at h
  · rename_i l i
    obtain ⟨ds, d, e1, e2, h⟩ := h
    obtain ⟨xs, s1, t1⟩ := r.sq e1
    obtain ⟨z, e3, t2⟩ := atI_dens t1 e2
    unfold Den at d1 d2
    exact .inl ⟨l, xs, i, z, d1, d2, s1, e3, k _ G h _ H (.refl H) r t2⟩
  · rename_i ds i
    split at h
    · rename_i d e2
      unfold Den at d1 d2
      obtain ⟨l, xs, e, s1, t1⟩ := d1
      obtain ⟨z, e3, t2⟩ := atI_dens t1 e2
      exact .inr ⟨l, xs, i, z, e, d2, s1, e3, k _ G h _ H (.refl H) r t2⟩
    · exact h.elim
  · exact h.elim
theorem e_ix (ha : E2 X a ta) (hb : E2 X b tb) (hs : PlainIx b := by intro _ _; rfl) : E2 X (.Subscript a b pos) (xOp fIx ta tb) :=
  PE.mono (pe_ix (ix_list.or ix_tup) ha hb hs) fun σ1 H Q h => lift2 fit_ix h
def FitC (K : PySem.W.Frag) (r : List V → Hp → VK → Prop) (f : Sp2) : Prop :=
  ∀ ds G R vs H Q, f ds G R → RelG K G H → Dens K H ds vs → (∀ d G', R d G' → ∀ v H', Grow H H' → RelG K G' H' → Den K H' d v → Q v H') → r vs H Q
theorem lift_call {K : PySem.W.Frag} {r : List V → Hp → VK → Prop} {f : Sp2} {t : TA2} (hf : FitC K r f) {σ1 : L2.St} {H : Hp} {Q : VK} (h : lE K (xCall f t) σ1 H Q) : tCB r (lA K t) σ1 H Q := by
  obtain ⟨σ, G, R, rl, q, k⟩ := h
  exact ⟨σ, G, _, rl, q, fun ds G1 q1 vs H1 g1 r1 d1 => hf ds G1 R vs H1 Q q1 r1 d1 fun d G' q' v H' g' => k d G' q' v H' (g1.trans g')⟩
theorem e_callB {id : String} {x : Str} {r : List V → Hp → VK → Prop} {f : Sp2} {t : TA2} (hc : CallR X (.builtin id) r) (hf : FitC X.K r f) (hg : Gl X x) (hm : X.mg x = none) (hv : bootBuiltins x = some (.builtin id)) (ha : A2 X (e :: es) t) (hn : x ≠ "__name__" := by decide) (hdb : (x == ("__debug__" : Str)) = false := by decide)
    (he : starEach (e :: es) X.env = (false, eval e X.env) :: starEach es X.env := by rfl) (hpl : (backTo pos (starEach es X.env)).any (·.1) = false := by rfl) : E2 X (.Call (.Name x p) (e :: es) [] pos) (xCall f t) :=
  PE.mono (pe_callB hc hg hm hv ha hn hdb he hpl) fun σ1 H Q h => lift_call hf h
theorem e_callTy {T : String} {x : Str} {r : List V → Hp → VK → Prop} {f : Sp2} {t : TA2} (hc : CallR X (.type T) r) (hf : FitC X.K r f) (hg : Gl X x) (hm : X.mg x = none) (hv : bootBuiltins x = some (.type T)) (ha : A2 X (e :: es) t) (hn : x ≠ "__name__" := by decide) (hdb : (x == ("__debug__" : Str)) = false := by decide)
    (he : starEach (e :: es) X.env = (false, eval e X.env) :: starEach es X.env := by rfl) (hpl : (backTo pos (starEach es X.env)).any (·.1) = false := by rfl) : E2 X (.Call (.Name x p) (e :: es) [] pos) (xCall f t) :=
  PE.mono (pe_callTy hc hg hm hv ha hn hdb he hpl) fun σ1 H Q h => lift_call hf h
def seqOf (G : Gp) : D → List D → Prop
  | .tup es, ds => es = ds
  | .adr l, ds => Ls G l ds
  | _, _ => False
theorem seq_den {K : PySem.W.Frag} {G : Gp} {H : Hp} {d : D} {v : V} {ds : List D} (r : RelG K G H) (h : Den K H d v) (e : seqOf G d ds) : ∃ l xs, v = .ref l ∧ (SqL K H l xs ∨ SqT K H l xs) ∧ Dens K H ds xs := by
  cases d with
  | tup _ =>
    have e : _ = ds := e
    subst e
    unfold Den at h
    obtain ⟨l, xs, e, s1, t1⟩ := h
    exact ⟨l, xs, e, .inr s1, t1⟩
  | adr l =>
    unfold Den at h
    obtain ⟨xs, s1, t1⟩ := r.sq (show Ls G l ds from e)
    exact ⟨l, xs, h, .inl s1, t1⟩
  | _ => exact e.elim
theorem dens1 {K : PySem.W.Frag} {H : Hp} {d : D} {vs : List V} (h : Dens K H [d] vs) : ∃ v, vs = [v] ∧ Den K H d v := by
  unfold Dens at h
  obtain ⟨v, r, e, h1, h2⟩ := h
  unfold Dens at h2
  subst h2
  exact ⟨v, e, h1⟩
theorem dens2 {K : PySem.W.Frag} {H : Hp} {d d' : D} {vs : List V} (h : Dens K H [d, d'] vs) : ∃ v v', vs = [v, v'] ∧ Den K H d v ∧ Den K H d' v' := by
  unfold Dens at h
  obtain ⟨v, r, e, h1, h2⟩ := h
  obtain ⟨v', e2, h3⟩ := dens1 h2
  subst e2
  exact ⟨v, v', e, h1, h3⟩
def spLen : Sp2 := fun ds G R => match ds with | [d] => ∃ l, seqOf G d l ∧ R (.int l.length) G | _ => False
theorem fit_len : FitC X.K (fun xs H Q => ∃ p ys, xs = [.ref p] ∧ (SqL X.K H p ys ∨ SqT X.K H p ys) ∧ Q (.int ys.length) H) spLen := by
  intro ds G R vs H Q h r d k
  unfold spLen at h
  split at h
  · rename_i d0
    obtain ⟨v, rfl, d1⟩ := dens1 d
    obtain ⟨l, e, h⟩ := h
    obtain ⟨a, xs, rfl, s1, t1⟩ := seq_den r d1 e
    exact ⟨a, xs, rfl, s1, k _ G h _ H (.refl H) r (by rw [← t1.length]; unfold Den; rfl)⟩
  · exact h.elim
theorem e_len {t : TA2} (hg : Gl X "len") (hm : X.mg "len" = none) (ha : A2 X [e] t) (he : starEach [e] X.env = (false, eval e X.env) :: starEach [] X.env := by rfl) (hpl : (backTo pos (starEach [] X.env)).any (·.1) = false := by rfl) : E2 X (.Call (.Name "len" p) [e] [] pos) (xCall spLen t) := e_callB call_len_seq fit_len hg hm PySem.boot_len ha (by decide) (by decide) he hpl
def spMin : Sp2 := fun ds G R => match ds with | [.int i, .int j] => R (.int (if j < i then j else i)) G | _ => False
def spMax : Sp2 := fun ds G R => match ds with | [.int i, .int j] => R (.int (if j > i then j else i)) G | _ => False
theorem fit_2i {f : Int → Int → Int} {sp : Sp2} (hs : ∀ ds G R, sp ds G R → ∃ i j, ds = [.int i, .int j] ∧ R (.int (f i j)) G) : FitC X.K (fun xs H Q => ∃ i j, xs = [.int i, .int j] ∧ Q (.int (f i j)) H) sp := by
  intro ds G R vs H Q h r d k
  obtain ⟨i, j, rfl, h'⟩ := hs ds G R h
  obtain ⟨v, v', rfl, d1, d2⟩ := dens2 d
  unfold Den at d1 d2
  subst d1 d2
  exact ⟨i, j, rfl, k _ G h' _ H (.refl H) r (by unfold Den; rfl)⟩
theorem e_min {t : TA2} {e' : Expr} (hc : X.calm = true) (hg : Gl X "min") (hm : X.mg "min" = none) (ha : A2 X [e, e'] t) (he : starEach [e, e'] X.env = (false, eval e X.env) :: starEach [e'] X.env := by rfl) (hpl : (backTo pos (starEach [e'] X.env)).any (·.1) = false := by rfl) : E2 X (.Call (.Name "min" p) [e, e'] [] pos) (xCall spMin t) := e_callB (call_min2 hc) (fit_2i fun ds G R h => by unfold spMin at h; split at h; exact ⟨_, _, rfl, h⟩; exact h.elim) hg hm (by decide +kernel) ha (by decide) (by decide) he hpl
theorem e_max {t : TA2} {e' : Expr} (hc : X.calm = true) (hg : Gl X "max") (hm : X.mg "max" = none) (ha : A2 X [e, e'] t) (he : starEach [e, e'] X.env = (false, eval e X.env) :: starEach [e'] X.env := by rfl) (hpl : (backTo pos (starEach [e'] X.env)).any (·.1) = false := by rfl) : E2 X (.Call (.Name "max" p) [e, e'] [] pos) (xCall spMax t) := e_callB (call_max2 hc) (fit_2i fun ds G R h => by unfold spMax at h; split at h; exact ⟨_, _, rfl, h⟩; exact h.elim) hg hm (by decide +kernel) ha (by decide) (by decide) he hpl
end
end L3
set_option Elab.async false
set_option linter.all false
set_option maxRecDepth 100000
set_option maxHeartbeats 4000000
namespace L3
open PySem PySem.Spec PyProof.Rows L2
section
variable {X : Cx} {a b c e o : Expr} {es : List Expr} {pos p p2 : Pos} {ta tb te to : TE2} {tl : TL2}
def FitF (K : PySem.W.Frag) (r : List V → Hp → VK → Prop) (g : Sp2) : Prop :=
  ∀ ds G R l xs H Q, g ds G R → RelG K G H → H l = some (.lst xs) → Dens K H ds xs → (∀ d G', R d G' → ∀ v H', Grow H H' → RelG K G' H' → Den K H' d v → Q v H') → r [.ref l] H Q
def xCallF (g : Sp2) (t : TL2) : TE2 := fun σ G R => t σ G fun ds G1 => g ds G1 R
theorem lift_callF {K : PySem.W.Frag} {r : List V → Hp → VK → Prop} {g : Sp2} (hf : FitF K r g) {σ1 : L2.St} {H : Hp} {Q : VK} (h : lE K (xCallF g tl) σ1 H Q) : tCB r (tCons (lL K tl) tNil) σ1 H Q := by
  obtain ⟨σ, G, R, rl, q, k⟩ := h
  exact ⟨σ, G, _, rl, q, fun ds G1 q1 l xs H1 g1 r1 n e d1 => hf ds G1 R l xs H1 Q q1 r1 e d1 fun d G' q' v H' g' => k d G' q' v H' (g1.trans g')⟩
theorem e_callTyF {T : String} {x : Str} {r : List V → Hp → VK → Prop} {g : Sp2} (hc : CallR X (.type T) r) (hf : FitF X.K r g) (hg : Gl X x) (hm : X.mg x = none) (hv : bootBuiltins x = some (.type T)) (ha : F2 X e tl) (hn : x ≠ "__name__" := by decide) (hdb : (x == ("__debug__" : Str)) = false := by decide)
    (he : starEach [e] X.env = (false, eval e X.env) :: starEach [] X.env := by rfl) (hpl : (backTo pos (starEach [] X.env)).any (·.1) = false := by rfl) : E2 X (.Call (.Name x p) [e] [] pos) (xCallF g tl) :=
  PE.mono (pe_callTy hc hg hm hv (pa_cons ha pa_nil he) hn hdb he hpl) fun σ1 H Q h => lift_callF hf h
theorem e_callBF {id : String} {x : Str} {r : List V → Hp → VK → Prop} {g : Sp2} (hc : CallR X (.builtin id) r) (hf : FitF X.K r g) (hg : Gl X x) (hm : X.mg x = none) (hv : bootBuiltins x = some (.builtin id)) (ha : F2 X e tl) (hn : x ≠ "__name__" := by decide) (hdb : (x == ("__debug__" : Str)) = false := by decide)
    (he : starEach [e] X.env = (false, eval e X.env) :: starEach [] X.env := by rfl) (hpl : (backTo pos (starEach [] X.env)).any (·.1) = false := by rfl) : E2 X (.Call (.Name x p) [e] [] pos) (xCallF g tl) :=
  PE.mono (pe_callB hc hg hm hv (pa_cons ha pa_nil he) hn hdb he hpl) fun σ1 H Q h => lift_callF hf h
def gTuple : Sp2 := fun ds G R => R (.tup ds) G
theorem fitF_tuple {K : PySem.W.Frag} : FitF K (fun xs H Q => ∃ p ys, xs = [.ref p] ∧ ((SqL K H p ys ∧ ∀ l, H l = none → Q (.ref l) (upd H l (.tup ys))) ∨ (SqT K H p ys ∧ Q (.ref p) H))) gTuple := by
  intro ds G R l xs H Q h r e d k
  refine ⟨l, xs, rfl, .inl ⟨.of e, fun l' n => k _ G h _ _ (.fresh n) (r.fresh n) ?_⟩⟩
  unfold Den
  exact ⟨l', xs, rfl, .of upd_same, d.grow (.fresh n)⟩
theorem e_tupF (hg : Gl X "tuple") (hm : X.mg "tuple" = none) (ha : F2 X e tl) (he : starEach [e] X.env = (false, eval e X.env) :: starEach [] X.env := by rfl) (hpl : (backTo pos (starEach [] X.env)).any (·.1) = false := by rfl) :
    E2 X (.Call (.Name "tuple" p) [e] [] pos) (xCallF gTuple tl) := e_callTyF call_tuple_of fitF_tuple hg hm (by decide +kernel) ha (by decide) (by decide) he hpl
def spTuple : Sp2 := fun ds G R => match ds with | [d] => ∃ l, seqOf G d l ∧ R (.tup l) G | _ => False
theorem fit_tuple {K : PySem.W.Frag} : FitC K (fun xs H Q => ∃ p ys, xs = [.ref p] ∧ ((SqL K H p ys ∧ ∀ l, H l = none → Q (.ref l) (upd H l (.tup ys))) ∨ (SqT K H p ys ∧ Q (.ref p) H))) spTuple := by
  intro ds G R vs H Q h r d k
  unfold spTuple at h
  split at h
  · rename_i d0
    obtain ⟨v, rfl, d1⟩ := dens1 d
    obtain ⟨l, e, h⟩ := h
    obtain ⟨a, xs, rfl, s1, t1⟩ := seq_den r d1 e
    rcases s1 with s1 | s1
    · refine ⟨a, xs, rfl, .inl ⟨s1, fun l' n => k _ G h _ _ (.fresh n) (r.fresh n) ?_⟩⟩
      unfold Den
      exact ⟨l', xs, rfl, .of upd_same, t1.grow (.fresh n)⟩
    · refine ⟨a, xs, rfl, .inr ⟨s1, k _ G h _ H (.refl H) r ?_⟩⟩
      unfold Den
      exact ⟨a, xs, rfl, s1, t1⟩
  · exact h.elim
theorem e_tuple {t : TA2} (hg : Gl X "tuple") (hm : X.mg "tuple" = none) (ha : A2 X [e] t) (he : starEach [e] X.env = (false, eval e X.env) :: starEach [] X.env := by rfl) (hpl : (backTo pos (starEach [] X.env)).any (·.1) = false := by rfl) :
    E2 X (.Call (.Name "tuple" p) [e] [] pos) (xCall spTuple t) := e_callTy call_tuple_of fit_tuple hg hm (by decide +kernel) ha (by decide) (by decide) he hpl
theorem vals_of_get : ∀ {xs : List V} {us : List Value}, xs.length = us.length → (∀ (i : Nat) (x : V) (u : Value), xs[i]? = some x → us[i]? = some u → RelV x u) → Vals xs us
  | [], [], _, _ => .nil
  | [], _ :: _, h, _ => by cases h
  | _ :: _, [], h, _ => by cases h
  | x :: xs, u :: us, h, g => .cons (g 0 x u rfl rfl) (vals_of_get (by simpa using h) fun i y w e1 e2 => g (i + 1) y w (by simpa using e1) (by simpa using e2))
theorem Dens.ints_inv {K : PySem.W.Frag} {H : Hp} : ∀ {ns : List Int} {xs : List V}, Dens K H (ns.map D.int) xs → xs = ns.map V.int
  | [], xs, h => by unfold Dens at h; exact h
  | n :: r, xs, h => by
    rw [List.map_cons] at h
    unfold Dens at h
    obtain ⟨x, y, rfl, h1, h2⟩ := h
    unfold Den at h1
    rw [h1, Dens.ints_inv h2]; rfl
theorem pe_range1 {t : TA} (hg : Gl X "range") (hm : X.mg "range" = none) (ha : PA X [a] t) (hs : starEach [a] X.env = [(false, eval a X.env)] := by rfl) :
    PE X (.Call (.Name "range" p) [a] [] pos) (fun σ H Q => t σ H fun vs H1 => ∃ j : Int, vs = [.int j] ∧ ∀ l, H1 l = none → Q (.ref l) (upd H1 l (.rng 0 j))) := by
  intro pins s σ H Q I h
  refine Call_ (ld_blt I hg hm boot_range (PyProof.Rows.callWith_type1 (thn (ha pos pins s σ H _ I h) fun us s1 ⟨vs, H1, I1, r1, q1⟩ => ?_) hs rfl))
  obtain ⟨j, e, q⟩ := q1
  subst e
  cases r1 with
  | cons r rr =>
    cases rr
    obtain ⟨t, rfl⟩ := r
    refine call_range_1 ?_
    have hn : H1 s1.heap.objs.size = none := I1.hok.fresh (Nat.le_refl _)
    exact ⟨.ref s1.heap.objs.size, _, I1.laid (o := .rng 0 j) (fun b u e => Heap.get?_push_of_some _ e) (Nat.le_refl _) ⟨_, _, _, Heap.get?_push_size _ rfl⟩, rfl, q _ hn⟩
theorem call_listR (hc : X.calm = true) : CallR X (.type "list") (fun xs H Q => ∃ p j, xs = [.ref p] ∧ H p = some (.rng 0 j) ∧ (0 ≤ j ∧ j ≤ 1000000) ∧ ∀ l, H l = none → Q (.ref l) (upd H l (.lst ((List.range j.toNat).map fun (k : Nat) => V.int k)))) := by
  intro pins s σ H xs us Q I r h
  obtain ⟨p, j, rfl, hp, ⟨h0, h1⟩, q⟩ := h
  obtain ⟨u, rfl, rx⟩ := vals1 r
  cases rx
  obtain ⟨t1, t2, t3, ho⟩ : ∃ t u v, s.heap.get? p = some { cls := .type "range", data := .fields #[.int 0 t, .int j u, .int 1 v] } := I.hok p _ hp
  have hsz : Builtin.Range.rangeSize 0 j 1 = ((j.toNat : Nat) : Int) := by rw [rangeSize_one]; split <;> omega
  refine call_list_range (I.ok.hd hc) (show IsRange s.heap p 0 j 1 t1 t2 t3 from ho) (small_one (by omega) (by omega) (by omega) (by omega)) hsz (by omega) fun h' tk acc' c' kp e hacc => ?_
  have hn : H s.heap.objs.size = none := I.hok.fresh (Nat.le_refl _)
  refine ⟨.ref s.heap.objs.size, _, I.laid (o := .lst ((List.range j.toNat).map fun (k : Nat) => V.int k)) kp (Nat.le_refl _) ?_, rfl, q _ hn⟩
  refine ⟨?_, acc'.toList, c', ?_, by rw [e]⟩
  · rw [List.length_map, List.length_range, sizeLine_eq]; omega
  · refine vals_of_get (by simp [hacc.1]) fun i x v e1 e2 => ?_
    have e2' : acc'[i]? = some v := by simpa using e2
    obtain ⟨t, rfl⟩ := hacc.2 i v e2'
    rw [List.getElem?_map] at e1
    cases q' : (List.range j.toNat)[i]? with
    | none => rw [q'] at e1; cases e1
    | some k =>
      rw [q'] at e1
      cases e1
      have hk : k = i := by
        have := (List.getElem?_eq_some_iff.mp q').2
        simpa using this.symm
      subst hk
      refine ⟨t, ?_⟩
      congr 1
      omega
def xListR (t : TA2) : TL2 := fun σ G R => t σ G fun ds G1 => match ds with | [.int j] => (0 ≤ j ∧ j ≤ 1000000) ∧ R (rangeD 0 j.toNat) G1 | _ => False
theorem f_listR {t : TA2} {pos' : Pos} (hc : X.calm = true) (hg : Gl X "list") (hm : X.mg "list" = none) (hg2 : Gl X "range") (hm2 : X.mg "range" = none) (ha : A2 X [a] t) (hs : starEach [a] X.env = [(false, eval a X.env)] := by rfl)
    (he : starEach [.Call (.Name "range" p2) [a] [] pos] X.env = (false, eval (.Call (.Name "range" p2) [a] [] pos) X.env) :: starEach [] X.env := by rfl) (hpl : (backTo pos' (starEach [] X.env)).any (·.1) = false := by rfl) :
    F2 X (.Call (.Name "list" p) [.Call (.Name "range" p2) [a] [] pos] [] pos') (xListR t) := by
  refine PE.mono (pe_callTy (call_listR hc) hg hm (by decide +kernel) (pa_cons (pe_range1 hg2 hm2 ha hs) pa_nil he) (by decide) (by decide) he hpl) ?_
  rintro σ1 H Q ⟨σ, G, R, rl, q, k⟩
  refine ⟨σ, G, _, rl, q, fun ds G1 q1 vs H1 g1 r1 d1 => ?_⟩
  split at q1
  · rename_i j
    obtain ⟨v, rfl, d2⟩ := dens1 d1
    unfold Den at d2
    subst d2
    refine ⟨j, rfl, fun l n => ⟨l, j, rfl, upd_same, q1.1, fun l' n' => ?_⟩⟩
    have g2 : Grow H1 (upd H1 l (.rng 0 j)) := .fresh n
    have r2 := r1.fresh (o := .rng 0 j) n
    refine k _ G1 q1.2 l' _ _ ((g1.trans g2).trans (.fresh n')) (r2.fresh n') (r2.free n') upd_same ?_
    have : (List.range j.toNat).map (fun (k : Nat) => V.int k) = ((List.range j.toNat).map fun (k : Nat) => (k : Int)).map V.int := by simp
    rw [this]
    have e2 : rangeD 0 j.toNat = ((List.range j.toNat).map fun (k : Nat) => (k : Int)).map D.int := by simp [rangeD]
    rw [e2]
    exact Dens.ints _
  · exact q1.elim
def xRep (ta tb : TE2) : TL2 := fun σ G R => ta σ G fun x G1 => tb σ G1 fun y G2 => match x, y with
  | .adr l, .int k => match G2.m l with
    | some ds => (0 ≤ k ∧ k ≤ 1000) ∧ ds.length ≤ 1000 ∧ R ((List.replicate k.toNat ds).flatten) G2
    | none => False
  | _, _ => False
theorem Dens.rep {K : PySem.W.Frag} {H : Hp} {ds : List D} {xs : List V} (h : Dens K H ds xs) : ∀ n : Nat, Dens K H (List.replicate n ds).flatten (List.replicate n xs).flatten
  | 0 => .nil
  | n + 1 => by
    rw [List.replicate_succ, List.flatten_cons, List.replicate_succ, List.flatten_cons]
    exact h.append (Dens.rep h n)
theorem f_rep (ha : E2 X a ta) (hb : E2 X b tb) : F2 X (.BinOp a .Mult b pos) (xRep ta tb) := by
  refine PE.mono (pe_op op_rep ha hb) ?_
  rintro σ1 H Q ⟨σ, G, R, rl, q, k⟩
  refine ⟨σ, G, _, rl, q, fun dx G1 q1 x H1 g1 r1 d1 => ⟨σ, G1, _, rl.to g1 r1, q1, fun dy G2 q2 y H2 g2 r2 d2 => ?_⟩⟩
  split at q2
  · rename_i l i
    split at q2
    · rename_i ds e
      obtain ⟨⟨h0, h1⟩, hz, q3⟩ := q2
      have d1' := d1.grow g2
      unfold Den at d1' d2
      subst d1' d2
      obtain ⟨xs, e1, e2⟩ := r2.m l ds e
      have hlen := e2.length
      refine ⟨l, i, xs, rfl, rfl, e1, by omega, by omega, ?_, fun l' n' => ?_⟩
      · have h3 : i.toNat ≤ 1000 := by omega
        have h4 : xs.length ≤ 1000 := by omega
        have := Nat.mul_le_mul h4 h3
        rw [sizeLine_eq]; omega
      · exact k _ G2 q3 l' _ _ ((g1.trans g2).trans (.fresh n')) (r2.fresh n') (r2.free n') upd_same ((e2.rep i.toNat).grow (.fresh n'))
    · exact q2.elim
  · exact q2.elim
def xApp (to : TE2) (t : TA2) : TE2 := fun σ G R => to σ G fun x G1 => match x with
  | .adr l => match G1.m l with
    | some _ => t σ G1 fun ds G2 => match ds with
      | [d] => (match G2.m l with | some xs => xs.length ≤ 1000000 ∧ R .non (gset G2 l (xs ++ [d])) | none => False)
      | _ => False
    | none => False
  | _ => False
theorem e_append {t : TA2} {apos : Pos} (ho : E2 X o to) (ha : A2 X [e] t)
    (hbase : attributeBase o "append" X.env (eval o X.env) = eval o X.env := by rfl)
    (hfew : ((backTo pos (starEach [e] X.env)).all (fun x => !x.1) && (backToKw pos (keywordEach [] X.env)).all (fun x => x.1.isSome)
      && decide ([e].length + ([] : List Keyword).length + (if ([] : List Keyword).isEmpty then 0 else 1) < 30)) = true := by rfl)
    (hline : (apos.endLine == pos.line) = true := by rfl) (hs : starEach [e] X.env = (false, eval e X.env) :: starEach [] X.env := by rfl) (hplain : (backTo pos (starEach [] X.env)).any (·.1) = false := by rfl) :
    E2 X (.Call (.Attribute o "append" apos) [e] [] pos) (xApp to t) := by
  refine PE.mono (pe_bm PySem.F.plainAttrs_list PySem.F.slot_list_append PySem.F.type_list_append mt_append ho ha hbase hfew hline hs hplain) ?_
  rintro σ1 H Q ⟨σ, G, R, rl, q, k⟩
  refine ⟨σ, G, _, rl, q, fun dx G1 q1 x H1 g1 r1 d1 => ?_⟩
  split at q1
  · rename_i l
    split at q1
    · rename_i ds0 e0
      unfold Den at d1
      subst d1
      obtain ⟨xs0, a1, a2⟩ := r1.m l ds0 e0
      refine ⟨.inl ⟨rfl, xs0, .of a1⟩, σ, G1, _, rl.to g1 r1, q1, fun ds G2 q2 vs H2 g2 r2 d2 => ?_⟩
      split at q2
      · rename_i d
        split at q2
        · rename_i xs e1
          obtain ⟨v, rfl, d3⟩ := dens1 d2
          obtain ⟨ys, b1, b2⟩ := r2.m l xs e1
          have hlen := b2.length
          refine ⟨l, ys, v, rfl, rfl, b1, by rw [sizeLine_eq]; omega, ?_⟩
          exact k _ _ q2.2 _ _ ((g1.trans g2).trans (.lst b1)) (r2.put b1 (b2.append (.cons d3 .nil))) (by unfold Den; rfl)
        · exact q2.elim
      · exact q2.elim
    · exact q1.elim
  · exact q1.elim
def xExt (to : TE2) (t : TL2) : TE2 := fun σ G R => to σ G fun x G1 => match x with
  | .adr l => match G1.m l with
    | some _ => t σ G1 fun zs G2 => match G2.m l with | some xs => xs.length + zs.length ≤ 1000000 ∧ R .non (gset G2 l (xs ++ zs)) | none => False
    | none => False
  | _ => False
theorem e_extend {apos : Pos} (ho : E2 X o to) (ha : F2 X e tl)
    (hbase : attributeBase o "extend" X.env (eval o X.env) = eval o X.env := by rfl)
    (hfew : ((backTo pos (starEach [e] X.env)).all (fun x => !x.1) && (backToKw pos (keywordEach [] X.env)).all (fun x => x.1.isSome)
      && decide ([e].length + ([] : List Keyword).length + (if ([] : List Keyword).isEmpty then 0 else 1) < 30)) = true := by rfl)
    (hline : (apos.endLine == pos.line) = true := by rfl) (hs : starEach [e] X.env = (false, eval e X.env) :: starEach [] X.env := by rfl) (hplain : (backTo pos (starEach [] X.env)).any (·.1) = false := by rfl) :
    E2 X (.Call (.Attribute o "extend" apos) [e] [] pos) (xExt to tl) := by
  refine PE.mono (pe_bm PySem.F.plainAttrs_list PySem.F.slot_list_extend PySem.F.type_list_extend mt_extend ho (pa_cons ha pa_nil hs) hbase hfew hline hs hplain) ?_
  rintro σ1 H Q ⟨σ, G, R, rl, q, k⟩
  refine ⟨σ, G, _, rl, q, fun dx G1 q1 x H1 g1 r1 d1 => ?_⟩
  split at q1
  · rename_i l
    split at q1
    · rename_i ds0 e0
      unfold Den at d1
      subst d1
      obtain ⟨xs0, a1, a2⟩ := r1.m l ds0 e0
      refine ⟨.inl ⟨rfl, xs0, .of a1⟩, σ, G1, _, rl.to g1 r1, q1, fun zs G2 q2 l2 ys H2 g2 r2 n2 e2 d2 => ?_⟩
      split at q2
      · rename_i xs e1
        obtain ⟨ws, b1, b2⟩ := r2.m l xs e1
        have hl1 := b2.length
        have hl2 := d2.length
        refine ⟨l, l2, ws, ys, rfl, rfl, b1, e2, by rw [sizeLine_eq]; omega, ?_⟩
        exact k _ _ q2.2 _ _ ((g1.trans g2).trans (.lst b1)) (r2.put b1 (b2.append d2)) (by unfold Den; rfl)
      · exact q2.elim
    · exact q1.elim
  · exact q1.elim
def xPop (to : TE2) (t : TA2) : TE2 := fun σ G R => to σ G fun x G1 => match x with
  | .adr l => match G1.m l with
    | some _ => t σ G1 fun ds G2 => match ds with
      | [.int i] => (match G2.m l with
        | some xs => (0 ≤ i ∧ i < xs.length ∧ i ≤ 1000000) ∧ (match xs[i.toNat]? with | some d => R d (gset G2 l (xs.eraseIdx i.toNat)) | none => False)
        | none => False)
      | _ => False
    | none => False
  | _ => False
theorem e_pop {t : TA2} {apos : Pos} (ho : E2 X o to) (ha : A2 X [e] t)
    (hbase : attributeBase o "pop" X.env (eval o X.env) = eval o X.env := by rfl)
    (hfew : ((backTo pos (starEach [e] X.env)).all (fun x => !x.1) && (backToKw pos (keywordEach [] X.env)).all (fun x => x.1.isSome)
      && decide ([e].length + ([] : List Keyword).length + (if ([] : List Keyword).isEmpty then 0 else 1) < 30)) = true := by rfl)
    (hline : (apos.endLine == pos.line) = true := by rfl) (hs : starEach [e] X.env = (false, eval e X.env) :: starEach [] X.env := by rfl) (hplain : (backTo pos (starEach [] X.env)).any (·.1) = false := by rfl) :
    E2 X (.Call (.Attribute o "pop" apos) [e] [] pos) (xPop to t) := by
  refine PE.mono (pe_bm PySem.F.plainAttrs_list PySem.F.slot_list_pop PySem.F.type_list_pop mt_popAt ho ha hbase hfew hline hs hplain) ?_
  rintro σ1 H Q ⟨σ, G, R, rl, q, k⟩
  refine ⟨σ, G, _, rl, q, fun dx G1 q1 x H1 g1 r1 d1 => ?_⟩
  split at q1
  · rename_i l
    split at q1
    · rename_i ds0 e0
      unfold Den at d1
      subst d1
      obtain ⟨xs0, a1, a2⟩ := r1.m l ds0 e0
      refine ⟨.inl ⟨rfl, xs0, .of a1⟩, σ, G1, _, rl.to g1 r1, q1, fun ds G2 q2 vs H2 g2 r2 d2 => ?_⟩
      split at q2
      · rename_i i
        split at q2
        · rename_i xs e1
          obtain ⟨⟨h0, h1, h9⟩, q2⟩ := q2
          split at q2
          · rename_i d e2
            obtain ⟨v, rfl, d3⟩ := dens1 d2
            unfold Den at d3
            subst d3
            obtain ⟨ys, b1, b2⟩ := r2.m l xs e1
            have hlen := b2.length
            obtain ⟨z, c1, c2⟩ := b2.get e2
            refine ⟨l, ys, i, i.toNat, z, rfl, rfl, b1, by omega, by omega, ?_, c1, ?_⟩
            · have hi : ¬ i < 0 := by omega
              unfold seqIndex?
              simp only [if_neg hi]
              rw [if_pos (by rw [Bool.and_eq_true]; exact ⟨decide_eq_true h0, decide_eq_true (by omega)⟩)]
            · exact k _ _ q2 _ _ ((g1.trans g2).trans (.lst b1)) (r2.put b1 (b2.eraseIdx i.toNat)) (c2.grow (.lst b1))
          · exact q2.elim
        · exact q2.elim
      · exact q2.elim
    · exact q1.elim
  · exact q1.elim
def isTyB : D → String → Bool
  | .tup _, T => decide (T = "tuple")
  | .bl _, T => decide (T = "bool" ∨ T = "int")
  | .int _, T => decide (T = "int")
  | .str _, T => decide (T = "str")
  | .non, _ => false
  | .adr _, _ => false
  | .dic _, T => decide (T = "dict")
def tys : List String := ["tuple", "bool", "int", "str", "list", "dict"]
theorem call_isinst {T : String} (hT : T ∈ tys) : CallR X (.builtin "isinstance") (fun xs H Q => ∃ x d, xs = [x, .ty T] ∧ Den X.K H d x ∧ ((∀ l, d ≠ .adr l) ∧ Q (.bl (isTyB d T)) H ∨ ∃ l ys, d = .adr l ∧ SqL X.K H l ys ∧ Q (.bl (decide (T = "list"))) H)) := by
  intro pins s σ H xs us Q I r h
  obtain ⟨x, d, rfl, hd, q⟩ := h
  obtain ⟨u, u', rfl, rx, ry⟩ := vals2 r
  obtain rfl : u' = Value.type T := ry
  simp only [tys, List.mem_cons, List.not_mem_nil, or_false] at hT
  rcases q with ⟨hna, q⟩ | ⟨l, ys, rfl, hs, q⟩
  · cases d with
    | tup _ =>
      unfold Den at hd
      obtain ⟨a, ys, rfl, hs, _⟩ := hd
      cases (show u = Value.ref a from rx)
      obtain ⟨_, _, ⟨o, h1, h2, _⟩, _⟩ := I.tuple hs
      rcases hT with rfl | rfl | rfl | rfl | rfl | rfl <;> exact PySem.W.kia_one PySem.W.kitx_tuple I.kIn ⟨o, h1, h2⟩ (by rfl) (fun z => nomatch z) fun tk => ⟨.bl _, H, I.tok _, rfl, q⟩
    | bl _ =>
      unfold Den at hd
      subst hd
      rcases hT with rfl | rfl | rfl | rfl | rfl | rfl <;> exact isinst_ok I rx (.bl _) (by rfl) fun tk => ⟨.bl _, H, I.tok _, rfl, q⟩
    | int _ =>
      unfold Den at hd
      subst hd
      rcases hT with rfl | rfl | rfl | rfl | rfl | rfl <;> exact isinst_ok I rx (.int _) (by rfl) fun tk => ⟨.bl _, H, I.tok _, rfl, q⟩
    | str _ =>
      unfold Den at hd
      subst hd
      rcases hT with rfl | rfl | rfl | rfl | rfl | rfl <;> exact isinst_ok I rx (.str _) (by rfl) fun tk => ⟨.bl _, H, I.tok _, rfl, q⟩
    | non =>
      unfold Den at hd
      subst hd
      rcases hT with rfl | rfl | rfl | rfl | rfl | rfl <;> exact isinst_ok I rx .non (by rfl) fun tk => ⟨.bl _, H, I.tok _, rfl, q⟩
    | dic a =>
      unfold Den at hd
      obtain ⟨rfl, o, y, hs, hc⟩ := hd
      cases (show u = Value.ref a from rx)
      have h1 := (I.hok a _ hs).1
      rcases hT with rfl | rfl | rfl | rfl | rfl | rfl <;> exact PySem.W.kia_one PySem.W.kitx_dict I.kIn ⟨o, h1, hc⟩ (by rfl) (fun z => nomatch z) fun tk => ⟨.bl _, H, I.tok _, rfl, q⟩
    | adr l => exact absurd rfl (hna l)
  · unfold Den at hd
    subst hd
    cases (show u = Value.ref l from rx)
    obtain ⟨_, _, pl, _⟩ := I.list hs
    obtain ⟨o, h1, h2, _⟩ := pl.isList
    rcases hT with rfl | rfl | rfl | rfl | rfl | rfl <;> exact PySem.W.kia_one PySem.W.kitx_list I.kIn ⟨o, h1, h2⟩ (by rfl) (fun z => nomatch z) fun tk => ⟨.bl _, H, I.tok _, rfl, q⟩
def xIsI (T : String) (te : TE2) : TE2 := fun σ G R => te σ G fun d G1 => match d with
  | .adr l => (∃ ds, Ls G1 l ds) ∧ R (.bl (decide (T = "list"))) G1
  | d => R (.bl (isTyB d T)) G1
theorem e_isI {T : String} {x : Str} (hg : Gl X "isinstance") (hm : X.mg "isinstance" = none) (hg2 : Gl X x) (hm2 : X.mg x = none) (hv : bootBuiltins x = some (.type T)) (ha : E2 X e te) (hT : T ∈ tys := by decide)
    (he : starEach [e, .Name x p2] X.env = (false, eval e X.env) :: starEach [.Name x p2] X.env := by rfl) (he2 : starEach [.Name x p2] X.env = (false, eval (.Name x p2) X.env) :: starEach [] X.env := by rfl) (hpl : (backTo pos (starEach [.Name x p2] X.env)).any (·.1) = false := by rfl)
    (hn : x ≠ "__name__" := by decide) (hdb : (x == ("__debug__" : Str)) = false := by decide) :
    E2 X (.Call (.Name "isinstance" p) [e, .Name x p2] [] pos) (xIsI T te) := by
  refine PE.mono (pe_callB (call_isinst (T := T) hT) hg hm (by decide +kernel) (pa_cons ha (pa_cons (pe_bltn (v := .ty T) hg2 hm2 hv rfl hn hdb) pa_nil he2) he) (by decide) (by decide) he hpl) ?_
  rintro σ1 H Q ⟨σ, G, R, rl, q, k⟩
  refine ⟨σ, G, _, rl, q, fun d G1 q1 v H1 g1 r1 d1 => ?_⟩
  refine ⟨v, d, rfl, d1, ?_⟩
  cases d with
  | adr l =>
    obtain ⟨⟨ds, hl⟩, q1⟩ := q1
    obtain ⟨xs, hs, _⟩ := r1.sq hl
    exact .inr ⟨l, xs, rfl, hs, k _ G1 q1 _ H1 g1 r1 (by unfold Den; rfl)⟩
  | _ => exact .inl ⟨fun l z => (by cases z), k _ G1 q1 _ H1 g1 r1 (by unfold Den; rfl)⟩
def xAug (i : Nat) (te : TE2) (f : Int → Int → Int) : TS2 := fun E σ G => match look σ i with
  | some (.int a) => te σ G fun y G1 => match y with | .int b => E.nx (σ.set i (some (.int (f a b)))) G1 | _ => False
  | _ => False
end
section
variable {P : Program} {w : World} {K : PySem.W.Frag} {mg : Str → Option Value} {base : Heap}
def FgR (R : Q2) : Q2 := fun d G => ∃ G', Sub G' G ∧ R d G'
theorem FgR.of {R : Q2} {d : D} {G : Gp} (h : R d G) : FgR R d G := ⟨G, .refl G, h⟩
def start2 (N : List Str) (ds : List D) : S2 := ds.map some ++ List.replicate (N.length - ds.length) none
theorem rel_start {N : List Str} {ds : List D} {vs : List V} {G : Gp} {H : Hp} (r : RelG K G H) (d : Dens K H ds vs) : Rel K (start2 N ds) G (L2.start N vs) H :=
  ⟨r, by simp [start2, L2.start, d.length], fun i x e => by
    unfold start2 at e
    unfold L2.start
    by_cases hi : i < ds.length
    · rw [List.getElem?_append_left (by simpa using hi), List.getElem?_map] at e
      cases q : ds[i]? with
      | none => rw [q] at e; cases e
      | some y =>
        rw [q] at e; cases e
        obtain ⟨v, e1, e2⟩ := d.get q
        refine ⟨v, ?_, e2⟩
        rw [List.getElem?_append_left (by rw [List.length_map, ← d.length]; exact hi), List.getElem?_map, e1]; rfl
    · rw [List.getElem?_append_right (by simpa using hi), List.getElem?_replicate] at e
      split at e <;> cases e⟩
theorem df_mk {x qual : Str} {st : Stmt} {f : Addr} {fd : FuncData} {N ps : List Str} {k : Nat} {sp : Sp2} (F : Fun K x qual st f fd) (S : FnScope N ps (defScope st)) (hm : mg x = some (.ref f)) (hb : Binds K fd ps []) (len : ∀ ds G R, sp ds G R → ds.length = ps.length)
    (hbody : ∀ (cdv : Value) (A : Around) (outer : List Env) (s : Shared) (H : Hp) (E : XK), Room k (A.deeper (envOfC qual (defScope st) s.heap.objs.size f cdv)) →
      ∃ t, Ps2 (cxOf CX0 P w K mg base N qual (defScope st) f cdv A outer s H E).nox (defBody st) t ∧ ∀ ds G R, sp ds G R → t { nx := fun _ G' => FgR R .non G', rt := FgR R } (start2 N ds) G) : Df P w K mg base (k + 1) x ps sp := by
  refine ⟨f, fd, F.ok S ?_ ?_, hm, F.kp, hb⟩
  · rintro vs H Q E ⟨ds, G, R, d, r, h, _⟩
    rw [← d.length]
    exact len ds G R h
  · intro cdv A outer s H vs Q E hr h
    obtain ⟨ds, G, R, d, r, h, kk⟩ := h
    obtain ⟨t, ht, q⟩ := hbody cdv A outer s H E hr
    refine ⟨_, ht, start2 N ds, G, _, rel_start r d, q ds G R h, ⟨?_, ?_, ?_, ?_⟩⟩
    · rintro σ G' ⟨G'', s', q'⟩ σ1 H' g' r'
      exact kk _ G'' q' _ H' g' (r'.g.sub s') (by unfold Den; rfl)
    · intro σ G' h; exact h.elim
    · intro σ G' h; exact h.elim
    · rintro d' G' ⟨G'', s', q'⟩ v H' g' r' dv
      exact kk _ G'' q' _ H' g' (r'.sub s') dv
end
end L3
set_option Elab.async false
set_option linter.all false
set_option maxRecDepth 100000
set_option maxHeartbeats 4000000
namespace L3
open PySem PySem.Spec PyProof.Rows L2
section
variable {P : Program} {w : World} {K : PySem.W.Frag} {mg : Str → Option Value} {base : Heap}
abbrev endsOf (R : Q2) : Ends2 := { nx := fun _ G' => FgR R .non G', rt := FgR R }
theorem df_mk2 {x qual : Str} {st : Stmt} {f : Addr} {fd : FuncData} {N ps : List Str} {k : Nat} {sp : Sp2} (t : TS2) (F : Fun K x qual st f fd) (S : FnScope N ps (defScope st)) (hm : mg x = some (.ref f)) (hb : Binds K fd ps [])
    (ht : ∀ (cdv : Value) (A : Around) (outer : List Env) (s : Shared) (H : Hp) (E : XK), Room k (A.deeper (envOfC qual (defScope st) s.heap.objs.size f cdv)) → Ps2 (cxOf CX0 P w K mg base N qual (defScope st) f cdv A outer s H E).nox (defBody st) t)
    (hs : ∀ ds G R, sp ds G R → ds.length = ps.length ∧ t (endsOf R) (start2 N ds) G) : Df P w K mg base (k + 1) x ps sp :=
  df_mk F S hm hb (fun ds G R h => (hs ds G R h).1) fun cdv A outer s H E hr => ⟨t, ht cdv A outer s H E hr, fun ds G R h => (hs ds G R h).2⟩
theorem fn_mk2 {x qual : Str} {st : Stmt} {f : Addr} {fd : FuncData} {N ps : List Str} {k : Nat} {sp : Sp2} (t : TS2) (F : Fun K x qual st f fd) (S : FnScope N ps (defScope st))
    (ht : ∀ (cdv : Value) (A : Around) (outer : List Env) (s : Shared) (H : Hp) (E : XK), Room k (A.deeper (envOfC qual (defScope st) s.heap.objs.size f cdv)) → Ps2 (cxOf CX0 P w K mg base N qual (defScope st) f cdv A outer s H E).nox (defBody st) t)
    (hs : ∀ ds G R, sp ds G R → ds.length = ps.length ∧ t (endsOf R) (start2 N ds) G) : FnOk P w K mg base CX0 (k + 1) f fd ps (lSp K sp) := by
  refine F.ok S ?_ ?_
  · rintro vs H Q E ⟨ds, G, R, d, r, h, _⟩
    rw [← d.length]
    exact (hs ds G R h).1
  · intro cdv A outer s H vs Q E hr h
    obtain ⟨ds, G, R, d, r, h, kk⟩ := h
    refine ⟨_, ht cdv A outer s H E hr, start2 N ds, G, _, rel_start r d, (hs ds G R h).2, ⟨?_, ?_, ?_, ?_⟩⟩
    · rintro σ G' ⟨G'', s', q'⟩ σ1 H' g' r'
      exact kk _ G'' q' _ H' g' (r'.g.sub s') (by unfold Den; rfl)
    · intro σ G' h; exact h.elim
    · intro σ G' h; exact h.elim
    · rintro d' G' ⟨G'', s', q'⟩ v H' g' r' dv
      exact kk _ G'' q' _ H' g' (r'.sub s') dv
end
def relab (osc sc : Scope) : List (Str × NameKind) := sc.names.map fun (n, k) => if (k == NameKind.free && osc.kind == .function && osc.names.lookup n == some .cell) then (n, NameKind.cell) else (n, k)
def visB (ns : List (Str × NameKind)) (x : Str) : Bool := match ns.lookup x with | some .local => true | some .cell => true | some .free => true | _ => false
def compB (osc sc : Scope) (N N0 own : List Str) : Bool :=
  decide (sc.kind = .function) && sc.names.all (fun y => decide (y.2 ≠ .cell)) && sc.names.all (fun y => decide (y.2 = .local → sc.names.lookup y.1 = some .local))
  && sc.names.all (fun y => decide (y.2 = .free → osc.names.lookup y.1 = some .cell ∨ osc.names.lookup y.1 = some .free))
  && decide (N0.length = N.length) && (List.range N0.length).all (fun i => match N0[i]? with | some x => !visB (relab osc sc) x || decide (N[i]? = some x ∧ sc.names.lookup x = some .free) | none => true)
  && decide ((N0 ++ own).Nodup) && own.all (fun x => decide ((relab osc sc).lookup x = some .local))
structure CompT (X : Cx) (sc : Scope) (N0 own : List Str) : Prop where
  ok : CompOk X sc N0
  nd : (N0 ++ own).Nodup
  loc : ∀ x ∈ own, (relabel sc X.env).names.lookup x = some .local
theorem compT_of {X : Cx} {osc sc : Scope} {N N0 own : List Str} (h : compB osc sc N N0 own = true) (e1 : X.env.scope = osc := by rfl) (e2 : X.N = N := by rfl) : CompT X sc N0 own := by
  subst e1 e2
  unfold compB at h
  simp only [Bool.and_eq_true, decide_eq_true_eq, List.all_eq_true] at h
  obtain ⟨⟨⟨⟨⟨⟨⟨h1, h2⟩, h3⟩, h4⟩, h5⟩, h6⟩, h7⟩, h8⟩ := h
  refine ⟨⟨h1, h2, h3, h4, h5, fun i x e v => ?_⟩, h7, h8⟩
  have hi : i < N0.length := (List.getElem?_eq_some_iff.mp e).1
  have q := h6 i (List.mem_range.mpr hi)
  rw [e] at q
  dsimp only at q
  have hv : visB (relab X.env.scope sc) x = true := by
    have v' : (relab X.env.scope sc).lookup x = some .local ∨ (relab X.env.scope sc).lookup x = some .cell ∨ (relab X.env.scope sc).lookup x = some .free := v
    unfold visB
    rcases v' with v' | v' | v' <;> rw [v']
  rw [hv] at q
  simpa using q
section
variable {X : Cx} {elt iter : Expr} {pos : Pos} {te : TE2} {ifs : List Expr} {sc : Scope} {N0 : List Str} {wi : TI2} {tc : TT2}
theorem f_c1 (x : Str) {px : Pos} (hc : X.calm = true) (T : CompT X sc N0 [x]) (hi : I2 X (.Name x px) iter wi)
    (ht : ∀ C s H fp pins, Ts2 (X.comp (N0 ++ [x]) sc C s H fp pins) ifs tc) (he : ∀ C s H fp pins, E2 (X.comp (N0 ++ [x]) sc C s H fp pins) elt te)
    (hs : ∀ x, foldedSetIterable iter X.env x = pure x := by intro _; rfl) : F2 X (.ListComp elt [⟨.Name x px, iter, ifs, 0⟩] sc pos) (xComp wi bd1 tc te) :=
  f_comp1 x hc T.ok hi T.nd (T.loc x (by simp)) ht he hs
theorem f_c2 (x y : Str) {px py pt : Pos} {kk : Nat} (hc : X.calm = true) (T : CompT X sc N0 [x, y]) (hi : I2 X (.Tuple [.Name x px, .Name y py] kk pt) iter wi)
    (ht : ∀ C s H fp pins, Ts2 (X.comp (N0 ++ [x, y]) sc C s H fp pins) ifs tc) (he : ∀ C s H fp pins, E2 (X.comp (N0 ++ [x, y]) sc C s H fp pins) elt te)
    (hs : ∀ x, foldedSetIterable iter X.env x = pure x := by intro _; rfl) : F2 X (.ListComp elt [⟨.Tuple [.Name x px, .Name y py] kk pt, iter, ifs, 0⟩] sc pos) (xComp wi bd2 tc te) :=
  f_comp2 x y hc T.ok hi T.nd (T.loc x (by simp)) (T.loc y (by simp)) ht he hs
theorem p_setC1 (i : Nat) (x : Str) {y : Str} {px py spos : Pos} (hc : X.calm = true) (T : CompT X sc N0 [x]) (hi : I2 X (.Name x px) iter wi)
    (ht : ∀ C s H fp pins, Ts2 (X.comp (N0 ++ [x]) sc C s H fp pins) ifs tc) (he : ∀ C s H fp pins, E2 (X.comp (N0 ++ [x]) sc C s H fp pins) elt te)
    (hN : X.N.Nodup) (hy : X.N[i]? = some y := by rfl) (hl : X.env.scope.names.lookup y = some .local := by rfl)
    (hsw : swapsWith (.ListComp elt [⟨.Name x px, iter, ifs, 0⟩] sc pos) (some (.Name y py)) spos.line X.env = pure true := by rfl)
    (hs : ∀ x, foldedSetIterable iter X.env x = pure x := by intro _; rfl) : P2 X (.Assign [.Name y py] (.ListComp elt [⟨.Name x px, iter, ifs, 0⟩] sc pos) spos) (xSetF i (xComp wi bd1 tc te)) :=
  p_setComp1 i x hc T.ok hi T.nd (T.loc x (by simp)) ht he hN hy hl hsw hs
end
structure Ext (G G' : Gp) : Prop where
  sub : Sub G G'
  ro : G'.ro = G.ro
theorem Ext.refl (G : Gp) : Ext G G := ⟨.refl G, rfl⟩
theorem Ext.trans {G G1 G2 : Gp} (h : Ext G G1) (h' : Ext G1 G2) : Ext G G2 := ⟨h.sub.trans h'.sub, h'.ro.trans h.ro⟩
theorem Ext.new {G : Gp} {l : Addr} {o : List D} (h : G.m l = none) : Ext G (gset G l o) := ⟨.new h, rfl⟩
theorem Ext.ls {G G' : Gp} (h : Ext G G') {a : Addr} {ds : List D} (e : Ls G a ds) : Ls G' a ds := e.sub h.sub
theorem Ext.own {G G' : Gp} (h : Ext G G') {A : Addr} (n : G'.m A = none) : G.m A = none := by
  cases q : G.m A with
  | none => rfl
  | some u => rw [h.sub.m A u q] at n; cases n
def PuE (t : TE2) (σ : S2) (G : Gp) (d : D) : Prop := ∀ G2, Ext G G2 → ∀ R : D → Gp → Prop, R d G2 → t σ G2 R
def PuT (t : TT2) (σ : S2) (G : Gp) (b : Bool) : Prop := ∀ G2, Ext G G2 → ∀ R : Bool → Gp → Prop, R b G2 → t σ G2 R
def PuL (t : TL2) (σ : S2) (G : Gp) (ds : List D) : Prop := ∀ G2, Ext G G2 → ∀ R : List D → Gp → Prop, R ds G2 → t σ G2 R
def PuA (t : TA2) (σ : S2) (G : Gp) (ds : List D) : Prop := ∀ G2, Ext G G2 → ∀ R : List D → Gp → Prop, R ds G2 → t σ G2 R
def PuI (t : TI2) (σ : S2) (G : Gp) (ds : List D) : Prop := ∀ G2, Ext G G2 → ∀ R : List D → (Gp → Prop) → Gp → Prop, (∀ gd G3, Ext G2 G3 → (∀ G4, Ext G3 G4 → gd G4) → R ds gd G3) → t σ G2 R
theorem PuE.mono {t : TE2} {σ : S2} {G G' : Gp} {d : D} (h : PuE t σ G d) (e : Ext G G') : PuE t σ G' d := fun G2 x => h G2 (e.trans x)
section
variable {σ : S2} {G : Gp}
theorem pu_var {i : Nat} {d : D} (h : look σ i = some d) : PuE (xVar i) σ G d := fun G2 _ R q => by unfold xVar; rw [h]; exact q
theorem pu_c {d : D} : PuE (xC d) σ G d := fun _ _ _ q => q
theorem pu_nil : PuA xNil σ G [] := fun _ _ _ q => q
theorem pu_cons {ta : TE2} {tr : TA2} {d : D} {ds : List D} (h : PuE ta σ G d) (h' : PuA tr σ G ds) : PuA (xCons ta tr) σ G (d :: ds) := fun G2 x R q => h G2 x _ (h' G2 x _ q)
theorem pu_tup {t : TA2} {ds : List D} (h : PuA t σ G ds) (hl : ds.length ≤ 100000) : PuE (xTup t) σ G (.tup ds) := fun G2 x R q => h G2 x _ ⟨by rw [sizeLine_eq]; omega, q⟩
theorem pu_op {f : D → D → Gp → Q2 → Prop} {ta tb : TE2} {x y d : D} (ha : PuE ta σ G x) (hb : PuE tb σ G y) (h : ∀ G2, Ext G G2 → ∀ R : D → Gp → Prop, R d G2 → f x y G2 R) : PuE (xOp f ta tb) σ G d := fun G2 e R q => ha G2 e _ (hb G2 e _ (h G2 e R q))
theorem pu_ii {g : Int → Int → D} {ta tb : TE2} {i j : Int} (ha : PuE ta σ G (.int i)) (hb : PuE tb σ G (.int j)) : PuE (xOp (fII g) ta tb) σ G (g i j) := pu_op ha hb fun _ _ _ q => q
theorem pu_call {sp : Sp2} {t : TA2} {ds : List D} {d : D} (ha : PuA t σ G ds) (h : ∀ G2, Ext G G2 → ∀ R : D → Gp → Prop, R d G2 → sp ds G2 R) : PuE (xCall sp t) σ G d := fun G2 e R q => ha G2 e _ (h G2 e R q)
theorem pu_b {t : TE2} {b : Bool} (h : PuE t σ G (.bl b)) : PuT (xB t) σ G b := fun G2 e R q => h G2 e _ q
theorem pu_yes : PuT xYes σ G true := fun _ _ _ q => q
theorem pu_tand {t u : TT2} {b c : Bool} (h : PuT t σ G b) (h' : b = true → PuT u σ G c) : PuT (xTAnd t u) σ G (b && c) := fun G2 e R q => h G2 e _ (by
  cases b with
  | false => simpa using q
  | true => rw [if_pos rfl]; exact h' rfl G2 e _ (by simpa using q))
theorem pu_tor {t u : TT2} {b c : Bool} (h : PuT t σ G b) (h' : b = false → PuT u σ G c) : PuT (xTOr t u) σ G (b || c) := fun G2 e R q => h G2 e _ (by
  cases b with
  | true => simpa using q
  | false => rw [if_neg (by simp)]; exact h' rfl G2 e _ (by simpa using q))
theorem pu_tnot {t : TT2} {b : Bool} (h : PuT t σ G b) : PuT (xTNot t) σ G (!b) := fun G2 e R q => h G2 e _ q
theorem pu_tuple {tl : TL2} {ds : List D} (h : PuL tl σ G ds) : PuE (xCallF gTuple tl) σ G (.tup ds) := fun G2 e R q => h G2 e _ q
theorem pu_iv_tup {t : TE2} {ds : List D} (h : PuE t σ G (.tup ds)) : PuI (iV t) σ G ds := fun G2 e R q => h G2 e _ (q _ G2 (.refl _) fun _ _ => trivial)
theorem pu_iv_adr {t : TE2} {a : Addr} {ds : List D} (h : PuE t σ G (.adr a)) (hr : Ls G a ds) : PuI (iV t) σ G ds := fun G2 e R q => h G2 e _ ⟨ds, e.ls hr, q _ G2 (.refl _) fun G4 e4 => e4.ls (e.ls hr)⟩
end
end L3
set_option Elab.async false
set_option linter.all false
set_option maxRecDepth 100000
set_option maxHeartbeats 4000000
namespace HT
open PySem PySem.Spec PyProof.Rows
section
variable {prog : Program} {w : World} {A : Around} {E : Value → Shared → Prop} {s : Shared}
theorem cat_tup0 {t b : Addr} {ws : List Value} {Q : Value → Shared → Prop} (ht : IsTup s.heap t #[]) (hb : IsTup s.heap b ws.toArray) (h : Q (.ref b) s) : wpAny (model prog w) A (binaryOp .Add (.ref t) (.ref b)) Q E s := by
  obtain ⟨⟨cls, dd, data, sl⟩, ho, hc, n, hd⟩ := id ht
  obtain ⟨⟨cls2, dd2, data2, sl2⟩, ho2, hc2, n2, hd2⟩ := id hb
  simp only at hc hd hc2 hd2
  subst hc hd hc2 hd2
  exact concat_meets ⟨_, ho, rfl⟩ ⟨_, ho2, rfl⟩ noFill_tuple_add seq_tuple_add PySem.F.slot_tuple_add PySem.F.entry_tuple_add (PySem.F.args_tuple_add_2 _ _)
      (tuple_addW0 t b #[] ws.toArray n n2 dd dd2 sl sl2 rfl) ⟨ho, ho2, h⟩
theorem collect_tup {l : Addr} {vs : List Value} {Q : List Value → Shared → Prop} (hl : IsTup s.heap l vs.toArray)
    (h : Q vs { s with heap := (s.heap.push (seqObj "list" #[] 0)).update s.heap.objs.size (Obj.mapSeq (· ++ vs.toArray)) }) (hsz : vs.length ≤ sizeLine := by size_fits) :
    wpAny (model prog w) A (collect (.ref l)) Q E s := by
  obtain ⟨o, ho, hc, n, hd⟩ := id hl
  unfold collect
  refine wpAny_bind (wpAny_runValue (codeAny_builtin entry_proto_collect' ?_))
  show wpAny _ _ (do again (.builtin "list.__iadd__" ⟨[← newList [], .ref l], []⟩)) _ _ s
  refine wpAny_bind (wpAny_newList (wpAny_pure ⟨Code.quiet_builtin _ (by decide +kernel), codeAny_builtin entry_list_iadd' ?_⟩))
  show wpAny _ _ (Builtin.List.listExtendWith (.ref s.heap.objs.size) (.ref l) (.ref s.heap.objs.size)) _ _ { s with heap := s.heap.push (seqObj "list" #[] 0) }
  unfold Builtin.List.listExtendWith
  have ho' : (s.heap.push (seqObj "list" #[] 0)).get? l = some o := Heap.get?_push_of_some _ ho
  refine wpAny_bind (wpAny_typeOf (T := "tuple") ⟨o, ho', hc⟩ ?_)
  have ht : (Value.type "tuple" == Value.type "tuple") = true := by rfl
  rw [if_pos (by rw [ht]; simp)]
  refine wpAny_bind (listItems_at ho' hd ?_)
  refine wpAny_bind (listItems_at (xs := #[]) (n := 0) (Heap.get?_push_size _ rfl) rfl ?_)
  rw [if_neg (by simp)]
  refine wpAny_bind (listUpdate_at (xs := #[]) (n := 0) (Heap.get?_push_size _ rfl) rfl ?_ (Nat.zero_le _) (by show (#[] ++ vs.toArray).size ≤ sizeLine + 1; simp only [Array.size_append, List.size_toArray, List.length_nil]; omega))
  refine wpAny_pure ?_
  show wpAny (model prog w) A (do
      let o ← load s.heap.objs.size
      match o.data with
      | .seq xs _ => pure xs.toList
      | _ => unsupported "internal:collect") Q E { s with heap := (s.heap.push (seqObj "list" #[] 0)).update s.heap.objs.size (Obj.mapSeq (· ++ vs.toArray)) }
  refine wpAny_bind (wpAny_load (get?_update_seq (Heap.get?_push_size _ rfl) _) ?_)
  show wpAny _ _ (pure ((#[] : Array Value) ++ vs.toArray).toList) Q E _
  rw [show ((#[] : Array Value) ++ vs.toArray).toList = vs by simp]
  exact wpAny_pure h
theorem sorted_tup {l : Addr} {vs : List Value} {ns : List Int} {Q : Value → Shared → Prop} (hl : IsTup s.heap l vs.toArray) (hI : IntsAre vs ns) (h64 : vs.length < 64)
    (h : ∀ (out : Array Value) (ns' : List Int), IntsAre out.toList ns' → ns'.Perm ns → ns'.Pairwise (· ≤ ·) → Q (.ref (s.heap.objs.size + 1)) { s with heap := sortedAll s.heap vs out }) :
    wpAny (model prog w) A (call (.builtin "sorted") [.ref l]) Q E s := by
  refine Calls.call_function_entry kind_sorted plain_sorted entry_sorted (args_sorted1 _) ?_
  unfold Builtin.«sorted»
  refine wpAny_bind (m := checkCount "sorted" 1 1 _) (wpAny_pure ?_)
  refine wpAny_bind (collect_tup hl ?_)
  refine wpAny_bind (wpAny_newList ?_)
  have hsz : ((s.heap.push (seqObj "list" #[] 0)).update s.heap.objs.size (Obj.mapSeq (· ++ vs.toArray))).objs.size = s.heap.objs.size + 1 := by
    rw [Heap.size_update, size_push']
  have hoL : (((s.heap.push (seqObj "list" #[] 0)).update s.heap.objs.size (Obj.mapSeq (· ++ vs.toArray))).push (seqObj "list" vs.toArray 0)).get? (s.heap.objs.size + 1) = some (seqObj "list" vs.toArray 0) := by
    rw [← hsz]; exact Heap.get?_push_size _ rfl
  show wpAny _ _ _ _ _ { s with heap := ((s.heap.push (seqObj "list" #[] 0)).update s.heap.objs.size (Obj.mapSeq (· ++ vs.toArray))).push (seqObj "list" vs.toArray 0) }
  rw [hsz]
  refine wpAny_bind (wpAny_holding (wpAny_call_entry slot_list_sort ⟨_, hoL, rfl⟩ entry_list_sort (list_sort_tree hoL hI h64 fun out ns' a1 a2 a3 => ⟨_, rfl, ?_⟩) (args_list_sort _)))
  exact wpAny_pure ⟨_, rfl, h out ns' a1 a2 a3⟩
end
end HT
set_option Elab.async false
set_option linter.all false
set_option maxRecDepth 100000
set_option maxHeartbeats 4000000
namespace HT
open PySem PySem.Spec PyProof.Rows
section
variable {prog : Program} {w : World} {A : Around} {E : Value → Shared → Prop} {s : Shared}
end
end HT
namespace HT
open PySem PySem.Spec PyProof.Rows
open AutoSeq1 (wpAny_loadPart')
end HT
set_option Elab.async false
set_option linter.all false
set_option maxRecDepth 100000
set_option maxHeartbeats 4000000
namespace L3
open PySem PySem.Spec PyProof.Rows L2
section
variable {X : Cx} {a b c e o : Expr} {es : List Expr} {pos p : Pos} {ta tb te : TE2}
def fAdd : D → D → Gp → Q2 → Prop := fun x y G R => match x, y with
  | .int i, .int j => R (.int (i + j)) G
  | .tup xs, .tup ys => xs.length + ys.length ≤ 1000000 ∧ R (.tup (xs ++ ys)) G
  | _, _ => False
theorem OpR.or {f : Value → Value → Sem Value} {r r' : R2} (h : OpR X f r) (h' : OpR X f r') : OpR X f (fun x y H Q => r x y H Q ∨ r' x y H Q) := by
  intro pins s σ H x y v u Q I rx ry q
  rcases q with q | q
  · exact h pins s σ H x y v u Q I rx ry q
  · exact h' pins s σ H x y v u Q I rx ry q
def rCat0 (K : PySem.W.Frag) : R2 := fun x y H Q => ∃ a b ys, x = .ref a ∧ y = .ref b ∧ SqT K H a [] ∧ SqT K H b ys ∧ Q (.ref b) H
theorem op_cat0 : OpR X (binaryOp .Add) (rCat0 X.K) := by
  intro pins s σ H x y v u Q I rx ry h
  obtain ⟨a, b, ys, rfl, rfl, ha, hb, q⟩ := h
  cases rx
  cases ry
  obtain ⟨its, r1, p1, _⟩ := I.tuple ha
  obtain ⟨its2, r2, p2, _⟩ := I.tuple hb
  have : its = [] := r1.nil_iff.mpr rfl
  subst this
  exact HT.cat_tup0 p1 p2 ⟨.ref b, H, I, rfl, q⟩
theorem fit_add {K : PySem.W.Frag} : Fit K (fun x y H Q => rI0 (fun i j => .int (i + j)) x y H Q ∨ rCatT K x y H Q ∨ rCat0 K x y H Q) fAdd := by
  intro dx dy G R x y H Q h r d1 d2 k
  unfold fAdd at h
  split at h
  · rename_i i j
    unfold Den at d1 d2
    subst d1 d2
    exact .inl ⟨i, j, rfl, rfl, k _ G h _ H (.refl H) r (by unfold Den; rfl)⟩
  · rename_i xs ys
    obtain ⟨hz, h⟩ := h
    unfold Den at d1 d2
    obtain ⟨a, us, rfl, s1, t1⟩ := d1
    obtain ⟨b, ws, rfl, s2, t2⟩ := d2
    have l1 := t1.length
    have l2 := t2.length
    by_cases hx : xs = []
    · subst hx
      have hu : us = [] := List.length_eq_zero_iff.mp (by rw [← l1]; rfl)
      subst hu
      exact .inr (.inr ⟨a, b, ws, rfl, rfl, s1, s2, k _ G h _ H (.refl H) r (by unfold Den; exact ⟨b, ws, rfl, s2, by simpa using t2⟩)⟩)
    · refine .inr (.inl ⟨a, b, us, ws, rfl, rfl, s1, s2, fun z => hx (List.length_eq_zero_iff.mp (by rw [l1, z]; rfl)), by rw [sizeLine_eq]; omega, fun z => ?_, fun _ p hp => ?_⟩)
      · have hy : ys = [] := List.length_eq_zero_iff.mp (by rw [l2, z]; rfl)
        subst hy
        exact k _ G h _ H (.refl H) r (by unfold Den; exact ⟨a, us, rfl, s1, by simpa using t1⟩)
      · exact k _ G h _ _ (.fresh hp) (r.fresh hp) (by unfold Den; exact ⟨p, us ++ ws, rfl, .of upd_same, (t1.append t2).grow (.fresh hp)⟩)
  · exact h.elim
theorem e_add (ha : E2 X a ta) (hb : E2 X b tb) : E2 X (.BinOp a .Add b pos) (xOp fAdd ta tb) := e_op (op_add.or (op_catT.or op_cat0)) fit_add ha hb
def xCatL (ta tb : TE2) : TL2 := fun σ G R => ta σ G fun x G1 => tb σ G1 fun y G2 => match x, y with
  | .adr l, .adr m => ∃ xs ys, G2.m l = some xs ∧ G2.m m = some ys ∧ xs.length + ys.length ≤ 1000000 ∧ R (xs ++ ys) G2
  | _, _ => False
theorem f_cat (ha : E2 X a ta) (hb : E2 X b tb) : F2 X (.BinOp a .Add b pos) (xCatL ta tb) := by
  refine PE.mono (pe_op op_cat ha hb) ?_
  rintro σ1 H Q ⟨σ, G, R, rl, q, k⟩
  refine ⟨σ, G, _, rl, q, fun dx G1 q1 x H1 g1 r1 d1 => ⟨σ, G1, _, rl.to g1 r1, q1, fun dy G2 q2 y H2 g2 r2 d2 => ?_⟩⟩
  split at q2
  · rename_i l m
    obtain ⟨xs, ys, e1, e2, hz, q3⟩ := q2
    have d1' := d1.grow g2
    unfold Den at d1' d2
    subst d1' d2
    obtain ⟨us, a1, a2⟩ := r2.m l xs e1
    obtain ⟨ws, b1, b2⟩ := r2.m m ys e2
    have l1 := a2.length
    have l2 := b2.length
    refine ⟨l, m, us, ws, rfl, rfl, a1, b1, by rw [sizeLine_eq]; omega, fun p hp => ?_⟩
    exact k _ G2 q3 p _ _ ((g1.trans g2).trans (.fresh hp)) (r2.fresh hp) (r2.free hp) upd_same ((a2.append b2).grow (.fresh hp))
  · exact q2.elim
theorem call_sortedS : CallR X (.builtin "sorted") (fun xs H Q => ∃ (p : Addr) (ns : List Int), xs = [.ref p] ∧ (SqL X.K H p (ns.map V.int) ∨ SqT X.K H p (ns.map V.int)) ∧ ns.length < 64 ∧ ∀ (l : Addr) (ns' : List Int), H l = none → ns'.Perm ns → ns'.Pairwise (· ≤ ·) → Q (.ref l) (upd H l (.lst (ns'.map V.int)))) := by
  intro pins s σ H xs us Q I r h
  obtain ⟨p, ns, rfl, hq, hz, q⟩ := h
  obtain ⟨u, rfl, rx⟩ := vals1 r
  cases rx
  have fin : ∀ (its : List Value) (out : Array Value) (ns' : List Int), its.length = ns.length → IntsAre out.toList ns' → ns'.Perm ns → ns'.Pairwise (· ≤ ·) → EP X pins σ Q (.ref (s.heap.objs.size + 1)) { s with heap := sortedAll s.heap its out } := by
    intro its out ns' hl i1 i2 i3
    obtain ⟨e, he⟩ := sortedAll_at s.heap its out
    have hn : H (s.heap.objs.size + 1) = none := I.hok.fresh (Nat.le_succ _)
    refine ⟨.ref (s.heap.objs.size + 1), _, I.laid (t' := s.toks) (o := .lst (ns'.map V.int)) (fun b u q => sortedAll_old q) (Nat.le_succ _) ?_, rfl, q _ ns' hn i2 i3⟩
    have hp := i2.length_eq
    refine ⟨?_, out.toList, e, vals_ints i1, ?_⟩
    · rw [List.length_map, hp, sizeLine_eq]; omega
    · rw [he] <;> rfl
  rcases hq with hq | hq
  · obtain ⟨its, rv, pl, _⟩ := I.list hq
    have hl := rv.length
    rw [List.length_map] at hl
    exact sorted_ints (vs := its) (ns := ns) pl.isList (intsAre_of rv) (by omega) fun out ns' i1 i2 i3 => fin its out ns' (by omega) i1 i2 i3
  · obtain ⟨its, rv, pl, _⟩ := I.tuple hq
    have hl := rv.length
    rw [List.length_map] at hl
    exact HT.sorted_tup (vs := its) (ns := ns) pl (intsAre_of rv) (by omega) fun out ns' i1 i2 i3 => fin its out ns' (by omega) i1 i2 i3
def xSorted (t : TA2) : TL2 := fun σ G R => t σ G fun ds G1 => match ds with
  | [d] => ∃ ns : List Int, seqOf G1 d (ns.map D.int) ∧ ns.length < 64 ∧ ∀ (ns' : List Int), ns'.Perm ns → ns'.Pairwise (· ≤ ·) → R (ns'.map D.int) G1
  | _ => False
theorem f_sorted {t : TA2} (hg : Gl X "sorted") (hm : X.mg "sorted" = none) (ha : A2 X [e] t) (he : starEach [e] X.env = (false, eval e X.env) :: starEach [] X.env := by rfl) (hpl : (backTo pos (starEach [] X.env)).any (·.1) = false := by rfl) :
    F2 X (.Call (.Name "sorted" p) [e] [] pos) (xSorted t) := by
  refine PE.mono (pe_callB call_sortedS hg hm boot_sorted ha (by decide) (by decide) he hpl) ?_
  rintro σ1 H Q ⟨σ, G, R, rl, q, k⟩
  refine ⟨σ, G, _, rl, q, fun ds G1 q1 vs H1 g1 r1 d1 => ?_⟩
  split at q1
  · rename_i d
    obtain ⟨ns, e1, hl, q1⟩ := q1
    obtain ⟨v, rfl, d2⟩ := dens1 d1
    obtain ⟨a, xs, rfl, s1, t1⟩ := seq_den r1 d2 e1
    have hxs := t1.ints_inv
    subst hxs
    refine ⟨a, ns, rfl, s1, hl, fun l' ns' n' h1 h2 => ?_⟩
    exact k _ G1 (q1 ns' h1 h2) l' _ _ (g1.trans (.fresh n')) (r1.fresh n') (r1.free n') upd_same (Dens.ints ns')
  · exact q1.elim
theorem Vals.reverse : ∀ {xs : List V} {us : List Value}, Vals xs us → Vals xs.reverse us.reverse
  | _, _, .nil => .nil
  | _, _, .cons r rr => by
    rw [List.reverse_cons, List.reverse_cons]
    exact (Vals.reverse rr).append (.cons r .nil)
end
section
variable {σ : S2} {G : Gp}
theorem take_succ {α : Type} {ds : List α} {i : Nat} {x : α} (h : ds[i]? = some x) : ds.take (i + 1) = ds.take i ++ [x] := by
  rw [List.take_add_one, h]; rfl
theorem pu_comp {wi : TI2} {bd : D → Option (List D)} {tc : TT2} {te : TE2} {ds : List D} (p : D → Bool) (f : D → D) (us : D → List D) (hw : PuI wi σ G ds)
    (hx : ∀ x ∈ ds, bd x = some (us x) ∧ PuT tc (σ ++ (us x).map some) G (p x) ∧ (p x = true → PuE te (σ ++ (us x).map some) G (f x))) : PuL (xComp wi bd tc te) σ G ((ds.filter p).map f) := by
  intro G2 e R q
  refine hw G2 e _ fun gd G3 e3 hgd A nA => ?_
  refine ⟨fun i acc G' => G' = gset G3 A acc ∧ acc = ((ds.take i).filter p).map f, ⟨rfl, by simp⟩, ?_, ?_, ?_⟩
  · rintro i acc G' hi ⟨rfl, rfl⟩
    refine ⟨hgd _ (.new nA), gset_same, ?_⟩
    rw [List.length_map]
    exact Nat.le_trans (List.length_filter_le _ _) (by rw [List.length_take]; omega)
  · rintro i x acc G' hi ⟨rfl, rfl⟩
    obtain ⟨hb, ht, he⟩ := hx x (List.mem_of_getElem? hi)
    rw [hb]
    dsimp only
    have ex : Ext G (gset G3 A (((ds.take i).filter p).map f)) := (e.trans e3).trans (.new nA)
    refine ht _ ex _ ?_
    cases hp : p x with
    | false =>
      rw [if_neg (by simp)]
      exact .of ⟨rfl, by rw [take_succ hi]; simp [hp]⟩
    | true =>
      rw [if_pos rfl]
      refine he hp _ ex _ ⟨gset_same, .of ⟨gset_gset, by rw [take_succ hi]; simp [hp]⟩⟩
  · rintro acc G' ⟨rfl, rfl⟩
    exact ⟨G2, e3.own nA, e3.sub.trans (.new nA), by rw [List.take_length]; exact q⟩
theorem pu_map {wi : TI2} {bd : D → Option (List D)} {te : TE2} {ds : List D} (f : D → D) (us : D → List D) (hw : PuI wi σ G ds)
    (hx : ∀ x ∈ ds, bd x = some (us x) ∧ PuE te (σ ++ (us x).map some) G (f x)) : PuL (xComp wi bd xYes te) σ G (ds.map f) := by
  have := pu_comp (tc := xYes) (fun _ => true) f us hw fun x h => ⟨(hx x h).1, pu_yes, fun _ => (hx x h).2⟩
  rwa [List.filter_eq_self.mpr (fun _ _ => rfl)] at this
theorem pu_range1 {t : TA2} {j : Int} (h : PuA t σ G [.int j]) (hj : -1000000 ≤ j ∧ j ≤ 1000000) : PuI (iR1 t) σ G (rangeD 0 j.toNat) := fun G2 e R q => h G2 e _ ⟨hj, q _ G2 (.refl _) fun _ _ => trivial⟩
theorem pu_range2 {t : TA2} {i j : Int} (h : PuA t σ G [.int i, .int j]) (hj : (-1000000 ≤ i ∧ i ≤ 1000000) ∧ -1000000 ≤ j ∧ j ≤ 1000000) : PuI (iR2 t) σ G (rangeD i (j - i).toNat) := fun G2 e R q => h G2 e _ ⟨hj, q _ G2 (.refl _) fun _ _ => trivial⟩
theorem SubS.nil : SubS [] [] := .refl _
theorem SubS.keep {o : Option D} {r r' : S2} (h : SubS r r') : SubS (o :: r) (o :: r') := ⟨by simp [h.len], fun i d e => by
  cases i with
  | zero => simpa using e
  | succ i => simpa using h.val i d (by simpa using e)⟩
theorem SubS.skip {o : Option D} {r r' : S2} (h : SubS r r') : SubS (none :: r) (o :: r') := ⟨by simp [h.len], fun i d e => by
  cases i with
  | zero => simp at e
  | succ i => simpa using h.val i d (by simpa using e)⟩
theorem SubS.trans {a b c : S2} (h : SubS a b) (h' : SubS b c) : SubS a c := ⟨h.len.trans h'.len, fun i d e => h'.val i d (h.val i d e)⟩
theorem fg_same {σ : S2} {G : Gp} : Fg (fun σ' G' => σ' = σ ∧ G' = G) = fun σ' G' => SubS σ σ' ∧ Sub G G' := by
  funext σ' G'
  apply propext
  constructor
  · rintro ⟨_, _, h1, h2, rfl, rfl⟩
    exact ⟨h1, h2⟩
  · rintro ⟨h1, h2⟩
    exact ⟨σ, G, h1, h2, rfl, rfl⟩
def xForF (wi : TI2) (g : TG2) (tb : TS2) : TS2 := fun E σ G => Fg (fun σ' G' => xFor wi g tb E σ' G') σ G
theorem p_forF {X : Cx} {tg iter : Expr} {pos : Pos} {wi : TI2} {g : TG2} {tb : TS2} {body : List Stmt} (hp : PassesOwn (model X.prog X.w) X.A X.env X.xe) (hc : X.calm = true) (hi : I2 X tg iter wi) (hg : G2 X tg g) (hb : Ps2 X body tb)
    (hs : ∀ x, foldedSetIterable iter X.env x = pure x := by intro _; rfl) : P2 X (.For tg iter body [] pos) (xForF wi g tb) := by
  refine PS.mono (p_for hp hc hi hg hb hs) ?_
  rintro E σ1 H ⟨σ, G, D2, r, ⟨σ', G', s1, s2, q⟩, k⟩
  exact ⟨σ', G', D2, r.sub s1 s2, q, k⟩
theorem for_each {wi : TI2} {g : TG2} {tb : TS2} {E : Ends2} {ds : List D} (hw : PuI wi σ G ds)
    (hb : ∀ x ∈ ds, ∀ G1, Ext G G1 → g x σ G1 fun σ2 G2 => tb { E with nx := fun σ' G' => SubS σ σ' ∧ Sub G1 G', ct := fun σ' G' => SubS σ σ' ∧ Sub G1 G', bk := E.nx } σ2 G2) (h : ∀ G1, Ext G G1 → E.nx σ G1) {σ0 : S2} (hf : SubS σ σ0 := by exact .refl _) : xForF wi g tb E σ0 G := by
  refine ⟨σ, G, hf, .refl G, ?_⟩
  refine hw G (.refl G) _ fun gd G3 e3 hgd => ⟨fun i σ' G' => σ' = σ ∧ G' = G3, ⟨rfl, rfl⟩, ?_, ?_, ?_⟩
  · rintro i σ' G' _ ⟨rfl, rfl⟩
    exact hgd _ (.refl _)
  · rintro i x σ' G' hi ⟨rfl, rfl⟩
    rw [fg_same]
    exact hb x (List.mem_of_getElem? hi) _ e3
  · rintro σ' G' ⟨rfl, rfl⟩
    exact h _ e3
end
def ForR (ds : List D) (gd : Gp → Prop) (G1 : Gp) (g : TG2) (tb : TS2) (E : Ends2) (σ : S2) : Prop := ∃ Pv : Nat → S2 → Gp → Prop, Pv 0 σ G1 ∧ (∀ i σ G, i ≤ ds.length → Pv i σ G → gd G) ∧
  (∀ i x σ G, ds[i]? = some x → Pv i σ G → g x σ G fun σ2 G2 => tb { E with nx := Fg (Pv (i + 1)), ct := Fg (Pv (i + 1)), bk := E.nx } σ2 G2) ∧ ∀ σ G, Pv ds.length σ G → E.nx σ G
theorem fg_inv {σ : S2} {I : Gp → Prop} : Fg (fun σ' G' => σ' = σ ∧ I G') = fun σ' G' => SubS σ σ' ∧ ∃ G'', Sub G'' G' ∧ I G'' := by
  funext σ' G'
  apply propext
  constructor
  · rintro ⟨_, G'', h1, h2, rfl, h3⟩
    exact ⟨h1, G'', h2, h3⟩
  · rintro ⟨h1, G'', h2, h3⟩
    exact ⟨σ, G'', h1, h2, rfl, h3⟩
theorem for_inv {ds : List D} {gd : Gp → Prop} {G1 : Gp} {g : TG2} {tb : TS2} {E : Ends2} {σ : S2} (I : Nat → Gp → Prop) (h0 : I 0 G1) (hg : ∀ i G', I i G' → gd G')
    (hb : ∀ i x, ds[i]? = some x → ∀ G2, I i G2 → g x σ G2 fun σ2 G3 => tb { E with nx := fun σ' G' => SubS σ σ' ∧ ∃ G'', Sub G'' G' ∧ I (i + 1) G'', ct := fun σ' G' => SubS σ σ' ∧ ∃ G'', Sub G'' G' ∧ I (i + 1) G'', bk := E.nx } σ2 G3)
    (h : ∀ G2, I ds.length G2 → E.nx σ G2) : ForR ds gd G1 g tb E σ := by
  refine ⟨fun i σ' G' => σ' = σ ∧ I i G', ⟨rfl, h0⟩, ?_, ?_, ?_⟩
  · rintro i σ' G' _ ⟨_, h⟩
    exact hg i G' h
  · rintro i x σ' G' hi ⟨rfl, hI⟩
    rw [fg_inv]
    exact hb i x hi G' hI
  · rintro σ' G' ⟨rfl, hI⟩
    exact h G' hI
def CompR (ds : List D) (gd : Gp → Prop) (G1 : Gp) (A : Addr) (bd : D → Option (List D)) (tc : TT2) (te : TE2) (σ : S2) (R : List D → Gp → Prop) : Prop := ∃ Pv : Nat → List D → Gp → Prop, Pv 0 [] (gset G1 A []) ∧ (∀ i acc G, i ≤ ds.length → Pv i acc G → gd G ∧ G.m A = some acc ∧ acc.length ≤ i) ∧
  (∀ i x acc G, ds[i]? = some x → Pv i acc G → match bd x with
    | some us => tc (σ ++ us.map some) G fun b G3 => if b = true then te (σ ++ us.map some) G3 fun d G4 => G4.m A = some acc ∧ FgG (Pv (i + 1) (acc ++ [d])) (gset G4 A (acc ++ [d])) else FgG (Pv (i + 1) acc) G3
    | none => False) ∧ ∀ acc G, Pv ds.length acc G → ∃ G', G'.m A = none ∧ Sub G' G ∧ R acc G'
theorem comp_in {wi : TI2} {bd : D → Option (List D)} {tc : TT2} {te : TE2} {σ : S2} {G : Gp} {R : List D → Gp → Prop} (h : wi σ G fun ds gd G1 => ∀ A, G1.m A = none → CompR ds gd G1 A bd tc te σ R) : xComp wi bd tc te σ G R := h
theorem comp_inv {ds : List D} {gd : Gp → Prop} {G1 : Gp} {bd : D → Option (List D)} {tc : TT2} {te : TE2} {σ : S2} {R : List D → Gp → Prop} {A : Addr} (I : Nat → List D → Gp → Prop) (h0 : I 0 [] (gset G1 A [])) (hg : ∀ i acc G', I i acc G' → gd G' ∧ G'.m A = some acc ∧ acc.length ≤ i)
    (hb : ∀ i x acc G', ds[i]? = some x → I i acc G' → ∃ us, bd x = some us ∧ tc (σ ++ us.map some) G' fun b G3 => if b = true then te (σ ++ us.map some) G3 fun d G4 => G4.m A = some acc ∧ FgG (I (i + 1) (acc ++ [d])) (gset G4 A (acc ++ [d])) else FgG (I (i + 1) acc) G3)
    (h : ∀ acc G', I ds.length acc G' → ∃ G'', G''.m A = none ∧ Sub G'' G' ∧ R acc G'') : CompR ds gd G1 A bd tc te σ R := by
  refine ⟨I, h0, fun i acc G' _ q => hg i acc G' q, fun i x acc G' hi q => ?_, h⟩
  obtain ⟨us, e, q⟩ := hb i x acc G' hi q
  rw [e]
  exact q
def spLaw : Sp2 := fun ds G R => ∃ (a : Addr) (ns : List Int), ds = [.adr a] ∧ G.ro a = some (ns.map D.int) ∧ ns.length ≤ 63 ∧ (∀ l, G.m l = none) ∧ R (.bl true) G
theorem law_sp {K : PySem.W.Frag} {H : Hp} {a : Addr} {ns : List Int} (hl : ns.length ≤ 63) (hO : Only H) (hS : SqL K H a (ns.map V.int)) : lSp K spLaw [.ref a] H (fun v _ => v = .bl true) fun _ _ _ => False := by
  refine ⟨[.adr a], ⟨fun _ => none, fun b => if b = a then some (ns.map D.int) else none⟩, fun d _ => d = .bl true, .cons (by unfold Den; rfl) .nil, ⟨fun b ds e => (by cases e), fun b ds e => ?_⟩, ⟨a, ns, rfl, by simp, hl, fun _ => rfl, rfl⟩, fun d G' q v H' g r dv => ?_⟩
  · by_cases hb : b = a
    · subst hb
      simp at e
      subst e
      refine ⟨_, ?_, Dens.ints ns⟩
      rcases hS with h | h
      · rcases hO b with h' | ⟨o, xs, h'⟩ | ⟨ps, h'⟩
        · rcases h with h | ⟨o, h⟩ <;> (rw [h'] at h; cases h)
        · rcases h with h | ⟨o', h⟩
          · rw [h'] at h; cases h
          · exact .inl ⟨o', h⟩
        · rcases h with h | ⟨o', h⟩ <;> (rw [h'] at h; cases h)
      · exact .inr h
    · simp [hb] at e
  · subst q
    unfold Den at dv
    exact dv
theorem law_walk {l : PySem.W.OpenLaw} {k : Nat} {q : Program} {loose : List Str} {XP : (Str → Option Value) → Heap → Prop} {YP : World → Heap → Prop} {d : DefRec} {K : Params → PySem.W.Frag} (hn : l.most = some 63) (hdf : d.params.defaults = []) (hr : Room k callerA)
    (hY : ∀ (w : World) (h : Heap), YP w h → (K w.params).In h ∧ ∃ ts qn, TabsAt (K w.params) h ts qn)
    (F : ∀ (w : World) (mg : Str → Option Value) (fa : Addr) (h : Heap), (K w.params).In h → h.Ns mainGlobals mg → mg d.name = some (.ref fa) →
      ∃ fd : FuncData, (∀ (s : Shared) (u : Value), BindsTo s fd ⟨[u], []⟩ [("script", u)]) ∧ ∀ base : Heap, (K w.params).In base → base.Ns mainGlobals mg → FnOk l.prog w (K w.params) mg base CX0 k fa fd ["script"] (lSp (K w.params) spLaw)) :
    PySem.W.WalkO q loose XP YP l.row.toRowW d [] (fun f vs => PySem.call f vs) :=
  L2.walk_of (n := 63) (k := k) (x := "script") (CX := fun _ => CX0) (sp := fun w => lSp (K w.params) spLaw) hn (by decide) hdf hr hY F (fun _ H a ns hl hO hS => law_sp hl hO hS) fun _ _ _ _ _ z => z
def OkS (s : Int) (b : Bool) : Prop := b = false → 0 ≤ s ∧ s < 2147483647
def StAt (G : Gp) (l : Addr) : Prop := ∃ s b, G.m l = some [.int s, .bl b] ∧ OkS s b
def Dr (l : Addr) (G G' : Gp) : Prop := ∃ s b, G' = gset G l [.int s, .bl b] ∧ OkS s b
theorem Dr.st {l : Addr} {G G' : Gp} (h : Dr l G G') : StAt G' l := by
  obtain ⟨s, b, rfl, h⟩ := h
  exact ⟨s, b, gset_same, h⟩
theorem Dr.trans {l : Addr} {G G1 G2 : Gp} (h : Dr l G G1) (h' : Dr l G1 G2) : Dr l G G2 := by
  obtain ⟨s, b, rfl, h⟩ := h
  obtain ⟨s', b', rfl, h'⟩ := h'
  exact ⟨s', b', gset_gset, h'⟩
theorem gset_id {G : Gp} {l : Addr} {o : List D} (h : G.m l = some o) : gset G l o = G := by
  cases G with
  | mk m ro =>
    unfold gset
    congr 1
    funext b
    by_cases hb : b = l
    · subst hb; rw [if_pos rfl]; exact h.symm
    · rw [if_neg hb]
theorem Dr.refl {l : Addr} {G : Gp} (h : StAt G l) : Dr l G G := by
  obtain ⟨s, b, h1, h2⟩ := h
  exact ⟨s, b, (gset_id h1).symm, h2⟩
theorem Dr.ro {l : Addr} {G G' : Gp} (h : Dr l G G') : G'.ro = G.ro := by
  obtain ⟨s, b, rfl, h⟩ := h; rfl
theorem Dr.ne {l a : Addr} {G G' : Gp} (h : Dr l G G') (ha : a ≠ l) : G'.m a = G.m a := by
  obtain ⟨s, b, rfl, h⟩ := h; exact gset_ne ha
theorem Dr.none {l a : Addr} {G G' : Gp} (h : Dr l G G') (s : StAt G l) (ha : G.m a = none) : G'.m a = none := by
  obtain ⟨_, _, h1, _⟩ := s
  rw [h.ne (fun e => by subst e; rw [h1] at ha; cases ha)]; exact ha
theorem StAt.ne {l a : Addr} {G : Gp} (s : StAt G l) (ha : G.m a = none) : a ≠ l := fun e => by
  obtain ⟨_, _, h1, _⟩ := s
  subst e; rw [h1] at ha; cases ha
theorem StAt.ext {l : Addr} {G G' : Gp} (s : StAt G l) (h : Sub G G') : StAt G' l := by
  obtain ⟨x, b, h1, h2⟩ := s
  exact ⟨x, b, h.m l _ h1, h2⟩
theorem Dr.sub {l : Addr} {G G1 G2 : Gp} (h : Dr l G1 G2) (e : Sub G G1) : ∃ G', Dr l G G' ∧ Sub G' G2 := by
  obtain ⟨s, b, rfl, h⟩ := h
  refine ⟨gset G l [.int s, .bl b], ⟨s, b, rfl, h⟩, ⟨fun a o q => ?_, fun a o q => e.ro a o q⟩⟩
  by_cases ha : a = l
  · subst ha; rw [gset_same] at q ⊢; exact q
  · rw [gset_ne ha] at q ⊢; exact e.m a o q
theorem atI_0 {α : Type} (x : α) (r : List α) : atI (x :: r) 0 = some x := atI_nat (j := 0) rfl
theorem atI_1 {α : Type} (x y : α) (r : List α) : atI (x :: y :: r) 1 = some y := atI_nat (j := 1) rfl
theorem atI_2 {α : Type} (x y z : α) (r : List α) : atI (x :: y :: z :: r) 2 = some z := atI_nat (j := 2) rfl
theorem fIx_0 {x : D} {r : List D} {G : Gp} {R : Q2} : fIx (.tup (x :: r)) (.int 0) G R = R x G := by simp only [fIx, atI_0]
theorem fIx_1 {x y : D} {r : List D} {G : Gp} {R : Q2} : fIx (.tup (x :: y :: r)) (.int 1) G R = R y G := by simp only [fIx, atI_1]
theorem fIx_2 {x y z : D} {r : List D} {G : Gp} {R : Q2} : fIx (.tup (x :: y :: z :: r)) (.int 2) G R = R z G := by simp only [fIx, atI_2]
theorem fIn_tup {x : D} {ng : Bool} {ds : List D} {G : Gp} {R : Q2} : fIn ng x (.tup ds) G R = (flat 8 x = true ∧ (∀ d ∈ ds, flat 8 d = true) ∧ R (.bl (if ng then !ds.any fun z => eqD z x else ds.any fun z => eqD z x)) G) := rfl
theorem szn0 : (0 ≤ sizeLine) = True := by rw [sizeLine_eq]; simp
theorem szn1 : (1 ≤ sizeLine) = True := by rw [sizeLine_eq]; simp
theorem szn2 : (2 ≤ sizeLine) = True := by rw [sizeLine_eq]; simp
theorem szn3 : (3 ≤ sizeLine) = True := by rw [sizeLine_eq]; simp
theorem true_and' (p : Prop) : (True ∧ p) = p := by simp
theorem ite_tt' {p q : Prop} : (if true = true then p else q) = p := if_pos rfl
theorem ite_ff' {p q : Prop} : (if false = true then p else q) = q := if_neg (by simp)
end L3
set_option Elab.async false
set_option linter.all false
set_option maxRecDepth 100000
set_option maxHeartbeats 4000000
namespace L3
open PySem PySem.Spec PyProof.Rows L2
section
variable {X : Cx} {pins : List (Addr × Obj)} {σ1 : L2.St} {H : Hp} {s : Shared} {A : Around}
end
section
variable {X : Cx} {e o : Expr} {es : List Expr} {to : TE2} {t : TA2} {name : Str} {apos cpos : Pos}
end
end L3
set_option Elab.async false
set_option linter.all false
set_option maxRecDepth 100000
set_option maxHeartbeats 4000000
namespace HT
open PySem PySem.Spec PyProof.Rows
section
variable {prog : Program} {w : World} {A : Around} {R : Result → Shared → Prop} {I : Addr} {fp wr : List Addr} {n : Nat} {P : Nat → Value → Prop} {St : Nat → Heap → Prop}
structure Cmp (prog : Program) (w : World) (A : Around) (P : Nat → Value → Prop) (bt : Nat → Nat → Bool) (wr : List Addr) (S : Addr) (Kp : Heap → Prop) : Prop where
  cmp : ∀ i j vi vj (s : Shared) (Q : Value → Shared → Prop) (E : Value → Shared → Prop), Kp s.heap → P i vi → P j vj → Q (.bool (bt i j)) s → wpAny (model prog w) A (richCompare .Lt vi vj) Q E s
  keep : ∀ h h' : Heap, Kp h → (∀ b o, b ∉ wr → b ≠ S → h.get? b = some o → h'.get? b = some o) → Kp h'
end
section
variable {prog : Program} {w : World} {A : Around} {E : Value → Shared → Prop} {s : Shared}
def TupsAt (h : Heap) (as : List Addr) (nss : List (List Int)) : Prop := as.length = nss.length ∧ ∀ (i : Nat) a ns, as[i]? = some a → nss[i]? = some ns → ∃ its : List Value, IsTup h a its.toArray ∧ IntsAre its ns
theorem IsTup.at' {h h' : Heap} {a : Addr} {its : Array Value} (x : IsTup h a its) (k : ∀ o, h.get? a = some o → h'.get? a = some o) : IsTup h' a its := let ⟨o, h1, h2, h3⟩ := x; ⟨o, k o h1, h2, h3⟩
theorem TupsAt.keep {h h' : Heap} {as : List Addr} {nss : List (List Int)} (x : TupsAt h as nss) (k : ∀ a ∈ as, ∀ o, h.get? a = some o → h'.get? a = some o) : TupsAt h' as nss :=
  ⟨x.1, fun i a ns h1 h2 => by obtain ⟨its, t, q⟩ := x.2 i a ns h1 h2; exact ⟨its, IsTup.at' t (k a (List.mem_of_getElem? h1)), q⟩⟩
theorem TupsAt.lt {h : Heap} {as : List Addr} {nss : List (List Int)} (x : TupsAt h as nss) : ∀ a ∈ as, a < h.objs.size := fun a ha => by
  obtain ⟨i, hi⟩ := List.getElem?_of_mem ha
  have hl : i < as.length := (List.getElem?_eq_some_iff.mp hi).1
  obtain ⟨its, ⟨o, e, _⟩, _⟩ := x.2 i a (nss[i]'(by rw [← x.1]; exact hl)) hi (by simp)
  exact Heap.lt_size e
end
end HT
set_option Elab.async false
set_option linter.all false
set_option maxRecDepth 100000
set_option maxHeartbeats 4000000
namespace L3
open PySem PySem.Spec PyProof.Rows L2
section
variable {X : Cx} {a b c d e o : Expr} {es : List Expr} {pos p : Pos} {ta tb tc td te : TE2} {tl : TL2}
theorem e_globI {x : Str} {n : Int} {t : Tok} (hg : Gl X x) (hm : X.mg x = some (.int n t)) (hd : (x == ("__debug__" : Str)) = false := by decide) : E2 X (.Name x pos) (xC (.int n)) := by
  refine PE.mono (pe_glob (v := .int n) hg hm ⟨t, rfl⟩ hd) ?_
  rintro σ1 H Q ⟨σ, G, R, r, q, k⟩
  exact k _ G q _ H (.refl H) r.g (by unfold Den; rfl)
theorem truth_bools {A : Around} {prog : Program} {w : World} {bs : List Bool} : TruthOf prog w A (fun i v => (bs.map Value.bool).toArray[i]? = some v) (fun i => bs.getD i false) := by
  intro i v s Q E h q
  have hi : i < bs.length := by
    have := (Array.getElem?_eq_some_iff.mp h).1
    simpa using this
  have : v = .bool bs[i] := by
    have := h
    simp [hi] at this
    exact this.symm
  subst this
  have e : bs.getD i false = bs[i] := by simp [List.getD, hi]
  have q' : Q (bs.getD i false) s := q
  rw [e] at q'
  exact wpAny_truthy_bool q'
theorem all_range (bs : List Bool) : (List.range bs.length).all (fun i => bs.getD i false) = bs.all id := by
  rw [Bool.eq_iff_iff]
  simp only [List.all_eq_true, List.mem_range, id]
  constructor
  · intro h x hx
    obtain ⟨i, hi⟩ := List.getElem?_of_mem hx
    have hl : i < bs.length := (List.getElem?_eq_some_iff.mp hi).1
    have := h i hl
    simp [List.getD, hi] at this
    exact this
  · intro h i hi
    have : bs.getD i false = bs[i] := by simp [List.getD, hi]
    rw [this]
    exact h _ (List.getElem_mem _)
theorem vals_bools : ∀ {bs : List Bool} {us : List Value}, Vals (bs.map V.bl) us → us = bs.map Value.bool
  | [], _, h => by cases h; rfl
  | b :: r, _, h => by
    rw [List.map_cons] at h
    cases h with
    | cons h1 h2 => rw [vals_bools h2, (show _ = Value.bool b from h1)]; rfl
theorem call_allL (hc : X.calm = true) : CallR X (.builtin "all") (fun xs H Q => ∃ l bs, xs = [.ref l] ∧ SqL X.K H l (List.map V.bl bs) ∧ Q (.bl (bs.all id)) H) := by
  intro pins s σ H xs us Q I r h
  obtain ⟨l, bs, rfl, hs, q⟩ := h
  obtain ⟨u, rfl, rx⟩ := vals1 r
  cases rx
  obtain ⟨its, rv, pl, _⟩ := I.list hs
  have := vals_bools rv
  subst this
  have hl := pl.isList
  have ll : l < s.heap.objs.size := by obtain ⟨o, e, _⟩ := hl; exact Heap.lt_size e
  refine call_all_walkS (wpAny_pyIter_list hl ?_)
  refine ⟨_, _, _, _, _, _, _, fun i => bs.getD i false, rfl, (Walks.list (A := X.A.in1) (I.ok.hd hc) s.heap.objs.size l (Nat.ne_of_lt ll) (bs.map Value.bool).toArray).toS, ⟨⟨_, Heap.get?_push_size _ rfl, rfl, rfl⟩, hl.push _⟩, truth_bools, fun s' hm => ?_⟩
  have e1 : (bs.map Value.bool).toArray.size = bs.length := by simp
  rw [e1, all_range, Moved.eq_with hm]
  refine ⟨.bl _, H, I.kept (t' := s'.toks) fun b o e => hm.heap b o (fun z => ?_) (Heap.get?_push_of_some _ e), rfl, q⟩
  rw [List.mem_singleton] at z
  have := Heap.lt_size e
  rw [z] at this
  exact absurd this (Nat.lt_irrefl _)
def gAll : Sp2 := fun ds G R => ∃ bs : List Bool, ds = bs.map D.bl ∧ R (.bl (bs.all id)) G
theorem Dens.bools_inv {K : PySem.W.Frag} {H : Hp} : ∀ {bs : List Bool} {xs : List V}, Dens K H (bs.map D.bl) xs → xs = bs.map V.bl
  | [], xs, h => by unfold Dens at h; exact h
  | n :: r, xs, h => by
    rw [List.map_cons] at h
    unfold Dens at h
    obtain ⟨x, y, rfl, h1, h2⟩ := h
    unfold Den at h1
    rw [h1, Dens.bools_inv h2]; rfl
theorem e_all (hc : X.calm = true) (hg : Gl X "all") (hm : X.mg "all" = none) (ha : F2 X e tl) (he : starEach [e] X.env = (false, eval e X.env) :: starEach [] X.env := by rfl) (hpl : (backTo pos (starEach [] X.env)).any (·.1) = false := by rfl) :
    E2 X (.Call (.Name "all" p) [e] [] pos) (xCallF gAll tl) := e_callBF (call_allL hc) (by
      rintro ds G R l xs H Q ⟨bs, rfl, h⟩ r e d k
      have := d.bools_inv
      subst this
      exact ⟨l, bs, rfl, .of e, k _ G h _ H (.refl H) r (by unfold Den; rfl)⟩) hg hm (by decide +kernel) ha (by decide) (by decide) he hpl
def xChain2 (f g : D → D → Gp → Q2 → Prop) (ta tb tc : TE2) : TE2 := fun σ G R => ta σ G fun x G1 => tb σ G1 fun y G2 => f x y G2 fun z G3 => match z with | .bl k => if k = true then tc σ G3 fun w G4 => g y w G4 R else R (.bl false) G3 | _ => False
section
variable {op op' op'' : CmpOp} {r r' r'' : R2} {f g h : D → D → Gp → Q2 → Prop}
theorem lift_chain2 {K : PySem.W.Frag} (hf : Fit K r f) (hg : Fit K r' g) {σ1 : L2.St} {H : Hp} {Q : VK} (hh : lE K (xChain2 f g ta tb tc) σ1 H Q) : tChain r r' (lE K ta) (lE K tb) (lE K tc) σ1 H Q := by
  obtain ⟨σ, G, R, rl, t, k⟩ := hh
  refine ⟨σ, G, _, rl, t, fun dx G1 t1 x H1 g1 r1 d1 => ?_⟩
  refine ⟨σ, G1, _, rl.to g1 r1, t1, fun dy G2 t2 y H2 g2 r2 d2 => ?_⟩
  refine hf dx dy G2 _ x y H2 _ t2 r2 (d1.grow g2) d2 fun dz G3 t3 z H3 g3 r3 d3 => ?_
  cases dz with
  | bl kk =>
    unfold Den at d3
    refine ⟨kk, d3, ?_⟩
    cases kk with
    | true =>
      dsimp only at t3
      rw [if_pos rfl] at t3
      rw [if_pos rfl]
      refine ⟨σ, G3, _, rl.to ((g1.trans g2).trans g3) r3, t3, fun dw G4 t4 w H4 g4 r4 d4 => ?_⟩
      exact hg dy dw G4 R y w H4 Q t4 r4 ((d2.grow g3).grow g4) d4 fun d G' q v H' g' r' d' => k d G' q v H' ((((g1.trans g2).trans g3).trans g4).trans g') r' d'
    | false =>
      dsimp only at t3
      rw [if_neg (by simp)] at t3
      rw [if_neg (by simp)]
      exact k _ G3 t3 _ H3 ((g1.trans g2).trans g3) r3 (by unfold Den; rfl)
  | _ => exact t3.elim
theorem e_ch2 (ho : OpR X (compareOp op) r) (ho' : OpR X (compareOp op') r') (hf : Fit X.K r f) (hg : Fit X.K r' g) (ha : E2 X a ta) (hb : E2 X b tb) (hc : E2 X c tc) (hm : lastMarks [op, op'] [b, c] = false := by with_unfolding_all rfl) :
    E2 X (.Compare a [op, op'] [b, c] pos) (xChain2 f g ta tb tc) := PE.mono (pe_chain ho ho' ha hb hc hm) fun σ1 H Q h => lift_chain2 hf hg h
theorem t_ch2 (ho : OpR X (compareOp op) r) (ho' : OpR X (compareOp op') r') (hf : Fit X.K r f) (hg : Fit X.K r' g) (ha : E2 X a ta) (hb : E2 X b tb) (hc : E2 X c tc) (hm : lastMarks [op, op'] [b, c] = false := by with_unfolding_all rfl) :
    T2 X (.Compare a [op, op'] [b, c] pos) (xB (xChain2 f g ta tb tc)) := by
  refine PT.mono (pt_chain ho ho' ha hb hc hm) ?_
  rintro σ1 H Q ⟨σ, G, R, rl, t, k⟩
  refine lift_chain2 hf hg ⟨σ, G, _, rl, t, fun d G' q v H' g' r' d' => ?_⟩
  cases d with
  | bl b =>
    unfold Den at d'
    exact ⟨b, d', k b G' q H' g' r'⟩
  | _ => exact q.elim
end
end
end L3
set_option Elab.async false
set_option linter.all false
set_option maxRecDepth 100000
set_option maxHeartbeats 4000000
namespace K
open PySem PySem.Spec PyProof.Rows L2 L3
abbrev nD (n : Nat) : D := .int (n : Int)
def prs (n : Nat) : List (Nat × Nat) := (List.range n).flatMap fun i => (List.range (n - (i + 1))).map fun k => (i, i + 1 + k)
def prD (p : Nat × Nat) : D := .tup [nD p.1, nD p.2]
def webD (n : Nat) (q : Nat × Nat → Bool) : D := .tup [nD n, .tup (((prs n).filter q).map prD)]
def adj (q : Nat × Nat → Bool) (i j : Nat) : Bool := decide (i ≠ j) && q (min i j, max i j)
theorem mem_prs {n : Nat} {p : Nat × Nat} : p ∈ prs n ↔ p.1 < p.2 ∧ p.2 < n := by
  obtain ⟨i, j⟩ := p
  unfold prs
  simp only [List.mem_flatMap, List.mem_map, List.mem_range, Prod.mk.injEq]
  constructor
  · rintro ⟨a, ha, k, hk, rfl, rfl⟩; omega
  · rintro ⟨h1, h2⟩; exact ⟨i, by omega, j - (i + 1), by omega, rfl, by omega⟩
theorem nodup_flatMap {α β : Type} {f : α → List β} : ∀ {l : List α}, l.Nodup → (∀ x ∈ l, (f x).Nodup) → (∀ x ∈ l, ∀ y ∈ l, x ≠ y → ∀ z, z ∈ f x → z ∉ f y) → (l.flatMap f).Nodup
  | [], _, _, _ => by simp
  | a :: r, h, h1, h2 => by
    rw [List.flatMap_cons]
    obtain ⟨ha, hr⟩ := List.nodup_cons.mp h
    refine List.nodup_append.mpr ⟨h1 a (by simp), nodup_flatMap hr (fun x hx => h1 x (by simp [hx])) (fun x hx y hy => h2 x (by simp [hx]) y (by simp [hy])), fun x hx y hy e => ?_⟩
    subst e
    obtain ⟨b, hb, hz⟩ := List.mem_flatMap.mp hy
    exact h2 a (by simp) b (by simp [hb]) (fun e => ha (e ▸ hb)) x hx hz
theorem nodup_map_inj {α β : Type} {f : α → β} (hf : ∀ x y, f x = f y → x = y) : ∀ {l : List α}, l.Nodup → (l.map f).Nodup
  | [], _ => by simp
  | a :: r, h => by
    obtain ⟨ha, hr⟩ := List.nodup_cons.mp h
    rw [List.map_cons]
    refine List.nodup_cons.mpr ⟨fun hm => ?_, nodup_map_inj hf hr⟩
    obtain ⟨b, hb, e⟩ := List.mem_map.mp hm
    exact ha (hf _ _ e ▸ hb)
theorem nodup_prs (n : Nat) : (prs n).Nodup := by
  unfold prs
  refine nodup_flatMap List.nodup_range (fun i _ => nodup_map_inj (fun x y e => by simpa using e) List.nodup_range) fun i _ j _ hne z hz hz' => ?_
  obtain ⟨k, _, rfl⟩ := List.mem_map.mp hz
  obtain ⟨k', _, e⟩ := List.mem_map.mp hz'
  exact hne (by simpa using (congrArg Prod.fst e).symm)
theorem prs_len_le {n : Nat} (h : n ≤ 100) : (prs n).length ≤ 10000 := by
  unfold prs
  rw [List.length_flatMap]
  have : ∀ l : List Nat, (∀ x ∈ l, x ≤ 100) → l.sum ≤ 100 * l.length := by
    intro l
    induction l with
    | nil => simp
    | cons a r ih =>
      intro h
      have h1 := h a (by simp)
      have h2 := ih fun x hx => h x (by simp [hx])
      simp only [List.sum_cons, List.length_cons]; omega
  have q := this ((List.range n).map fun i => ((List.range (n - (i + 1))).map fun k => (i, i + 1 + k)).length) (by simp; omega)
  simp only [List.length_map, List.length_range] at q ⊢
  omega
theorem flat_prD {n : Nat} (p : Nat × Nat) : flat (n + 1) (prD p) = true := by simp [prD, flat]
theorem eqD_int {i j : Int} : eqD (.int i) (.int j) = decide (i = j) := by unfold eqD; rw [Bool.eq_iff_iff]; simp
theorem eqD_prD (p q : Nat × Nat) : eqD (prD p) (prD q) = decide (p = q) := by
  obtain ⟨a, b⟩ := p
  obtain ⟨c, d⟩ := q
  simp only [prD, eqD, eqDs]
  rw [Bool.eq_iff_iff]; simp; omega
theorem any_prD (l : List (Nat × Nat)) (p : Nat × Nat) : ((l.map prD).any fun z => eqD z (prD p)) = decide (p ∈ l) := by
  rw [List.any_map, Bool.eq_iff_iff]
  simp only [List.any_eq_true, Function.comp, eqD_prD, decide_eq_true_eq]
  constructor
  · rintro ⟨x, h, rfl⟩; exact h
  · intro h; exact ⟨p, h, rfl⟩
theorem int_natCast_inj {a b : Nat} : ((a : Int) = (b : Int)) ↔ a = b := by omega
theorem fIx_w0 {n : Nat} {q : Nat × Nat → Bool} {G : Gp} {R : Q2} : fIx (webD n q) (.int 0) G R = R (nD n) G := fIx_0
theorem fIx_w1 {n : Nat} {q : Nat × Nat → Bool} {G : Gp} {R : Q2} : fIx (webD n q) (.int 1) G R = R (.tup (((prs n).filter q).map prD)) G := fIx_1
def sp_pairs : List D → Gp → (List D → Gp → Prop) → Prop := fun ds G R => ∃ n : Nat, ds = [nD n] ∧ n ≤ 100 ∧ R ((prs n).map prD) G
theorem mono_pairs : ∀ ds G R R', (∀ ls G', R ls G' → R' ls G') → sp_pairs ds G R → sp_pairs ds G R' := by
  rintro ds G R R' h ⟨n, e, hn, q⟩
  exact ⟨n, e, hn, h _ _ q⟩
def sp_l_pairs := sp_pairs
theorem mono_l_pairs : ∀ ds G R R', (∀ ls G', R ls G' → R' ls G') → sp_l_pairs ds G R → sp_l_pairs ds G R' := mono_pairs
def sp_tied : Sp2 := fun ds G R => ∃ (n : Nat) (q : Nat × Nat → Bool) (i j : Nat), ds = [webD n q, nD i, nD j] ∧ i < n ∧ j < n ∧ R (.bl (adj q i j)) G
local macro_rules | `(tactic| walk_at "rd") => `(tactic| simp only [xRet, xSeq, xAsg, xIf, xDrop, xNext, gN, gNN, xOp, xTup, xLst, xNew, xCons, xNil, xCall, xCallL, xCallF, gTuple, xVar, look, start2, spMin, spMax, fIn_tup, fIx_0, fIx_1, fIx_2, fIx_w0, fIx_w1, fII, fIIC, fAdd, fEq, xC, xB, xTOr, xTAnd, xTNot, xAug, List.map, List.cons_append, List.nil_append, List.set_cons_zero, List.set_cons_succ, List.length_cons, List.length_nil, List.replicate_succ, List.replicate_zero, Nat.reduceSub, Nat.reduceAdd, szn0, szn1, szn2, szn3, true_and', ite_tt', ite_ff', if_true, if_false, Bool.false_eq_true])
def t_tied : TS2 := (xRet (xOp (fIn false) (xTup (xCons (xCall spMin (xCons (xVar 1) (xCons (xVar 2) xNil))) (xCons (xCall spMax (xCons (xVar 1) (xCons (xVar 2) xNil))) xNil))) (xOp fIx (xVar 0) (xC (.int 1)))))
theorem adj_mem {n : Nat} {q : Nat × Nat → Bool} {i j : Nat} (hi : i < n) (hj : j < n) : decide ((min i j, max i j) ∈ (prs n).filter q) = adj q i j := by
  rw [Bool.eq_iff_iff, decide_eq_true_eq, List.mem_filter, mem_prs]
  unfold adj
  simp only [Bool.and_eq_true, decide_eq_true_eq]
  constructor
  · rintro ⟨h1, h2⟩; exact ⟨by omega, h2⟩
  · rintro ⟨h1, h2⟩; exact ⟨by omega, h2⟩
theorem flat_prs {n : Nat} {q : Nat × Nat → Bool} : ∀ d ∈ ((prs n).filter q).map prD, flat 8 d = true := by
  intro x hx
  obtain ⟨p, _, rfl⟩ := List.mem_map.mp hx
  exact flat_prD p
theorem r_tied (ds : List D) (G : Gp) (R : Q2) (h : sp_tied ds G R) : ds.length = 3 ∧ t_tied (endsOf R) (start2 ["web", "one", "other"] ds) G := by
  obtain ⟨n, q, i, j, rfl, hi, hj, h⟩ := h
  refine ⟨rfl, ?_⟩
  have e1 : (if (j : Int) < (i : Int) then (j : Int) else i) = ((min i j : Nat) : Int) := by split <;> omega
  have e2 : (if (j : Int) > (i : Int) then (j : Int) else i) = ((max i j : Nat) : Int) := by split <;> omega
  unfold t_tied
  walk_at "rd"
  rw [e1, e2]
  have e3 := any_prD ((prs n).filter q) (min i j, max i j)
  rw [adj_mem hi hj] at e3
  refine ⟨flat_prD (min i j, max i j), flat_prs, ?_⟩
  rw [← e3] at h
  exact .of h
theorem rangeD0 (n : Nat) : rangeD 0 ((n : Int)).toNat = (List.range n).map nD := by simp [rangeD, nD]
def unprD (d : D) : Nat × Nat := match d with | .tup [.int i, .int j] => (i.toNat, j.toNat) | _ => (0, 0)
theorem unprD_prD (p : Nat × Nat) : unprD (prD p) = p := by simp [unprD, prD]
theorem pu_w0 {σ : S2} {G : Gp} {n : Nat} {q : Nat × Nat → Bool} {t : TE2} (h : PuE t σ G (webD n q)) : PuE (xOp fIx t (xC (.int 0))) σ G (nD n) := pu_op h pu_c fun _ _ _ q => by rw [fIx_w0]; exact q
theorem pu_w1 {σ : S2} {G : Gp} {n : Nat} {q : Nat × Nat → Bool} {t : TE2} (h : PuE t σ G (webD n q)) : PuE (xOp fIx t (xC (.int 1))) σ G (.tup (((prs n).filter q).map prD)) := pu_op h pu_c fun _ _ _ q => by rw [fIx_w1]; exact q
theorem ix_own {l : Addr} {x : D} {ds : List D} {k : Int} {G : Gp} {R : Q2} (h : G.m l = some ds) (e : atI ds k = some x) (q : R x G) : fIx (.adr l) (.int k) G R := ⟨ds, x, .inl h, e, q⟩
theorem g_ix0 {i : Nat} {l : Addr} {x d : D} {r : List D} {σ : S2} {G : Gp} {R : S2 → Gp → Prop} (ho : look σ i = some (.adr l)) (h : G.m l = some (x :: r)) (q : R σ (gset G l (d :: r))) : gIx (xVar i) (xC (.int 0)) d σ G R := by
  unfold gIx xVar
  rw [ho]
  show match G.m l with | some ds => _ | none => _
  rw [h]
  have e : ixN (x :: r).length 0 = some 0 := by simp [ixN]
  show match ixN (x :: r).length 0 with | some j => R σ (gset G l ((x :: r).set j d)) | none => False
  rw [e]
  exact q
def sp_l_cell_at : Sp2 := fun ds G R => ∃ (a : Addr) (ns : List Int) (k : Nat), ds = [.adr a, nD k] ∧ Ls G a (ns.map D.int) ∧ ∀ c : Int, R (.int c) G
def t_l_cell_at : TS2 := (xSeq (xIf (xB (xOp (fII fun i j => .bl (decide (i < j))) (xVar 1) (xCall spLen (xCons (xVar 0) xNil)))) (xRet (xOp fIx (xVar 0) (xVar 1))) xNext) (xRet (xC (.int 0))))
theorem r_l_cell_at (ds : List D) (G : Gp) (R : Q2) (h : sp_l_cell_at ds G R) : ds.length = 2 ∧ t_l_cell_at (endsOf R) (start2 ["script", "k"] ds) G := by
  obtain ⟨a, ns, k, rfl, ha, h⟩ := h
  refine ⟨rfl, ?_⟩
  unfold t_l_cell_at
  walk_at "rd"
  refine ⟨ns.map D.int, ha, ?_⟩
  dsimp only
  by_cases hk : k < ns.length
  · rw [decide_eq_true (by rw [List.length_map]; omega), if_pos rfl]
    exact ⟨_, .int ns[k], ha, atI_nat (by simp [hk]), FgR.of (h _)⟩
  · rw [decide_eq_false (by rw [List.length_map]; omega), if_neg (by simp)]
    exact FgR.of (h 0)
def sp_l_state : List D → Gp → (List D → Gp → Prop) → Prop := fun ds G R => ∃ (a : Addr) (ns : List Int) (k : Nat), ds = [.adr a, nD k] ∧ Ls G a (ns.map D.int) ∧ ∀ s b, OkS s b → R [.int s, .bl b] G
theorem mono_l_state : ∀ ds G R R', (∀ ls G', R ls G' → R' ls G') → sp_l_state ds G R → sp_l_state ds G R' := by
  rintro ds G R R' h ⟨a, ns, k, e, ha, q⟩
  exact ⟨a, ns, k, e, ha, fun s b o => h _ _ (q s b o)⟩
def t_l_state : TS2 := (xSeq (xAsg (xCall sp_l_cell_at (xCons (xVar 0) (xCons (xVar 1) xNil))) (gN 2)) (xSeq (xIf (xB (xOp (fII fun i j => .bl (decide (j ≤ i))) (xVar 2) (xOp (fIIC CPow fun i j => .int (i ^ j.toNat)) (xC (.int 10)) (xC (.int 18))))) (xRet (xNew (xLst (xCons (xOp (fII fun i j => .int (i - j)) (xVar 2) (xOp (fIIC CPow fun i j => .int (i ^ j.toNat)) (xC (.int 10)) (xC (.int 18)))) (xCons (xC (.bl true)) xNil))))) xNext) (xRet (xNew (xLst (xCons (xOp (fIIC (fun _ j => 0 < j) fun i j => .int (i % j)) (xVar 2) (xC (.int 2147483647))) (xCons (xC (.bl false)) xNil)))))))
theorem cpow18 : CPow 10 18 := by unfold CPow; decide
theorem r_l_state (ds : List D) (G : Gp) (R : Q2) (h : spL sp_l_state ds G R) : ds.length = 2 ∧ t_l_state (endsOf R) (start2 ["script", "k", "cell"] ds) G := by
  obtain ⟨a, ns, k, rfl, ha, h⟩ := h
  refine ⟨rfl, ?_⟩
  unfold t_l_state
  walk_at "rd"
  refine ⟨a, ns, k, rfl, ha, fun c => ?_⟩
  walk_at "rd"
  refine ⟨cpow18, ?_⟩
  split
  · refine ⟨cpow18, fun l hl => ?_⟩
    exact FgR.of (h _ true (fun z => by cases z) l hl)
  · refine ⟨by decide, fun l hl => ?_⟩
    exact FgR.of (h _ false (fun _ => ⟨Int.emod_nonneg _ (by decide), Int.emod_lt_of_pos _ (by decide)⟩) l hl)
def sp_l_take : Sp2 := fun ds G R => ∃ (l : Addr) (m : Nat), ds = [.adr l, nD m] ∧ StAt G l ∧ 0 < m ∧ m < 1000000 ∧ ∀ (r : Nat) G', r < m → Dr l G G' → R (nD r) G'
def t_l_take : TS2 := (xSeq (xIf (xB (xOp fIx (xVar 0) (xC (.int 1)))) (xSeq (xAsg (xOp (fIIC (fun _ j => 0 < j) fun i j => .int (i % j)) (xOp fIx (xVar 0) (xC (.int 0))) (xVar 1)) (gN 2)) (xSeq (xAsg (xOp (fIIC CDiv fun i j => .int (i / j)) (xOp fIx (xVar 0) (xC (.int 0))) (xVar 1)) (gIx (xVar 0) (xC (.int 0)))) (xRet (xVar 2)))) xNext) (xSeq (xAsg (xOp (fIIC (fun _ j => 0 < j) fun i j => .int (i % j)) (xOp fAdd (xOp (fIIC CMul fun i j => .int (i * j)) (xOp fIx (xVar 0) (xC (.int 0))) (xC (.int 48271))) (xC (.int 29))) (xC (.int 2147483647))) (gIx (xVar 0) (xC (.int 0)))) (xSeq (xAsg (xOp (fIIC (fun _ j => 0 < j) fun i j => .int (i % j)) (xOp fAdd (xOp fAdd (xOp (fIIC CMul fun i j => .int (i * j)) (xOp fIx (xVar 0) (xC (.int 0))) (xOp fIx (xVar 0) (xC (.int 0)))) (xOp (fIIC CMul fun i j => .int (i * j)) (xC (.int 39373)) (xOp fIx (xVar 0) (xC (.int 0))))) (xC (.int 7))) (xC (.int 2147483629))) (gN 3)) (xSeq (xAsg (xOp (fIIC (fun _ j => 0 < j) fun i j => .int (i % j)) (xOp fAdd (xOp (fIIC CMul fun i j => .int (i * j)) (xVar 3) (xVar 3)) (xOp (fIIC CMul fun i j => .int (i * j)) (xC (.int 16807)) (xVar 3))) (xC (.int 2147483587))) (gN 3)) (xRet (xOp (fIIC (fun _ j => 0 < j) fun i j => .int (i % j)) (xOp (fIIC CDiv fun i j => .int (i / j)) (xVar 3) (xC (.int 8))) (xVar 1)))))))
theorem nat_of_mod {x : Int} {m : Nat} (h : 0 < m) : ∃ r : Nat, r < m ∧ x % (m : Int) = r := ⟨(x % (m : Int)).toNat, by
  have h1 := Int.emod_nonneg x (b := (m : Int)) (by omega)
  have h2 := Int.emod_lt_of_pos x (b := (m : Int)) (by omega)
  omega, by
  have h1 := Int.emod_nonneg x (b := (m : Int)) (by omega)
  omega⟩
theorem r_l_take (ds : List D) (G : Gp) (R : Q2) (h : sp_l_take ds G R) : ds.length = 2 ∧ t_l_take (endsOf R) (start2 ["state", "many", "found", "mixed"] ds) G := by
  obtain ⟨l, m, rfl, ⟨s, b, hG, ok⟩, hm, hm2, h⟩ := h
  refine ⟨rfl, ?_⟩
  unfold t_l_take
  walk_at "rd"
  refine ix_own hG (atI_1 _ _ _) ?_
  cases b with
  | true =>
    walk_at "rd"
    refine ix_own hG (atI_0 _ _) ?_
    walk_at "rd"
    refine ⟨by omega, ix_own hG (atI_0 _ _) ?_⟩
    walk_at "rd"
    refine ⟨⟨by omega, by omega⟩, g_ix0 rfl hG ?_⟩
    walk_at "rd"
    obtain ⟨r, hr, e⟩ := nat_of_mod (x := s) hm
    rw [e]
    exact FgR.of (h r _ hr ⟨_, true, rfl, fun z => by cases z⟩)
  | false =>
    obtain ⟨h0, h1⟩ := ok rfl
    walk_at "rd"
    refine ix_own hG (atI_0 _ _) ?_
    walk_at "rd"
    refine ⟨.inl ⟨by omega, by omega⟩, by decide, g_ix0 rfl hG ?_⟩
    have p0 := Int.emod_nonneg (s * 48271 + 29) (b := 2147483647) (by decide)
    have p1 := Int.emod_lt_of_pos (s * 48271 + 29) (b := 2147483647) (by decide)
    generalize (s * 48271 + 29) % 2147483647 = s1 at p0 p1 ⊢
    have hG1 : (gset G l [D.int s1, D.bl false]).m l = some [D.int s1, D.bl false] := gset_same
    walk_at "rd"
    refine ix_own hG1 (atI_0 _ _) (ix_own hG1 (atI_0 _ _) ?_)
    walk_at "rd"
    refine ⟨.inl ⟨by omega, by omega⟩, ix_own hG1 (atI_0 _ _) ?_⟩
    walk_at "rd"
    refine ⟨.inl ⟨by omega, by omega⟩, by decide, ?_⟩
    have p2 := Int.emod_nonneg (s1 * s1 + 39373 * s1 + 7) (b := 2147483629) (by decide)
    have p3 := Int.emod_lt_of_pos (s1 * s1 + 39373 * s1 + 7) (b := 2147483629) (by decide)
    generalize (s1 * s1 + 39373 * s1 + 7) % 2147483629 = s2 at p2 p3 ⊢
    refine ⟨.inl ⟨by omega, by omega⟩, .inl ⟨by omega, by omega⟩, by decide, ⟨by decide, by decide⟩, by omega, ?_⟩
    obtain ⟨r, hr, e⟩ := nat_of_mod (x := (s2 * s2 + 16807 * s2) % 2147483587 / 8) hm
    rw [e]
    exact FgR.of (h r _ hr ⟨_, false, rfl, fun _ => ⟨p0, p1⟩⟩)
end K
set_option Elab.async false
set_option linter.all false
set_option maxRecDepth 100000
set_option maxHeartbeats 4000000
namespace K
open PySem PySem.Spec PyProof.Rows L2 L3
local macro_rules | `(tactic| walk_at "rd") => `(tactic| simp only [xRet, xSeq, xAsg, xIf, xDrop, xNext, gN, gNN, xOp, xTup, xLst, xNew, xCons, xNil, xCall, xCallL, xCallF, gTuple, xVar, look, start2, spMin, spMax, fIn_tup, fIx_0, fIx_1, fIx_2, fIx_w0, fIx_w1, fII, fIIC, fAdd, fEq, xC, xB, xTOr, xTAnd, xTNot, xAug, List.map, List.cons_append, List.nil_append, List.set_cons_zero, List.set_cons_succ, List.length_cons, List.length_nil, List.replicate_succ, List.replicate_zero, Nat.reduceSub, Nat.reduceAdd, szn0, szn1, szn2, szn3, true_and', ite_tt', ite_ff', if_true, if_false, Bool.false_eq_true])
def prsTo (n i : Nat) : List (Nat × Nat) := (List.range i).flatMap fun i => (List.range (n - (i + 1))).map fun k => (i, i + 1 + k)
theorem prsTo_all (n : Nat) : prsTo n n = prs n := rfl
theorem prsTo_succ (n i : Nat) : prsTo n (i + 1) = prsTo n i ++ (List.range (n - (i + 1))).map fun k => (i, i + 1 + k) := by
  unfold prsTo
  rw [List.range_succ, List.flatMap_append]
  simp
theorem prsTo_len {n i : Nat} (hi : i ≤ n) (h : n ≤ 100) : (prsTo n i).length ≤ 10000 := by
  have : (prsTo n i).length ≤ (prs n).length := by
    obtain ⟨k, rfl⟩ := Nat.exists_eq_add_of_le hi
    rw [← prsTo_all]
    have : ∀ k, (prsTo (i + k) i).length ≤ (prsTo (i + k) (i + k)).length := fun k => by
      unfold prsTo
      rw [List.range_add, List.flatMap_append, List.length_append]; omega
    exact this k
  have := prs_len_le h
  omega
theorem get_nD {n i : Nat} {x : D} (h : ((List.range n).map nD)[i]? = some x) : x = nD i ∧ i < n := by
  rw [List.getElem?_map] at h
  cases q : (List.range n)[i]? with
  | none => rw [q] at h; cases h
  | some k =>
    rw [q] at h
    cases h
    obtain ⟨h1, h2⟩ := List.getElem?_eq_some_iff.mp q
    simp at h1 h2
    subst h2
    exact ⟨rfl, h1⟩
theorem for_in {wi : TI2} {g : TG2} {tb : TS2} {E : Ends2} {σ : S2} {G : Gp} (h : wi σ G fun ds gd G1 => ForR ds gd G1 g tb E σ) : xForF wi g tb E σ G := .of h
theorem for_r1 {t : TA2} {g : TG2} {tb : TS2} {E : Ends2} {σ : S2} {G : Gp} {n : Nat} (ht : PuA t σ G [nD n]) (hn : n ≤ 1000) (h : ForR ((List.range n).map nD) (fun _ => True) G g tb E σ) : xForF (iR1 t) g tb E σ G := by
  refine for_in (ht G (.refl G) _ ⟨by omega, ?_⟩)
  rw [rangeD0]
  exact h
theorem for_r2 {t : TA2} {g : TG2} {tb : TS2} {E : Ends2} {σ : S2} {G : Gp} {i j : Int} (ht : PuA t σ G [.int i, .int j]) (hn : (-1000 ≤ i ∧ i ≤ 1000) ∧ -1000 ≤ j ∧ j ≤ 1000) (h : ForR (rangeD i (j - i).toNat) (fun _ => True) G g tb E σ) : xForF (iR2 t) g tb E σ G :=
  for_in (ht G (.refl G) _ ⟨by omega, h⟩)
theorem app_own {i : Nat} {l : Addr} {d : D} {xs : List D} {σ : S2} {G : Gp} {t : TA2} {R : Q2} (ho : look σ i = some (.adr l)) (h : G.m l = some xs) (ht : ∀ Q : List D → Gp → Prop, Q [d] G → t σ G Q) (hz : xs.length ≤ 1000000) (q : R .non (gset G l (xs ++ [d]))) : xApp (xVar i) t σ G R := by
  unfold xApp xVar
  rw [ho]
  show match G.m l with | some _ => _ | none => _
  rw [h]
  refine ht _ ?_
  show match G.m l with | some xs => _ | none => _
  rw [h]
  exact ⟨hz, q⟩
theorem ext_own {i : Nat} {l : Addr} {zs xs : List D} {σ : S2} {G : Gp} {t : TL2} {R : Q2} (ho : look σ i = some (.adr l)) (h : G.m l = some xs) (ht : ∀ Q : List D → Gp → Prop, Q zs G → t σ G Q) (hz : xs.length + zs.length ≤ 1000000) (q : R .non (gset G l (xs ++ zs))) : xExt (xVar i) t σ G R := by
  unfold xExt xVar
  rw [ho]
  show match G.m l with | some _ => _ | none => _
  rw [h]
  refine ht _ ?_
  show match G.m l with | some xs => _ | none => _
  rw [h]
  exact ⟨hz, q⟩
theorem atI_nD2 {ps : List Nat} {i : Nat} (h : i < ps.length) : atI (ps.map nD) (i : Int) = some (nD (ps.getD i 0)) := atI_nat (by simp [List.getD, h])
theorem pu_ixT2 {σ : S2} {G : Gp} {t u : TE2} {ps : List Nat} {i : Nat} (h : PuE t σ G (.tup (ps.map nD))) (h' : PuE u σ G (nD i)) (hi : i < ps.length) : PuE (xOp fIx t u) σ G (nD (ps.getD i 0)) := pu_op h h' fun _ _ _ q => by
  simp only [fIx, atI_nD2 hi]; exact q
theorem pu_len2 {σ : S2} {G : Gp} {t : TE2} {ps : List Nat} (h : PuE t σ G (.tup (ps.map nD))) : PuE (xCall spLen (xCons t xNil)) σ G (nD ps.length) := pu_call (pu_cons h pu_nil) fun _ _ _ q => ⟨ps.map nD, rfl, by rw [List.length_map]; exact q⟩
def t_l_pairs : TS2 := (xSeq (xAsg (xNew (xLst xNil)) (gN 1)) (xSeq (xForF (iR1 (xCons (xVar 0) xNil)) (gN 2) (xDrop (xExt (xVar 1) (xComp (iR2 (xCons (xOp fAdd (xVar 2) (xC (.int 1))) (xCons (xVar 0) xNil))) bd1 xYes (xTup (xCons (xVar 2) (xCons (xVar 3) xNil))))))) (xRet (xVar 1))))
theorem r_l_pairs (ds : List D) (G : Gp) (R : Q2) (h : spL sp_l_pairs ds G R) : ds.length = 1 ∧ t_l_pairs (endsOf R) (start2 ["many", "found", "one"] ds) G := by
  obtain ⟨n, rfl, hn, h⟩ := h
  refine ⟨rfl, ?_⟩
  unfold t_l_pairs
  walk_at "rd"
  intro l hl
  refine for_r1 (n := n) (pu_cons (pu_var rfl) pu_nil) (by omega) ?_
  refine for_inv (fun i G' => G' = gset G l ((prsTo n i).map prD)) rfl (fun _ _ _ => trivial) ?_ ?_
  · rintro i x hx G2 rfl
    obtain ⟨rfl, hi⟩ := get_nD hx
    have hlen := prsTo_len (n := n) (i := i + 1) (by omega) hn
    rw [prsTo_succ, List.length_append, List.length_map, List.length_range] at hlen
    have hw : PuI (iR2 (xCons (xOp fAdd (xVar 2) (xC (.int 1))) (xCons (xVar 0) xNil))) [some (nD n), some (.adr l), some (nD i)] (gset G l ((prsTo n i).map prD)) (rangeD ((i : Int) + 1) ((n : Int) - ((i : Int) + 1)).toNat) :=
      pu_range2 (pu_cons (pu_op (pu_var rfl) pu_c fun _ _ _ q => q) (pu_cons (pu_var rfl) pu_nil)) (by omega)
    have := pu_map (bd := bd1) (te := xTup (xCons (xVar 2) (xCons (xVar 3) xNil))) (fun d => .tup [nD i, d]) (fun d => [d]) hw fun x hx => ⟨rfl, pu_tup (pu_cons (pu_var rfl) (pu_cons (pu_var rfl) pu_nil)) (by simp)⟩
    walk_at "rd"
    have e : ((n : Int) - ((i : Int) + 1)).toNat = n - (i + 1) := by omega
    have e2 : List.map (fun d => D.tup [nD i, d]) (rangeD ((i : Int) + 1) ((n : Int) - ((i : Int) + 1)).toNat) = ((List.range (n - (i + 1))).map fun k => (i, i + 1 + k)).map prD := by
      rw [e]
      unfold rangeD
      rw [List.map_map, List.map_map]
      refine List.map_congr_left fun k _ => ?_
      simp [prD, nD]
    rw [e2] at this
    refine ext_own rfl gset_same (fun Q q => this _ (.refl _) Q q) (by simp only [List.length_map, List.length_range]; omega) ⟨.keep (.keep (.skip .nil)), _, .refl _, ?_⟩
    rw [gset_gset, prsTo_succ, List.map_append]
  · rintro G2 rfl
    rw [List.length_map, List.length_range, prsTo_all]
    exact FgR.of (h l hl)
end K
set_option Elab.async false
set_option linter.all false
set_option maxRecDepth 100000
set_option maxHeartbeats 4000000
namespace K
open PySem PySem.Spec PyProof.Rows L2 L3
local macro_rules | `(tactic| walk_at "rd") => `(tactic| simp only [xRet, xSeq, xAsg, xIf, xDrop, xNext, gN, gNN, xOp, xTup, xLst, xNew, xCons, xNil, xCall, xCallL, xCallF, gTuple, xVar, look, start2, spMin, spMax, fIn_tup, fIx_0, fIx_1, fIx_2, fIx_w0, fIx_w1, fII, fIIC, fAdd, fEq, xC, xB, xTOr, xTAnd, xTNot, xAug, xSetF, List.map, List.cons_append, List.nil_append, List.set_cons_zero, List.set_cons_succ, List.length_cons, List.length_nil, List.replicate_succ, List.replicate_zero, Nat.reduceSub, Nat.reduceAdd, szn0, szn1, szn2, szn3, true_and', ite_tt', ite_ff', if_true, if_false, Bool.false_eq_true])
def lar (n : Nat) (q : Nat × Nat → Bool) (i : Nat) : List Nat := (((prs n).filter q).filter fun p => decide (p.1 = i) || decide (p.2 = i)).map fun p => p.1 + p.2 - i
def sp_l_around : List D → Gp → (List D → Gp → Prop) → Prop := fun ds G R => ∃ (n : Nat) (q : Nat × Nat → Bool) (i : Nat), ds = [webD n q, nD i] ∧ R ((lar n q i).map nD) G
theorem mono_l_around : ∀ ds G R R', (∀ ls G', R ls G' → R' ls G') → sp_l_around ds G R → sp_l_around ds G R' := by
  rintro ds G R R' h ⟨n, q, i, e, q'⟩
  exact ⟨n, q, i, e, h _ _ q'⟩
def t_l_around : TS2 := (xRet (xNew (xComp (iV (xOp fIx (xVar 0) (xC (.int 1)))) bd2 (xB (xOp (fIn false) (xVar 1) (xTup (xCons (xVar 2) (xCons (xVar 3) xNil))))) (xOp (fII fun i j => .int (i - j)) (xOp fAdd (xVar 2) (xVar 3)) (xVar 1)))))
theorem any_nD (l : List Nat) (i : Nat) : ((l.map nD).any fun z => eqD z (nD i)) = decide (i ∈ l) := by
  rw [List.any_map, Bool.eq_iff_iff]
  simp only [List.any_eq_true, Function.comp, eqD_int, decide_eq_true_eq, int_natCast_inj]
  constructor
  · rintro ⟨x, h, rfl⟩; exact h
  · intro h; exact ⟨i, h, rfl⟩
theorem flat_nDs (l : List Nat) : ∀ d ∈ l.map nD, flat 8 d = true := by
  intro d hd
  obtain ⟨k, _, rfl⟩ := List.mem_map.mp hd
  rfl
theorem pu_inT {σ : S2} {G : Gp} {t u : TE2} {ng : Bool} {x : D} {ds : List D} {b : Bool} (h : PuE t σ G x) (h' : PuE u σ G (.tup ds)) (f : flat 8 x = true) (fs : ∀ d ∈ ds, flat 8 d = true) (e : (if ng then !ds.any fun z => eqD z x else ds.any fun z => eqD z x) = b) : PuE (xOp (fIn ng) t u) σ G (.bl b) :=
  pu_op h h' fun _ _ _ q => ⟨f, fs, by rw [e]; exact q⟩
theorem pu_add {σ : S2} {G : Gp} {t u : TE2} {i j : Int} (h : PuE t σ G (.int i)) (h' : PuE u σ G (.int j)) : PuE (xOp fAdd t u) σ G (.int (i + j)) := pu_op h h' fun _ _ _ q => q
theorem r_l_around (ds : List D) (G : Gp) (R : Q2) (h : spL sp_l_around ds G R) : ds.length = 2 ∧ t_l_around (endsOf R) (start2 ["web", "place"] ds) G := by
  obtain ⟨n, q, i, rfl, h⟩ := h
  refine ⟨rfl, ?_⟩
  unfold t_l_around xRet xNew
  have := pu_comp (bd := bd2) (tc := (xB (xOp (fIn false) (xVar 1) (xTup (xCons (xVar 2) (xCons (xVar 3) xNil)))))) (te := (xOp (fII fun i j => .int (i - j)) (xOp fAdd (xVar 2) (xVar 3)) (xVar 1))) (fun d => decide ((unprD d).1 = i) || decide ((unprD d).2 = i)) (fun d => .int (((unprD d).1 : Int) + (unprD d).2 - i)) (fun d => [nD (unprD d).1, nD (unprD d).2])
    (pu_iv_tup (σ := start2 ["web", "place"] [webD n q, nD i]) (G := G) (pu_w1 (pu_var (i := 0) rfl))) fun x hx => by
      obtain ⟨p, hp, rfl⟩ := List.mem_map.mp hx
      rw [unprD_prD]
      refine ⟨rfl, pu_b (pu_inT (pu_var (d := nD i) rfl) (pu_tup (pu_cons (pu_var (d := nD p.1) rfl) (pu_cons (pu_var (d := nD p.2) rfl) pu_nil)) (by simp)) rfl (flat_nDs [p.1, p.2]) ?_), fun _ => pu_ii (pu_add (pu_var rfl) (pu_var rfl)) (pu_var rfl)⟩
      have := any_nD [p.1, p.2] i
      simp only [List.map] at this
      simp only [Bool.false_eq_true, if_false, this]
      rw [Bool.eq_iff_iff]
      simp only [List.mem_cons, List.not_mem_nil, or_false, decide_eq_true_eq, Bool.or_eq_true]
      constructor <;> (rintro (h | h) <;> simp [h])
  refine this G (.refl G) _ fun l hl => ?_
  have e : List.map (fun d => D.int (((unprD d).1 : Int) + (unprD d).2 - i)) (List.filter (fun d => decide ((unprD d).1 = i) || decide ((unprD d).2 = i)) (((prs n).filter q).map prD)) = (lar n q i).map nD := by
    unfold lar
    rw [List.filter_map, List.map_map, List.map_map]
    refine List.map_congr_left fun p hp => ?_
    have hp := (List.mem_filter.mp hp).2
    simp only [Function.comp, unprD_prD] at hp ⊢
    simp only [Bool.or_eq_true, decide_eq_true_eq] at hp
    show D.int _ = D.int _
    congr 1
    rcases hp with hp | hp <;> omega
  rw [e]
  exact FgR.of (h l hl)
def IsRing (n : Nat) (r : List Nat) : Prop := r.Perm (List.range n ++ List.range n)
theorem IsRing.len {n : Nat} {r : List Nat} (h : IsRing n r) : r.length = 2 * n := by
  have := h.length_eq
  simp at this; omega
theorem IsRing.mem {n : Nat} {r : List Nat} (h : IsRing n r) {x : Nat} : x ∈ r ↔ x < n := by
  rw [h.mem_iff]; simp
theorem count_range {n i : Nat} : (List.range n).count i = if i < n then 1 else 0 := by
  induction n with
  | zero => simp
  | succ n ih =>
    rw [List.range_succ, List.count_append, ih]
    by_cases h : i = n
    · subst h; simp
    · have : (n == i) = false := by simpa using fun e => h e.symm
      simp [List.count_cons, this]
      split <;> split <;> omega
theorem IsRing.count {n : Nat} {r : List Nat} (h : IsRing n r) {i : Nat} (hi : i < n) : r.count i = 2 := by
  rw [h.count_eq, List.count_append, count_range, if_pos hi]
def both (r : List Nat) (p : Nat × Nat) : List Nat := r.filter fun x => decide (x = p.1) || decide (x = p.2)
def crossL (r : List Nat) (p : Nat × Nat) : Bool := match both r p with | a :: b :: c :: _ => decide (a ≠ b) && decide (b ≠ c) | _ => false
theorem both_len {n : Nat} {r : List Nat} (h : IsRing n r) {p : Nat × Nat} (hp : p ∈ prs n) : (both r p).length = 4 := by
  obtain ⟨i, j⟩ := p
  obtain ⟨h1, h2⟩ := mem_prs.mp hp
  have : ∀ l : List Nat, (l.filter fun x => decide (x = i) || decide (x = j)).length = l.count i + l.count j := by
    intro l
    induction l with
    | nil => rfl
    | cons a r ih =>
      simp only [List.filter_cons, List.count_cons]
      by_cases ha : a = i
      · subst ha
        have : ¬ a = j := by dsimp only at h1; omega
        simp [this, ih]; omega
      · by_cases hb : a = j
        · subst hb; simp [ha, ih]; omega
        · simp [ha, hb, ih]
  unfold both
  rw [this, h.count (by dsimp only at h1 h2; omega), h.count h2]
theorem _root_.L3.Sub.put {G G' : Gp} {f : Addr} {x : List D} (h : Sub G G') (n : G.m f = none) : Sub G (gset G' f x) :=
  ⟨fun a o e => by rw [gset_ne (gne e n)]; exact h.m a o e, fun a o e => h.ro a o e⟩
def sp_l_web_of : Sp2 := fun ds G R => ∃ (n : Nat) (r : List Nat), ds = [.tup (r.map nD)] ∧ IsRing n r ∧ n ≤ 100 ∧ R (webD n (crossL r)) G
def t_l_web_of : TS2 := (xSeq (xAsg (xOp (fIIC CDiv fun i j => .int (i / j)) (xCall spLen (xCons (xVar 0) xNil)) (xC (.int 2))) (gN 1)) (xSeq (xAsg (xNew (xLst xNil)) (gN 2)) (xSeq (xForF (iF (xCallL sp_l_pairs (xCons (xVar 1) xNil))) (gNN 3 4) (xSeq (xSetF 5 (xComp (iV (xVar 0)) bd1 (xB (xOp (fIn false) (xVar 6) (xTup (xCons (xVar 3) (xCons (xVar 4) xNil))))) (xVar 6))) (xIf (xTAnd (xB (xOp (fEq true) (xOp fIx (xVar 5) (xC (.int 0))) (xOp fIx (xVar 5) (xC (.int 1))))) (xB (xOp (fEq true) (xOp fIx (xVar 5) (xC (.int 1))) (xOp fIx (xVar 5) (xC (.int 2)))))) (xDrop (xApp (xVar 2) (xCons (xTup (xCons (xVar 3) (xCons (xVar 4) xNil))) xNil))) xNext))) (xRet (xTup (xCons (xVar 1) (xCons (xCall spTuple (xCons (xVar 2) xNil)) xNil)))))))
theorem pu_both {σ : S2} {G : Gp} {r : List Nat} {p : Nat × Nat} {x1 x2 x5 : Option D} (h : σ = [some (.tup (r.map nD)), x1, x2, some (nD p.1), some (nD p.2), x5]) :
    PuL (xComp (iV (xVar 0)) bd1 (xB (xOp (fIn false) (xVar 6) (xTup (xCons (xVar 3) (xCons (xVar 4) xNil))))) (xVar 6)) σ G ((both r p).map nD) := by
  subst h
  have := pu_comp (bd := bd1) (tc := (xB (xOp (fIn false) (xVar 6) (xTup (xCons (xVar 3) (xCons (xVar 4) xNil)))))) (te := xVar 6) (fun d => match d with | .int x => decide (x.toNat = p.1) || decide (x.toNat = p.2) | _ => false) (fun d => d) (fun d => [d])
    (pu_iv_tup (σ := [some (.tup (r.map nD)), x1, x2, some (nD p.1), some (nD p.2), x5]) (G := G) (pu_var (i := 0) rfl)) fun x hx => by
      obtain ⟨k, hk, rfl⟩ := List.mem_map.mp hx
      refine ⟨rfl, pu_b (pu_inT (pu_var (d := nD k) rfl) (pu_tup (pu_cons (pu_var (d := nD p.1) rfl) (pu_cons (pu_var (d := nD p.2) rfl) pu_nil)) (by simp)) rfl (flat_nDs [p.1, p.2]) ?_), fun _ => pu_var rfl⟩
      have := any_nD [p.1, p.2] k
      simp only [List.map] at this
      simp only [Bool.false_eq_true, if_false, this]
      rw [Bool.eq_iff_iff]
      simp
  have e : List.map (fun d => d) (List.filter (fun d => match d with | .int x => decide (x.toNat = p.1) || decide (x.toNat = p.2) | _ => false) (r.map nD)) = (both r p).map nD := by
    rw [List.map_id', List.filter_map]
    rfl
  rw [e] at this
  exact this
theorem get_map {α : Type} {f : α → D} {l : List α} {i : Nat} {x : D} (h : (l.map f)[i]? = some x) : ∃ a, l[i]? = some a ∧ x = f a := by
  rw [List.getElem?_map] at h
  cases q : l[i]? with
  | none => rw [q] at h; cases h
  | some a => rw [q] at h; cases h; exact ⟨a, rfl, rfl⟩
theorem r_l_web_of (ds : List D) (G : Gp) (R : Q2) (h : sp_l_web_of ds G R) : ds.length = 1 ∧ t_l_web_of (endsOf R) (start2 ["ring", "many", "found", "one", "other", "some"] ds) G := by
  obtain ⟨n, r, rfl, hr, hn, h⟩ := h
  refine ⟨rfl, ?_⟩
  unfold t_l_web_of
  walk_at "rd"
  refine ⟨r.map nD, rfl, ?_⟩
  walk_at "rd"
  refine ⟨⟨by decide, by decide⟩, fun f hf => ?_⟩
  have e : (((r.map nD).length : Int) / 2) = (n : Int) := by rw [List.length_map, hr.len]; omega
  rw [e]
  refine for_in ⟨n, rfl, hn, fun a ha => ?_⟩
  have fa : a ≠ f := fun e => by rw [e, gset_same] at ha; cases ha
  have ga : G.m a = none := by rw [gset_ne fa] at ha; exact ha
  refine for_inv (fun k G' => G'.m f = some ((((prs n).take k).filter (crossL r)).map prD) ∧ G'.m a = some ((prs n).map prD) ∧ Sub G G') ⟨?_, gset_same, ?_⟩ (fun _ _ h => .inl h.2.1) ?_ ?_
  · rw [gset_ne (Ne.symm fa)]; exact gset_same
  · exact ((Sub.refl G).put hf).put ga
  · rintro k x hx G2 ⟨h1, h2, h3⟩
    obtain ⟨p, hp, rfl⟩ := get_map hx
    have hp' := List.mem_of_getElem? hp
    have hc : (((prs n).take (k + 1)).filter (crossL r)) = (((prs n).take k).filter (crossL r)) ++ (if crossL r p = true then [p] else []) := by
      rw [take_succ hp, List.filter_append]
      congr 1
      simp [List.filter_cons]
    show gNN 3 4 (.tup [nD p.1, nD p.2]) _ _ _
    walk_at "rd"
    refine pu_both rfl G2 (.refl G2) _ fun s hs => ?_
    have hl := both_len hr hp'
    have hz : ((((prs n).take k).filter (crossL r)).map prD).length ≤ 1000000 := by
      rw [List.length_map]
      have := List.length_filter_le (crossL r) ((prs n).take k)
      rw [List.length_take] at this
      have := prs_len_le hn
      omega
    have sf : s ≠ f := fun e => by rw [e, h1] at hs; cases hs
    have sa : s ≠ a := fun e => by rw [e, h2] at hs; cases hs
    have gs : G.m s = none := by
      cases q : G.m s with
      | none => rfl
      | some o => rw [h3.m s o q] at hs; cases hs
    match hb : both r p, hl with
    | [x, y, z, w], _ =>
      have hcr : crossL r p = (decide (x ≠ y) && decide (y ≠ z)) := by unfold crossL; rw [hb]
      rw [hcr] at hc
      walk_at "rd"
      refine ix_own gset_same (atI_0 _ _) (ix_own gset_same (atI_1 _ _ _) ?_)
      walk_at "rd"
      refine ⟨rfl, rfl, ?_⟩
      have exy : (!eqD (nD x) (nD y)) = decide (x ≠ y) := by rw [eqD_int]; rw [Bool.eq_iff_iff]; simp; omega
      have eyz : (!eqD (nD y) (nD z)) = decide (y ≠ z) := by rw [eqD_int]; rw [Bool.eq_iff_iff]; simp; omega
      rw [exy]
      have no : (decide (x ≠ y) && decide (y ≠ z)) = false → SubS [some (.tup (r.map nD)), some (.int n), some (.adr f), none, none, none] [some (.tup (r.map nD)), some (.int n), some (.adr f), some (nD p.1), some (nD p.2), some (.adr s)] ∧ ∃ G'', Sub G'' (gset G2 s ([x, y, z, w].map nD)) ∧ (G''.m f = some ((((prs n).take (k + 1)).filter (crossL r)).map prD) ∧ G''.m a = some ((prs n).map prD) ∧ Sub G G'') := fun hf => by
        refine ⟨.keep (.keep (.keep (.skip (.skip (.skip .nil))))), G2, .new hs, ?_, h2, h3⟩
        rw [hc, hf]; simpa using h1
      by_cases c1 : x ≠ y
      · rw [decide_eq_true c1]
        walk_at "rd"
        refine ix_own gset_same (atI_1 _ _ _) (ix_own gset_same (atI_2 _ _ _ _) ?_)
        walk_at "rd"
        refine ⟨rfl, rfl, ?_⟩
        rw [eyz]
        by_cases c2 : y ≠ z
        · rw [decide_eq_true c2]
          walk_at "rd"
          refine app_own (d := prD p) rfl (by rw [gset_ne (Ne.symm sf)]; exact h1) (fun Q q => by walk_at "rd"; exact q) hz ⟨.keep (.keep (.keep (.skip (.skip (.skip .nil))))), _, .refl _, ?_, ?_, ?_⟩
          · rw [gset_same, hc, decide_eq_true c1, decide_eq_true c2]
            simp
          · rw [gset_ne fa, gset_ne (Ne.symm sa)]; exact h2
          · exact (h3.put gs).put hf
        · rw [decide_eq_false c2]
          walk_at "rd"
          exact no (by simp [c2])
      · rw [decide_eq_false c1]
        walk_at "rd"
        exact no (by simp [c1])
  · rintro G2 ⟨h1, h2, h3⟩
    rw [List.length_map, List.take_length] at h1
    walk_at "rd"
    refine ⟨((prs n).filter (crossL r)).map prD, .inl h1, ?_⟩
    exact ⟨G, h3, h⟩
end K
set_option Elab.async false
set_option linter.all false
set_option maxRecDepth 100000
set_option maxHeartbeats 4000000
namespace K
open PySem PySem.Spec PyProof.Rows L2 L3
local macro_rules | `(tactic| walk_at "rd") => `(tactic| simp only [xRet, xSeq, xAsg, xIf, xDrop, xNext, gN, gNN, xOp, xTup, xLst, xNew, xCons, xNil, xCall, xCallL, xCallF, gTuple, xVar, look, start2, spMin, spMax, fIn_tup, fIx_0, fIx_1, fIx_2, fIx_w0, fIx_w1, fII, fIIC, fAdd, fEq, xC, xB, xTOr, xTAnd, xTNot, xAug, xSetF, List.map, List.cons_append, List.nil_append, List.set_cons_zero, List.set_cons_succ, List.length_cons, List.length_nil, List.replicate_succ, List.replicate_zero, Nat.reduceSub, Nat.reduceAdd, szn0, szn1, szn2, szn3, true_and', ite_tt', ite_ff', if_true, if_false, Bool.false_eq_true])
theorem perm_erase {α : Type} : ∀ (l : List α) (i : Nat) (h : i < l.length), (l[i] :: l.eraseIdx i).Perm l
  | a :: r, 0, _ => by simp
  | a :: r, i + 1, h => by
    have hi : i < r.length := by simpa using h
    simp only [List.getElem_cons_succ, List.eraseIdx_cons_succ]
    exact (List.Perm.swap a (r[i]'hi) _).trans ((perm_erase r i (by simpa using h)).cons a)
theorem eraseIdx_map' {α β : Type} (f : α → β) : ∀ (l : List α) (i : Nat), (l.map f).eraseIdx i = (l.eraseIdx i).map f
  | [], _ => by simp
  | a :: r, 0 => by simp
  | a :: r, i + 1 => by simp [eraseIdx_map' f r i]
def DrS (l : Addr) (G G' : Gp) : Prop := ∃ G1, Dr l G G1 ∧ Sub G1 G'
theorem DrS.dr {l : Addr} {G G1 G2 : Gp} (h : DrS l G G1) (d : Dr l G1 G2) : DrS l G G2 := by
  obtain ⟨G0, d0, s0⟩ := h
  obtain ⟨G3, d3, s3⟩ := d.sub s0
  exact ⟨G3, d0.trans d3, s3⟩
theorem DrS.put {l f : Addr} {G G1 : Gp} {x : List D} (h : DrS l G G1) (s : StAt G l) (n : G.m f = none) : DrS l G (gset G1 f x) := by
  obtain ⟨G0, d0, s0⟩ := h
  exact ⟨G0, d0, s0.put (d0.none s n)⟩
theorem DrS.refl {l : Addr} {G : Gp} (s : StAt G l) : DrS l G G := ⟨G, .refl s, .refl G⟩
theorem DrS.st {l : Addr} {G G' : Gp} (h : DrS l G G') : StAt G' l := by
  obtain ⟨G0, d0, s0⟩ := h
  exact d0.st.ext s0
theorem DrS.own {l : Addr} {G G' : Gp} (h : DrS l G G') (s : StAt G l) {a : Addr} (n : G'.m a = none) : G.m a = none := by
  obtain ⟨G0, d0, s0⟩ := h
  have n0 : G0.m a = none := by
    cases q : G0.m a with
    | none => rfl
    | some o => rw [s0.m a o q] at n; cases n
  by_cases ha : a = l
  · subst ha
    obtain ⟨_, _, e, _⟩ := d0.st
    rw [e] at n0; cases n0
  · rw [d0.ne ha] at n0; exact n0
theorem DrS.fin {l : Addr} {G G' : Gp} {d : D} {R : Q2} (h : DrS l G G') (q : ∀ G', Dr l G G' → R d G') : FgR R d G' := by
  obtain ⟨G0, d0, s0⟩ := h
  exact ⟨G0, s0, q G0 d0⟩
theorem drawn {σ : S2} {G G0 : Gp} {st lf : Addr} {xs : List Nat} {i0 i2 k : Nat} {t : TA2} {R : Q2} (h0 : look σ i0 = some (.adr st)) (h2 : look σ i2 = some (.adr lf)) (hk : σ.length = k)
    (ht : PuA t σ G [nD xs.length]) (hs : StAt G st) (hs0 : StAt G0 st) (hne : lf ≠ st) (hx : G.m lf = some (xs.map nD)) (h0lf : G0.m lf = none) (hd : DrS st G0 G) (hlen : xs.length ≤ 1000)
    (hR : ∀ (ys : List Nat) (G' : Gp), ys.Perm xs → DrS st G0 G' → R (.tup (ys.map nD)) G') :
    xCallF gTuple (xComp (iR1 t) bd1 xYes (xPop (xVar i2) (xCons (xCall sp_l_take (xCons (xVar i0) (xCons (xCall spLen (xCons (xVar i2) xNil)) xNil))) xNil))) σ G R := by
  have lk : ∀ (j : Nat) (o : D) (d : D), look σ j = some o → look (σ ++ [some d]) j = some o := fun j o d h => by
    clear h0 h2 hk ht
    induction σ generalizing j with
    | nil => cases h
    | cons a r ih =>
      cases j with
      | zero => exact h
      | succ j => exact ih j h
  refine comp_in (ht G (.refl G) _ ⟨by omega, fun A hA => ?_⟩)
  rw [rangeD0]
  have Alf : A ≠ lf := fun e => by rw [e, hx] at hA; cases hA
  have Ast : A ≠ st := hs.ne hA
  refine comp_inv (fun i acc G' => ∃ ys zs : List Nat, acc = ys.map nD ∧ ys.length = i ∧ (ys ++ zs).Perm xs ∧ G'.m A = some acc ∧ G'.m lf = some (zs.map nD) ∧ DrS st G0 G')
    ⟨[], xs, rfl, rfl, .refl _, gset_same, by rw [gset_ne (Ne.symm Alf)]; exact hx, hd.put hs0 (hd.own hs0 hA)⟩ (fun i acc G' ⟨ys, zs, h1, h2, h3, h4, h5, h6⟩ => ⟨trivial, h4, by rw [h1, List.length_map]; omega⟩) ?_ ?_
  · rintro i x acc G' hi ⟨ys, zs, rfl, h2', h3, h4, h5, h6⟩
    obtain ⟨rfl, hi⟩ := get_nD hi
    refine ⟨[nD i], rfl, ?_⟩
    have hz : ys.length + zs.length = xs.length := by have := h3.length_eq; rwa [List.length_append] at this
    have st' := h6.st
    unfold xYes
    dsimp only
    rw [if_pos rfl]
    unfold xPop
    rw [show xVar i2 = fun σ G R => match look σ i2 with | some d => R d G | none => False from rfl]
    dsimp only
    rw [show List.map some [nD i] = [some (nD i)] from rfl, lk i2 _ _ h2]
    dsimp only
    rw [h5]
    dsimp only
    simp only [xCons, xCall, xVar, xNil, lk i0 _ _ h0, lk i2 _ _ h2]
    refine ⟨zs.map nD, .inl h5, ?_⟩
    rw [List.length_map]
    refine ⟨st, zs.length, rfl, st', by omega, by omega, fun r G1 hr d1 => ?_⟩
    have e1 : G1.m lf = some (zs.map nD) := by rw [d1.ne hne]; exact h5
    dsimp only
    rw [e1]
    dsimp only
    refine ⟨⟨by omega, by rw [List.length_map]; omega, by omega⟩, ?_⟩
    have e2 : (List.map nD zs)[(r : Int).toNat]? = some (nD zs[r]) := by simp [hr]
    rw [e2]
    dsimp only
    have Aa : (gset G1 lf ((List.map nD zs).eraseIdx (r : Int).toNat)).m A = some (ys.map nD) := by rw [gset_ne Alf, d1.ne Ast]; exact h4
    refine ⟨Aa, .of ⟨ys ++ [zs[r]], zs.eraseIdx r, by simp, by simp [h2'], ?_, gset_same, ?_, ?_⟩⟩
    · rw [List.append_assoc]
      exact ((perm_erase zs r hr).append_left ys).trans h3
    · rw [gset_ne (Ne.symm Alf), gset_same]
      simp [eraseIdx_map']
    · have hA0 : G0.m A = none := hd.own hs0 hA
      exact (((h6.dr d1).put hs0 h0lf).put hs0 hA0)
  · rintro acc G' ⟨ys, zs, rfl, h2', h3, h4, h5, h6⟩
    rw [List.length_map, List.length_range] at h2'
    have hz : ys.length + zs.length = xs.length := by have := h3.length_eq; rwa [List.length_append] at this
    have : zs = [] := List.length_eq_zero_iff.mp (by omega)
    subst this
    rw [List.append_nil] at h3
    -- forget the list itself
    obtain ⟨G1, d1, s1⟩ := h6
    refine ⟨G1, d1.none hs0 (hd.own hs0 hA), s1, ?_⟩
    exact hR ys G1 h3 ⟨G1, d1, .refl _⟩
def sp_l_ring : Sp2 := fun ds G R => ∃ (l : Addr) (n : Nat), ds = [.adr l, nD n] ∧ StAt G l ∧ n ≤ 100 ∧ ∀ (r : List Nat) (G' : Gp), IsRing n r → Dr l G G' → R (.tup (r.map nD)) G'
def t_l_ring : TS2 := (xSeq (xAsg (xNew (xRep (xNew (xListR (xCons (xVar 1) xNil))) (xC (.int 2)))) (gN 2)) (xRet (xCallF gTuple (xComp (iR1 (xCons (xOp (fIIC CMul fun i j => .int (i * j)) (xC (.int 2)) (xVar 1)) xNil)) bd1 xYes (xPop (xVar 2) (xCons (xCall sp_l_take (xCons (xVar 0) (xCons (xCall spLen (xCons (xVar 2) xNil)) xNil))) xNil))))))
theorem r_l_ring (ds : List D) (G : Gp) (R : Q2) (h : sp_l_ring ds G R) : ds.length = 2 ∧ t_l_ring (endsOf R) (start2 ["state", "many", "left"] ds) G := by
  obtain ⟨l, n, rfl, hs, hn, h⟩ := h
  refine ⟨rfl, ?_⟩
  unfold t_l_ring xSeq xAsg xNew xRep xListR
  walk_at "rd"
  refine ⟨by omega, fun a ha => ?_⟩
  rw [gset_same]
  dsimp only
  rw [rangeD0]
  refine ⟨by omega, by simp; omega, fun lf hlf => ?_⟩
  have e : (List.replicate (2 : Int).toNat (List.map nD (List.range n))).flatten = (List.range n ++ List.range n).map nD := by
    show (List.replicate 2 _).flatten = _
    simp [List.replicate_succ]
  rw [e]
  have hlf0 : G.m lf = none := by
    have : lf ≠ a := fun e => by rw [e, gset_same] at hlf; cases hlf
    rw [gset_ne this] at hlf; exact hlf
  have la : lf ≠ l := hs.ne hlf0
  have hsG : StAt (gset (gset G a (List.map nD (List.range n))) lf ((List.range n ++ List.range n).map nD)) l := (hs.ext (.new ha)).ext (.new hlf)
  have hdr : DrS l G (gset (gset G a (List.map nD (List.range n))) lf ((List.range n ++ List.range n).map nD)) := ((DrS.refl hs).put hs ha).put hs hlf0
  have hlen : (List.range n ++ List.range n).length = 2 * n := by simp; omega
  refine drawn (k := 3) (xs := List.range n ++ List.range n) (i0 := 0) (i2 := 2) rfl rfl rfl (pu_cons ?_ pu_nil) hsG hs la gset_same hlf0 hdr (by omega) fun ys G' hp hd => hd.fin fun G1 d1 => h ys G1 hp d1
  have : nD (List.range n ++ List.range n).length = .int (2 * (n : Int)) := by rw [hlen]; unfold nD; congr 1
  rw [this]
  exact pu_op pu_c (pu_var rfl) fun _ _ _ q => ⟨.inl ⟨by decide, by decide⟩, q⟩
theorem filter_sublist {l s : List (Nat × Nat)} (h : s.Sublist l) (nd : l.Nodup) : (l.filter fun x => decide (x ∈ s)) = s := by
  induction h with
  | slnil => rfl
  | @cons s l a h ih =>
    obtain ⟨h1, h2⟩ := List.nodup_cons.mp nd
    have : a ∉ s := fun m => h1 (h.subset m)
    rw [List.filter_cons, if_neg (by simpa using this)]
    exact ih h2
  | @cons_cons s l a h ih =>
    obtain ⟨h1, h2⟩ := List.nodup_cons.mp nd
    rw [List.filter_cons, if_pos (by simp)]
    congr 1
    refine Eq.trans (List.filter_congr fun x hx => ?_) (ih h2)
    have : x ≠ a := fun e => h1 (e ▸ hx)
    simp [this]
theorem webD_of {n : Nat} {s : List (Nat × Nat)} (h : s.Sublist (prs n)) : webD n (fun p => decide (p ∈ s)) = .tup [nD n, .tup (s.map prD)] := by
  unfold webD
  rw [filter_sublist h (nodup_prs n)]
theorem picked {σ : S2} {G G0 : Gp} {st pl : Addr} {n i0 i4 k : Nat} {tc : TT2} {R : List D → Gp → Prop} (h0 : look σ i0 = some (.adr st)) (h4 : look σ i4 = some (.adr pl)) (hk : σ.length = k)
    (hs0 : StAt G0 st) (hne : pl ≠ st) (hx : G.m pl = some ((prs n).map prD)) (hd : DrS st G0 G)
    (hc : ∀ (p : Nat × Nat) (G' : Gp) (Q : Bool → Gp → Prop), p ∈ prs n → StAt G' st → (∀ b G1, Dr st G' G1 → Q b G1) → tc (σ ++ [some (prD p)]) G' Q)
    (hR : ∀ (s : List (Nat × Nat)) (G' : Gp), s.Sublist (prs n) → DrS st G0 G' → R (s.map prD) G') :
    xComp (iV (xVar i4)) bd1 tc (xVar k) σ G R := by
  have lk : ∀ d, look (σ ++ [some d]) k = some d := fun d => by
    subst hk
    clear h0 h4 hc
    induction σ with
    | nil => rfl
    | cons a r ih => exact ih
  refine comp_in ?_
  unfold iV xVar
  rw [h4]
  refine ⟨(prs n).map prD, .inl hx, fun A hA => ?_⟩
  have Apl : A ≠ pl := fun e => by rw [e, hx] at hA; cases hA
  have Ast : A ≠ st := hd.st.ne hA
  have hA0 := hd.own hs0 hA
  refine comp_inv (fun i acc G' => ∃ s : List (Nat × Nat), acc = s.map prD ∧ s.Sublist ((prs n).take i) ∧ G'.m A = some acc ∧ G'.m pl = some ((prs n).map prD) ∧ DrS st G0 G')
    ⟨[], rfl, by simp, gset_same, by rw [gset_ne (Ne.symm Apl)]; exact hx, hd.put hs0 hA0⟩ (fun i acc G' ⟨s, h1, h2, h3, h4, h5⟩ => ⟨.inl h4, h3, by rw [h1, List.length_map]; exact Nat.le_trans h2.length_le (by rw [List.length_take]; omega)⟩) ?_ ?_
  · rintro i x acc G' hi ⟨s, rfl, h2, h3, h4', h5⟩
    obtain ⟨p, hp, rfl⟩ := get_map hi
    refine ⟨[prD p], rfl, hc p G' _ (List.mem_of_getElem? hp) h5.st fun b G1 d1 => ?_⟩
    have m1 : G1.m A = some (s.map prD) := by rw [d1.ne Ast]; exact h3
    have m2 : G1.m pl = some ((prs n).map prD) := by rw [d1.ne hne]; exact h4'
    cases b with
    | false =>
      rw [if_neg (by simp)]
      exact .of ⟨s, rfl, by rw [take_succ hp]; exact h2.trans (List.sublist_append_left _ _), m1, m2, h5.dr d1⟩
    | true =>
      rw [if_pos rfl]
      show match look (σ ++ [some (prD p)]) k with | some d => _ | none => _
      rw [lk]
      refine ⟨m1, .of ⟨s ++ [p], by simp, by rw [take_succ hp]; exact h2.append (List.Sublist.refl _), gset_same, by rw [gset_ne (Ne.symm Apl)]; exact m2, (h5.dr d1).put hs0 hA0⟩⟩
  · rintro acc G' ⟨s, rfl, h2, h3, h4', h5⟩
    rw [List.length_map, List.take_length] at h2
    obtain ⟨G1, d1, s1⟩ := h5
    exact ⟨G1, d1.none hs0 hA0, s1, hR s G1 h2 ⟨G1, d1, .refl _⟩⟩
def sp_l_web : Sp2 := fun ds G R => ∃ (l : Addr) (m : Nat), ds = [.adr l, nD m] ∧ StAt G l ∧ 1 ≤ m ∧ m ≤ 50 ∧ ∀ (n : Nat) (q : Nat × Nat → Bool) (G' : Gp), 1 ≤ n → n ≤ m → Dr l G G' → R (webD n q) G'
def t_l_web : TS2 := (xSeq (xAsg (xOp fAdd (xC (.int 1)) (xCall sp_l_take (xCons (xVar 0) (xCons (xVar 1) xNil)))) (gN 2)) (xSeq (xAsg (xCall sp_l_take (xCons (xVar 0) (xCons (xC (.int 5)) xNil))) (gN 3)) (xSeq (xAsg (xNew (xCallL sp_l_pairs (xCons (xVar 2) xNil))) (gN 4)) (xSeq (xIf (xB (xOp (fEq false) (xVar 3) (xC (.int 0)))) (xRet (xCall sp_l_web_of (xCons (xCall sp_l_ring (xCons (xVar 0) (xCons (xVar 2) xNil))) xNil))) xNext) (xSeq (xIf (xB (xOp (fEq false) (xVar 3) (xC (.int 1)))) (xRet (xTup (xCons (xVar 2) (xCons (xCallF gTuple (xComp (iV (xVar 4)) bd1 (xTOr (xB (xOp (fEq false) (xOp fIx (xVar 6) (xC (.int 1))) (xOp fAdd (xOp fIx (xVar 6) (xC (.int 0))) (xC (.int 1))))) (xB (xOp (fEq false) (xCall sp_l_take (xCons (xVar 0) (xCons (xC (.int 6)) xNil))) (xC (.int 0))))) (xVar 6))) xNil)))) xNext) (xSeq (xAsg (xOp fIx (xNew (xLst (xCons (xC (.int 2)) (xCons (xC (.int 3)) (xCons (xC (.int 4)) xNil))))) (xOp (fII fun i j => .int (i - j)) (xVar 3) (xC (.int 2)))) (gN 5)) (xRet (xTup (xCons (xVar 2) (xCons (xCallF gTuple (xComp (iV (xVar 4)) bd1 (xB (xOp (fEq false) (xCall sp_l_take (xCons (xVar 0) (xCons (xVar 5) xNil))) (xC (.int 0)))) (xVar 6))) xNil))))))))))
theorem r_l_web (ds : List D) (G : Gp) (R : Q2) (h : sp_l_web ds G R) : ds.length = 2 ∧ t_l_web (endsOf R) (start2 ["state", "most", "many", "way", "pairs_v", "far"] ds) G := by
  obtain ⟨l, m, rfl, hs, hm1, hm, h⟩ := h
  refine ⟨rfl, ?_⟩
  unfold t_l_web
  walk_at "rd"
  refine ⟨l, m, rfl, hs, by omega, by omega, fun r G1 hr d1 => ?_⟩
  walk_at "rd"
  refine ⟨l, 5, rfl, d1.st, by omega, by omega, fun way G2 hway d2 => ?_⟩
  have d12 := d1.trans d2
  have e1 : (1 : Int) + (r : Int) = ((r + 1 : Nat) : Int) := by omega
  walk_at "rd"
  rw [e1]
  refine ⟨r + 1, rfl, by omega, fun pl hpl => ?_⟩
  have hpl0 : G.m pl = none := by
    have : pl ≠ l := d2.st.ne hpl
    rw [d12.ne this] at hpl; exact hpl
  have hne : pl ≠ l := hs.ne hpl0
  have hdr : DrS l G (gset G2 pl ((prs (r + 1)).map prD)) := (DrS.put (x := (prs (r + 1)).map prD) ⟨G2, d12, .refl _⟩ hs hpl0)
  have fin : ∀ (s : List (Nat × Nat)) (G' : Gp), s.Sublist (prs (r + 1)) → DrS l G G' → FgR R (.tup [.int ((r + 1 : Nat) : Int), .tup (s.map prD)]) G' := fun s G' hsub hd => hd.fin fun G3 d3 => by
    have := h (r + 1) (fun p => decide (p ∈ s)) G3 (by omega) (by omega) d3
    rw [webD_of hsub] at this
    exact this
  have e0 : eqD (nD way) (.int 0) = decide (way = 0) := by rw [eqD_int]; rw [Bool.eq_iff_iff]; simp
  have e1' : eqD (nD way) (.int 1) = decide (way = 1) := by rw [eqD_int]; rw [Bool.eq_iff_iff]; simp; omega
  refine ⟨rfl, rfl, ?_⟩
  rw [e0]
  by_cases w0 : way = 0
  · rw [decide_eq_true w0, if_pos rfl]
    refine ⟨l, r + 1, rfl, hdr.st, by omega, fun ring G3 hring d3 => ?_⟩
    walk_at "rd"
    refine ⟨r + 1, ring, rfl, hring, by omega, ?_⟩
    exact (hdr.dr d3).fin fun G4 d4 => h _ _ G4 (by omega) (by omega) d4
  · rw [decide_eq_false w0, if_neg (by simp)]
    refine ⟨rfl, rfl, ?_⟩
    rw [e1']
    by_cases w1 : way = 1
    · rw [decide_eq_true w1, if_pos rfl]
      refine picked (k := 6) (i0 := 0) (n := r + 1) rfl rfl rfl hs hne gset_same hdr (fun p G' Q hp hst hQ => ?_) fun s G' hsub hd => ?_
      · show xTOr _ _ _ _ _
        unfold prD
        walk_at "rd"
        refine ⟨rfl, rfl, ?_⟩
        cases eqD (nD p.2) (.int ((p.1 : Int) + 1)) with
        | true => rw [if_pos rfl]; exact hQ true G' (.refl hst)
        | false =>
          rw [if_neg (by simp)]
          refine ⟨l, 6, rfl, hst, by omega, by omega, fun x G3 hx d3 => ?_⟩
          exact ⟨rfl, rfl, hQ _ G3 d3⟩
      · exact fin s G' hsub hd
    · rw [decide_eq_false w1, if_neg (by simp)]
      intro a ha
      have hat : ∃ far : Nat, atI [D.int 2, D.int 3, D.int 4] ((way : Int) - 2) = some (nD far) ∧ 0 < far ∧ far ≤ 4 := by
        have : way = 2 ∨ way = 3 ∨ way = 4 := by omega
        rcases this with rfl | rfl | rfl
        · exact ⟨2, atI_0 _ _, by omega, by omega⟩
        · exact ⟨3, atI_1 _ _ _, by omega, by omega⟩
        · exact ⟨4, atI_2 _ _ _ _, by omega, by omega⟩
      obtain ⟨far, hat, hf1, hf2⟩ := hat
      refine ix_own gset_same hat ?_
      have apl : pl ≠ a := fun e => by rw [← e, gset_same] at ha; cases ha
      have ha0 := hdr.own hs ha
      refine picked (k := 6) (i0 := 0) (n := r + 1) rfl rfl rfl hs hne (by rw [gset_ne apl]; exact gset_same) (hdr.put hs ha0) (fun p G' Q hp hst hQ => ?_) fun s G' hsub hd => ?_
      · show xB _ _ _ _
        walk_at "rd"
        refine ⟨l, far, rfl, hst, by omega, by omega, fun x G3 hx d3 => ?_⟩
        exact ⟨rfl, rfl, hQ _ G3 d3⟩
      · exact fin s G' hsub hd
end K
set_option Elab.async false
set_option linter.all false
set_option maxRecDepth 100000
set_option maxHeartbeats 4000000
namespace K
open PySem PySem.Spec PyProof.Rows L2 L3
local macro_rules | `(tactic| walk_at "rd") => `(tactic| simp only [xRet, xSeq, xAsg, xIf, xDrop, xNext, gN, gNN, xOp, xTup, xLst, xNew, xCons, xNil, xCall, xCallL, xCallF, gTuple, xVar, look, start2, spMin, spMax, fIn_tup, fIx_0, fIx_1, fIx_2, fIx_w0, fIx_w1, fII, fIIC, fAdd, fEq, xC, xB, xTOr, xTAnd, xTNot, xAug, xSetF, List.map, List.cons_append, List.nil_append, List.set_cons_zero, List.set_cons_succ, List.length_cons, List.length_nil, List.replicate_succ, List.replicate_zero, Nat.reduceSub, Nat.reduceAdd, szn0, szn1, szn2, szn3, true_and', ite_tt', ite_ff', if_true, if_false, Bool.false_eq_true])
section
variable {σ : S2} {G : Gp}
theorem fEq_flat {x y : D} {ng : Bool} {G : Gp} {R : Q2} (hx : flat 8 x = true) (hy : flat 8 y = true) (q : R (.bl (if ng then !eqD x y else eqD x y)) G) : fEq ng x y G R := by
  cases x with
  | adr _ => simp [flat] at hx
  | _ => exact ⟨hx, hy, q⟩
theorem pu_eq {ta tb : TE2} {x y : D} {ng b : Bool} (ha : PuE ta σ G x) (hb : PuE tb σ G y) (hx : flat 8 x = true) (hy : flat 8 y = true) (e : (if ng then !eqD x y else eqD x y) = b) : PuE (xOp (fEq ng) ta tb) σ G (.bl b) :=
  pu_op ha hb fun _ _ _ q => fEq_flat hx hy (by rw [e]; exact q)
theorem pu_neSame {ta tb : TE2} {x : D} (ha : PuE ta σ G x) (hb : PuE tb σ G x) (hx : flat 8 x = true) : PuE (xOp (fEq true) ta tb) σ G (.bl false) :=
  pu_eq ha hb hx hx (by rw [eqD_refl x 8 hx]; rfl)
theorem pu_isB {T : String} {t : TE2} {d : D} {b : Bool} (h : PuE t σ G d) (hd : ∀ l, d ≠ .adr l) (hi : isTyB d T = b) : PuE (xIsI T t) σ G (.bl b) := fun G2 e R q => h G2 e _ (by
  subst hi
  cases d with
  | adr l => exact absurd rfl (hd l)
  | _ => exact q)
theorem pu_isI {T : String} {t : TE2} {d : D} (h : PuE t σ G d) (hi : isTyB d T = true) : PuE (xIsI T t) σ G (.bl true) := pu_isB h (fun l z => by subst z; cases hi) hi
theorem pu_or2 {t u : TT2} (h : PuT t σ G false) (h' : PuT u σ G false) : PuT (xTOr t u) σ G false := pu_tor h fun _ => h'
theorem pu_notI {T : String} {t : TE2} {d : D} (h : PuE t σ G d) (hi : isTyB d T = true) : PuT (xTNot (xB (xIsI T t))) σ G false := pu_tnot (pu_b (pu_isI h hi))
theorem if_no {tc : TT2} {t u : TS2} {E : Ends2} (h : PuT tc σ G false) (h' : u E σ G) : xIf tc t u E σ G := h G (.refl G) _ (by rw [if_neg (by simp)]; exact h')
theorem if_yes {tc : TT2} {t u : TS2} {E : Ends2} (h : PuT tc σ G true) (h' : t E σ G) : xIf tc t u E σ G := h G (.refl G) _ (by rw [if_pos rfl]; exact h')
theorem seq_if_no {tc : TT2} {t u : TS2} {E : Ends2} (h : PuT tc σ G false) (h' : u E σ G) : xSeq (xIf tc t xNext) u E σ G := h G (.refl G) _ (by rw [if_neg (by simp)]; exact h')
theorem ret_l {te : TE2} {E : Ends2} {d : D} (h : PuE te σ G d) (h' : E.rt d G) : xRet te E σ G := h G (.refl G) _ h'
theorem seq_asgG {te : TE2} {g : TG2} {u : TS2} {E : Ends2} (h : te σ G fun d G1 => g d σ G1 fun σ' G' => u E σ' G') : xSeq (xAsg te g) u E σ G := h
theorem call_l {sp : Sp2} {t : TA2} {ds : List D} {R : Q2} (h : PuA t σ G ds) (h' : sp ds G R) : xCall sp t σ G R := h G (.refl G) _ h'
theorem cons_l {ta : TE2} {tr : TA2} {d : D} {R : List D → Gp → Prop} (h : PuE ta σ G d) (h' : tr σ G fun xs G2 => R (d :: xs) G2) : xCons ta tr σ G R := h G (.refl G) _ h'
theorem cons_g {ta : TE2} {tr : TA2} {R : List D → Gp → Prop} (h : ta σ G fun d G1 => tr σ G1 fun xs G2 => R (d :: xs) G2) : xCons ta tr σ G R := h
theorem new_l {tl : TL2} {ds : List D} {R : Q2} (h : PuL tl σ G ds) (h' : ∀ l, G.m l = none → R (.adr l) (gset G l ds)) : xNew tl σ G R := h G (.refl G) _ h'
theorem seq_asg {te : TE2} {g : TG2} {u : TS2} {E : Ends2} {d : D} (h : PuE te σ G d) (h' : g d σ G fun σ' G' => u E σ' G') : xSeq (xAsg te g) u E σ G := h G (.refl G) _ h'
theorem _root_.L3.Dr.new {l : Addr} {G G' : Gp} {x : List D} (h : Dr l (gset G l x) G') (n : G.m l = none) : Ext G G' := by
  obtain ⟨s, b, rfl, _⟩ := h
  rw [gset_gset]
  exact .new n
end
theorem nodup_map_on {α β : Type} {f : α → β} : ∀ {l : List α}, (∀ x ∈ l, ∀ y ∈ l, f x = f y → x = y) → l.Nodup → (l.map f).Nodup
  | [], _, _ => by simp
  | a :: r, hf, h => by
    obtain ⟨ha, hr⟩ := List.nodup_cons.mp h
    rw [List.map_cons]
    refine List.nodup_cons.mpr ⟨fun hm => ?_, nodup_map_on (fun x hx y hy => hf x (by simp [hx]) y (by simp [hy])) hr⟩
    obtain ⟨b, hb, e⟩ := List.mem_map.mp hm
    exact ha (hf b (by simp [hb]) a (by simp) e ▸ hb)
theorem mem_lar {n : Nat} {q : Nat × Nat → Bool} {i x : Nat} (hi : i < n) : x ∈ lar n q i ↔ x < n ∧ adj q i x = true := by
  unfold lar adj
  simp only [List.mem_map, List.mem_filter, mem_prs, Bool.and_eq_true, decide_eq_true_eq, Bool.or_eq_true]
  constructor
  · rintro ⟨⟨a, b⟩, ⟨⟨⟨h1, h2⟩, h3⟩, h4⟩, rfl⟩
    dsimp only at h1 h2 h3 h4 ⊢
    rcases h4 with rfl | rfl
    · have e : a + b - a = b := by omega
      rw [e, Nat.min_eq_left (by omega), Nat.max_eq_right (by omega)]
      exact ⟨h2, by omega, h3⟩
    · have e : a + b - b = a := by omega
      rw [e, Nat.min_eq_right (by omega), Nat.max_eq_left (by omega)]
      exact ⟨by omega, by omega, h3⟩
  · rintro ⟨h1, h2, h3⟩
    refine ⟨(min i x, max i x), ⟨⟨⟨by dsimp only; omega, by dsimp only; omega⟩, h3⟩, by dsimp only; omega⟩, by dsimp only; omega⟩
theorem nodup_lar {n : Nat} {q : Nat × Nat → Bool} {i : Nat} : (lar n q i).Nodup := by
  unfold lar
  refine nodup_map_on (fun x hx y hy e => ?_) (((nodup_prs n).filter _).filter _)
  simp only [List.mem_filter, mem_prs, Bool.or_eq_true, decide_eq_true_eq] at hx hy
  obtain ⟨a, b⟩ := x
  obtain ⟨c, d⟩ := y
  dsimp only at hx hy e
  rw [Prod.mk.injEq]
  omega
theorem lar_perm {n : Nat} {q : Nat × Nat → Bool} {i : Nat} (hi : i < n) : ((List.range n).filter (adj q i)).Perm (lar n q i) :=
  (List.perm_ext_iff_of_nodup (List.nodup_range.filter _) nodup_lar).mpr fun x => by rw [mem_lar hi, List.mem_filter, List.mem_range]
theorem lar_len {n : Nat} {q : Nat × Nat → Bool} {i : Nat} (hi : i < n) (hn : n < 64) : (lar n q i).length < 64 := by
  rw [← (lar_perm hi).length_eq]
  have := List.length_filter_le (adj q i) (List.range n)
  simp at this; omega
theorem pu_rounds {σ : S2} {G : Gp} {a : Addr} {ns : List Int} {c : Int} (hc : 1 ≤ c ∧ c ≤ 100) (h : look σ 0 = some (.adr a)) (ha : Ls G a (ns.map D.int)) :
    ∃ m : Nat, PuI (iR1 (xCons (xCall spMax (xCons (xC (.int 1)) (xCons (xCall spMin (xCons (xCall spLen (xCons (xVar 0) xNil)) (xCons (xC (.int c)) xNil))) xNil))) xNil)) σ G ((List.range m).map nD) := by
  have h1 : PuE (xCall spLen (xCons (xVar 0) xNil)) σ G (.int (ns.length : Int)) := pu_call (pu_cons (pu_var h) pu_nil) fun G2 e R q => ⟨ns.map D.int, e.ls ha, by rw [List.length_map]; exact q⟩
  have h2 : PuE (xCall spMin (xCons (xCall spLen (xCons (xVar 0) xNil)) (xCons (xC (.int c)) xNil))) σ G (.int (if c < (ns.length : Int) then c else ns.length)) := pu_call (pu_cons h1 (pu_cons pu_c pu_nil)) fun _ _ _ q => q
  have h3 : PuE (xCall spMax (xCons (xC (.int 1)) (xCons (xCall spMin (xCons (xCall spLen (xCons (xVar 0) xNil)) (xCons (xC (.int c)) xNil))) xNil))) σ G (.int (if (if c < (ns.length : Int) then c else ns.length) > 1 then (if c < (ns.length : Int) then c else ns.length) else 1)) := pu_call (pu_cons pu_c (pu_cons h2 pu_nil)) fun _ _ _ q => q
  have hb : (if (if c < (ns.length : Int) then c else ns.length) > 1 then (if c < (ns.length : Int) then c else (ns.length : Int)) else 1) ≤ 100 ∧ 1 ≤ (if (if c < (ns.length : Int) then c else ns.length) > 1 then (if c < (ns.length : Int) then c else (ns.length : Int)) else 1) := by
    split <;> split <;> omega
  generalize (if (if c < (ns.length : Int) then c else ns.length) > 1 then (if c < (ns.length : Int) then c else (ns.length : Int)) else 1) = m at h3 hb
  refine ⟨m.toNat, ?_⟩
  have : (m.toNat : Int) = m := by omega
  have q := pu_range1 (pu_cons h3 pu_nil) (by omega)
  rw [← this, rangeD0] at q
  exact q
theorem law_reads {a : Addr} {G : Gp} {σ : S2} {k : Nat} {ns : List Int} {i j : Nat} (hs : look σ i = some (.adr a)) (hk : look σ j = some (nD k)) (ha : Ls G a (ns.map D.int)) {R : Q2} (h : ∀ l s b, G.m l = none → OkS s b → R (.adr l) (gset G l [.int s, .bl b])) : xNew (xCallL sp_l_state (xCons (xVar i) (xCons (xVar j) xNil))) σ G R := by
  unfold xNew xCallL xCons xNil xVar
  simp only [hs, hk]
  exact ⟨a, ns, k, rfl, ha, fun s b o l hl => h l s b hl o⟩
theorem seq_state {a : Addr} {G : Gp} {σ : S2} {k x : Nat} {ns : List Int} {i j : Nat} {u : TS2} {E : Ends2} (hs : look σ i = some (.adr a)) (hk : look σ j = some (nD k)) (ha : Ls G a (ns.map D.int)) (h : ∀ l s b, G.m l = none → OkS s b → u E (σ.set x (some (.adr l))) (gset G l [.int s, .bl b])) :
    xSeq (xAsg (xNew (xCallL sp_l_state (xCons (xVar i) (xCons (xVar j) xNil)))) (gN x)) u E σ G := by
  have := law_reads (σ := σ) (G := G) (R := fun d G1 => gN x d σ G1 (u E)) hs hk ha fun l s b hl ok => h l s b hl ok
  exact this
end K
set_option Elab.async false
set_option linter.all false
set_option maxRecDepth 100000
set_option maxHeartbeats 4000000
namespace K
open PySem PySem.Spec PyProof.Rows L2 L3
local macro_rules | `(tactic| walk_at "rd") => `(tactic| simp only [xRet, xSeq, xAsg, xIf, xDrop, xNext, gN, gNN, xOp, xTup, xLst, xNew, xCons, xNil, xCall, xCallL, xCallF, gTuple, xVar, look, start2, spMin, spMax, fIn_tup, fIx_0, fIx_1, fIx_2, fIx_w0, fIx_w1, fII, fIIC, fAdd, fEq, xC, xB, xTOr, xTAnd, xTNot, xAug, xSetF, List.map, List.cons_append, List.nil_append, List.set_cons_zero, List.set_cons_succ, List.length_cons, List.length_nil, List.replicate_succ, List.replicate_zero, Nat.reduceSub, Nat.reduceAdd, szn0, szn1, szn2, szn3, true_and', ite_tt', ite_ff', if_true, if_false, Bool.false_eq_true])
theorem getD_mem {ps : List Nat} {i : Nat} (h : i < ps.length) : ps.getD i 0 ∈ ps := by
  simp [List.getD, h]
theorem seqOf_sub {G G' : Gp} {d : D} {ds : List D} (h : seqOf G d ds) (s : Sub G G') : seqOf G' d ds := by
  cases d with
  | tup _ => exact h
  | adr l => exact Ls.sub h s
  | _ => exact h
theorem pu_sortedP {σ : S2} {G : Gp} {t : TA2} {d : D} {l s : List Nat} (h : PuA t σ G [d]) (hq : seqOf G d (l.map nD)) (hl : l.length < 64) (hp : s.Perm l) (hs : s.Pairwise (· ≤ ·)) : PuL (xSorted t) σ G (s.map nD) := fun G2 e R q => h G2 e _ (by
  have e1 : l.map nD = (l.map fun (k : Nat) => (k : Int)).map D.int := by simp [nD]
  refine ⟨l.map fun (k : Nat) => (k : Int), by rw [← e1]; exact seqOf_sub hq e.sub, by simpa using hl, fun ns' p1 p2 => ?_⟩
  have : ns' = s.map fun (k : Nat) => (k : Int) := by
    refine List.Perm.eq_of_pairwise (fun a b _ _ h1 h2 => Int.le_antisymm h1 h2) p2 ?_ (p1.trans (hp.map _).symm)
    exact List.Pairwise.map _ (fun a b h => by omega) hs
  subst this
  rw [List.map_map]
  exact q)
end K
set_option Elab.async false
set_option linter.all false
set_option maxRecDepth 100000
set_option maxHeartbeats 4000000
namespace K
open PySem PySem.Spec PyProof.Rows L2 L3
local macro_rules | `(tactic| walk_at "rd") => `(tactic| simp only [xRet, xSeq, xAsg, xIf, xDrop, xNext, gN, gNN, xOp, xTup, xLst, xNew, xCons, xNil, xCall, xCallL, xCallF, gTuple, xVar, look, start2, spMin, spMax, fIn_tup, fIx_0, fIx_1, fIx_2, fIx_w0, fIx_w1, fII, fIIC, fAdd, fEq, xC, xB, xTOr, xTAnd, xTNot, xAug, xSetF, List.map, List.cons_append, List.nil_append, List.set_cons_zero, List.set_cons_succ, List.length_cons, List.length_nil, List.replicate_succ, List.replicate_zero, Nat.reduceSub, Nat.reduceAdd, szn0, szn1, szn2, szn3, true_and', ite_tt', ite_ff', if_true, if_false, Bool.false_eq_true])
theorem eqD_nD (i j : Nat) : eqD (nD i) (nD j) = decide (i = j) := by rw [eqD_int, Bool.eq_iff_iff]; simp; omega
theorem iv_l {σ : S2} {G : Gp} {t : TE2} {ds : List D} {R : List D → (Gp → Prop) → Gp → Prop} (h : PuE t σ G (.tup ds)) (h' : R ds (fun _ => True) G) : iV t σ G R := h G (.refl G) _ h'
theorem if_l {σ : S2} {G : Gp} {t : TL2} {R : List D → (Gp → Prop) → Gp → Prop} (h : t σ G fun ds G1 => ∀ a, G1.m a = none → R ds (fun G => Ls G a ds) (gset G1 a ds)) : iF t σ G R := h
theorem lst_l {σ : S2} {G : Gp} {t : TA2} {R : List D → Gp → Prop} (h : t σ G fun ds G1 => ds.length ≤ sizeLine ∧ R ds G1) : xLst t σ G R := h
theorem nil_l {σ : S2} {G : Gp} {R : List D → Gp → Prop} (h : R [] G) : xNil σ G R := h
theorem for_eachR {ds : List D} {gd : Gp → Prop} {G1 : Gp} {g : TG2} {tb : TS2} {E : Ends2} {σ : S2} (hgd : gd G1)
    (hb : ∀ x ∈ ds, g x σ G1 fun σ2 G2 => tb { E with nx := fun σ' G' => SubS σ σ' ∧ Sub G1 G', ct := fun σ' G' => SubS σ σ' ∧ Sub G1 G', bk := E.nx } σ2 G2) (h : E.nx σ G1) : ForR ds gd G1 g tb E σ := by
  refine ⟨fun i σ' G' => σ' = σ ∧ G' = G1, ⟨rfl, rfl⟩, ?_, ?_, ?_⟩
  · rintro i σ' G' _ ⟨rfl, rfl⟩
    exact hgd
  · rintro i x σ' G' hi ⟨rfl, rfl⟩
    rw [fg_same]
    exact hb x (List.mem_of_getElem? hi)
  · rintro σ' G' ⟨rfl, rfl⟩
    exact h
theorem pu_cat {σ : S2} {G : Gp} {t u : TE2} {xs ys : List D} (h : PuE t σ G (.tup xs)) (h' : PuE u σ G (.tup ys)) (hl : xs.length + ys.length ≤ 1000000) : PuE (xOp fAdd t u) σ G (.tup (xs ++ ys)) := pu_op h h' fun _ _ _ q => ⟨hl, q⟩
end K
set_option Elab.async false
set_option linter.all false
set_option maxRecDepth 100000
set_option maxHeartbeats 4000000
namespace K
open PySem PySem.Spec PyProof.Rows L2 L3
def isNumB : D → Bool
  | .int _ => true
  | _ => false
def sp_is_number : Sp2 := fun ds G R => ∃ d, ds = [d] ∧ (((∀ l, d ≠ .adr l) ∧ R (.bl (isNumB d)) G) ∨ ∃ l es, d = .adr l ∧ Ls G l es ∧ R (.bl false) G)
def t_is_number : TS2 := (xRet (xAnd (xIsI "int" (xVar 0)) (xNot (xIsI "bool" (xVar 0)))))
theorem r_is_number (ds : List D) (G : Gp) (R : Q2) (h : sp_is_number ds G R) : ds.length = 1 ∧ t_is_number (endsOf R) (start2 ["thing"] ds) G := by
  obtain ⟨d, rfl, h⟩ := h
  refine ⟨rfl, ?_⟩
  unfold t_is_number xRet xAnd xNot xIsI xVar
  rcases h with ⟨hd, h⟩ | ⟨l, es, rfl, hl, h⟩
  · cases d with
    | adr l => exact absurd rfl (hd l)
    | _ => exact .of h
  · refine ⟨⟨es, hl⟩, ?_⟩
    exact .of h
theorem pu_chain2 {σ : S2} {G : Gp} {f g : Int → Int → Bool} {ta tb tc : TE2} {i j k : Int} (ha : PuE ta σ G (.int i)) (hb : PuE tb σ G (.int j)) (hc : PuE tc σ G (.int k)) : PuE (xChain2 (fII fun i j => .bl (f i j)) (fII fun i j => .bl (g i j)) ta tb tc) σ G (.bl (f i j && g j k)) := fun G2 e R q => ha G2 e _ (hb G2 e _ (by
  show if f i j = true then _ else _
  cases hf : f i j with
  | true => rw [if_pos rfl]; rw [hf] at q; exact hc G2 e _ q
  | false => rw [if_neg (by simp)]; rw [hf] at q; exact q))
def ltP (a b : Nat × Nat) : Prop := a.1 < b.1 ∨ a.1 = b.1 ∧ a.2 < b.2
theorem prs_rise (n : Nat) : (prs n).Pairwise ltP := by
  unfold prs
  rw [List.pairwise_flatMap]
  refine ⟨fun i _ => ?_, ?_⟩
  · rw [List.pairwise_map]
    exact List.pairwise_lt_range.imp fun {a b} h => .inr ⟨rfl, by dsimp only; omega⟩
  · refine List.pairwise_lt_range.imp fun {a b} h x hx y hy => ?_
    obtain ⟨_, _, rfl⟩ := List.mem_map.mp hx
    obtain ⟨_, _, rfl⟩ := List.mem_map.mp hy
    exact .inl h
theorem pu_all {σ : S2} {G : Gp} {tl : TL2} {bs : List Bool} (h : PuL tl σ G (bs.map D.bl)) : PuE (xCallF gAll tl) σ G (.bl (bs.all id)) := fun G2 e R q => h G2 e _ ⟨bs, rfl, q⟩
theorem pu_and {σ : S2} {G : Gp} {ta tb : TE2} {b : Bool} (ha : PuE ta σ G (.bl true)) (hb : PuE tb σ G (.bl b)) : PuE (xAnd ta tb) σ G (.bl b) := fun G2 e R q => ha G2 e _ (by
  show if true = true then _ else _
  rw [if_pos rfl]
  exact hb G2 e _ q)
end K
set_option Elab.async false
set_option linter.all false
set_option maxRecDepth 100000
set_option maxHeartbeats 4000000
namespace HT
open PySem PySem.Spec PyProof.Rows
open AutoSeq1 (wpAny_loadPart')
theorem rv_next : Slot "reversed" "__next__" "reversed.__next__" :=
  .of (owner := "reversed") (n := "__next__") (by rw [typeLookup_type, builtinLookup_eq_fast]; kernel_rfl) (by decide +kernel) (by decide +kernel) (by decide +kernel)
    (by first | exact .inl (by decide +kernel) | exact .inr (by decide +kernel)) (by rw [isSubtype_type]; kernel_rfl)
theorem rv_iter : Slot "reversed" "__iter__" "reversed.__iter__" :=
  .of (owner := "reversed") (n := "__iter__") (by rw [typeLookup_type, builtinLookup_eq_fast]; kernel_rfl) (by decide +kernel) (by decide +kernel) (by decide +kernel)
    (by first | exact .inl (by decide +kernel) | exact .inr (by decide +kernel)) (by rw [isSubtype_type]; kernel_rfl)
theorem rv_entry_next : entryFor table "reversed.__next__" = some Builtin.«reversed.__next__» := entryFor_of_tree (by kernel_rfl)
theorem rv_args_next (a : Value) : argsOk "reversed.__next__" ⟨[a], []⟩ := by unfold argsOk; kernel_rfl
theorem rv_args_iter (a : Value) : argsOk "reversed.__iter__" ⟨[a], []⟩ := by unfold argsOk; kernel_rfl
theorem rv_entry_iter : entryFor table "reversed.__iter__" = some Builtin.«dict_keyiterator.__iter__» :=
  entryFor_alias (id' := "dict_keyiterator.__iter__") (by kernel_rfl) (by first | rfl | decide +kernel | (unfold String.splitOn; simp +decide [String.splitOnAux])) (by decide +kernel) (by kernel_rfl)
end HT
set_option Elab.async false
set_option linter.all false
set_option maxRecDepth 100000
set_option maxHeartbeats 4000000
namespace HT
open PySem PySem.Spec PyProof.Rows
open AutoSeq1 (wpAny_loadPart')
section
variable {prog : Program} {w : World} {A : Around} {E : Value → Shared → Prop} {s : Shared}
def IsRv (h : Heap) (a l : Addr) (i : Int) : Prop := ∃ o, h.get? a = some o ∧ o.cls = .type "reversed" ∧ o.data = .fields #[.ref l, rawInt i]
theorem IsRv.typeIs {a l : Addr} {i : Int} (x : IsRv s.heap a l i) : s.TypeIs (.ref a) "reversed" := let ⟨o, ho, hc, _⟩ := x; ⟨o, ho, hc⟩
theorem IsRv.at' {h h' : Heap} {a l : Addr} {i : Int} (x : IsRv h a l i) (e : ∀ o, h.get? a = some o → h'.get? a = some o) : IsRv h' a l i := let ⟨o, ho, r⟩ := x; ⟨o, e _ ho, r⟩
theorem next_rv {it l : Addr} {i : Nat} {items : Array Value} {x : Value} {Q : Option Value → Shared → Prop} (hit : IsRv s.heap it l (i : Int)) (hl : IsTup s.heap l items) (hx : items[i]? = some x) (hz : items.size ≤ sizeLine)
    (hQ : ∀ h' tk, s.toks ≤ tk → IsRv h' it l ((i : Int) - 1) → Heap.SameBut it s.heap h' → Q (some x) { s with heap := h', toks := tk }) : wpAny (model prog w) A (pyNext (.ref it)) Q E s := by
  obtain ⟨o, ho, hc, hd⟩ := id hit
  have hi : i < items.size := (Array.getElem?_eq_some_iff.mp hx).1
  rw [sizeLine_eq] at hz
  unfold pyNext
  refine wpAny_bind (wpAny_attempt (wpAny_callSpecial?_slot (name := Str.ofString "__next__") hit.typeIs rv_next
    (wpAny_call_entry rv_next hit.typeIs rv_entry_next ?_ (rv_args_next _))))
  unfold Builtin.«reversed.__next__»
  refine wpAny_bind (wpAny_of_eq (a := (Value.ref it, [])) rfl ?_)
  try dsimp only
  refine wpAny_bind (wpAny_field ho hd (x := .ref l) rfl ?_)
  refine wpAny_bind (wpAny_field ho hd (x := rawInt (i : Int)) rfl ?_)
  show wpAny _ _ (if (i : Int) < 0 then _ else _) _ _ s
  rw [if_neg (by omega)]
  refine wpAny_bind (wpAny_specialOf hl.typeIs PyProof.Rows.slot_tuple_getitem.lookup ?_)
  show wpAny _ _ (if (false : Bool) = true then _ else _) _ _ s
  rw [if_neg (by simp)]
  refine wpAny_bind (wpAny_mkInt ?_)
  refine wpAny_bind (wpAny_attempt (PyProof.Rows.getItem_tuple (s := { s with toks := s.toks + 1 }) hl (k := (i : Int)) (j := i) (x := x) (by omega) (by omega) (by unfold seqIndex?; simp; omega) hx ?_))
  dsimp only
  refine wpAny_bind (wpAny_field ho hd (x := rawInt (i : Int)) rfl ?_)
  refine wpAny_bind (wpAny_setField ho hd (by simp) ?_)
  exact wpAny_pure ⟨x, rfl, wpAny_pure (hQ _ _ (by simp) ⟨_, Heap.get?_update_self _ ho (Obj.isFreed_of_fields (Obj.data_mapFields hd _)), (Obj.cls_mapFields ..).trans hc, by rw [Obj.data_mapFields hd]; simp⟩ (Heap.SameBut.update ..))⟩
theorem end_rv {it l : Addr} {Q : Option Value → Shared → Prop} (hh : A.handled = none) (hit : IsRv s.heap it l (-1))
    (hQ : ∀ h', Heap.ExtBut it s.heap h' → Q none { s with heap := h' }) : wpAny (model prog w) A (pyNext (.ref it)) Q E s := by
  obtain ⟨o, ho, hc, hd⟩ := id hit
  unfold pyNext
  refine wpAny_bind (wpAny_attempt (wpAny_callSpecial?_slot (name := Str.ofString "__next__") hit.typeIs rv_next
    (wpAny_call_entry rv_next hit.typeIs rv_entry_next ?_ (rv_args_next _))))
  unfold Builtin.«reversed.__next__»
  refine wpAny_bind (wpAny_of_eq (a := (Value.ref it, [])) rfl ?_)
  try dsimp only
  refine wpAny_bind (wpAny_field ho hd (x := .ref l) rfl ?_)
  refine wpAny_bind (wpAny_field ho hd (x := rawInt (-1)) rfl ?_)
  show wpAny _ _ (if (-1 : Int) < 0 then _ else _) _ _ s
  rw [if_pos (by decide)]
  refine wpAny_bind (wpAny_rule ?_)
  refine wpAny_bind ?_
  wp_delta
  refine wpAny_bind (wpAny_setField ho hd (by simp) ?_)
  have ho2 := Heap.get?_update_self (Obj.mapFields (·.setIfInBounds 1 (rawInt (-1)))) ho (Obj.isFreed_of_fields (Obj.data_mapFields hd _))
  refine wpAny_setField ho2 (Obj.data_mapFields hd _) (by simp) ?_
  refine wpAny_bind ?_
  first
  | show wpAny _ _ (newExc (.type "StopIteration") [] >>= _) _ _ _
  | (refine wpAny_bind ?_; show wpAny _ _ (newExc (.type "StopIteration") [] >>= _) _ _ _)
  refine wpAny_bind ?_
  simp only [newExc, newTuple]
  refine wpAny_bind (wpAny_newObj_type ?_ (by size_fits))
  refine wpAny_bind (m := firstArgMember _ _) (wpAny_of_eq (a := Value.none) (by first | rfl | (simp only [firstArgMember]; rfl)) ?_)
  refine wpAny_newObj_type ?_ (by size_fits)
  simp only [raiseNew]
  refine wpAny_bind (wpAny_handled ?_)
  first | rw [show A.in1.handled = none from hh] | rw [hh]
  refine wpAny_bind (wpAny_pure (wpAny_throw ?_))
  refine wpAny_bind (wpAny_isInstance (T := "StopIteration") (b := true) ⟨_, Heap.get?_push_size _ rfl, rfl⟩ isSubtype_stop ?_)
  exact wpAny_pure (hQ _ (fun b o hb e => Heap.get?_push_of_some _ (Heap.get?_push_of_some _ ((Heap.get?_update_other _ _ (Ne.symm hb)).trans ((Heap.get?_update_other _ _ (Ne.symm hb)).trans e)))))
theorem iter_rv {it l : Addr} {i : Int} {Q : Value → Shared → Prop} (hit : IsRv s.heap it l i) (h : Q (.ref it) s) : wpAny (model prog w) A (pyIter (.ref it)) Q E s := by
  refine wpAny_pyIter_slot hit.typeIs rv_iter (wpAny_call_entry rv_iter hit.typeIs rv_entry_iter ?_ (rv_args_iter _))
  show wpAny _ _ (ret (.ref it)) _ _ s
  exact wpAny_pure ⟨_, rfl, "reversed", _, hit.typeIs, rv_next.lookup, h⟩
theorem Walks.rev {prog : Program} {w : World} {A : Around} (hh : A.handled = none) (I l : Addr) (hne : l ≠ I) (items : Array Value) (hz : items.size ≤ sizeLine) :
    Walks prog w A I [I, l] [I] items.size (fun i v => items[items.size - 1 - i]? = some v) (fun i h => i ≤ items.size ∧ IsRv h I l ((items.size : Int) - 1 - (i : Int)) ∧ IsTup h l items) where
  sub := fun b hb => by simp at hb; simp [hb]
  frame := fun _ _ _ x hk => ⟨x.1, x.2.1.at' fun o e => hk I (by simp) o e, IsTup.at' x.2.2 fun o e => hk l (by simp) o e⟩
  item := fun i s Q E hi x hQ => by
    have e : (items.size : Int) - 1 - (i : Int) = ((items.size - 1 - i : Nat) : Int) := by omega
    have hit := x.2.1
    rw [e] at hit
    have hx : items[items.size - 1 - i]? = some (items[items.size - 1 - i]'(by omega)) := Array.getElem?_eq_getElem (by omega)
    refine next_rv hit x.2.2 hx hz fun h' tk _ hit' hs' => ?_
    have e2 : ((items.size - 1 - i : Nat) : Int) - 1 = (items.size : Int) - 1 - ((i + 1 : Nat) : Int) := by omega
    rw [e2] at hit'
    exact hQ _ h' tk hx ⟨hi, hit', IsTup.at' x.2.2 fun o eo => (hs'.2 l hne).trans eo⟩ fun b o hb eo => hs'.extBut b o (fun h => hb (by simp [h])) eo
  done := fun s Q E x hQ => by
    have e : (items.size : Int) - 1 - (items.size : Int) = -1 := by omega
    have hit := x.2.1
    rw [e] at hit
    exact end_rv hh hit fun h' he' => hQ h' s.toks fun b o hb eo => he' b o (fun h => hb (by simp [h])) eo
  self := fun _ _ _ _ x hQ => iter_rv x.2.1 hQ
end
end HT
set_option Elab.async false
set_option linter.all false
set_option maxRecDepth 100000
set_option maxHeartbeats 4000000
namespace L3
open PySem PySem.Spec PyProof.Rows L2
section
variable {X : Cx} {a b c e o : Expr} {es : List Expr} {pos p : Pos} {ta tb te : TE2}
end
end L3
namespace L3
open PySem PySem.Spec PyProof.Rows L2
section
variable {X : Cx} {a b c e o : Expr} {es : List Expr} {pos p : Pos} {ta tb te : TE2} {tl : TL2}
def TupsH (K : PySem.W.Frag) (H : Hp) (as : List Addr) (nss : List (List Int)) : Prop := as.length = nss.length ∧ ∀ (i : Nat) a ns, as[i]? = some a → nss[i]? = some ns → SqT K H a (ns.map V.int)
theorem TupsH.at {pins : List (Addr × Obj)} {s : Shared} {σ : L2.St} {H : Hp} {as : List Addr} {nss : List (List Int)} (I : Inv X pins σ H s) (h : TupsH X.K H as nss) : HT.TupsAt s.heap as nss := by
  refine ⟨h.1, fun i a ns h1 h2 => ?_⟩
  obtain ⟨its, rv, ht, _⟩ := I.tuple (h.2 i a ns h1 h2)
  exact ⟨its, ht, intsAre_of rv⟩
def tupI (ns : List Int) : D := .tup (ns.map D.int)
end
end L3
set_option Elab.async false
set_option linter.all false
set_option maxRecDepth 100000
set_option maxHeartbeats 4000000
namespace HT
open PySem PyProof.Rows
section
open PySem.SeqAt
open PySem.AutoSeq1 (wpAny_loadPart')
open PySem.MeetsSeq PySem.MeetsSeq2 PySem.MeetsSeq3
end
section
variable {prog : Program} {w : World} {A : Around} {E : Value → Shared → Prop} {s : Shared}
end
end HT
namespace L3
open PySem PySem.Spec PyProof.Rows L2
section
variable {X : Cx} {a b c e o : Expr} {es : List Expr} {pos p : Pos} {ta tb te : TE2}
end
end L3
set_option Elab.async false
set_option linter.all false
set_option maxRecDepth 100000
set_option maxHeartbeats 4000000
namespace L3
open PySem PySem.Spec PyProof.Rows L2
section
variable {X : Cx} {a b c e o : Expr} {es : List Expr} {pos p : Pos} {ta tb te : TE2}
end
end L3
set_option Elab.async false
set_option linter.all false
set_option maxRecDepth 100000
set_option maxHeartbeats 4000000
namespace L3
open PySem PySem.Spec PyProof.Rows L2
section
variable {X : Cx} {a b c e o : Expr} {es : List Expr} {pos p : Pos} {ta tb te : TE2}
end
end L3
set_option Elab.async false
set_option linter.all false
set_option maxRecDepth 100000
set_option maxHeartbeats 4000000
namespace HT
open PySem PySem.Spec PyProof.Rows
open PySem.AutoSeq1 (wpAny_loadPart')
section
variable {prog : Program} {w : World} {A : Around} {E : Value → Shared → Prop} {s : Shared}
end
end HT
namespace L3
open PySem PySem.Spec PyProof.Rows L2
section
variable {X : Cx} {a b c e o : Expr} {es : List Expr} {pos p : Pos} {ta tb te : TE2}
theorem Vals.rep {xs : List V} {us : List Value} (r : Vals xs us) : ∀ n : Nat, Vals (List.replicate n xs).flatten (List.replicate n us).flatten
  | 0 => .nil
  | n + 1 => by
    rw [List.replicate_succ, List.replicate_succ, List.flatten_cons, List.flatten_cons]
    exact r.append (Vals.rep r n)
end
end L3
set_option Elab.async false
set_option linter.all false
set_option maxRecDepth 100000
set_option maxHeartbeats 4000000
namespace HT
open PySem PySem.Spec PyProof.Rows
open PySem.AutoSeq1 (wpAny_loadPart')
section
variable {prog : Program} {w : World} {A : Around} {E : Value → Shared → Prop} {s : Shared}
end
end HT
namespace L3
open PySem PySem.Spec PyProof.Rows L2
section
variable {X : Cx} {a b c e o : Expr} {es : List Expr} {pos p : Pos} {ta tb te : TE2}
end
end L3
set_option Elab.async false
set_option linter.all false
set_option maxRecDepth 100000
set_option maxHeartbeats 4000000
namespace HZ
open PySem PySem.Spec PyProof.Rows
structure Zs (prog : Program) (w : World) (i l : Addr) (xs : Array Value) where
  It : Nat → Heap → Prop
  Sq : Heap → Prop
  item : ∀ (A : Around) (E : Value → Shared → Prop) (s : Shared) (k : Nat) (x : Value) (Q : Value → Shared → Prop), It k s.heap → Sq s.heap → xs[k]? = some x → (∀ h', It (k + 1) h' → Heap.SameBut i s.heap h' → Q x { s with heap := h' }) → wpAny (model prog w) A (Builtin.SmallTypes.nextOf (.ref i)) Q E s
  fin : ∀ (A : Around) (E : Value → Shared → Prop) (s : Shared) (k : Nat) (Q : Value → Shared → Prop), A.handled = none → It k s.heap → Sq s.heap → xs[k]? = none → (∀ h' e, Heap.ExtBut i s.heap h' → (∃ o, h'.get? e = some o ∧ o.cls = .type "StopIteration") → E (.ref e) { s with heap := h' }) → wpAny (model prog w) A (Builtin.SmallTypes.nextOf (.ref i)) Q E s
  itAt : ∀ {k : Nat} {h h' : Heap}, It k h → (∀ o, h.get? i = some o → h'.get? i = some o) → It k h'
  sqAt : ∀ {h h' : Heap}, Sq h → (∀ o, h.get? l = some o → h'.get? l = some o) → Sq h'
  itHas : ∀ {k : Nat} {h : Heap}, It k h → ∃ o, h.get? i = some o ∧ ∀ v, o.data ≠ .cell v
theorem Zs.lt {prog : Program} {w : World} {i l : Addr} {xs : Array Value} (Z : Zs prog w i l xs) {k : Nat} {h : Heap} (x : Z.It k h) : i < h.objs.size := let ⟨_, e, _⟩ := Z.itHas x; Heap.lt_size e
section
variable {prog : Program} {w : World} {A : Around} {E : Value → Shared → Prop} {s : Shared}
end
theorem IsTupleIter.at' {h h' : Heap} {a t : Addr} {i : Nat} (x : h.IsTupleIter a t i) (k : ∀ o, h.get? a = some o → h'.get? a = some o) : h'.IsTupleIter a t i := let ⟨o, e, r⟩ := x; ⟨o, k o e, r⟩
theorem IsTuple.at' {h h' : Heap} {a : Addr} {its : Array Value} (x : h.IsTuple a its) (k : ∀ o, h.get? a = some o → h'.get? a = some o) : h'.IsTuple a its := let ⟨o, e, r⟩ := x; ⟨o, k o e, r⟩
structure Ap (z a b i j l m : Addr) : Prop where
  az : a ≠ z
  bz : b ≠ z
  iz : i ≠ z
  jz : j ≠ z
  ab : a ≠ b
  ai : a ≠ i
  aj : a ≠ j
  bi : b ≠ i
  bj : b ≠ j
  ij : i ≠ j
  lz : l ≠ z
  lb : l ≠ b
  li : l ≠ i
  lj : l ≠ j
  mz : m ≠ z
  mb : m ≠ b
  mi : m ≠ i
  mj : m ≠ j
section
variable {prog : Program} {w : World} {A : Around} {E : Value → Shared → Prop} {s : Shared} {z a b i j l m : Addr} {xs ys : Array Value} (Z1 : Zs prog w i l xs) (Z2 : Zs prog w j m ys)
end
end HZ
set_option Elab.async false
set_option linter.all false
set_option maxRecDepth 100000
set_option maxHeartbeats 4000000
namespace HZ
open PySem PySem.Spec PyProof.Rows
end HZ
namespace L2
open PySem PySem.Spec PyProof.Rows HZ
end L2
namespace L3
open PySem PySem.Spec PyProof.Rows L2
end L3
set_option Elab.async false
set_option linter.all false
set_option maxRecDepth 100000
set_option maxHeartbeats 4000000
namespace HZ
open PySem PySem.Spec PyProof.Rows
section
variable {prog : Program} {w : World} {A : Around} {E : Value → Shared → Prop}
end
end HZ
namespace L2
open PySem PySem.Spec PyProof.Rows HZ
variable {X : Cx} {pos : Pos}
end L2
namespace L3
open PySem PySem.Spec PyProof.Rows L2
section
variable {X : Cx} {e : Expr} {te : TE2} {pos p p2 p3 p4 : Pos}
end
end L3
set_option Elab.async false
set_option linter.all false
set_option maxRecDepth 100000
set_option maxHeartbeats 4000000
namespace HS
open PySem PySem.Spec PyProof.Rows
structure SB (a0 : Array Keyed) (kd : SortKind) (z : SortSt) : Prop where
  pm : (arrOf z).Perm a0
  kd : kindOf z = kd
  fl : failedOf z = none
  pe : pendingOf z = #[]
theorem SB.sz {a0 : Array Keyed} {kd : SortKind} {z : SortSt} (b : SB a0 kd z) : (arrOf z).size = a0.size := b.pm.size_eq
theorem SB.put {a0 : Array Keyed} {kd : SortKind} {z : SortSt} (b : SB a0 kd z) {ys : Array Keyed} (p : ys.Perm (arrOf z)) : SB a0 kd (setArr z ys) := ⟨p.trans b.pm, b.kd, b.fl, b.pe⟩
section
variable {prog : Program} {w : World} {A : Around} {E : Value → Shared → Prop} {s : Shared} {a0 : Array Keyed} {kd : SortKind} {κ : KeyKind}
abbrev Ky (κ : KeyKind) (z : SortSt) (i : Nat) : κ.α := KK κ (arrOf z) i
abbrev Up (κ : KeyKind) (z : SortSt) (m : Nat) : Prop := SortedToK κ (arrOf z) m
theorem Up.more {z : SortSt} {m : Nat} (u : Up κ z m) (h : 1 ≤ m → κ.kle (Ky κ z (m - 1)) (Ky κ z m)) : Up κ z (m + 1) := fun i j ij jm => by
  rcases Nat.lt_or_ge j m with q | q
  · exact u i j ij q
  obtain rfl : j = m := by omega
  rcases Nat.lt_or_ge i j with p | p
  · exact KeyOrd.kle_trans (u i (j - 1) (by omega) (by omega)) (h (by omega))
  · obtain rfl : i = j := by omega
    exact KeyOrd.kle_refl _
structure Fall (κ : KeyKind) (xs : Array Keyed) (m c : Nat) : Prop where
  dn : NonIncK κ xs m
  le : c + 1 ≤ m
  eq : ∀ i, m - (c + 1) ≤ i → i < m → KK κ xs i = KK κ xs (m - 1)
theorem Fall.one {xs : Array Keyed} {m : Nat} (d : NonIncK κ xs m) (h : 1 ≤ m) : Fall κ xs m 0 := ⟨d, h, fun i h1 h2 => by rw [show i = m - 1 by omega]⟩
variable (L : ∀ (z : SortSt) (i j : Nat) (Q : Option Bool → SortSt → Prop), SB a0 kd z → i < a0.size → j < a0.size → Q (some (κ.blt (Ky κ z i) (Ky κ z j))) z → wpS (model prog w) A E s (ltAt' i j) Q z)
include L
end
end HS
set_option Elab.async false
set_option linter.all false
set_option maxRecDepth 100000
set_option maxHeartbeats 4000000
namespace HM
open PySem PySem.Spec PyProof.Rows HS
abbrev SM := StateT SortSt Sem
def gallop' : Bool → Keyed → Array Keyed → Nat → Nat → Nat → SM (Option Nat) := sortPriv% PySem.Builtin.gallop
def mergeLo' : Array Keyed → Array Keyed → SM (Array Keyed) := sortPriv% PySem.Builtin.mergeLo
def mergeHi' : Array Keyed → Array Keyed → SM (Array Keyed) := sortPriv% PySem.Builtin.mergeHi
def setMG : Nat → SM Unit := sortPriv% PySem.Builtin.setMinGallop
def ky (κ : KeyKind) (p : Keyed) : κ.α := (κ.keyOf p.1).getD κ.dflt
def byd (left : Bool) (key : Keyed) (arr : Array Keyed) (base i : Nat) : SM (Option Bool) := do
  let x ← elem' arr (base + i)
  if left = true then lt' x key
  else do
    let r ← lt' key x
    pure (r.map fun c => !c)
section
variable {prog : Program} {w : World} {A : Around} {E : Value → Shared → Prop} {s : Shared} {kd : SortKind} {κ : KeyKind} {P : Keyed → Prop}
theorem elem_ok {arr : Array Keyed} {i : Nat} {p : Keyed} {Q : Keyed → SortSt → Prop} {z : SortSt} (h : arr[i]? = some p) (q : Q p z) : wpS (model prog w) A E s (elem' arr i) Q z := by
  rw [elem'_eq, h]
  exact wpS_pure q
variable (L : ∀ (z : SortSt) (x y : Keyed) (Q : Option Bool → SortSt → Prop), kindOf z = kd → P x → P y → Q (some (κ.blt (ky κ x) (ky κ y))) z → wpS (model prog w) A E s (lt' x y) Q z)
include L
theorem byd_ok {left : Bool} {key : Keyed} {arr : Array Keyed} {base i : Nat} {z : SortSt} {Q : Option Bool → SortSt → Prop} (hz : kindOf z = kd) (hk : P key) (ha : ∀ p ∈ arr, P p) (hi : base + i < arr.size)
    (h : Q (some (if left = true then κ.blt (ky κ arr[base + i]) (ky κ key) else !κ.blt (ky κ key) (ky κ arr[base + i]))) z) : wpS (model prog w) A E s (byd left key arr base i) Q z := by
  unfold byd
  refine wpS_bind (elem_ok (getElem?_pos arr _ hi) ?_)
  cases left with
  | true =>
    simp only [if_true] at h ⊢
    exact L _ _ _ _ hz (ha _ (Array.getElem_mem hi)) hk h
  | false =>
    simp only [Bool.false_eq_true, if_false] at h ⊢
    exact wpS_bind (L _ _ _ _ hz hk (ha _ (Array.getElem_mem hi)) (wpS_pure h))
structure Turn (B : Nat → Bool) (n r : Nat) : Prop where
  le : r ≤ n
  yes : ∀ i, i < r → B i = true
  no : ∀ i, r ≤ i → i < n → B i = false
theorem gallop_ok {left : Bool} {key : Keyed} {arr : Array Keyed} {base n hint : Nat} {z : SortSt} {Q : Option Nat → SortSt → Prop} {B : Nat → Bool} (hz : kindOf z = kd) (hk : P key) (ha : ∀ p ∈ arr, P p) (hb : base + n ≤ arr.size) (hh : hint < n)
    (hB : ∀ i, (hi : base + i < arr.size) → i < n → (if left = true then κ.blt (ky κ arr[base + i]) (ky κ key) else !κ.blt (ky κ key) (ky κ arr[base + i])) = B i)
    (mo : ∀ i j, i ≤ j → j < n → B j = true → B i = true) (h : ∀ r, Turn B n r → Q (some r) z) : wpS (model prog w) A E s (gallop' left key arr base n hint) Q z := by
  have bd : ∀ {i : Nat} {Q : Option Bool → SortSt → Prop}, i < n → Q (some (B i)) z → wpS (model prog w) A E s (byd left key arr base i) Q z := fun {i Q} hi q => byd_ok L hz hk ha (by omega) (by rw [hB i (by omega) hi]; exact q)
  refine wpS_bind (m := byd left key arr base hint) (bd hh ?_)
  dsimp only
  cases hr : B hint with
  | true =>
    rw [if_pos rfl]
    refine wpS_bind (wpS_mono (wpS_forRange (β := Option (Option Nat) × Nat × Nat) (I := fun x c z' => z' = z ∧ c.1 = none ∧ c.2.1 < c.2.2 ∧ x + 1 ≤ c.2.2 ∧ hint + c.2.1 < n ∧ B (hint + c.2.1) = true) (Q := fun c z' => z' = z ∧ c.1 = none ∧ c.2.1 < c.2.2 ∧ hint + c.2.1 < n ∧ B (hint + c.2.1) = true ∧ (c.2.2 ≥ n - hint ∨ B (hint + c.2.2) = false)) (fun x c z' x1 x2 ⟨e1, e2, q1, q2, q3, q4⟩ => ?stp) (fun c z' ⟨e1, e2, q1, q2, q3, q4⟩ => ⟨e1, e2, q1, q3, q4, .inl (by omega)⟩) ⟨rfl, rfl, Nat.zero_lt_one, Nat.le_refl _, hh, hr⟩) fun c z' ⟨e1, e2, q1, q3, q4, q5⟩ => ?pst)
    case stp =>
      obtain ⟨c0, la, of⟩ := c
      subst e1
      dsimp only at e2 q1 q2 q3 q4 ⊢
      by_cases g : of ≥ n - hint
      · rw [if_pos g]
        exact wpS_pure ⟨rfl, rfl, q1, q3, q4, .inl g⟩
      · rw [if_neg g]
        refine wpS_bind (m := byd left key arr base (hint + of)) (bd (by omega) ?_)
        dsimp only
        cases e : B (hint + of) with
        | true => exact wpS_pure ⟨rfl, rfl, by dsimp only; omega, by dsimp only; omega, by dsimp only; omega, e⟩
        | false => exact wpS_pure ⟨rfl, rfl, q1, q3, q4, .inr e⟩
    case pst =>
      obtain ⟨c0, la, of⟩ := c
      subst e1
      dsimp only at e2 q1 q3 q4 q5 ⊢
      rw [e2]
      dsimp only
      have y1 : ∀ i, i < hint + la + 1 → B i = true := fun i hi => by
        exact mo i (hint + la) (by omega) q3 q4
      have y2 : ∀ i, hint + min of (n - hint) ≤ i → i < n → B i = false := fun i i1 i2 => by
        rcases q5 with q5 | q5
        · omega
        · cases e' : B i with
          | false => rfl
          | true => rw [mo _ i (by omega) i2 e'] at q5; cases q5
      have l1 : hint + la + 1 ≤ hint + min of (n - hint) := by omega
      have l2 : hint + min of (n - hint) ≤ n := by omega
      refine wpS_bind (wpS_mono (wpS_forRange (β := Option (Option Nat) × Nat × Nat) (I := fun x c z'' => z'' = z' ∧ c.1 = none ∧ c.2.1 ≤ c.2.2 ∧ c.2.2 ≤ n ∧ c.2.2 - c.2.1 ≤ n - x ∧ (∀ i, i < c.2.1 → B i = true) ∧ ∀ i, c.2.2 ≤ i → i < n → B i = false) (Q := fun c z'' => z'' = z' ∧ c.1 = none ∧ Turn B n c.2.2) (fun x c z'' x1 x2 ⟨e1, e2, q1, q2, q3, q4, q5⟩ => ?st2) (fun c z'' ⟨e1, e2, q1, q2, q3, q4, q5⟩ => ⟨e1, e2, q2, fun i hi' => q4 i (by omega), q5⟩) ⟨rfl, rfl, l1, l2, by dsimp only; omega, y1, y2⟩) fun c z'' ⟨e1, e2, e3⟩ => ?ps2)
      case st2 =>
        clear y1 y2 l1 l2
        obtain ⟨c0, lo, hi⟩ := c
        subst e1
        dsimp only at e2 q1 q2 q3 q4 q5 ⊢
        by_cases g : lo ≥ hi
        · rw [if_pos g]
          exact wpS_pure ⟨rfl, rfl, q2, fun i hi' => q4 i (by dsimp only at hi'; omega), q5⟩
        · rw [if_neg g]
          refine wpS_bind (m := byd left key arr base (lo + (hi - lo) / 2)) (bd (by omega) ?_)
          dsimp only
          cases e : B (lo + (hi - lo) / 2) with
          | true => exact wpS_pure ⟨rfl, rfl, by dsimp only; omega, q2, by dsimp only; omega, fun i hi' => mo i (lo + (hi - lo) / 2) (by dsimp only at hi'; omega) (by omega) e, q5⟩
          | false =>
            refine wpS_pure ⟨rfl, rfl, by dsimp only; omega, by dsimp only; omega, by dsimp only; omega, q4, fun i i1 i2 => ?_⟩
            dsimp only at i1
            cases e' : B i with
            | false => rfl
            | true => rw [mo _ i i1 i2 e'] at e; cases e
      case ps2 =>
        obtain ⟨c0, lo, hi⟩ := c
        dsimp only at e2 e3 ⊢
        subst e1
        rw [e2]
        exact wpS_pure (h _ e3)
  | false =>
    rw [if_neg (by simp)]
    refine wpS_bind (wpS_mono (wpS_forRange (β := Option (Option Nat) × Nat × Nat) (I := fun x c z' => z' = z ∧ c.1 = none ∧ c.2.1 < c.2.2 ∧ x + 1 ≤ c.2.2 ∧ c.2.1 ≤ hint ∧ B (hint - c.2.1) = false) (Q := fun c z' => z' = z ∧ c.1 = none ∧ c.2.1 < c.2.2 ∧ c.2.1 ≤ hint ∧ B (hint - c.2.1) = false ∧ (c.2.2 ≥ hint + 1 ∨ (c.2.2 ≤ hint ∧ B (hint - c.2.2) = true))) (fun x c z' x1 x2 ⟨e1, e2, q1, q2, q3, q4⟩ => ?stp) (fun c z' ⟨e1, e2, q1, q2, q3, q4⟩ => ⟨e1, e2, q1, q3, q4, .inl (by omega)⟩) ⟨rfl, rfl, Nat.zero_lt_one, Nat.le_refl _, Nat.zero_le _, hr⟩) fun c z' ⟨e1, e2, q1, q3, q4, q5⟩ => ?pst)
    case stp =>
      obtain ⟨c0, la, of⟩ := c
      subst e1
      dsimp only at e2 q1 q2 q3 q4 ⊢
      by_cases g : of ≥ hint + 1
      · rw [if_pos g]
        exact wpS_pure ⟨rfl, rfl, q1, q3, q4, .inl g⟩
      · rw [if_neg g]
        refine wpS_bind (m := byd left key arr base (hint - of)) (bd (by omega) ?_)
        dsimp only
        cases e : B (hint - of) with
        | true => exact wpS_pure ⟨rfl, rfl, q1, q3, q4, .inr ⟨by dsimp only; omega, e⟩⟩
        | false => exact wpS_pure ⟨rfl, rfl, by dsimp only; omega, by dsimp only; omega, by dsimp only; omega, e⟩
    case pst =>
      obtain ⟨c0, la, of⟩ := c
      subst e1
      dsimp only at e2 q1 q3 q4 q5 ⊢
      rw [e2]
      dsimp only
      have y1 : ∀ i, i < hint + 1 - min of (hint + 1) → B i = true := fun i hi => by
        rcases q5 with q5 | ⟨q5, q6⟩
        · omega
        · exact mo i (hint - of) (by omega) (by omega) q6
      have y2 : ∀ i, hint - la ≤ i → i < n → B i = false := fun i i1 i2 => by
        cases e' : B i with
        | false => rfl
        | true => rw [mo _ i i1 i2 e'] at q4; cases q4
      have l1 : hint + 1 - min of (hint + 1) ≤ hint - la := by omega
      have l2 : hint - la ≤ n := by omega
      refine wpS_bind (wpS_mono (wpS_forRange (β := Option (Option Nat) × Nat × Nat) (I := fun x c z'' => z'' = z' ∧ c.1 = none ∧ c.2.1 ≤ c.2.2 ∧ c.2.2 ≤ n ∧ c.2.2 - c.2.1 ≤ n - x ∧ (∀ i, i < c.2.1 → B i = true) ∧ ∀ i, c.2.2 ≤ i → i < n → B i = false) (Q := fun c z'' => z'' = z' ∧ c.1 = none ∧ Turn B n c.2.2) (fun x c z'' x1 x2 ⟨e1, e2, q1, q2, q3, q4, q5⟩ => ?st2) (fun c z'' ⟨e1, e2, q1, q2, q3, q4, q5⟩ => ⟨e1, e2, q2, fun i hi' => q4 i (by omega), q5⟩) ⟨rfl, rfl, l1, l2, by dsimp only; omega, y1, y2⟩) fun c z'' ⟨e1, e2, e3⟩ => ?ps2)
      case st2 =>
        clear y1 y2 l1 l2
        obtain ⟨c0, lo, hi⟩ := c
        subst e1
        dsimp only at e2 q1 q2 q3 q4 q5 ⊢
        by_cases g : lo ≥ hi
        · rw [if_pos g]
          exact wpS_pure ⟨rfl, rfl, q2, fun i hi' => q4 i (by dsimp only at hi'; omega), q5⟩
        · rw [if_neg g]
          refine wpS_bind (m := byd left key arr base (lo + (hi - lo) / 2)) (bd (by omega) ?_)
          dsimp only
          cases e : B (lo + (hi - lo) / 2) with
          | true => exact wpS_pure ⟨rfl, rfl, by dsimp only; omega, q2, by dsimp only; omega, fun i hi' => mo i (lo + (hi - lo) / 2) (by dsimp only at hi'; omega) (by omega) e, q5⟩
          | false =>
            refine wpS_pure ⟨rfl, rfl, by dsimp only; omega, by dsimp only; omega, by dsimp only; omega, q4, fun i i1 i2 => ?_⟩
            dsimp only at i1
            cases e' : B i with
            | false => rfl
            | true => rw [mo _ i i1 i2 e'] at e; cases e
      case ps2 =>
        obtain ⟨c0, lo, hi⟩ := c
        dsimp only at e2 e3 ⊢
        subst e1
        rw [e2]
        exact wpS_pure (h _ e3)
end
end HM
set_option Elab.async false
set_option linter.all false
set_option maxRecDepth 100000
set_option maxHeartbeats 4000000
namespace HM
open PySem PySem.Spec PyProof.Rows HS
section
variable {κ : KeyKind}
theorem KK_ky {xs : Array Keyed} {i : Nat} (h : i < xs.size) : KK κ xs i = ky κ xs[i] := by
  unfold KK ky
  rw [getElem?_pos xs i h]
def Srt (κ : KeyKind) (l : List Keyed) : Prop := l.Pairwise fun x y => κ.kle (ky κ x) (ky κ y)
structure MO (κ : KeyKind) (a b r : Array Keyed) : Prop where
  sr : Srt κ r.toList
  pm : r.toList.Perm (a.toList ++ b.toList)
structure MI (κ : KeyKind) (a b out : Array Keyed) (ia ib : Nat) : Prop where
  sr : Srt κ out.toList
  pm : (out.toList ++ (a.toList.drop ia ++ b.toList.drop ib)).Perm (a.toList ++ b.toList)
  la : ∀ x ∈ out.toList, ∀ j, ia ≤ j → j < a.size → κ.kle (ky κ x) (KK κ a j)
  lb : ∀ x ∈ out.toList, ∀ j, ib ≤ j → j < b.size → κ.kle (ky κ x) (KK κ b j)
  sz : out.size = ia + ib
theorem drop_srt {a : Array Keyed} {i : Nat} (h : SortedToK κ a a.size) : Srt κ (a.toList.drop i) := by
  unfold Srt
  rw [List.pairwise_iff_getElem]
  intro j k hj hk jk
  rw [List.length_drop, Array.length_toList] at hj hk
  have := h (i + j) (i + k) (by omega) (by omega)
  rw [KK_ky (by omega), KK_ky (by omega)] at this
  simpa using this
theorem mem_drop_ix {a : Array Keyed} {i : Nat} {y : Keyed} (h : y ∈ a.toList.drop i) : ∃ j, i ≤ j ∧ j < a.size ∧ ky κ y = KK κ a j := by
  obtain ⟨j, hj, rfl⟩ := List.mem_iff_getElem.mp h
  rw [List.length_drop, Array.length_toList] at hj
  refine ⟨i + j, by omega, by omega, ?_⟩
  rw [KK_ky (by omega)]
  simp
theorem ext_all {a : Array Keyed} {i : Nat} : (a.extract i a.size).toList = a.toList.drop i := by
  rw [Array.toList_extract, List.extract_eq_drop_take]
  rw [List.take_of_length_le (by simp)]
theorem srt_app {l m : List Keyed} (h1 : Srt κ l) (h2 : Srt κ m) (h : ∀ x ∈ l, ∀ y ∈ m, κ.kle (ky κ x) (ky κ y)) : Srt κ (l ++ m) := List.pairwise_append.mpr ⟨h1, h2, h⟩
variable {a b out : Array Keyed} {ia ib : Nat}
theorem MI.doneA (m : MI κ a b out ia ib) (sa : SortedToK κ a a.size) (e : ib = b.size) : MO κ a b (out ++ a.extract ia a.size ++ b.extract ib b.size) := by
  have e1 : (out ++ a.extract ia a.size ++ b.extract ib b.size).toList = out.toList ++ (a.toList.drop ia ++ b.toList.drop ib) := by
    rw [Array.toList_append, Array.toList_append, ext_all, ext_all, List.append_assoc]
  have e2 : b.toList.drop ib = [] := by rw [e, ← Array.length_toList, List.drop_length]
  refine ⟨?_, by rw [e1]; exact m.pm⟩
  rw [e1, e2, List.append_nil]
  refine srt_app m.sr (drop_srt sa) fun x hx y hy => ?_
  obtain ⟨j, j1, j2, j3⟩ := mem_drop_ix (κ := κ) hy
  rw [j3]
  exact m.la x hx j j1 j2
theorem MI.doneB (m : MI κ a b out ia ib) (sb : SortedToK κ b b.size) (e : ia = a.size) : MO κ a b (out ++ a.extract ia a.size ++ b.extract ib b.size) := by
  have e1 : (out ++ a.extract ia a.size ++ b.extract ib b.size).toList = out.toList ++ (a.toList.drop ia ++ b.toList.drop ib) := by
    rw [Array.toList_append, Array.toList_append, ext_all, ext_all, List.append_assoc]
  have e2 : a.toList.drop ia = [] := by rw [e, ← Array.length_toList, List.drop_length]
  refine ⟨?_, by rw [e1]; exact m.pm⟩
  rw [e1, e2, List.nil_append]
  refine srt_app m.sr (drop_srt sb) fun x hx y hy => ?_
  obtain ⟨j, j1, j2, j3⟩ := mem_drop_ix (κ := κ) hy
  rw [j3]
  exact m.lb x hx j j1 j2
theorem MI.lastA (m : MI κ a b out ia ib) (sa : SortedToK κ a a.size) (sb : SortedToK κ b b.size) (la : ∀ j, j < b.size → κ.kle (KK κ b j) (KK κ a (a.size - 1))) (e : ia + 1 = a.size) : MO κ a b (out ++ b.extract ib b.size ++ a.extract ia a.size) := by
  have e1 : (out ++ b.extract ib b.size ++ a.extract ia a.size).toList = out.toList ++ (b.toList.drop ib ++ a.toList.drop ia) := by
    rw [Array.toList_append, Array.toList_append, ext_all, ext_all, List.append_assoc]
  refine ⟨?_, by rw [e1]; exact (List.Perm.append_left _ List.perm_append_comm).trans m.pm⟩
  rw [e1]
  refine srt_app m.sr (srt_app (drop_srt sb) (drop_srt sa) fun x hx y hy => ?_) fun x hx y hy => ?_
  · obtain ⟨j, j1, j2, j3⟩ := mem_drop_ix (κ := κ) hx
    obtain ⟨k, k1, k2, k3⟩ := mem_drop_ix (κ := κ) hy
    rw [j3, k3, show k = a.size - 1 by omega]
    exact la j j2
  · rcases List.mem_append.mp hy with hy | hy
    · obtain ⟨j, j1, j2, j3⟩ := mem_drop_ix (κ := κ) hy
      rw [j3]
      exact m.lb x hx j j1 j2
    · obtain ⟨j, j1, j2, j3⟩ := mem_drop_ix (κ := κ) hy
      rw [j3]
      exact m.la x hx j j1 j2
theorem drop_cons {a : Array Keyed} {i : Nat} (h : i < a.size) : a.toList.drop i = a[i] :: a.toList.drop (i + 1) := by
  rw [List.drop_eq_getElem_cons (by simpa using h)]
  simp
theorem MI.pushA (m : MI κ a b out ia ib) (sa : SortedToK κ a a.size) (h : ia < a.size) (hb : ∀ j, ib ≤ j → j < b.size → κ.kle (KK κ a ia) (KK κ b j)) : MI κ a b (out.push a[ia]) (ia + 1) ib := by
  refine ⟨?_, ?_, fun x hx j j1 j2 => ?_, fun x hx j j1 j2 => ?_, by rw [Array.size_push, m.sz]; omega⟩
  · rw [Array.toList_push]
    refine srt_app m.sr (List.pairwise_singleton _ _) fun x hx y hy => ?_
    rw [List.mem_singleton.mp hy, ← KK_ky h]
    exact m.la x hx ia (Nat.le_refl _) h
  · rw [Array.toList_push, List.append_assoc]
    have := m.pm
    rw [drop_cons h] at this
    exact this
  · rw [Array.toList_push] at hx
    rcases List.mem_append.mp hx with hx | hx
    · exact m.la x hx j (by omega) j2
    · rw [List.mem_singleton.mp hx, ← KK_ky h]
      exact sa ia j (by omega) j2
  · rw [Array.toList_push] at hx
    rcases List.mem_append.mp hx with hx | hx
    · exact m.lb x hx j j1 j2
    · rw [List.mem_singleton.mp hx, ← KK_ky h]
      exact hb j j1 j2
theorem MI.pushB (m : MI κ a b out ia ib) (sb : SortedToK κ b b.size) (h : ib < b.size) (ha : ∀ j, ia ≤ j → j < a.size → κ.kle (KK κ b ib) (KK κ a j)) : MI κ a b (out.push b[ib]) ia (ib + 1) := by
  refine ⟨?_, ?_, fun x hx j j1 j2 => ?_, fun x hx j j1 j2 => ?_, by rw [Array.size_push, m.sz]; omega⟩
  · rw [Array.toList_push]
    refine srt_app m.sr (List.pairwise_singleton _ _) fun x hx y hy => ?_
    rw [List.mem_singleton.mp hy, ← KK_ky h]
    exact m.lb x hx ib (Nat.le_refl _) h
  · rw [Array.toList_push, List.append_assoc]
    refine List.Perm.trans ?_ m.pm
    rw [drop_cons h]
    refine List.Perm.append_left _ ?_
    show (b[ib] :: (List.drop ia a.toList ++ List.drop (ib + 1) b.toList)).Perm _
    exact List.perm_middle.symm
  · rw [Array.toList_push] at hx
    rcases List.mem_append.mp hx with hx | hx
    · exact m.la x hx j j1 j2
    · rw [List.mem_singleton.mp hx, ← KK_ky h]
      exact ha j j1 j2
  · rw [Array.toList_push] at hx
    rcases List.mem_append.mp hx with hx | hx
    · exact m.lb x hx j (by omega) j2
    · rw [List.mem_singleton.mp hx, ← KK_ky h]
      exact sb ib j (by omega) j2
theorem ext_succ {a : Array Keyed} {i k : Nat} (h : i + k < a.size) : a.extract i (i + (k + 1)) = (a.extract i (i + k)).push a[i + k] := by
  apply Array.ext'
  rw [Array.toList_push, Array.toList_extract, Array.toList_extract, List.extract_eq_drop_take, List.extract_eq_drop_take, show i + (k + 1) - i = k + 1 by omega, show i + k - i = k by omega, List.take_add_one]
  congr 1
  rw [List.getElem?_drop, List.getElem?_eq_getElem (by simpa using h)]
  simp
theorem ext_zero {a : Array Keyed} {i : Nat} : a.extract i (i + 0) = #[] := by
  apply Array.ext'
  rw [Array.toList_extract, List.extract_eq_drop_take]
  simp
theorem MI.manyA (sa : SortedToK κ a a.size) (m : MI κ a b out ia ib) : ∀ k, ia + k ≤ a.size → (∀ i, ia ≤ i → i < ia + k → ∀ j, ib ≤ j → j < b.size → κ.kle (KK κ a i) (KK κ b j)) → MI κ a b (out ++ a.extract ia (ia + k)) (ia + k) ib
  | 0, _, _ => by rw [ext_zero, Array.append_empty]; exact m
  | k + 1, hk, h => by
    have := (MI.manyA sa m k (by omega) fun i i1 i2 => h i i1 (by omega)).pushA sa (by omega) (h (ia + k) (by omega) (by omega))
    rw [ext_succ (by omega), Array.append_push]
    exact this
theorem MI.manyB (sb : SortedToK κ b b.size) (m : MI κ a b out ia ib) : ∀ k, ib + k ≤ b.size → (∀ i, ib ≤ i → i < ib + k → ∀ j, ia ≤ j → j < a.size → κ.kle (KK κ b i) (KK κ a j)) → MI κ a b (out ++ b.extract ib (ib + k)) ia (ib + k)
  | 0, _, _ => by rw [ext_zero, Array.append_empty]; exact m
  | k + 1, hk, h => by
    have := (MI.manyB sb m k (by omega) fun i i1 i2 => h i i1 (by omega)).pushB sb (by omega) (h (ib + k) (by omega) (by omega))
    rw [ext_succ (by omega), Array.append_push]
    exact this
end
end HM
set_option Elab.async false
set_option linter.all false
set_option maxRecDepth 100000
set_option maxHeartbeats 4000000
namespace HM
open PySem PySem.Spec PyProof.Rows HS
structure Kp (z z' : SortSt) : Prop where
  kd : kindOf z' = kindOf z
  ar : arrOf z' = arrOf z
  pe : pendingOf z' = pendingOf z
  fl : failedOf z' = failedOf z
theorem Kp.refl (z : SortSt) : Kp z z := ⟨rfl, rfl, rfl, rfl⟩
theorem Kp.trans {z z' z'' : SortSt} (h : Kp z z') (h' : Kp z' z'') : Kp z z'' := ⟨h'.kd.trans h.kd, h'.ar.trans h.ar, h'.pe.trans h.pe, h'.fl.trans h.fl⟩
section
variable {prog : Program} {w : World} {A : Around} {E : Value → Shared → Prop} {s : Shared} {kd : SortKind} {κ : KeyKind} {P : Keyed → Prop}
theorem setMG_ok {g : Nat} {z : SortSt} {Q : Unit → SortSt → Prop} (h : ∀ z', Kp z z' → Q () z') : wpS (model prog w) A E s (setMG g) Q z := wpS_modify (h _ ⟨rfl, rfl, rfl, rfl⟩)
variable (L : ∀ (z : SortSt) (x y : Keyed) (Q : Option Bool → SortSt → Prop), kindOf z = kd → P x → P y → Q (some (κ.blt (ky κ x) (ky κ y))) z → wpS (model prog w) A E s (lt' x y) Q z)
include L
theorem mergeLo_ok {a b : Array Keyed} {z : SortSt} {Q : Array Keyed → SortSt → Prop} (hz : kindOf z = kd) (pa : ∀ p ∈ a, P p) (pb : ∀ p ∈ b, P p) (ha : 1 ≤ a.size) (hb : 1 ≤ b.size) (sa : SortedToK κ a a.size) (sb : SortedToK κ b b.size)
    (fst : ∀ j, j < a.size → κ.kle (KK κ b 0) (KK κ a j)) (lst : ∀ j, j < b.size → κ.kle (KK κ b j) (KK κ a (a.size - 1))) (h : ∀ r z', MO κ a b r → Kp z z' → Q r z') : wpS (model prog w) A E s (mergeLo' a b) Q z := by
  refine wpS_bind (wpS_lift (wpAny_rule ⟨rfl, ?_⟩))
  refine wpS_bind (m := elem' b 0) (elem_ok (getElem?_pos b 0 (by omega)) ?_)
  dsimp only
  have m0 : MI κ a b #[b[0]] 0 1 := by
    have : MI κ a b #[] 0 0 := ⟨List.Pairwise.nil, by simp, fun x hx => by simp at hx, fun x hx => by simp at hx, rfl⟩
    exact this.pushB sb (by omega) fun j _ j2 => fst j j2
  by_cases c1 : 1 = b.size
  · rw [if_pos (by simpa using c1)]
    exact wpS_pure (h _ _ (m0.doneA sa c1) (.refl z))
  rw [if_neg (by simpa using c1)]
  by_cases c2 : 0 + 1 = a.size
  · rw [if_pos (by simpa using c2)]
    exact wpS_pure (h _ _ (m0.lastA sa sb lst c2) (.refl z))
  rw [if_neg (by simpa using c2)]
  refine wpS_bind (wpS_get ?_)
  skip
  refine wpS_bind (wpS_mono (wpS_forRange (β := Option (Array Keyed) × Array Keyed × Nat × Nat × Nat) (I := fun x c z' => Kp z z' ∧ c.1 = none ∧ MI κ a b c.2.1 c.2.2.1 c.2.2.2.1 ∧ c.2.2.1 + 1 < a.size ∧ c.2.2.2.1 < b.size ∧ x ≤ c.2.1.size) (Q := fun c z' => Kp z z' ∧ ∃ r, c.1 = some r ∧ MO κ a b r) (fun x c z1 x1 x2 ⟨k1, e2, m1, q1, q2, q3⟩ => ?stp) (fun c z1 ⟨k1, e2, m1, q1, q2, q3⟩ => ?fin) ⟨.refl z, rfl, m0, by dsimp only; omega, by dsimp only; omega, Nat.zero_le _⟩) fun c z1 ⟨k1, r, e2, mo⟩ => ?pst)
  case pst =>
    rw [e2]
    exact wpS_pure (h _ _ mo k1)
  case fin =>
    have := m1.sz
    omega
  case stp =>
    clear m0
    obtain ⟨c0, out, ia, ib, mg⟩ := c
    dsimp only at e2 m1 q1 q2 q3 ⊢
    refine wpS_bind (wpS_mono (wpS_forRange (β := Option (Array Keyed) × Array Keyed × Nat × Nat × Nat × Nat) (I := fun y c z' => Kp z z' ∧ c.1 = none ∧ MI κ a b c.2.1 c.2.2.1 c.2.2.2.1 ∧ c.2.2.1 + 1 < a.size ∧ c.2.2.2.1 < b.size ∧ out.size + y ≤ c.2.1.size) (Q := fun c z' => Kp z z' ∧ ((∃ r, c.1 = some r ∧ MO κ a b r) ∨ (c.1 = none ∧ MI κ a b c.2.1 c.2.2.1 c.2.2.2.1 ∧ c.2.2.1 + 1 < a.size ∧ c.2.2.2.1 < b.size ∧ out.size + 1 ≤ c.2.1.size))) (fun y c z2 y1 y2 ⟨k2, e3, m2, p1, p2, p3⟩ => ?stp1) (fun c z2 ⟨k2, e3, m2, p1, p2, p3⟩ => ⟨k2, .inr ⟨e3, m2, p1, p2, by omega⟩⟩) ⟨k1, rfl, m1, q1, q2, by dsimp only; omega⟩) fun c z2 ⟨k2, o⟩ => ?pst1)
    case stp1 =>
      obtain ⟨c0', out', ia', ib', ac, bc⟩ := c
      dsimp only at e3 m2 p1 p2 p3 ⊢
      refine wpS_bind (m := elem' b ib') (elem_ok (getElem?_pos b ib' p2) ?_)
      refine wpS_bind (m := elem' a ia') (elem_ok (getElem?_pos a ia' (by omega)) ?_)
      refine wpS_bind (m := lt' b[ib'] a[ia']) (L _ _ _ _ (k2.kd.trans hz) (pb _ (Array.getElem_mem p2)) (pa _ (Array.getElem_mem _)) ?_)
      dsimp only
      cases e : κ.blt (ky κ b[ib']) (ky κ a[ia']) with
      | true =>
        rw [if_pos rfl]
        refine wpS_bind (m := elem' b ib') (elem_ok (getElem?_pos b ib' p2) ?_)
        have m3 := m2.pushB sb p2 fun j j1 j2 => KeyOrd.kle_trans (KeyOrd.kle_of_klt (by rw [KK_ky p2, KK_ky (by omega)]; exact e)) (sa ia' j j1 j2)
        by_cases c3 : ib' + 1 = b.size
        · rw [if_pos (by simpa using c3)]
          exact wpS_pure ⟨k2, .inl ⟨_, rfl, m3.doneA sa c3⟩⟩
        rw [if_neg (by simpa using c3)]
        split
        · exact wpS_pure ⟨k2, .inr ⟨rfl, m3, p1, by dsimp only; omega, by dsimp only; rw [Array.size_push]; omega⟩⟩
        · exact wpS_pure ⟨k2, rfl, m3, p1, by dsimp only; omega, by dsimp only; rw [Array.size_push]; omega⟩
      | false =>
        rw [if_neg (by simp)]
        refine wpS_bind (m := elem' a ia') (elem_ok (getElem?_pos a ia' (by omega)) ?_)
        have m3 := m2.pushA sa (by omega) fun j j1 j2 => KeyOrd.kle_trans (show κ.kle (KK κ a ia') (KK κ b ib') by rw [KK_ky p2, KK_ky (by omega)]; exact e) (sb ib' j j1 j2)
        by_cases c3 : ia' + 1 + 1 = a.size
        · rw [if_pos (by simpa using c3)]
          exact wpS_pure ⟨k2, .inl ⟨_, rfl, m3.lastA sa sb lst c3⟩⟩
        rw [if_neg (by simpa using c3)]
        split
        · exact wpS_pure ⟨k2, .inr ⟨rfl, m3, by dsimp only; omega, p2, by dsimp only; rw [Array.size_push]; omega⟩⟩
        · exact wpS_pure ⟨k2, rfl, m3, by dsimp only; omega, p2, by dsimp only; rw [Array.size_push]; omega⟩
    case pst1 =>
      obtain ⟨c0', out', ia', ib', ac, bc⟩ := c
      dsimp only at o ⊢
      rcases o with ⟨r, e3, mo⟩ | ⟨e3, m2, p1, p2, p3⟩
      · rw [e3]
        exact wpS_pure ⟨k2, r, rfl, mo⟩
      rw [e3]
      dsimp only
      refine wpS_bind (wpS_lift (wpAny_rule ⟨rfl, ?_⟩))
      refine wpS_bind (wpS_mono (wpS_forRange (β := Option (Array Keyed) × Array Keyed × Nat × Nat × Nat × Nat × Nat) (I := fun y c z' => Kp z z' ∧ c.1 = none ∧ MI κ a b c.2.1 c.2.2.1 c.2.2.2.1 ∧ c.2.2.1 + 1 < a.size ∧ c.2.2.2.1 < b.size ∧ out.size + 1 ≤ c.2.1.size) (Q := fun c z' => Kp z z' ∧ ((∃ r, c.1 = some r ∧ MO κ a b r) ∨ (c.1 = none ∧ MI κ a b c.2.1 c.2.2.1 c.2.2.2.1 ∧ c.2.2.1 + 1 < a.size ∧ c.2.2.2.1 < b.size ∧ out.size + 1 ≤ c.2.1.size))) (fun y c z3 y1 y2 ⟨k3, e4, m3, r1, r2, r3⟩ => ?stp2) (fun c z3 ⟨k3, e4, m3, r1, r2, r3⟩ => ⟨k3, .inr ⟨e4, m3, r1, r2, r3⟩⟩) ⟨k2, rfl, m2, p1, p2, p3⟩) fun c z3 ⟨k3, o⟩ => ?pst2)
      case pst2 =>
        obtain ⟨c0'', out'', ia'', ib'', mg', ac', bc'⟩ := c
        dsimp only at o ⊢
        rcases o with ⟨r, e4, mo⟩ | ⟨e4, m3, r1, r2, r3⟩
        · rw [e4]
          exact wpS_pure ⟨k3, r, rfl, mo⟩
        rw [e4]
        dsimp only
        refine wpS_bind (m := setMG (mg' + 1)) (setMG_ok fun z4 k4 => ?_)
        exact wpS_pure ⟨k3.trans k4, rfl, m3, r1, r2, by dsimp only; omega⟩
      case stp2 =>
        clear m2 p1 p2 p3 m1 q1 q2 e3 e2 k1 k2
        obtain ⟨c0'', out'', ia'', ib'', mg', ac', bc'⟩ := c
        dsimp only at e4 m3 r1 r2 r3 ⊢
        have s3 := m3.sz
        rcases Classical.em (mg' > 1) with hm | hm
        rw [if_pos hm]
        rotate_left
        rw [if_neg hm]
        all_goals
          refine wpS_bind (m := setMG _) (setMG_ok fun z4 k4 => ?_)
          have kz := k3.trans k4
          refine wpS_bind (m := elem' b ib'') (elem_ok (getElem?_pos b ib'' r2) ?_)
          refine wpS_bind (m := gallop' false b[ib''] a ia'' (a.size - ia'') 0) (gallop_ok L (B := fun t => !κ.blt (KK κ b ib'') (KK κ a (ia'' + t))) (kz.kd.trans hz) (pb _ (Array.getElem_mem r2)) pa (by omega) (by omega) (fun t h1 h2 => by rw [if_neg (by simp), KK_ky h1, KK_ky r2]) (fun t u tu un q => ?_) fun k tk => ?_)
          · simp only [Bool.not_eq_true'] at q ⊢
            exact KeyOrd.kle_trans (sa _ _ (by omega) (by omega)) q
          dsimp only
          have l4 := tk.le
          have ya : ∀ t, ia'' ≤ t → t < ia'' + k → ∀ j, ib'' ≤ j → j < b.size → κ.kle (KK κ a t) (KK κ b j) := fun t t1 t2 j j1 j2 => by
            have q := tk.yes (t - ia'') (by omega)
            rw [show ia'' + (t - ia'') = t by omega, Bool.not_eq_true'] at q
            exact KeyOrd.kle_trans q (sb _ _ j1 j2)
          have na : ∀ t, ia'' + k ≤ t → t < a.size → κ.kle (KK κ b ib'') (KK κ a t) := fun t t1 t2 => by
            have q := tk.no (t - ia'') (by omega) (by omega)
            rw [show ia'' + (t - ia'') = t by omega, Bool.not_eq_false'] at q
            exact KeyOrd.kle_of_klt q
          by_cases hk : k > 0
          · rw [if_pos hk]
            have m4 := MI.manyA sa m3 k (by omega) ya
            have s4 := m4.sz
            by_cases c3 : ia'' + k + 1 = a.size
            · rw [if_pos (by simpa using c3)]
              exact wpS_pure ⟨kz, .inl ⟨_, rfl, m4.lastA sa sb lst c3⟩⟩
            rw [if_neg (by simpa using c3)]
            by_cases c4 : ia'' + k = a.size
            · rw [if_pos (by simpa using c4)]
              exact wpS_pure ⟨kz, .inl ⟨_, rfl, m4.doneB sb c4⟩⟩
            rw [if_neg (by simpa using c4)]
            refine wpS_bind (m := elem' b ib'') (elem_ok (getElem?_pos b ib'' r2) ?_)
            have m5 := MI.pushB m4 sb r2 na
            have s5 := m5.sz
            by_cases c5 : ib'' + 1 = b.size
            · rw [if_pos (by simpa using c5)]
              exact wpS_pure ⟨kz, .inl ⟨_, rfl, m5.doneA sa c5⟩⟩
            rw [if_neg (by simpa using c5)]
            have i5 : ia'' + k < a.size := by omega
            refine wpS_bind (m := elem' a (ia'' + k)) (elem_ok (getElem?_pos a (ia'' + k) i5) ?_)
            refine wpS_bind (m := gallop' true a[ia'' + k] b (ib'' + 1) (b.size - (ib'' + 1)) 0) (gallop_ok L (B := fun t => κ.blt (KK κ b (ib'' + 1 + t)) (KK κ a (ia'' + k))) (kz.kd.trans hz) (pa _ (Array.getElem_mem i5)) pb (by omega) (by omega) (fun t h1 h2 => by rw [if_pos rfl, KK_ky h1, KK_ky i5]) (fun t u tu un q => KeyOrd.klt_of_kle_of_klt (sb _ _ (by omega) (by omega)) q) fun k' tk' => ?_)
            dsimp only
            have l6 := tk'.le
            have ym : ∀ t, ib'' + 1 ≤ t → t < ib'' + 1 + k' → ∀ j, ia'' + k ≤ j → j < a.size → κ.kle (KK κ b t) (KK κ a j) := fun t t1 t2 j j1 j2 => by
              have q := tk'.yes (t - (ib'' + 1)) (by omega)
              rw [show ib'' + 1 + (t - (ib'' + 1)) = t by omega] at q
              exact KeyOrd.kle_trans (KeyOrd.kle_of_klt q) (sa _ _ j1 j2)
            have nm : ∀ t, ib'' + 1 + k' ≤ t → t < b.size → κ.kle (KK κ a (ia'' + k)) (KK κ b t) := fun t t1 t2 => by
              have q := tk'.no (t - (ib'' + 1)) (by omega) (by omega)
              rw [show ib'' + 1 + (t - (ib'' + 1)) = t by omega] at q
              exact q
            by_cases hk' : k' > 0
            · rw [if_pos hk']
              have m6 := MI.manyB sb m5 k' (by omega) ym
              have s6 := m6.sz
              by_cases c6 : ib'' + 1 + k' = b.size
              · rw [if_pos (by simpa using c6)]
                exact wpS_pure ⟨kz, .inl ⟨_, rfl, m6.doneA sa c6⟩⟩
              rw [if_neg (by simpa using c6)]
              have iu : ia'' + k < a.size := by omega
              refine wpS_bind (m := elem' a (ia'' + k)) (elem_ok (getElem?_pos a (ia'' + k) iu) ?_)
              have m7 := MI.pushA m6 sa iu nm
              have s7 := m7.sz
              by_cases c7 : ia'' + k + 1 + 1 = a.size
              · rw [if_pos (by simpa using c7)]
                exact wpS_pure ⟨kz, .inl ⟨_, rfl, m7.lastA sa sb lst c7⟩⟩
              rw [if_neg (by simpa using c7)]
              split
              · exact wpS_pure ⟨kz, .inr ⟨rfl, m7, by dsimp only; omega, by dsimp only; omega, by dsimp only; rw [s7]; omega⟩⟩
              · exact wpS_pure ⟨kz, rfl, m7, by dsimp only; omega, by dsimp only; omega, by dsimp only; rw [s7]; omega⟩
            · rw [if_neg hk']
              have iu : ia'' + k < a.size := by omega
              refine wpS_bind (m := elem' a (ia'' + k)) (elem_ok (getElem?_pos a (ia'' + k) iu) ?_)
              have m7 := MI.pushA m5 sa iu (fun t t1 t2 => nm t (by omega) t2)
              have s7 := m7.sz
              by_cases c7 : ia'' + k + 1 + 1 = a.size
              · rw [if_pos (by simpa using c7)]
                exact wpS_pure ⟨kz, .inl ⟨_, rfl, m7.lastA sa sb lst c7⟩⟩
              rw [if_neg (by simpa using c7)]
              split
              · exact wpS_pure ⟨kz, .inr ⟨rfl, m7, by dsimp only; omega, by dsimp only; omega, by dsimp only; rw [s7]; omega⟩⟩
              · exact wpS_pure ⟨kz, rfl, m7, by dsimp only; omega, by dsimp only; omega, by dsimp only; rw [s7]; omega⟩
          · rw [if_neg hk]
            refine wpS_bind (m := elem' b ib'') (elem_ok (getElem?_pos b ib'' r2) ?_)
            have m5 := MI.pushB m3 sb r2 (fun t t1 t2 => na t (by omega) t2)
            have s5 := m5.sz
            by_cases c5 : ib'' + 1 = b.size
            · rw [if_pos (by simpa using c5)]
              exact wpS_pure ⟨kz, .inl ⟨_, rfl, m5.doneA sa c5⟩⟩
            rw [if_neg (by simpa using c5)]
            have i5 : ia'' < a.size := by omega
            refine wpS_bind (m := elem' a (ia'')) (elem_ok (getElem?_pos a (ia'') i5) ?_)
            refine wpS_bind (m := gallop' true a[ia''] b (ib'' + 1) (b.size - (ib'' + 1)) 0) (gallop_ok L (B := fun t => κ.blt (KK κ b (ib'' + 1 + t)) (KK κ a (ia''))) (kz.kd.trans hz) (pa _ (Array.getElem_mem i5)) pb (by omega) (by omega) (fun t h1 h2 => by rw [if_pos rfl, KK_ky h1, KK_ky i5]) (fun t u tu un q => KeyOrd.klt_of_kle_of_klt (sb _ _ (by omega) (by omega)) q) fun k' tk' => ?_)
            dsimp only
            have l6 := tk'.le
            have ym : ∀ t, ib'' + 1 ≤ t → t < ib'' + 1 + k' → ∀ j, ia'' ≤ j → j < a.size → κ.kle (KK κ b t) (KK κ a j) := fun t t1 t2 j j1 j2 => by
              have q := tk'.yes (t - (ib'' + 1)) (by omega)
              rw [show ib'' + 1 + (t - (ib'' + 1)) = t by omega] at q
              exact KeyOrd.kle_trans (KeyOrd.kle_of_klt q) (sa _ _ j1 j2)
            have nm : ∀ t, ib'' + 1 + k' ≤ t → t < b.size → κ.kle (KK κ a (ia'')) (KK κ b t) := fun t t1 t2 => by
              have q := tk'.no (t - (ib'' + 1)) (by omega) (by omega)
              rw [show ib'' + 1 + (t - (ib'' + 1)) = t by omega] at q
              exact q
            by_cases hk' : k' > 0
            · rw [if_pos hk']
              have m6 := MI.manyB sb m5 k' (by omega) ym
              have s6 := m6.sz
              by_cases c6 : ib'' + 1 + k' = b.size
              · rw [if_pos (by simpa using c6)]
                exact wpS_pure ⟨kz, .inl ⟨_, rfl, m6.doneA sa c6⟩⟩
              rw [if_neg (by simpa using c6)]
              have iu : ia'' < a.size := by omega
              refine wpS_bind (m := elem' a (ia'')) (elem_ok (getElem?_pos a (ia'') iu) ?_)
              have m7 := MI.pushA m6 sa iu nm
              have s7 := m7.sz
              by_cases c7 : ia'' + 1 + 1 = a.size
              · rw [if_pos (by simpa using c7)]
                exact wpS_pure ⟨kz, .inl ⟨_, rfl, m7.lastA sa sb lst c7⟩⟩
              rw [if_neg (by simpa using c7)]
              split
              · exact wpS_pure ⟨kz, .inr ⟨rfl, m7, by dsimp only; omega, by dsimp only; omega, by dsimp only; rw [s7]; omega⟩⟩
              · exact wpS_pure ⟨kz, rfl, m7, by dsimp only; omega, by dsimp only; omega, by dsimp only; rw [s7]; omega⟩
            · rw [if_neg hk']
              have iu : ia'' < a.size := by omega
              refine wpS_bind (m := elem' a (ia'')) (elem_ok (getElem?_pos a (ia'') iu) ?_)
              have m7 := MI.pushA m5 sa iu (fun t t1 t2 => nm t (by omega) t2)
              have s7 := m7.sz
              by_cases c7 : ia'' + 1 + 1 = a.size
              · rw [if_pos (by simpa using c7)]
                exact wpS_pure ⟨kz, .inl ⟨_, rfl, m7.lastA sa sb lst c7⟩⟩
              rw [if_neg (by simpa using c7)]
              split
              · exact wpS_pure ⟨kz, .inr ⟨rfl, m7, by dsimp only; omega, by dsimp only; omega, by dsimp only; rw [s7]; omega⟩⟩
              · exact wpS_pure ⟨kz, rfl, m7, by dsimp only; omega, by dsimp only; omega, by dsimp only; rw [s7]; omega⟩
end
end HM
set_option Elab.async false
set_option linter.all false
set_option maxRecDepth 100000
set_option maxHeartbeats 4000000
namespace HM
open PySem PySem.Spec PyProof.Rows HS
section
variable {κ : KeyKind}
structure MJ (κ : KeyKind) (a b : Array Keyed) (na nb : Nat) (out : Array Keyed) : Prop where
  sr : Srt κ out.toList.reverse
  pm : (a.toList.take na ++ b.toList.take nb ++ out.toList.reverse).Perm (a.toList ++ b.toList)
  la : ∀ x ∈ out.toList, ∀ j, j < na → κ.kle (KK κ a j) (ky κ x)
  lb : ∀ x ∈ out.toList, ∀ j, j < nb → κ.kle (KK κ b j) (ky κ x)
  sz : out.size + (na + nb) = a.size + b.size
  ha : na ≤ a.size
  hb : nb ≤ b.size
theorem take_srt {a : Array Keyed} {i : Nat} (h : SortedToK κ a a.size) : Srt κ (a.toList.take i) := (drop_srt (i := 0) h).sublist (List.take_sublist _ _)
theorem mem_take_ix {a : Array Keyed} {i : Nat} {y : Keyed} (h : y ∈ a.toList.take i) : ∃ j, j < i ∧ j < a.size ∧ ky κ y = KK κ a j := by
  obtain ⟨j, hj, rfl⟩ := List.mem_iff_getElem.mp h
  rw [List.length_take, Array.length_toList] at hj
  refine ⟨j, by omega, by omega, ?_⟩
  rw [KK_ky (by omega)]
  simp
theorem ext_fst {a : Array Keyed} {i : Nat} : (a.extract 0 i).toList = a.toList.take i := by
  rw [Array.toList_extract, List.extract_eq_drop_take]
  simp
variable {a b out : Array Keyed} {na nb : Nat}
theorem MJ.fin (m : MJ κ a b na nb out) (s : Srt κ (a.toList.take na ++ b.toList.take nb)) : MO κ a b (a.extract 0 na ++ b.extract 0 nb ++ out.reverse) := by
  have e1 : (a.extract 0 na ++ b.extract 0 nb ++ out.reverse).toList = a.toList.take na ++ b.toList.take nb ++ out.toList.reverse := by
    rw [Array.toList_append, Array.toList_append, ext_fst, ext_fst, Array.toList_reverse]
  refine ⟨?_, by rw [e1]; exact m.pm⟩
  rw [e1]
  refine srt_app s m.sr fun x hx y hy => ?_
  rw [List.mem_reverse] at hy
  rcases List.mem_append.mp hx with hx | hx
  · obtain ⟨j, j1, j2, j3⟩ := mem_take_ix (κ := κ) hx
    rw [j3]; exact m.la y hy j j1
  · obtain ⟨j, j1, j2, j3⟩ := mem_take_ix (κ := κ) hx
    rw [j3]; exact m.lb y hy j j1
theorem MJ.doneA (m : MJ κ a b na nb out) (sb : SortedToK κ b b.size) (e : na = 0) : MO κ a b (a.extract 0 na ++ b.extract 0 nb ++ out.reverse) := m.fin (by subst e; simpa using take_srt sb)
theorem MJ.doneB (m : MJ κ a b na nb out) (sa : SortedToK κ a a.size) (e : nb = 0) : MO κ a b (a.extract 0 na ++ b.extract 0 nb ++ out.reverse) := m.fin (by subst e; simpa using take_srt sa)
theorem MJ.fstB (m : MJ κ a b na nb out) (sa : SortedToK κ a a.size) (sb : SortedToK κ b b.size) (f : ∀ j, j < a.size → κ.kle (KK κ b 0) (KK κ a j)) (e : nb = 1) : MO κ a b (b.extract 0 nb ++ a.extract 0 na ++ out.reverse) := by
  have e1 : (b.extract 0 nb ++ a.extract 0 na ++ out.reverse).toList = b.toList.take nb ++ a.toList.take na ++ out.toList.reverse := by
    rw [Array.toList_append, Array.toList_append, ext_fst, ext_fst, Array.toList_reverse]
  refine ⟨?_, by rw [e1]; exact (List.Perm.append_right _ List.perm_append_comm).trans m.pm⟩
  rw [e1]
  refine srt_app (srt_app (take_srt sb) (take_srt sa) fun x hx y hy => ?_) m.sr fun x hx y hy => ?_
  · obtain ⟨j, j1, j2, j3⟩ := mem_take_ix (κ := κ) hx
    obtain ⟨k, k1, k2, k3⟩ := mem_take_ix (κ := κ) hy
    rw [j3, k3, show j = 0 by omega]
    exact f k k2
  · rw [List.mem_reverse] at hy
    rcases List.mem_append.mp hx with hx | hx
    · obtain ⟨j, j1, j2, j3⟩ := mem_take_ix (κ := κ) hx
      rw [j3]; exact m.lb y hy j j1
    · obtain ⟨j, j1, j2, j3⟩ := mem_take_ix (κ := κ) hx
      rw [j3]; exact m.la y hy j j1
theorem take_snoc {a : Array Keyed} {i : Nat} (h : i < a.size) : a.toList.take (i + 1) = a.toList.take i ++ [a[i]] := by
  rw [List.take_add_one, List.getElem?_eq_getElem (by simpa using h)]
  simp
theorem MJ.pushA (m : MJ κ a b (na + 1) nb out) (sa : SortedToK κ a a.size) (h : na < a.size) (hb : ∀ j, j < nb → κ.kle (KK κ b j) (KK κ a na)) : MJ κ a b na nb (out.push a[na]) := by
  refine ⟨?_, ?_, fun x hx j j1 => ?_, fun x hx j j1 => ?_, by have := m.sz; rw [Array.size_push]; omega, by omega, m.hb⟩
  · rw [Array.toList_push, List.reverse_append]
    refine srt_app (List.pairwise_singleton _ _) m.sr fun x hx y hy => ?_
    rw [List.mem_reverse] at hy
    rw [List.reverse_singleton] at hx
    rw [List.mem_singleton.mp hx, ← KK_ky h]
    exact m.la y hy na (by omega)
  · rw [Array.toList_push, List.reverse_append]
    refine List.Perm.trans ?_ m.pm
    rw [take_snoc h]
    simp only [List.reverse_singleton, List.append_assoc]
    refine List.Perm.append_left _ ?_
    show (b.toList.take nb ++ (a[na] :: out.toList.reverse)).Perm (a[na] :: (b.toList.take nb ++ out.toList.reverse))
    exact List.perm_middle
  · rw [Array.toList_push] at hx
    rcases List.mem_append.mp hx with hx | hx
    · exact m.la x hx j (by omega)
    · rw [List.mem_singleton.mp hx, ← KK_ky h]
      exact sa j na (by omega) h
  · rw [Array.toList_push] at hx
    rcases List.mem_append.mp hx with hx | hx
    · exact m.lb x hx j j1
    · rw [List.mem_singleton.mp hx, ← KK_ky h]
      exact hb j j1
theorem MJ.pushB (m : MJ κ a b na (nb + 1) out) (sb : SortedToK κ b b.size) (h : nb < b.size) (ha : ∀ j, j < na → κ.kle (KK κ a j) (KK κ b nb)) : MJ κ a b na nb (out.push b[nb]) := by
  refine ⟨?_, ?_, fun x hx j j1 => ?_, fun x hx j j1 => ?_, by have := m.sz; rw [Array.size_push]; omega, m.ha, by omega⟩
  · rw [Array.toList_push, List.reverse_append]
    refine srt_app (List.pairwise_singleton _ _) m.sr fun x hx y hy => ?_
    rw [List.mem_reverse] at hy
    rw [List.reverse_singleton] at hx
    rw [List.mem_singleton.mp hx, ← KK_ky h]
    exact m.lb y hy nb (by omega)
  · rw [Array.toList_push, List.reverse_append]
    have := m.pm
    rw [take_snoc h] at this
    simp only [List.reverse_singleton, List.append_assoc] at this ⊢
    exact this
  · rw [Array.toList_push] at hx
    rcases List.mem_append.mp hx with hx | hx
    · exact m.la x hx j j1
    · rw [List.mem_singleton.mp hx, ← KK_ky h]
      exact ha j j1
  · rw [Array.toList_push] at hx
    rcases List.mem_append.mp hx with hx | hx
    · exact m.lb x hx j (by omega)
    · rw [List.mem_singleton.mp hx, ← KK_ky h]
      exact sb j nb (by omega) h
theorem rev_ext {a : Array Keyed} {i k : Nat} (h : i + k < a.size) {out : Array Keyed} : out ++ (a.extract i (i + (k + 1))).reverse = out.push a[i + k] ++ (a.extract i (i + k)).reverse := by
  apply Array.ext'
  rw [ext_succ h, Array.toList_append, Array.toList_append, Array.toList_reverse, Array.toList_reverse, Array.toList_push, Array.toList_push, List.reverse_append, List.reverse_singleton, List.append_assoc]
theorem MJ.manyA (sa : SortedToK κ a a.size) : ∀ k na out, MJ κ a b (na + k) nb out → (∀ i, na ≤ i → i < na + k → ∀ j, j < nb → κ.kle (KK κ b j) (KK κ a i)) → MJ κ a b na nb (out ++ (a.extract na (na + k)).reverse)
  | 0, na, out, m, _ => by rw [ext_zero]; simpa using m
  | k + 1, na, out, m, h => by
    have hk : na + k < a.size := by have := m.ha; omega
    rw [rev_ext hk]
    exact MJ.manyA sa k na _ (MJ.pushA m sa hk (h (na + k) (by omega) (by omega))) fun i i1 i2 => h i i1 (by omega)
theorem MJ.manyB (sb : SortedToK κ b b.size) : ∀ k nb out, MJ κ a b na (nb + k) out → (∀ i, nb ≤ i → i < nb + k → ∀ j, j < na → κ.kle (KK κ a j) (KK κ b i)) → MJ κ a b na nb (out ++ (b.extract nb (nb + k)).reverse)
  | 0, nb, out, m, _ => by rw [ext_zero]; simpa using m
  | k + 1, nb, out, m, h => by
    have hk : nb + k < b.size := by have := m.hb; omega
    rw [rev_ext hk]
    exact MJ.manyB sb k nb _ (MJ.pushB m sb hk (h (nb + k) (by omega) (by omega))) fun i i1 i2 => h i i1 (by omega)
theorem MJ.pushA' (m : MJ κ a b na nb out) (sa : SortedToK κ a a.size) (h1 : 1 ≤ na) (h : na - 1 < a.size) (hb : ∀ j, j < nb → κ.kle (KK κ b j) (KK κ a (na - 1))) : MJ κ a b (na - 1) nb (out.push a[na - 1]) := MJ.pushA (by rwa [Nat.sub_add_cancel h1]) sa h hb
theorem MJ.pushB' (m : MJ κ a b na nb out) (sb : SortedToK κ b b.size) (h1 : 1 ≤ nb) (h : nb - 1 < b.size) (ha : ∀ j, j < na → κ.kle (KK κ a j) (KK κ b (nb - 1))) : MJ κ a b na (nb - 1) (out.push b[nb - 1]) := MJ.pushB (by rwa [Nat.sub_add_cancel h1]) sb h ha
theorem MJ.manyA' {at' : Nat} (m : MJ κ a b na nb out) (sa : SortedToK κ a a.size) (h : at' ≤ na) (hb : ∀ i, at' ≤ i → i < na → ∀ j, j < nb → κ.kle (KK κ b j) (KK κ a i)) : MJ κ a b at' nb (out ++ (a.extract at' na).reverse) := by
  have e : na = at' + (na - at') := by omega
  have := MJ.manyA sa (na - at') at' out (by rw [← e]; exact m) fun i i1 i2 => hb i i1 (by omega)
  rwa [← e] at this
theorem MJ.manyB' {at' : Nat} (m : MJ κ a b na nb out) (sb : SortedToK κ b b.size) (h : at' ≤ nb) (ha : ∀ i, at' ≤ i → i < nb → ∀ j, j < na → κ.kle (KK κ a j) (KK κ b i)) : MJ κ a b na at' (out ++ (b.extract at' nb).reverse) := by
  have e : nb = at' + (nb - at') := by omega
  have := MJ.manyB sb (nb - at') at' out (by rw [← e]; exact m) fun i i1 i2 => ha i i1 (by omega)
  rwa [← e] at this
end
section
variable {prog : Program} {w : World} {A : Around} {E : Value → Shared → Prop} {s : Shared} {kd : SortKind} {κ : KeyKind} {P : Keyed → Prop}
variable (L : ∀ (z : SortSt) (x y : Keyed) (Q : Option Bool → SortSt → Prop), kindOf z = kd → P x → P y → Q (some (κ.blt (ky κ x) (ky κ y))) z → wpS (model prog w) A E s (lt' x y) Q z)
include L
theorem mergeHi_ok {a b : Array Keyed} {z : SortSt} {Q : Array Keyed → SortSt → Prop} (hz : kindOf z = kd) (pa : ∀ p ∈ a, P p) (pb : ∀ p ∈ b, P p) (ha : 1 ≤ a.size) (hb : 1 ≤ b.size) (sa : SortedToK κ a a.size) (sb : SortedToK κ b b.size)
    (fst : ∀ j, j < a.size → κ.kle (KK κ b 0) (KK κ a j)) (lst : ∀ j, j < b.size → κ.kle (KK κ b j) (KK κ a (a.size - 1))) (h : ∀ r z', MO κ a b r → Kp z z' → Q r z') : wpS (model prog w) A E s (mergeHi' a b) Q z := by
  refine wpS_bind (wpS_lift (wpAny_rule ⟨rfl, ?_⟩))
  have ia0 : a.size - 1 < a.size := by omega
  refine wpS_bind (m := elem' a (a.size - 1)) (elem_ok (getElem?_pos a (a.size - 1) ia0) ?_)
  have m0 : MJ κ a b (a.size - 1) b.size #[a[a.size - 1]] := by
    have : MJ κ a b a.size b.size #[] := ⟨List.Pairwise.nil, by
      rw [← Array.length_toList, ← Array.length_toList, List.take_length, List.take_length]; simp, fun x hx => by simp at hx, fun x hx => by simp at hx, by simp, Nat.le_refl _, Nat.le_refl _⟩
    exact this.pushA' sa ha ia0 fun j j1 => lst j j1
  by_cases c1 : a.size - 1 = 0
  · rw [if_pos (by simpa using c1)]
    exact wpS_pure (h _ _ (m0.doneA sb c1) (.refl z))
  rw [if_neg (by simpa using c1)]
  by_cases c2 : b.size = 1
  · rw [if_pos (by simpa using c2)]
    exact wpS_pure (h _ _ (m0.fstB sa sb fst c2) (.refl z))
  rw [if_neg (by simpa using c2)]
  refine wpS_bind (wpS_get ?_)
  dsimp only
  refine wpS_bind (wpS_mono (wpS_forRange (β := Option (Array Keyed) × Nat × Nat × Array Keyed × Nat) (I := fun x c z' => Kp z z' ∧ c.1 = none ∧ MJ κ a b c.2.1 c.2.2.1 c.2.2.2.1 ∧ 1 ≤ c.2.1 ∧ 2 ≤ c.2.2.1 ∧ x ≤ c.2.2.2.1.size) (Q := fun c z' => Kp z z' ∧ ∃ r, c.1 = some r ∧ MO κ a b r) (fun x c z1 x1 x2 ⟨k1, e2, m1, q1, q2, q3⟩ => ?stp) (fun c z1 ⟨k1, e2, m1, q1, q2, q3⟩ => ?fin) ⟨.refl z, rfl, m0, by dsimp only; omega, by dsimp only; omega, Nat.zero_le _⟩) fun c z1 ⟨k1, r, e2, mo⟩ => ?pst)
  case pst =>
    rw [e2]
    exact wpS_pure (h _ _ mo k1)
  case fin =>
    have := m1.sz
    omega
  case stp =>
    clear m0
    obtain ⟨c0, na, nb, out, mg⟩ := c
    dsimp only at e2 m1 q1 q2 q3 ⊢
    refine wpS_bind (wpS_mono (wpS_forRange (β := Option (Array Keyed) × Nat × Nat × Array Keyed × Nat × Nat) (I := fun y c z' => Kp z z' ∧ c.1 = none ∧ MJ κ a b c.2.1 c.2.2.1 c.2.2.2.1 ∧ 1 ≤ c.2.1 ∧ 2 ≤ c.2.2.1 ∧ out.size + y ≤ c.2.2.2.1.size) (Q := fun c z' => Kp z z' ∧ ((∃ r, c.1 = some r ∧ MO κ a b r) ∨ (c.1 = none ∧ MJ κ a b c.2.1 c.2.2.1 c.2.2.2.1 ∧ 1 ≤ c.2.1 ∧ 2 ≤ c.2.2.1 ∧ out.size + 1 ≤ c.2.2.2.1.size))) (fun y c z2 y1 y2 ⟨k2, e3, m2, p1, p2, p3⟩ => ?stp1) (fun c z2 ⟨k2, e3, m2, p1, p2, p3⟩ => ⟨k2, .inr ⟨e3, m2, p1, p2, by omega⟩⟩) ⟨k1, rfl, m1, q1, q2, by dsimp only; omega⟩) fun c z2 ⟨k2, o⟩ => ?pst1)
    case stp1 =>
      obtain ⟨c0', na', nb', out', ac, bc⟩ := c
      dsimp only at e3 m2 p1 p2 p3 ⊢
      have ja : na' - 1 < a.size := by have := m2.ha; omega
      have jb : nb' - 1 < b.size := by have := m2.hb; omega
      refine wpS_bind (m := elem' b (nb' - 1)) (elem_ok (getElem?_pos b _ jb) ?_)
      refine wpS_bind (m := elem' a (na' - 1)) (elem_ok (getElem?_pos a _ ja) ?_)
      refine wpS_bind (m := lt' b[nb' - 1] a[na' - 1]) (L _ _ _ _ (k2.kd.trans hz) (pb _ (Array.getElem_mem jb)) (pa _ (Array.getElem_mem ja)) ?_)
      dsimp only
      cases e : κ.blt (ky κ b[nb' - 1]) (ky κ a[na' - 1]) with
      | true =>
        rw [if_pos rfl]
        refine wpS_bind (m := elem' a (na' - 1)) (elem_ok (getElem?_pos a _ ja) ?_)
        have m3 := m2.pushA' sa p1 ja fun j j1 => KeyOrd.kle_trans (sb j (nb' - 1) (by omega) jb) (KeyOrd.kle_of_klt (by rw [KK_ky jb, KK_ky ja]; exact e))
        by_cases c3 : na' - 1 = 0
        · rw [if_pos (by simpa using c3)]
          exact wpS_pure ⟨k2, .inl ⟨_, rfl, m3.doneA sb c3⟩⟩
        rw [if_neg (by simpa using c3)]
        split
        · exact wpS_pure ⟨k2, .inr ⟨rfl, m3, by dsimp only; omega, p2, by dsimp only; rw [Array.size_push]; omega⟩⟩
        · exact wpS_pure ⟨k2, rfl, m3, by dsimp only; omega, p2, by dsimp only; rw [Array.size_push]; omega⟩
      | false =>
        rw [if_neg (by simp)]
        refine wpS_bind (m := elem' b (nb' - 1)) (elem_ok (getElem?_pos b _ jb) ?_)
        have m3 := m2.pushB' sb (by omega) jb fun j j1 => KeyOrd.kle_trans (sa j (na' - 1) (by omega) ja) (show κ.kle (KK κ a (na' - 1)) (KK κ b (nb' - 1)) by rw [KK_ky jb, KK_ky ja]; exact e)
        by_cases c3 : nb' - 1 = 1
        · rw [if_pos (by simpa using c3)]
          exact wpS_pure ⟨k2, .inl ⟨_, rfl, m3.fstB sa sb fst c3⟩⟩
        rw [if_neg (by simpa using c3)]
        split
        · exact wpS_pure ⟨k2, .inr ⟨rfl, m3, p1, by dsimp only; omega, by dsimp only; rw [Array.size_push]; omega⟩⟩
        · exact wpS_pure ⟨k2, rfl, m3, p1, by dsimp only; omega, by dsimp only; rw [Array.size_push]; omega⟩
    case pst1 =>
      obtain ⟨c0', na', nb', out', ac, bc⟩ := c
      dsimp only at o ⊢
      rcases o with ⟨r, e3, mo⟩ | ⟨e3, m2, p1, p2, p3⟩
      · rw [e3]
        exact wpS_pure ⟨k2, r, rfl, mo⟩
      rw [e3]
      dsimp only
      refine wpS_bind (wpS_lift (wpAny_rule ⟨rfl, ?_⟩))
      refine wpS_bind (wpS_mono (wpS_forRange (β := Option (Array Keyed) × Nat × Nat × Array Keyed × Nat × Nat × Nat) (I := fun y c z' => Kp z z' ∧ c.1 = none ∧ MJ κ a b c.2.1 c.2.2.1 c.2.2.2.1 ∧ 1 ≤ c.2.1 ∧ 2 ≤ c.2.2.1 ∧ out.size + 1 ≤ c.2.2.2.1.size) (Q := fun c z' => Kp z z' ∧ ((∃ r, c.1 = some r ∧ MO κ a b r) ∨ (c.1 = none ∧ MJ κ a b c.2.1 c.2.2.1 c.2.2.2.1 ∧ 1 ≤ c.2.1 ∧ 2 ≤ c.2.2.1 ∧ out.size + 1 ≤ c.2.2.2.1.size))) (fun y c z3 y1 y2 ⟨k3, e4, m3, r1, r2, r3⟩ => ?stp2) (fun c z3 ⟨k3, e4, m3, r1, r2, r3⟩ => ⟨k3, .inr ⟨e4, m3, r1, r2, r3⟩⟩) ⟨k2, rfl, m2, p1, p2, p3⟩) fun c z3 ⟨k3, o⟩ => ?pst2)
      case pst2 =>
        obtain ⟨c0'', na'', nb'', out'', mg', ac', bc'⟩ := c
        dsimp only at o ⊢
        rcases o with ⟨r, e4, mo⟩ | ⟨e4, m3, r1, r2, r3⟩
        · rw [e4]
          exact wpS_pure ⟨k3, r, rfl, mo⟩
        rw [e4]
        dsimp only
        refine wpS_bind (m := setMG (mg' + 1)) (setMG_ok fun z4 k4 => ?_)
        exact wpS_pure ⟨k3.trans k4, rfl, m3, r1, r2, by dsimp only; omega⟩
      case stp2 =>
        clear m2 p1 p2 p3 m1 q1 q2 e3 e2 k1 k2
        obtain ⟨c0'', na'', nb'', out'', mg', ac', bc'⟩ := c
        dsimp only at e4 m3 r1 r2 r3 ⊢
        have s3 := m3.sz
        have h3a := m3.ha
        have h3b := m3.hb
        have jb : nb'' - 1 < b.size := by omega
        rcases Classical.em (mg' > 1) with hm | hm
        rw [if_pos hm]
        rotate_left
        rw [if_neg hm]
        all_goals
          refine wpS_bind (m := setMG _) (setMG_ok fun z4 k4 => ?_)
          have kz := k3.trans k4
          refine wpS_bind (m := elem' b (nb'' - 1)) (elem_ok (getElem?_pos b _ jb) ?_)
          refine wpS_bind (m := gallop' false b[nb'' - 1] a 0 na'' (na'' - 1)) (gallop_ok L (B := fun t => !κ.blt (KK κ b (nb'' - 1)) (KK κ a t)) (kz.kd.trans hz) (pb _ (Array.getElem_mem jb)) pa (by omega) (by omega) (fun t h1 h2 => by rw [if_neg (by simp), ← KK_ky h1, ← KK_ky jb, Nat.zero_add]) (fun t u tu un q => ?_) fun k tk => ?_)
          · simp only [Bool.not_eq_true'] at q ⊢
            exact KeyOrd.kle_trans (sa _ _ tu (by omega)) q
          dsimp only
          have l4 := tk.le
          have ya : ∀ t, k ≤ t → t < na'' → ∀ j, j < nb'' → κ.kle (KK κ b j) (KK κ a t) := fun t t1 t2 j j1 => by
            have q := tk.no t t1 t2
            rw [Bool.not_eq_false'] at q
            exact KeyOrd.kle_trans (sb j (nb'' - 1) (by omega) jb) (KeyOrd.kle_of_klt q)
          have yn : ∀ t, t < k → κ.kle (KK κ a t) (KK κ b (nb'' - 1)) := fun t t1 => by
            have q := tk.yes t t1
            rw [Bool.not_eq_true'] at q
            exact q
          by_cases hk : na'' - k > 0
          · rw [if_pos hk]
            have m4 := MJ.manyA' m3 sa l4 ya
            have s4 := m4.sz
            by_cases c3 : k = 0
            · rw [if_pos (by simpa using c3)]
              exact wpS_pure ⟨kz, .inl ⟨_, rfl, m4.doneA sb c3⟩⟩
            rw [if_neg (by simpa using c3)]
            refine wpS_bind (m := elem' b (nb'' - 1)) (elem_ok (getElem?_pos b _ jb) ?_)
            have m5 := MJ.pushB' m4 sb (by omega) jb yn
            have s5 := m5.sz
            by_cases c5 : nb'' - 1 = 1
            · rw [if_pos (by simpa using c5)]
              exact wpS_pure ⟨kz, .inl ⟨_, rfl, m5.fstB sa sb fst c5⟩⟩
            rw [if_neg (by simpa using c5)]
            have i5 : k - 1 < a.size := by omega
            refine wpS_bind (m := elem' a (k - 1)) (elem_ok (getElem?_pos a (k - 1) i5) ?_)
            refine wpS_bind (m := gallop' true a[k - 1] b 0 (nb'' - 1) (nb'' - 1 - 1)) (gallop_ok L (B := fun t => κ.blt (KK κ b t) (KK κ a (k - 1))) (kz.kd.trans hz) (pa _ (Array.getElem_mem i5)) pb (by omega) (by omega) (fun t h1 h2 => by rw [if_pos rfl, ← KK_ky h1, ← KK_ky i5, Nat.zero_add]) (fun t u tu un q => KeyOrd.klt_of_kle_of_klt (sb _ _ tu (by omega)) q) fun k' tk' => ?_)
            dsimp only
            have l6 := tk'.le
            have ym : ∀ t, k' ≤ t → t < nb'' - 1 → ∀ j, j < k → κ.kle (KK κ a j) (KK κ b t) := fun t t1 t2 j j1 => by
              have q := tk'.no t t1 t2
              exact KeyOrd.kle_trans (sa j (k - 1) (by omega) i5) q
            have nm : ∀ t, t < k' → κ.kle (KK κ b t) (KK κ a (k - 1)) := fun t t1 => KeyOrd.kle_of_klt (tk'.yes t t1)
            by_cases hk' : nb'' - 1 - k' > 0
            · rw [if_pos hk']
              have m6 := MJ.manyB' m5 sb l6 ym
              have s6 := m6.sz
              by_cases c6 : k' = 1
              · rw [if_pos (by simpa using c6)]
                exact wpS_pure ⟨kz, .inl ⟨_, rfl, m6.fstB sa sb fst c6⟩⟩
              rw [if_neg (by simpa using c6)]
              by_cases c8 : k' = 0
              · rw [if_pos (by simpa using c8)]
                exact wpS_pure ⟨kz, .inl ⟨_, rfl, m6.doneB sa c8⟩⟩
              rw [if_neg (by simpa using c8)]
              have iu : k - 1 < a.size := by omega
              refine wpS_bind (m := elem' a (k - 1)) (elem_ok (getElem?_pos a (k - 1) iu) ?_)
              have m7 := MJ.pushA' m6 sa (by omega) iu nm
              have s7 := m7.sz
              by_cases c7 : k - 1 = 0
              · rw [if_pos (by simpa using c7)]
                exact wpS_pure ⟨kz, .inl ⟨_, rfl, m7.doneA sb c7⟩⟩
              rw [if_neg (by simpa using c7)]
              split
              · exact wpS_pure ⟨kz, .inr ⟨rfl, m7, by dsimp only; omega, by dsimp only; omega, by dsimp only; omega⟩⟩
              · exact wpS_pure ⟨kz, rfl, m7, by dsimp only; omega, by dsimp only; omega, by dsimp only; omega⟩
            · rw [if_neg hk']
              have iu : k - 1 < a.size := by omega
              refine wpS_bind (m := elem' a (k - 1)) (elem_ok (getElem?_pos a (k - 1) iu) ?_)
              have m7 := MJ.pushA' m5 sa (by omega) iu (fun t t1 => nm t (by omega))
              have s7 := m7.sz
              by_cases c7 : k - 1 = 0
              · rw [if_pos (by simpa using c7)]
                exact wpS_pure ⟨kz, .inl ⟨_, rfl, m7.doneA sb c7⟩⟩
              rw [if_neg (by simpa using c7)]
              split
              · exact wpS_pure ⟨kz, .inr ⟨rfl, m7, by dsimp only; omega, by dsimp only; omega, by dsimp only; omega⟩⟩
              · exact wpS_pure ⟨kz, rfl, m7, by dsimp only; omega, by dsimp only; omega, by dsimp only; omega⟩
          · rw [if_neg hk]
            refine wpS_bind (m := elem' b (nb'' - 1)) (elem_ok (getElem?_pos b _ jb) ?_)
            have m5 := MJ.pushB' m3 sb (by omega) jb (fun t t1 => yn t (by omega))
            have s5 := m5.sz
            by_cases c5 : nb'' - 1 = 1
            · rw [if_pos (by simpa using c5)]
              exact wpS_pure ⟨kz, .inl ⟨_, rfl, m5.fstB sa sb fst c5⟩⟩
            rw [if_neg (by simpa using c5)]
            have i5 : na'' - 1 < a.size := by omega
            refine wpS_bind (m := elem' a (na'' - 1)) (elem_ok (getElem?_pos a (na'' - 1) i5) ?_)
            refine wpS_bind (m := gallop' true a[na'' - 1] b 0 (nb'' - 1) (nb'' - 1 - 1)) (gallop_ok L (B := fun t => κ.blt (KK κ b t) (KK κ a (na'' - 1))) (kz.kd.trans hz) (pa _ (Array.getElem_mem i5)) pb (by omega) (by omega) (fun t h1 h2 => by rw [if_pos rfl, ← KK_ky h1, ← KK_ky i5, Nat.zero_add]) (fun t u tu un q => KeyOrd.klt_of_kle_of_klt (sb _ _ tu (by omega)) q) fun k' tk' => ?_)
            dsimp only
            have l6 := tk'.le
            have ym : ∀ t, k' ≤ t → t < nb'' - 1 → ∀ j, j < na'' → κ.kle (KK κ a j) (KK κ b t) := fun t t1 t2 j j1 => by
              have q := tk'.no t t1 t2
              exact KeyOrd.kle_trans (sa j (na'' - 1) (by omega) i5) q
            have nm : ∀ t, t < k' → κ.kle (KK κ b t) (KK κ a (na'' - 1)) := fun t t1 => KeyOrd.kle_of_klt (tk'.yes t t1)
            by_cases hk' : nb'' - 1 - k' > 0
            · rw [if_pos hk']
              have m6 := MJ.manyB' m5 sb l6 ym
              have s6 := m6.sz
              by_cases c6 : k' = 1
              · rw [if_pos (by simpa using c6)]
                exact wpS_pure ⟨kz, .inl ⟨_, rfl, m6.fstB sa sb fst c6⟩⟩
              rw [if_neg (by simpa using c6)]
              by_cases c8 : k' = 0
              · rw [if_pos (by simpa using c8)]
                exact wpS_pure ⟨kz, .inl ⟨_, rfl, m6.doneB sa c8⟩⟩
              rw [if_neg (by simpa using c8)]
              have iu : na'' - 1 < a.size := by omega
              refine wpS_bind (m := elem' a (na'' - 1)) (elem_ok (getElem?_pos a (na'' - 1) iu) ?_)
              have m7 := MJ.pushA' m6 sa (by omega) iu nm
              have s7 := m7.sz
              by_cases c7 : na'' - 1 = 0
              · rw [if_pos (by simpa using c7)]
                exact wpS_pure ⟨kz, .inl ⟨_, rfl, m7.doneA sb c7⟩⟩
              rw [if_neg (by simpa using c7)]
              split
              · exact wpS_pure ⟨kz, .inr ⟨rfl, m7, by dsimp only; omega, by dsimp only; omega, by dsimp only; omega⟩⟩
              · exact wpS_pure ⟨kz, rfl, m7, by dsimp only; omega, by dsimp only; omega, by dsimp only; omega⟩
            · rw [if_neg hk']
              have iu : na'' - 1 < a.size := by omega
              refine wpS_bind (m := elem' a (na'' - 1)) (elem_ok (getElem?_pos a (na'' - 1) iu) ?_)
              have m7 := MJ.pushA' m5 sa (by omega) iu (fun t t1 => nm t (by omega))
              have s7 := m7.sz
              by_cases c7 : na'' - 1 = 0
              · rw [if_pos (by simpa using c7)]
                exact wpS_pure ⟨kz, .inl ⟨_, rfl, m7.doneA sb c7⟩⟩
              rw [if_neg (by simpa using c7)]
              split
              · exact wpS_pure ⟨kz, .inr ⟨rfl, m7, by dsimp only; omega, by dsimp only; omega, by dsimp only; omega⟩⟩
              · exact wpS_pure ⟨kz, rfl, m7, by dsimp only; omega, by dsimp only; omega, by dsimp only; omega⟩
end
end HM
set_option Elab.async false
set_option linter.all false
set_option maxRecDepth 100000
set_option maxHeartbeats 4000000
namespace HM
open PySem PySem.Spec PyProof.Rows HS
theorem wpS_set {σ : Type} {M : Model} {A : Around} {E : Value → Shared → Prop} {s : Shared} {Q : PUnit → σ → Prop} {st st' : σ} (h : Q ⟨⟩ st') : wpS M A E s (set st' : StateT σ Sem PUnit) Q st := by
  unfold wpS
  rw [StateT.run_set]
  exact wpAny_pure ⟨rfl, h⟩
section
variable {κ : KeyKind}
def Seg (κ : KeyKind) (xs : Array Keyed) (lo hi : Nat) : Prop := ∀ i j, lo ≤ i → i ≤ j → j < hi → κ.kle (KK κ xs i) (KK κ xs j)
def patch (xs : Array Keyed) (at' : Nat) (l : List Keyed) : Array Keyed := l.zipIdx.foldl (fun a x => match x with | (p, j) => a.setIfInBounds (at' + j) p) xs
theorem patch_go {at' : Nat} : ∀ (l : List Keyed) (m : Nat) (xs : Array Keyed), at' + m + l.length ≤ xs.size → ((l.zipIdx m).foldl (fun a x => match x with | (p, j) => a.setIfInBounds (at' + j) p) xs).toList = xs.toList.take (at' + m) ++ (l ++ xs.toList.drop (at' + m + l.length))
  | [], m, xs, h => by simp
  | x :: r, m, xs, h => by
    rw [List.length_cons] at h
    rw [List.zipIdx_cons, List.foldl_cons]
    rw [patch_go r (m + 1) _ (by simp; omega)]
    simp only [Array.toList_setIfInBounds]
    have hl : at' + m < xs.toList.length := by simp; omega
    rw [show at' + (m + 1) = at' + m + 1 by omega, List.take_set, List.take_add_one, List.getElem?_eq_getElem hl, List.drop_set_of_lt (by omega), List.length_cons, show at' + m + 1 + r.length = at' + m + (r.length + 1) by omega]
    rw [List.set_append_right _ _ (by simp; omega)]
    have : at' + m - (xs.toList.take (at' + m)).length = 0 := by rw [List.length_take]; omega
    rw [this]
    simp
theorem patch_list {xs : Array Keyed} {at' : Nat} {l : List Keyed} (h : at' + l.length ≤ xs.size) : (patch xs at' l).toList = xs.toList.take at' ++ (l ++ xs.toList.drop (at' + l.length)) := by
  have := patch_go (at' := at') l 0 xs (by omega)
  rw [Nat.add_zero] at this
  exact this
theorem patch_get {xs : Array Keyed} {at' : Nat} {l : List Keyed} (h : at' + l.length ≤ xs.size) (k : Nat) : (patch xs at' l)[k]? = if at' ≤ k ∧ k < at' + l.length then l[k - at']? else xs[k]? := by
  rw [← Array.getElem?_toList, patch_list h]
  have hl : (xs.toList.take at').length = at' := by rw [List.length_take, Array.length_toList]; omega
  by_cases h1 : k < at'
  · rw [if_neg (by omega), List.getElem?_append_left (by omega), List.getElem?_take, if_pos h1, Array.getElem?_toList]
  rw [List.getElem?_append_right (by omega), hl]
  by_cases h2 : k < at' + l.length
  · rw [if_pos ⟨by omega, h2⟩, List.getElem?_append_left (by omega)]
  · rw [if_neg (by omega), List.getElem?_append_right (by omega), List.getElem?_drop, show at' + l.length + (k - at' - l.length) = k by omega, Array.getElem?_toList]
theorem KK_ext {xs : Array Keyed} {u v t : Nat} (h : u + t < v) (hv : v ≤ xs.size) : KK κ (xs.extract u v) t = KK κ xs (u + t) := by
  refine KK_congr ?_
  rw [Array.getElem?_extract_of_lt (by omega), getElem?_pos xs _ (by omega)]
theorem srt_seg {r : Array Keyed} (h : Srt κ r.toList) : SortedToK κ r r.size := fun i j ij jr => by
  rcases Nat.lt_or_ge i j with q | q
  · have := List.pairwise_iff_getElem.mp h i j (by simp; omega) (by simpa using jr) q
    rw [KK_ky (by omega), KK_ky jr]
    simpa using this
  · obtain rfl : i = j := by omega
    exact KeyOrd.kle_refl _
theorem seg_ext {xs : Array Keyed} {u v : Nat} (h : Seg κ xs u v) (hv : v ≤ xs.size) : SortedToK κ (xs.extract u v) (xs.extract u v).size := fun i j ij hj => by
  rw [Array.size_extract] at hj
  rw [KK_ext (by omega) hv, KK_ext (by omega) hv]
  exact h (u + i) (u + j) (by omega) (by omega) (by omega)
theorem cut3 {xs : Array Keyed} {u v c : Nat} (huv : u ≤ v) (hc : v + c ≤ xs.size) : xs.toList = xs.toList.take u ++ (((xs.extract u v).toList ++ (xs.extract v (v + c)).toList) ++ xs.toList.drop (v + c)) := by
  rw [Array.toList_extract, Array.toList_extract, List.extract_eq_drop_take, List.extract_eq_drop_take, show v + c - v = c by omega]
  have e1 : xs.toList.drop (v + c) = (xs.toList.drop v).drop c := by rw [List.drop_drop]
  have e2 : xs.toList.drop v = (xs.toList.drop u).drop (v - u) := by rw [List.drop_drop, show u + (v - u) = v by omega]
  rw [List.append_assoc, e1, List.take_append_drop, e2, List.take_append_drop, List.take_append_drop]
variable {prog : Program} {w : World} {A : Around} {E : Value → Shared → Prop} {s : Shared} {kd : SortKind} {P : Keyed → Prop}
structure Mg (κ : KeyKind) (xs ys : Array Keyed) (sa hi : Nat) : Prop where
  pm : ys.Perm xs
  fr : ∀ k, k < sa ∨ hi ≤ k → ys[k]? = xs[k]?
  sg : Seg κ ys sa hi
variable (L : ∀ (z : SortSt) (x y : Keyed) (Q : Option Bool → SortSt → Prop), kindOf z = kd → P x → P y → Q (some (κ.blt (ky κ x) (ky κ y))) z → wpS (model prog w) A E s (lt' x y) Q z)
theorem merged {xs : Array Keyed} {sa sb nb k c : Nat} {r : Array Keyed} (h1 : sa + k < sb) (h2 : 0 < c) (h3 : c ≤ nb) (h4 : sb + nb ≤ xs.size) (ga : Seg κ xs sa sb) (gb : Seg κ xs sb (sb + nb)) (lo : ∀ t, t < k → κ.kle (KK κ xs (sa + t)) (KK κ xs sb)) (hi : ∀ t, c ≤ t → t < nb → κ.kle (KK κ xs (sb - 1)) (KK κ xs (sb + t))) (mo : MO κ (xs.extract (sa + k) sb) (xs.extract sb (sb + c)) r) : Mg κ xs (patch xs (sa + k) r.toList) sa (sb + nb) := by
  have hsz : r.toList.length = sb - (sa + k) + c := by
    have := mo.pm.length_eq
    rw [List.length_append] at this
    simp only [Array.length_toList, Array.size_extract] at this ⊢
    omega
  have hb : (sa + k) + r.toList.length ≤ xs.size := by omega
  have hb2 : (sa + k) + r.toList.length = sb + c := by omega
  have get := patch_get hb
  have src : ∀ t, t < r.size → ∃ u, sa + k ≤ u ∧ u < sb + c ∧ KK κ r t = KK κ xs u := fun t ht => by
    have hm : r[t] ∈ (xs.extract (sa + k) sb).toList ++ (xs.extract sb (sb + c)).toList := mo.pm.mem_iff.mp (by simp)
    rw [KK_ky ht]
    rcases List.mem_append.mp hm with hm | hm
    · obtain ⟨j, hj, e⟩ := List.mem_iff_getElem.mp hm
      rw [Array.length_toList, Array.size_extract] at hj
      refine ⟨sa + k + j, by omega, by omega, ?_⟩
      rw [KK_ky (by omega), ← e]
      simp
    · obtain ⟨j, hj, e⟩ := List.mem_iff_getElem.mp hm
      rw [Array.length_toList, Array.size_extract] at hj
      refine ⟨sb + j, by omega, by omega, ?_⟩
      rw [KK_ky (by omega), ← e]
      simp
  have rs := srt_seg mo.sr
  rw [Array.length_toList] at hsz
  have kin : ∀ i, sa + k ≤ i → i < sb + c → KK κ (patch xs (sa + k) r.toList) i = KK κ r (i - (sa + k)) := fun i i1 i2 => by
    refine KK_congr ?_
    rw [get, if_pos ⟨i1, by omega⟩, Array.getElem?_toList]
  have kout : ∀ i, (i < sa + k ∨ sb + c ≤ i) → KK κ (patch xs (sa + k) r.toList) i = KK κ xs i := fun i i1 => by
    refine KK_congr ?_
    rw [get, if_neg (by omega)]
  refine ⟨?_, fun i hi' => by rw [get, if_neg (by omega)], fun i j i1 ij j2 => ?_⟩
  · rw [Array.perm_iff_toList_perm, patch_list hb, hb2]
    conv => rhs; rw [cut3 (xs := xs) (u := sa + k) (v := sb) (c := c) (by omega) (by omega)]
    exact List.Perm.append_left _ (List.Perm.append_right _ mo.pm)
  · by_cases p1 : i < sa + k
    · rw [kout i (.inl p1)]
      have il := lo (i - sa) (by omega)
      rw [show sa + (i - sa) = i by omega] at il
      by_cases p2 : j < sa + k
      · rw [kout j (.inl p2)]
        exact ga i j i1 ij (by omega)
      by_cases p3 : j < sb + c
      · rw [kin j (by omega) p3]
        obtain ⟨u, u1, u2, u3⟩ := src (j - (sa + k)) (by omega)
        rw [u3]
        by_cases p4 : u < sb
        · exact ga i u i1 (by omega) p4
        · exact KeyOrd.kle_trans il (gb sb u (by omega) (by omega) (by omega))
      · rw [kout j (.inr (by omega))]
        exact KeyOrd.kle_trans il (gb sb j (by omega) (by omega) j2)
    by_cases p2 : i < sb + c
    · rw [kin i (by omega) p2]
      by_cases p3 : j < sb + c
      · rw [kin j (by omega) p3]
        exact rs _ _ (by omega) (by omega)
      · rw [kout j (.inr (by omega))]
        obtain ⟨u, u1, u2, u3⟩ := src (i - (sa + k)) (by omega)
        rw [u3]
        by_cases p4 : u < sb
        · have := hi (j - sb) (by omega) (by omega)
          rw [show sb + (j - sb) = j by omega] at this
          exact KeyOrd.kle_trans (ga u (sb - 1) (by omega) (by omega) (by omega)) this
        · exact gb u j (by omega) (by omega) j2
    · rw [kout i (.inr (by omega)), kout j (.inr (by omega))]
      exact gb i j (by omega) ij j2
include L
theorem mergeAt_ok {i : Nat} {z : SortSt} {Q : Bool → SortSt → Prop} {sa na pw sb nb pw2 : Nat} (hz : kindOf z = kd) (hf : failedOf z = none) (pa : ∀ p ∈ arrOf z, P p) (e1 : (pendingOf z)[i]? = some (sa, na, pw)) (e2 : (pendingOf z)[i + 1]? = some (sb, nb, pw2)) (hab : sb = sa + na) (h1 : 1 ≤ na) (h2 : 1 ≤ nb) (hs : sb + nb ≤ (arrOf z).size) (ga : Seg κ (arrOf z) sa sb) (gb : Seg κ (arrOf z) sb (sb + nb))
    (h : ∀ z', kindOf z' = kd → failedOf z' = none → pendingOf z' = ((pendingOf z).setIfInBounds i (sa, na + nb, pw)).eraseIdxIfInBounds (i + 1) → Mg κ (arrOf z) (arrOf z') sa (sb + nb) → Q true z') : wpS (model prog w) A E s (mergeAt' i) Q z := by
  refine wpS_bind (wpS_get ?_)
  rw [e1, e2]
  dsimp only
  refine wpS_bind (wpS_set ?_)
  have jb : sb < (arrOf z).size := by omega
  refine wpS_bind (m := elem' (arrOf z) sb) (elem_ok (getElem?_pos _ sb jb) ?_)
  refine wpS_bind (m := gallop' false (arrOf z)[sb] (arrOf z) sa na 0) (gallop_ok L (B := fun t => !κ.blt (KK κ (arrOf z) sb) (KK κ (arrOf z) (sa + t))) hz (pa _ (Array.getElem_mem jb)) pa (by omega) (by omega) (fun t t1 t2 => by rw [if_neg (by simp), ← KK_ky t1, ← KK_ky jb]) (fun t u tu un q => ?_) fun k tk => ?_)
  · simp only [Bool.not_eq_true'] at q ⊢
    exact KeyOrd.kle_trans (ga _ _ (by omega) (by omega) (by omega)) q
  dsimp only
  have lo : ∀ t, t < k → κ.kle (KK κ (arrOf z) (sa + t)) (KK κ (arrOf z) sb) := fun t t1 => by
    have q := tk.yes t t1
    rw [Bool.not_eq_true'] at q
    exact q
  have lk := tk.le
  by_cases c1 : na - k = 0
  · rw [if_pos (by simpa using c1)]
    refine wpS_pure (h _ hz hf rfl ⟨Array.Perm.refl _, fun _ _ => rfl, fun i j i1 ij j2 => ?_⟩)
    show κ.kle (KK κ (arrOf z) i) (KK κ (arrOf z) j)
    by_cases p1 : i < sb
    · by_cases p2 : j < sb
      · exact ga i j i1 ij p2
      · have := lo (i - sa) (by omega)
        rw [show sa + (i - sa) = i by omega] at this
        exact KeyOrd.kle_trans this (gb sb j (by omega) (by omega) j2)
    · exact gb i j (by omega) ij j2
  rw [if_neg (by simpa using c1)]
  have ja : sa + k + (na - k) - 1 < (arrOf z).size := by omega
  refine wpS_bind (m := elem' (arrOf z) (sa + k + (na - k) - 1)) (elem_ok (getElem?_pos (arrOf z) _ ja) ?_)
  have ej : sa + k + (na - k) - 1 = sb - 1 := by omega
  refine wpS_bind (m := gallop' true (arrOf z)[sa + k + (na - k) - 1] (arrOf z) sb nb (nb - 1)) (gallop_ok L (B := fun t => κ.blt (KK κ (arrOf z) (sb + t)) (KK κ (arrOf z) (sb - 1))) hz (pa _ (Array.getElem_mem ja)) pa (by omega) (by omega) (fun t t1 t2 => by rw [if_pos rfl, ← KK_ky t1, ← KK_ky ja, ej]) (fun t u tu un q => KeyOrd.klt_of_kle_of_klt (gb _ _ (by omega) (by omega) (by omega)) q) fun c tc => ?_)
  dsimp only
  have lc := tc.le
  have hi : ∀ t, c ≤ t → t < nb → κ.kle (KK κ (arrOf z) (sb - 1)) (KK κ (arrOf z) (sb + t)) := fun t t1 t2 => tc.no t t1 t2
  by_cases c2 : c = 0
  · rw [if_pos (by simpa using c2)]
    refine wpS_pure (h _ hz hf rfl ⟨Array.Perm.refl _, fun _ _ => rfl, fun i j i1 ij j2 => ?_⟩)
    show κ.kle (KK κ (arrOf z) i) (KK κ (arrOf z) j)
    by_cases p1 : i < sb
    · by_cases p2 : j < sb
      · exact ga i j i1 ij p2
      · have := hi (j - sb) (by omega) (by omega)
        rw [show sb + (j - sb) = j by omega] at this
        exact KeyOrd.kle_trans (ga i (sb - 1) i1 (by omega) (by omega)) this
    · exact gb i j (by omega) ij j2
  rw [if_neg (by simpa using c2)]
  have px : ∀ p ∈ (arrOf z).extract (sa + k) sb, P p := fun p hp => pa p (by
    rw [← Array.mem_toList_iff] at hp ⊢
    rw [Array.toList_extract, List.extract_eq_drop_take] at hp
    exact List.mem_of_mem_drop (List.mem_of_mem_take hp))
  have py : ∀ p ∈ (arrOf z).extract sb (sb + c), P p := fun p hp => pa p (by
    rw [← Array.mem_toList_iff] at hp ⊢
    rw [Array.toList_extract, List.extract_eq_drop_take] at hp
    exact List.mem_of_mem_drop (List.mem_of_mem_take hp))
  have xs : ((arrOf z).extract (sa + k) sb).size = sb - (sa + k) := by rw [Array.size_extract]; omega
  have ys : ((arrOf z).extract sb (sb + c)).size = c := by rw [Array.size_extract]; omega
  have ax := seg_ext (κ := κ) (xs := arrOf z) (u := sa + k) (v := sb) (fun i j i1 ij j2 => ga i j (by omega) ij j2) (by omega)
  have ay := seg_ext (κ := κ) (xs := arrOf z) (u := sb) (v := sb + c) (fun i j i1 ij j2 => gb i j (by omega) ij (by omega)) (by omega)
  have fs : ∀ j, j < ((arrOf z).extract (sa + k) sb).size → κ.kle (KK κ ((arrOf z).extract sb (sb + c)) 0) (KK κ ((arrOf z).extract (sa + k) sb) j) := fun j hj => by
    rw [xs] at hj
    rw [KK_ext (by omega) (by omega), KK_ext (by omega) (by omega)]
    have q := tk.no (k + j) (by omega) (by omega)
    rw [Bool.not_eq_false'] at q
    rw [Nat.add_zero, Nat.add_assoc]
    exact KeyOrd.kle_of_klt q
  have ls : ∀ j, j < ((arrOf z).extract sb (sb + c)).size → κ.kle (KK κ ((arrOf z).extract sb (sb + c)) j) (KK κ ((arrOf z).extract (sa + k) sb) (((arrOf z).extract (sa + k) sb).size - 1)) := fun j hj => by
    rw [ys] at hj
    rw [xs, KK_ext (by omega) (by omega), KK_ext (by omega) (by omega), show sa + k + (sb - (sa + k) - 1) = sb - 1 by omega]
    exact KeyOrd.kle_of_klt (tc.yes j hj)
  have fin : ∀ (r : Array Keyed) (z' : SortSt), MO κ ((arrOf z).extract (sa + k) sb) ((arrOf z).extract sb (sb + c)) r → Kp (SortSt.mk' (kindOf z) (arrOf z) (((pendingOf z).setIfInBounds i (sa, na + nb, pw)).eraseIdxIfInBounds (i + 1)) (gallopOf z) (failedOf z)) z' → Q (failedOf z').isNone (setArr z' (patch (arrOf z') (sa + k) r.toList)) := fun r z' mo kp => by
    rw [show (failedOf z').isNone = true by rw [kp.fl]; show (failedOf z).isNone = true; rw [hf]; rfl]
    refine h _ (kp.kd.trans hz) (kp.fl.trans hf) kp.pe ?_
    show Mg κ (arrOf z) (patch (arrOf z') (sa + k) r.toList) sa (sb + nb)
    rw [kp.ar]
    exact merged (by omega) (by omega) lc hs ga gb lo hi mo
  by_cases c3 : na - k ≤ c
  · rw [if_pos c3]
    refine wpS_bind (m := mergeLo' ((arrOf z).extract (sa + k) sb) ((arrOf z).extract sb (sb + c))) (mergeLo_ok L hz px py (by omega) (by omega) ax ay fs ls fun r z' mo kp => ?_)
    exact wpS_bind (wpS_modify (wpS_bind (wpS_get (wpS_pure (fin r z' mo kp)))))
  · rw [if_neg c3]
    refine wpS_bind (m := mergeHi' ((arrOf z).extract (sa + k) sb) ((arrOf z).extract sb (sb + c))) (mergeHi_ok L hz px py (by omega) (by omega) ax ay fs ls fun r z' mo kp => ?_)
    exact wpS_bind (wpS_modify (wpS_bind (wpS_get (wpS_pure (fin r z' mo kp)))))
end
end HM
set_option Elab.async false
set_option linter.all false
set_option maxRecDepth 100000
set_option maxHeartbeats 4000000
namespace HM
open PySem PySem.Spec PyProof.Rows HS
structure Ahd (lo : Nat) (z z' : SortSt) : Prop where
  pm : (arrOf z').Perm (arrOf z)
  kd : kindOf z' = kindOf z
  fl : failedOf z' = failedOf z
  pe : pendingOf z' = pendingOf z
  fr : ∀ k, k < lo → (arrOf z')[k]? = (arrOf z)[k]?
theorem Ahd.refl (lo : Nat) (z : SortSt) : Ahd lo z z := ⟨Array.Perm.refl _, rfl, rfl, rfl, fun _ _ => rfl⟩
theorem Ahd.sz {lo : Nat} {z z' : SortSt} (h : Ahd lo z z') : (arrOf z').size = (arrOf z).size := h.pm.size_eq
theorem Ahd.all {lo : Nat} {z z' : SortSt} {P : Keyed → Prop} (h : Ahd lo z z') (p : ∀ x ∈ arrOf z, P x) : ∀ x ∈ arrOf z', P x := fun x hx => p x (h.pm.mem_iff.mp hx)
theorem Ahd.rev {lo i j : Nat} {z z' : SortSt} (h : Ahd lo z z') (hi : lo ≤ i) (hj : j ≤ (arrOf z').size) : Ahd lo z (setArr z' (mirror (arrOf z') i j ((j - i) / 2))) := by
  refine ⟨(mirror_perm _ _ _ _).trans h.pm, h.kd, h.fl, h.pe, fun k hk => ?_⟩
  show (mirror (arrOf z') i j ((j - i) / 2))[k]? = _
  rw [getElem?_mirror_all hj, if_neg (by omega)]
  exact h.fr k hk
theorem Ahd.down {lo i j : Nat} {z z' : SortSt} (h : Ahd lo z z') (hi : lo ≤ i) (hij : i ≤ j) (hj : j < (arrOf z').size) : Ahd lo z (setArr z' (bubble (arrOf z') j (j - i))) := by
  refine ⟨(bubble_perm _ _ _).trans h.pm, h.kd, h.fl, h.pe, fun k hk => ?_⟩
  show (bubble (arrOf z') j (j - i))[k]? = _
  rw [getElem?_bubble hj (j - i) (by omega), if_neg (by omega), if_neg (by omega)]
  exact h.fr k hk
section
variable {κ : KeyKind}
def Dsc (κ : KeyKind) (xs : Array Keyed) (lo hi : Nat) : Prop := ∀ i j, lo ≤ i → i ≤ j → j < hi → κ.kle (KK κ xs j) (KK κ xs i)
theorem Seg.more {xs : Array Keyed} {lo hi : Nat} (u : Seg κ xs lo hi) (h : lo < hi → κ.kle (KK κ xs (hi - 1)) (KK κ xs hi)) : Seg κ xs lo (hi + 1) := fun i j i1 ij jm => by
  rcases Nat.lt_or_ge j hi with q | q
  · exact u i j i1 ij q
  obtain rfl : j = hi := by omega
  rcases Nat.lt_or_ge i j with p | p
  · exact KeyOrd.kle_trans (u i (j - 1) i1 (by omega) (by omega)) (h (by omega))
  · obtain rfl : i = j := by omega
    exact KeyOrd.kle_refl _
theorem Dsc.more {xs : Array Keyed} {lo hi : Nat} (u : Dsc κ xs lo hi) (h : lo < hi → κ.kle (KK κ xs hi) (KK κ xs (hi - 1))) : Dsc κ xs lo (hi + 1) := fun i j i1 ij jm => by
  rcases Nat.lt_or_ge j hi with q | q
  · exact u i j i1 ij q
  obtain rfl : j = hi := by omega
  rcases Nat.lt_or_ge i j with p | p
  · exact KeyOrd.kle_trans (h (by omega)) (u i (j - 1) i1 (by omega) (by omega))
  · obtain rfl : i = j := by omega
    exact KeyOrd.kle_refl _
theorem Dsc.congr {xs ys : Array Keyed} {lo hi : Nat} (e : ∀ i, KK κ ys i = KK κ xs i) (u : Dsc κ xs lo hi) : Dsc κ ys lo hi := fun i j i1 ij jm => by rw [e, e]; exact u i j i1 ij jm
theorem Dsc.turn {xs : Array Keyed} {lo hi : Nat} (u : Dsc κ xs lo hi) (h : hi ≤ xs.size) : Seg κ (mirror xs lo hi ((hi - lo) / 2)) lo hi := fun i j i1 ij jm => by
  rw [KK_mirror h, KK_mirror h, if_pos ⟨i1, by omega⟩, if_pos ⟨by omega, jm⟩]
  exact u (lo + hi - 1 - j) (lo + hi - 1 - i) (by omega) (by omega) (by omega)
structure Fal (κ : KeyKind) (xs : Array Keyed) (lo m c : Nat) : Prop where
  dn : Dsc κ xs lo (lo + m)
  le : c + 1 ≤ m
  eq : ∀ i, lo + m - (c + 1) ≤ i → i < lo + m → KK κ xs i = KK κ xs (lo + m - 1)
theorem Fal.one {xs : Array Keyed} {lo m : Nat} (d : Dsc κ xs lo (lo + m)) (h : 1 ≤ m) : Fal κ xs lo m 0 := ⟨d, h, fun i h1 h2 => by rw [show i = lo + m - 1 by omega]⟩
variable {prog : Program} {w : World} {A : Around} {E : Value → Shared → Prop} {s : Shared} {kd : SortKind} {P : Keyed → Prop}
variable (L : ∀ (z : SortSt) (x y : Keyed) (Q : Option Bool → SortSt → Prop), kindOf z = kd → P x → P y → Q (some (κ.blt (ky κ x) (ky κ y))) z → wpS (model prog w) A E s (lt' x y) Q z)
include L
theorem ltAt_ok {i j : Nat} {z : SortSt} {Q : Option Bool → SortSt → Prop} (hz : kindOf z = kd) (pa : ∀ p ∈ arrOf z, P p) (hi : i < (arrOf z).size) (hj : j < (arrOf z).size) (h : Q (some (κ.blt (KK κ (arrOf z) i) (KK κ (arrOf z) j))) z) : wpS (model prog w) A E s (ltAt' i j) Q z := by
  refine wpS_bind (wpS_get ?_)
  refine wpS_bind (m := elem' (arrOf z) i) (elem_ok (getElem?_pos (arrOf z) i hi) ?_)
  refine wpS_bind (m := elem' (arrOf z) j) (elem_ok (getElem?_pos (arrOf z) j hj) ?_)
  exact L _ _ _ _ hz (pa _ (Array.getElem_mem hi)) (pa _ (Array.getElem_mem hj)) (by rw [← KK_ky hi, ← KK_ky hj]; exact h)
theorem countRun_ok {lo nrem : Nat} {z : SortSt} {Q : Option Nat → SortSt → Prop} (hz : kindOf z = kd) (pa : ∀ p ∈ arrOf z, P p) (h1 : 1 ≤ nrem) (hs : lo + nrem ≤ (arrOf z).size)
    (h : ∀ n z', 1 ≤ n → n ≤ nrem → Ahd lo z z' → Seg κ (arrOf z') lo (lo + n) → Q (some n) z') : wpS (model prog w) A E s (countRun' lo nrem) Q z := by
  refine wpS_bind (wpS_mono (wpS_forRange (β := Option (Option Nat) × Nat) (I := fun x c z' => z' = z ∧ c = (none, x) ∧ Seg κ (arrOf z) lo (lo + x)) (Q := fun c z' => z' = z ∧ ∃ n, c = (none, n) ∧ 1 ≤ n ∧ n ≤ nrem ∧ Seg κ (arrOf z) lo (lo + n) ∧ (n = nrem ∨ κ.klt (KK κ (arrOf z) (lo + n)) (KK κ (arrOf z) (lo + n - 1)))) (fun x c z' x1 x2 ⟨e1, e2, u⟩ => ?stp) (fun c z' ⟨e1, e2, u⟩ => ?fin) ⟨rfl, rfl, fun i j i1 ij j2 => by obtain rfl : i = j := (by omega); exact KeyOrd.kle_refl _⟩) fun c z' ⟨e1, n, e2, n1, n2, u, o⟩ => ?pst)
  case fin =>
    rw [show max 1 nrem = nrem by omega] at e2 u
    exact ⟨e1, nrem, e2, h1, Nat.le_refl _, u, .inl rfl⟩
  case stp =>
    subst e1 e2
    refine wpS_bind (m := ltAt' (lo + x) (lo + x - 1)) (ltAt_ok L hz pa (by omega) (by omega) ?_)
    dsimp only
    cases q : κ.blt (KK κ (arrOf z') (lo + x)) (KK κ (arrOf z') (lo + x - 1)) with
    | true => exact wpS_pure ⟨rfl, x, rfl, x1, by omega, u, .inr q⟩
    | false => exact wpS_pure ⟨rfl, rfl, Seg.more u fun _ => q⟩
  case pst =>
    subst e1 e2
    dsimp only
    by_cases e : n = nrem
    · rw [if_pos (by simpa using e)]
      exact wpS_pure (h n z' n1 n2 (.refl _ _) u)
    rw [if_neg (by simpa using e)]
    have lt := o.resolve_left e
    by_cases g : n > 1
    · rw [if_pos g]
      refine wpS_bind (m := ltAt' lo (lo + n - 1)) (ltAt_ok L hz pa (by omega) (by omega) ?_)
      dsimp only
      cases q : κ.blt (KK κ (arrOf z') lo) (KK κ (arrOf z') (lo + n - 1)) with
      | true => exact wpS_pure (h n z' n1 n2 (.refl _ _) u)
      | false =>
        have sz : lo + n ≤ (arrOf z').size := by omega
        have al : ∀ k, lo ≤ k → k < lo + n → KK κ (arrOf z') k = KK κ (arrOf z') (lo + n - 1) := fun k k1 k2 => KeyOrd.kle_antisymm (u k (lo + n - 1) k1 (by omega) (by omega)) (KeyOrd.kle_trans q (u lo k (Nat.le_refl _) k1 k2))
        have d0 : Dsc κ (arrOf z') lo (lo + n + 1) := Dsc.more (fun i j i1 ij jn => by rw [al i i1 (by omega), al j (by omega) jn]; exact KeyOrd.kle_refl _) fun _ => KeyOrd.kle_of_klt lt
        rw [if_neg (by simp)]
        refine wpS_bind (m := reverseSlice' lo (lo + n)) (wpS_reverse ?_)
        have a1 := (Ahd.refl lo z').rev (i := lo) (j := lo + n) (Nat.le_refl _) sz
        have d1 : Dsc κ (arrOf (setArr z' (mirror (arrOf z') lo (lo + n) ((lo + n - lo) / 2)))) lo (lo + (n + 1)) := Dsc.congr (KK_mirror_equal sz al) d0
        generalize setArr z' (mirror (arrOf z') lo (lo + n) ((lo + n - lo) / 2)) = z1 at a1 d1 ⊢
        refine wpS_bind (wpS_lift (wpAny_rule ⟨rfl, ?_⟩))
        refine wpS_bind (wpS_mono (wpS_forRange (β := Option (Option Nat) × Nat × Nat) (I := fun x c z2 => ∃ q, c = (none, x, q) ∧ Ahd lo z' z2 ∧ Fal κ (arrOf z2) lo x q) (Q := fun c z2 => ∃ m q, c = (none, m, q) ∧ n + 1 ≤ m ∧ m ≤ nrem ∧ Ahd lo z' z2 ∧ Fal κ (arrOf z2) lo m q) (fun m c z2 m1 m2 ⟨t, e3, a2, f2⟩ => ?sp2) (fun c z2 ⟨t, e3, a2, f2⟩ => ⟨nrem, t, by rw [e3, show max (n + 1) nrem = nrem by omega], by omega, Nat.le_refl _, a2, by rwa [show max (n + 1) nrem = nrem by omega] at f2⟩) ⟨0, rfl, a1, Fal.one d1 (by omega)⟩) fun c z2 ⟨m, t, e3, m1, m2, a2, f2⟩ => ?ps2)
        case sp2 =>
          subst e3
          have s2 := a2.sz
          have fl2 := f2.le
          refine wpS_bind (m := ltAt' (lo + m) (lo + m - 1)) (ltAt_ok L (a2.kd.trans hz) (a2.all pa) (by omega) (by omega) ?_)
          dsimp only
          cases q2 : κ.blt (KK κ (arrOf z2) (lo + m)) (KK κ (arrOf z2) (lo + m - 1)) with
          | true =>
            have d2 : Dsc κ (arrOf z2) lo (lo + m + 1) := Dsc.more f2.dn fun _ => KeyOrd.kle_of_klt q2
            simp only [if_true]
            by_cases hc : t > 0
            · rw [if_pos hc]
              refine wpS_bind (m := reverseSlice' (lo + m - (t + 1)) (lo + m)) (wpS_reverse (wpS_pure ⟨0, rfl, a2.rev (by omega) (by omega), Fal.one ?_ (by omega)⟩))
              exact Dsc.congr (KK_mirror_equal (by omega) f2.eq) d2
            · rw [if_neg hc]
              exact wpS_pure ⟨0, rfl, a2, Fal.one d2 (by omega)⟩
          | false =>
            simp only [Bool.false_eq_true, if_false]
            refine wpS_bind (m := ltAt' (lo + m - 1) (lo + m)) (ltAt_ok L (a2.kd.trans hz) (a2.all pa) (by omega) (by omega) ?_)
            dsimp only
            cases q3 : κ.blt (KK κ (arrOf z2) (lo + m - 1)) (KK κ (arrOf z2) (lo + m)) with
            | true => exact wpS_pure ⟨m, t, rfl, m1, by omega, a2, f2⟩
            | false =>
              have ek : KK κ (arrOf z2) (lo + m) = KK κ (arrOf z2) (lo + m - 1) := KeyOrd.kle_antisymm q3 q2
              simp only [Bool.false_eq_true, if_false]
              refine wpS_pure ⟨t + 1, rfl, a2, Dsc.more f2.dn fun _ => q3, by omega, fun i i1 i2 => ?_⟩
              rw [show lo + (m + 1) - 1 = lo + m by omega]
              rcases Nat.lt_or_ge i (lo + m) with p | p
              · rw [ek]; exact f2.eq i (by omega) p
              · rw [show i = lo + m by omega]
        case ps2 =>
          subst e3
          have s2 := a2.sz
          have fl2 := f2.le
          dsimp only
          by_cases hc : t > 0
          · rw [if_pos hc]
            refine wpS_bind (m := reverseSlice' (lo + m - (t + 1)) (lo + m)) (wpS_reverse ?_)
            have a4 := a2.rev (i := lo + m - (t + 1)) (j := lo + m) (by omega) (by omega)
            have d4 : Dsc κ (arrOf (setArr z2 (mirror (arrOf z2) (lo + m - (t + 1)) (lo + m) ((lo + m - (lo + m - (t + 1))) / 2)))) lo (lo + m) := Dsc.congr (KK_mirror_equal (by omega) f2.eq) f2.dn
            generalize setArr z2 (mirror (arrOf z2) (lo + m - (t + 1)) (lo + m) ((lo + m - (lo + m - (t + 1))) / 2)) = z5 at a4 d4 ⊢
            have sw := Ahd.sz a4
            refine wpS_bind (m := reverseSlice' lo (lo + m)) (wpS_reverse ?_)
            have a3 := Ahd.rev (i := lo) (j := lo + m) a4 (Nat.le_refl _) (by omega)
            have u3 : Seg κ (arrOf (setArr z5 (mirror (arrOf z5) lo (lo + m) ((lo + m - lo) / 2)))) lo (lo + m) := Dsc.turn d4 (by omega)
            generalize setArr z5 (mirror (arrOf z5) lo (lo + m) ((lo + m - lo) / 2)) = z3 at a3 u3 ⊢
            have s3 := a3.sz
            refine wpS_bind (wpS_mono (wpS_forRange (β := Option (Option Nat) × Nat) (I := fun x c z4 => z4 = z3 ∧ c = (none, x) ∧ Seg κ (arrOf z3) lo (lo + x)) (Q := fun c z4 => z4 = z3 ∧ ∃ y, c = (none, y) ∧ m ≤ y ∧ y ≤ nrem ∧ Seg κ (arrOf z3) lo (lo + y)) (fun x c z4 x1 x2 ⟨y1, y2, y3⟩ => ?_) (fun c z4 ⟨y1, y2, y3⟩ => ⟨y1, nrem, by rw [y2, show max m nrem = nrem by omega], m2, Nat.le_refl _, by rwa [show max m nrem = nrem by omega] at y3⟩) ⟨rfl, rfl, u3⟩) fun c z4 ⟨y1, y, y2, y3, y4, y5⟩ => ?_)
            · subst y1 y2
              refine wpS_bind (m := ltAt' (lo + x) (lo + x - 1)) (ltAt_ok L (a3.kd.trans hz) (a3.all pa) (by omega) (by omega) ?_)
              dsimp only
              cases q2 : κ.blt (KK κ (arrOf z4) (lo + x)) (KK κ (arrOf z4) (lo + x - 1)) with
              | true => exact wpS_pure ⟨rfl, x, rfl, x1, by omega, y3⟩
              | false => exact wpS_pure ⟨rfl, rfl, Seg.more y3 fun _ => q2⟩
            · subst y1 y2
              exact wpS_pure (h y z4 (by omega) y4 a3 y5)
          · rw [if_neg hc]
            have sw := Ahd.sz a2
            refine wpS_bind (m := reverseSlice' lo (lo + m)) (wpS_reverse ?_)
            have a3 := Ahd.rev (i := lo) (j := lo + m) a2 (Nat.le_refl _) (by omega)
            have u3 : Seg κ (arrOf (setArr z2 (mirror (arrOf z2) lo (lo + m) ((lo + m - lo) / 2)))) lo (lo + m) := Dsc.turn f2.dn (by omega)
            generalize setArr z2 (mirror (arrOf z2) lo (lo + m) ((lo + m - lo) / 2)) = z3 at a3 u3 ⊢
            have s3 := a3.sz
            refine wpS_bind (wpS_mono (wpS_forRange (β := Option (Option Nat) × Nat) (I := fun x c z4 => z4 = z3 ∧ c = (none, x) ∧ Seg κ (arrOf z3) lo (lo + x)) (Q := fun c z4 => z4 = z3 ∧ ∃ y, c = (none, y) ∧ m ≤ y ∧ y ≤ nrem ∧ Seg κ (arrOf z3) lo (lo + y)) (fun x c z4 x1 x2 ⟨y1, y2, y3⟩ => ?_) (fun c z4 ⟨y1, y2, y3⟩ => ⟨y1, nrem, by rw [y2, show max m nrem = nrem by omega], m2, Nat.le_refl _, by rwa [show max m nrem = nrem by omega] at y3⟩) ⟨rfl, rfl, u3⟩) fun c z4 ⟨y1, y, y2, y3, y4, y5⟩ => ?_)
            · subst y1 y2
              refine wpS_bind (m := ltAt' (lo + x) (lo + x - 1)) (ltAt_ok L (a3.kd.trans hz) (a3.all pa) (by omega) (by omega) ?_)
              dsimp only
              cases q2 : κ.blt (KK κ (arrOf z4) (lo + x)) (KK κ (arrOf z4) (lo + x - 1)) with
              | true => exact wpS_pure ⟨rfl, x, rfl, x1, by omega, y3⟩
              | false => exact wpS_pure ⟨rfl, rfl, Seg.more y3 fun _ => q2⟩
            · subst y1 y2
              exact wpS_pure (h y z4 (by omega) y4 a3 y5)
    · rw [if_neg g]
      obtain rfl : n = 1 := by omega
      have a1 := Ahd.refl lo z'
      have d1 : Dsc κ (arrOf z') lo (lo + (1 + 1)) := Dsc.more (hi := lo + 1) (fun i j i1 ij j2 => by obtain rfl : i = j := (by omega); exact KeyOrd.kle_refl _) fun _ => KeyOrd.kle_of_klt lt
      refine wpS_bind (wpS_lift (wpAny_rule ⟨rfl, ?_⟩))
      refine wpS_bind (wpS_mono (wpS_forRange (β := Option (Option Nat) × Nat × Nat) (I := fun x c z2 => ∃ q, c = (none, x, q) ∧ Ahd lo z' z2 ∧ Fal κ (arrOf z2) lo x q) (Q := fun c z2 => ∃ m q, c = (none, m, q) ∧ 1 + 1 ≤ m ∧ m ≤ nrem ∧ Ahd lo z' z2 ∧ Fal κ (arrOf z2) lo m q) (fun m c z2 m1 m2 ⟨t, e3, a2, f2⟩ => ?sp2) (fun c z2 ⟨t, e3, a2, f2⟩ => ⟨nrem, t, by rw [e3, show max (1 + 1) nrem = nrem by omega], by omega, Nat.le_refl _, a2, by rwa [show max (1 + 1) nrem = nrem by omega] at f2⟩) ⟨0, rfl, a1, Fal.one d1 (by omega)⟩) fun c z2 ⟨m, t, e3, m1, m2, a2, f2⟩ => ?ps2)
      case sp2 =>
        subst e3
        have s2 := a2.sz
        have fl2 := f2.le
        refine wpS_bind (m := ltAt' (lo + m) (lo + m - 1)) (ltAt_ok L (a2.kd.trans hz) (a2.all pa) (by omega) (by omega) ?_)
        dsimp only
        cases q2 : κ.blt (KK κ (arrOf z2) (lo + m)) (KK κ (arrOf z2) (lo + m - 1)) with
        | true =>
          have d2 : Dsc κ (arrOf z2) lo (lo + m + 1) := Dsc.more f2.dn fun _ => KeyOrd.kle_of_klt q2
          simp only [if_true]
          by_cases hc : t > 0
          · rw [if_pos hc]
            refine wpS_bind (m := reverseSlice' (lo + m - (t + 1)) (lo + m)) (wpS_reverse (wpS_pure ⟨0, rfl, a2.rev (by omega) (by omega), Fal.one ?_ (by omega)⟩))
            exact Dsc.congr (KK_mirror_equal (by omega) f2.eq) d2
          · rw [if_neg hc]
            exact wpS_pure ⟨0, rfl, a2, Fal.one d2 (by omega)⟩
        | false =>
          simp only [Bool.false_eq_true, if_false]
          refine wpS_bind (m := ltAt' (lo + m - 1) (lo + m)) (ltAt_ok L (a2.kd.trans hz) (a2.all pa) (by omega) (by omega) ?_)
          dsimp only
          cases q3 : κ.blt (KK κ (arrOf z2) (lo + m - 1)) (KK κ (arrOf z2) (lo + m)) with
          | true => exact wpS_pure ⟨m, t, rfl, m1, by omega, a2, f2⟩
          | false =>
            have ek : KK κ (arrOf z2) (lo + m) = KK κ (arrOf z2) (lo + m - 1) := KeyOrd.kle_antisymm q3 q2
            simp only [Bool.false_eq_true, if_false]
            refine wpS_pure ⟨t + 1, rfl, a2, Dsc.more f2.dn fun _ => q3, by omega, fun i i1 i2 => ?_⟩
            rw [show lo + (m + 1) - 1 = lo + m by omega]
            rcases Nat.lt_or_ge i (lo + m) with p | p
            · rw [ek]; exact f2.eq i (by omega) p
            · rw [show i = lo + m by omega]
      case ps2 =>
        subst e3
        have s2 := a2.sz
        have fl2 := f2.le
        dsimp only
        by_cases hc : t > 0
        · rw [if_pos hc]
          refine wpS_bind (m := reverseSlice' (lo + m - (t + 1)) (lo + m)) (wpS_reverse ?_)
          have a4 := a2.rev (i := lo + m - (t + 1)) (j := lo + m) (by omega) (by omega)
          have d4 : Dsc κ (arrOf (setArr z2 (mirror (arrOf z2) (lo + m - (t + 1)) (lo + m) ((lo + m - (lo + m - (t + 1))) / 2)))) lo (lo + m) := Dsc.congr (KK_mirror_equal (by omega) f2.eq) f2.dn
          generalize setArr z2 (mirror (arrOf z2) (lo + m - (t + 1)) (lo + m) ((lo + m - (lo + m - (t + 1))) / 2)) = z5 at a4 d4 ⊢
          have sw := Ahd.sz a4
          refine wpS_bind (m := reverseSlice' lo (lo + m)) (wpS_reverse ?_)
          have a3 := Ahd.rev (i := lo) (j := lo + m) a4 (Nat.le_refl _) (by omega)
          have u3 : Seg κ (arrOf (setArr z5 (mirror (arrOf z5) lo (lo + m) ((lo + m - lo) / 2)))) lo (lo + m) := Dsc.turn d4 (by omega)
          generalize setArr z5 (mirror (arrOf z5) lo (lo + m) ((lo + m - lo) / 2)) = z3 at a3 u3 ⊢
          have s3 := a3.sz
          refine wpS_bind (wpS_mono (wpS_forRange (β := Option (Option Nat) × Nat) (I := fun x c z4 => z4 = z3 ∧ c = (none, x) ∧ Seg κ (arrOf z3) lo (lo + x)) (Q := fun c z4 => z4 = z3 ∧ ∃ y, c = (none, y) ∧ m ≤ y ∧ y ≤ nrem ∧ Seg κ (arrOf z3) lo (lo + y)) (fun x c z4 x1 x2 ⟨y1, y2, y3⟩ => ?_) (fun c z4 ⟨y1, y2, y3⟩ => ⟨y1, nrem, by rw [y2, show max m nrem = nrem by omega], m2, Nat.le_refl _, by rwa [show max m nrem = nrem by omega] at y3⟩) ⟨rfl, rfl, u3⟩) fun c z4 ⟨y1, y, y2, y3, y4, y5⟩ => ?_)
          · subst y1 y2
            refine wpS_bind (m := ltAt' (lo + x) (lo + x - 1)) (ltAt_ok L (a3.kd.trans hz) (a3.all pa) (by omega) (by omega) ?_)
            dsimp only
            cases q2 : κ.blt (KK κ (arrOf z4) (lo + x)) (KK κ (arrOf z4) (lo + x - 1)) with
            | true => exact wpS_pure ⟨rfl, x, rfl, x1, by omega, y3⟩
            | false => exact wpS_pure ⟨rfl, rfl, Seg.more y3 fun _ => q2⟩
          · subst y1 y2
            exact wpS_pure (h y z4 (by omega) y4 a3 y5)
        · rw [if_neg hc]
          have sw := Ahd.sz a2
          refine wpS_bind (m := reverseSlice' lo (lo + m)) (wpS_reverse ?_)
          have a3 := Ahd.rev (i := lo) (j := lo + m) a2 (Nat.le_refl _) (by omega)
          have u3 : Seg κ (arrOf (setArr z2 (mirror (arrOf z2) lo (lo + m) ((lo + m - lo) / 2)))) lo (lo + m) := Dsc.turn f2.dn (by omega)
          generalize setArr z2 (mirror (arrOf z2) lo (lo + m) ((lo + m - lo) / 2)) = z3 at a3 u3 ⊢
          have s3 := a3.sz
          refine wpS_bind (wpS_mono (wpS_forRange (β := Option (Option Nat) × Nat) (I := fun x c z4 => z4 = z3 ∧ c = (none, x) ∧ Seg κ (arrOf z3) lo (lo + x)) (Q := fun c z4 => z4 = z3 ∧ ∃ y, c = (none, y) ∧ m ≤ y ∧ y ≤ nrem ∧ Seg κ (arrOf z3) lo (lo + y)) (fun x c z4 x1 x2 ⟨y1, y2, y3⟩ => ?_) (fun c z4 ⟨y1, y2, y3⟩ => ⟨y1, nrem, by rw [y2, show max m nrem = nrem by omega], m2, Nat.le_refl _, by rwa [show max m nrem = nrem by omega] at y3⟩) ⟨rfl, rfl, u3⟩) fun c z4 ⟨y1, y, y2, y3, y4, y5⟩ => ?_)
          · subst y1 y2
            refine wpS_bind (m := ltAt' (lo + x) (lo + x - 1)) (ltAt_ok L (a3.kd.trans hz) (a3.all pa) (by omega) (by omega) ?_)
            dsimp only
            cases q2 : κ.blt (KK κ (arrOf z4) (lo + x)) (KK κ (arrOf z4) (lo + x - 1)) with
            | true => exact wpS_pure ⟨rfl, x, rfl, x1, by omega, y3⟩
            | false => exact wpS_pure ⟨rfl, rfl, Seg.more y3 fun _ => q2⟩
          · subst y1 y2
            exact wpS_pure (h y z4 (by omega) y4 a3 y5)
theorem binSort_ok {lo m ok : Nat} {z : SortSt} {Q : Bool → SortSt → Prop} (hz : kindOf z = kd) (pa : ∀ p ∈ arrOf z, P p) (h1 : 1 ≤ ok) (hok : ok ≤ m) (hs : lo + m ≤ (arrOf z).size) (u : Seg κ (arrOf z) lo (lo + ok))
    (h : ∀ z', Ahd lo z z' → Seg κ (arrOf z') lo (lo + m) → Q true z') : wpS (model prog w) A E s (binarySort' lo m ok) Q z := by
  refine wpS_bind (wpS_mono (wpS_forRange (β := Option Bool × Unit) (I := fun k c z' => c = (none, ()) ∧ k ≤ m ∧ Ahd lo z z' ∧ Seg κ (arrOf z') lo (lo + k)) (Q := fun c z' => c = (none, ()) ∧ Ahd lo z z' ∧ Seg κ (arrOf z') lo (lo + m)) (fun k c z' k1 k2 ⟨e, km, a1, u'⟩ => ?stp) (fun c z' ⟨e, km, a1, u'⟩ => ?fin) ⟨rfl, by omega, .refl _ _, by rwa [show max ok 1 = ok by omega]⟩) fun c z' ⟨e, a1, u'⟩ => ?pst)
  case fin => exact ⟨e, a1, by rwa [show max (max ok 1) m = m by omega] at u'⟩
  case pst =>
    subst e
    exact wpS_pure (h z' a1 u')
  case stp =>
    subst e
    have s1 := a1.sz
    have hk : lo + k < (arrOf z').size := by omega
    refine wpS_bind (wpS_mono (wpS_forRange (β := Option Bool × Nat × Nat) (I := fun x c z'' => z'' = z' ∧ ∃ l r, c = (none, l, r) ∧ (l ≤ r ∧ r ≤ k ∧ r - l ≤ k - x) ∧ (∀ i, i < l → κ.kle (KK κ (arrOf z') (lo + i)) (KK κ (arrOf z') (lo + k))) ∧ ∀ i, r ≤ i → i < k → κ.klt (KK κ (arrOf z') (lo + k)) (KK κ (arrOf z') (lo + i)))
      (Q := fun c z'' => z'' = z' ∧ ∃ l, (∃ r, c = (none, l, r)) ∧ l ≤ k ∧ (∀ i, i < l → κ.kle (KK κ (arrOf z') (lo + i)) (KK κ (arrOf z') (lo + k))) ∧ ∀ i, l ≤ i → i < k → κ.klt (KK κ (arrOf z') (lo + k)) (KK κ (arrOf z') (lo + i))) (fun x c z'' x1 x2 ⟨e1, l, r, e2, ⟨lr, rk, dx⟩, lw, hi⟩ => ?is) (fun c z'' ⟨e1, l, r, e2, ⟨lr, rk, dx⟩, lw, hi⟩ => ?if_) ⟨rfl, 0, k, rfl, ⟨by omega, by omega, by omega⟩, fun i q => by omega, fun i q1 q2 => by omega⟩) fun c z'' ⟨e1, l, ⟨r, e2⟩, lk, lw, hi⟩ => ?ip)
    case is =>
      subst e1 e2
      dsimp only
      by_cases g : l ≥ r
      · rw [if_pos g]
        obtain rfl : l = r := by omega
        exact wpS_pure ⟨rfl, l, ⟨_, rfl⟩, rk, lw, hi⟩
      · rw [if_neg g]
        refine wpS_bind (m := ltAt' (lo + k) (lo + (l + r) / 2)) (ltAt_ok L (a1.kd.trans hz) (a1.all pa) hk (by omega) ?_)
        dsimp only
        cases q : κ.blt (KK κ (arrOf z'') (lo + k)) (KK κ (arrOf z'') (lo + (l + r) / 2)) with
        | true => exact wpS_pure ⟨rfl, l, (l + r) / 2, rfl, ⟨by omega, by omega, by omega⟩, lw, fun i i1 i2 => KeyOrd.klt_of_klt_of_kle q (u' _ _ (by omega) (by omega) (by omega))⟩
        | false => exact wpS_pure ⟨rfl, (l + r) / 2 + 1, r, rfl, ⟨by omega, by omega, by omega⟩, fun i i1 => KeyOrd.kle_trans (u' (lo + i) (lo + (l + r) / 2) (by omega) (by omega) (by omega)) (show κ.kle _ _ from q), hi⟩
    case if_ =>
      subst e1 e2
      obtain rfl : l = r := by omega
      exact ⟨rfl, l, ⟨_, rfl⟩, rk, lw, hi⟩
    case ip =>
      subst e1 e2
      refine wpS_bind (m := moveDown' (lo + k) (lo + l)) ?_
      rw [moveDown'_eq]
      refine wpS_modify (wpS_pure ⟨rfl, by omega, a1.down (by omega) (by omega) hk, fun i j i1 ij jk => ?_⟩)
      show κ.kle (KK κ (bubble (arrOf z'') (lo + k) (lo + k - (lo + l))) i) (KK κ (bubble (arrOf z'') (lo + k) (lo + k - (lo + l))) j)
      rw [KK_bubble hk (by omega), KK_bubble hk (by omega), show lo + k - (lo + k - (lo + l)) = lo + l by omega]
      have lw' : ∀ t, lo ≤ t → t < lo + l → κ.kle (KK κ (arrOf z'') t) (KK κ (arrOf z'') (lo + k)) := fun t t1 t2 => by
        have := lw (t - lo) (by omega)
        rwa [show lo + (t - lo) = t by omega] at this
      have hi' : ∀ t, lo + l ≤ t → t < lo + k → κ.klt (KK κ (arrOf z'') (lo + k)) (KK κ (arrOf z'') t) := fun t t1 t2 => by
        have := hi (t - lo) (by omega) (by omega)
        rwa [show lo + (t - lo) = t by omega] at this
      by_cases i2 : i = lo + l
      · rw [if_pos i2]
        by_cases j1 : j = lo + l
        · rw [if_pos j1]; exact KeyOrd.kle_refl _
        · rw [if_neg j1, if_pos ⟨by omega, by omega⟩]
          exact KeyOrd.kle_of_klt (hi' (j - 1) (by omega) (by omega))
      · rw [if_neg i2]
        by_cases i3 : lo + l < i ∧ i ≤ lo + k
        · rw [if_pos i3, if_neg (by omega), if_pos ⟨by omega, by omega⟩]
          exact u' (i - 1) (j - 1) (by omega) (by omega) (by omega)
        · rw [if_neg i3]
          by_cases j1 : j = lo + l
          · rw [if_pos j1]; exact lw' i i1 (by omega)
          · rw [if_neg j1]
            by_cases j2 : lo + l < j ∧ j ≤ lo + k
            · rw [if_pos j2]; exact u' i (j - 1) i1 (by omega) (by omega)
            · rw [if_neg j2]; exact u' i j i1 ij (by omega)
end
end HM
set_option Elab.async false
set_option linter.all false
set_option maxRecDepth 100000
set_option maxHeartbeats 4000000
namespace HM
open PySem PySem.Spec PyProof.Rows HS
section
variable {κ : KeyKind}
def Runs (κ : KeyKind) (xs : Array Keyed) : Nat → List (Nat × Nat × Nat) → Nat → Prop
  | lo, [], hi => lo = hi
  | lo, t :: r, hi => t.1 = lo ∧ 1 ≤ t.2.1 ∧ Seg κ xs lo (lo + t.2.1) ∧ Runs κ xs (lo + t.2.1) r hi
theorem Runs.len {xs : Array Keyed} : ∀ {p : List (Nat × Nat × Nat)} {lo hi : Nat}, Runs κ xs lo p hi → p.length + lo ≤ hi
  | [], lo, hi, h => by have : lo = hi := h; simp; omega
  | t :: r, lo, hi, ⟨_, h1, _, h2⟩ => by have := Runs.len h2; rw [List.length_cons]; omega
theorem Runs.app {xs : Array Keyed} : ∀ {p q : List (Nat × Nat × Nat)} {lo hi : Nat}, Runs κ xs lo (p ++ q) hi ↔ ∃ mid, Runs κ xs lo p mid ∧ Runs κ xs mid q hi
  | [], q, lo, hi => ⟨fun h => ⟨lo, rfl, h⟩, fun ⟨mid, h1, h2⟩ => by have : lo = mid := h1; subst this; exact h2⟩
  | t :: r, q, lo, hi => by
    constructor
    · rintro ⟨h1, h2, h3, h4⟩
      obtain ⟨mid, h5, h6⟩ := Runs.app.mp h4
      exact ⟨mid, ⟨h1, h2, h3, h5⟩, h6⟩
    · rintro ⟨mid, ⟨h1, h2, h3, h5⟩, h6⟩
      exact ⟨h1, h2, h3, Runs.app.mpr ⟨mid, h5, h6⟩⟩
theorem Seg.congr {xs ys : Array Keyed} {lo hi : Nat} (e : ∀ k, lo ≤ k → k < hi → ys[k]? = xs[k]?) (h : Seg κ xs lo hi) : Seg κ ys lo hi := fun i j i1 ij j2 => by
  rw [KK_congr (e i i1 (by omega)), KK_congr (e j (by omega) j2)]
  exact h i j i1 ij j2
theorem Runs.congr {xs ys : Array Keyed} : ∀ {p : List (Nat × Nat × Nat)} {lo hi : Nat}, (∀ k, lo ≤ k → k < hi → ys[k]? = xs[k]?) → Runs κ xs lo p hi → Runs κ ys lo p hi
  | [], lo, hi, _, h => h
  | t :: r, lo, hi, e, ⟨h1, h2, h3, h4⟩ => by
    have := h4.len
    exact ⟨h1, h2, h3.congr fun k k1 k2 => e k k1 (by omega), Runs.congr (fun k k1 k2 => e k (by omega) k2) h4⟩
theorem Runs.power {xs : Array Keyed} {f : Nat × Nat × Nat → Nat × Nat × Nat} (hf : ∀ t, (f t).1 = t.1 ∧ (f t).2.1 = t.2.1) : ∀ {p : List (Nat × Nat × Nat)} {lo hi i : Nat}, Runs κ xs lo p hi → Runs κ xs lo (p.modify i f) hi
  | [], lo, hi, i, h => by simpa using h
  | t :: r, lo, hi, 0, ⟨h1, h2, h3, h4⟩ => by
    rw [List.modify_zero_cons]
    obtain ⟨f1, f2⟩ := hf t
    exact ⟨by rw [f1]; exact h1, by rw [f2]; exact h2, by rw [f2]; exact h3, by rw [f2]; exact h4⟩
  | t :: r, lo, hi, i + 1, ⟨h1, h2, h3, h4⟩ => by
    rw [List.modify_succ_cons]
    exact ⟨h1, h2, h3, Runs.power hf h4⟩
structure RS (κ : KeyKind) (a0 : Array Keyed) (kd : SortKind) (lo : Nat) (z : SortSt) : Prop where
  pm : (arrOf z).Perm a0
  kd : kindOf z = kd
  fl : failedOf z = none
  rn : Runs κ (arrOf z) 0 (pendingOf z).toList lo
theorem RS.ahd {a0 : Array Keyed} {kd : SortKind} {lo : Nat} {z z' : SortSt} (r : RS κ a0 kd lo z) (a : Ahd lo z z') : RS κ a0 kd lo z' := ⟨a.pm.trans r.pm, a.kd.trans r.kd, a.fl.trans r.fl, by rw [a.pe]; exact r.rn.congr fun k _ k2 => a.fr k k2⟩
theorem split_two {p : List (Nat × Nat × Nat)} {i : Nat} (h : i + 1 < p.length) : ∃ p1 x y p2, p = p1 ++ x :: y :: p2 ∧ p1.length = i := by
  refine ⟨p.take i, p[i], p[i + 1], p.drop (i + 2), ?_, by rw [List.length_take]; omega⟩
  rw [List.getElem_cons_drop, List.getElem_cons_drop, List.take_append_drop]
theorem put_out {p : Array (Nat × Nat × Nat)} {p1 p2 : List (Nat × Nat × Nat)} {x y v : Nat × Nat × Nat} {i : Nat} (e : p.toList = p1 ++ x :: y :: p2) (hi : p1.length = i) : ((p.setIfInBounds i v).eraseIdxIfInBounds (i + 1)).toList = p1 ++ v :: p2 := by
  subst hi
  have h2 : p1.length + 1 < (p.setIfInBounds p1.length v).size := by
    rw [Array.size_setIfInBounds, ← Array.length_toList, e]
    simp
  rw [Array.eraseIdxIfInBounds, dif_pos h2, Array.toList_eraseIdx, Array.toList_setIfInBounds, e, List.set_append_right _ _ (Nat.le_refl _), Nat.sub_self, List.set_cons_zero, List.eraseIdx_append_of_length_le (by omega)]
  rw [show p1.length + 1 - p1.length = 1 by omega]
  rfl
variable {prog : Program} {w : World} {A : Around} {E : Value → Shared → Prop} {s : Shared} {kd : SortKind} {P : Keyed → Prop} {a0 : Array Keyed}
variable (L : ∀ (z : SortSt) (x y : Keyed) (Q : Option Bool → SortSt → Prop), kindOf z = kd → P x → P y → Q (some (κ.blt (ky κ x) (ky κ y))) z → wpS (model prog w) A E s (lt' x y) Q z)
include L
theorem mergeAt_runs {i lo : Nat} {z : SortSt} {Q : Bool → SortSt → Prop} (pa : ∀ p ∈ a0, P p) (r : RS κ a0 kd lo z) (hlo : lo ≤ a0.size) (hi : i + 1 < (pendingOf z).size)
    (h : ∀ z', RS κ a0 kd lo z' → (pendingOf z').size + 1 = (pendingOf z).size → (∀ k, lo ≤ k → (arrOf z')[k]? = (arrOf z)[k]?) → Q true z') : wpS (model prog w) A E s (mergeAt' i) Q z := by
  obtain ⟨p1, x, y, p2, e, hl⟩ := split_two (p := (pendingOf z).toList) (i := i) (by simpa using hi)
  have rn := r.rn
  rw [e] at rn
  obtain ⟨mid, r1, q1, q2, q3, q4, q5, q6, q7⟩ := Runs.app.mp rn
  obtain ⟨sa, na, pw⟩ := x
  obtain ⟨sb, nb, pw2⟩ := y
  dsimp only at q1 q2 q3 q4 q5 q6 q7
  subst q1 q4
  have l7 := q7.len
  have sz := r.pm.size_eq
  have e1 : (pendingOf z)[i]? = some (sa, na, pw) := by
    rw [← Array.getElem?_toList, e, List.getElem?_append_right (by omega), hl, Nat.sub_self]
    rfl
  have e2 : (pendingOf z)[i + 1]? = some (sa + na, nb, pw2) := by
    rw [← Array.getElem?_toList, e, List.getElem?_append_right (by omega), hl, show i + 1 - i = 1 by omega]
    rfl
  refine mergeAt_ok L r.kd r.fl (fun p hp => pa p (r.pm.mem_iff.mp hp)) e1 e2 rfl q2 q5 (by omega) q3 q6 fun z' k1 k2 k3 mg => h z' ⟨mg.pm.trans r.pm, k1, k2, ?_⟩ ?_ fun k hk => mg.fr k (.inr (by omega))
  · rw [k3, put_out e hl]
    refine Runs.app.mpr ⟨sa, r1.congr fun k _ k2 => mg.fr k (.inl k2), rfl, by show 1 ≤ na + nb; omega, ?_, ?_⟩
    · show Seg κ (arrOf z') sa (sa + (na + nb))
      rw [← Nat.add_assoc]
      exact mg.sg
    · show Runs κ (arrOf z') (sa + (na + nb)) p2 lo
      rw [← Nat.add_assoc]
      exact q7.congr fun k k1 _ => mg.fr k (.inr k1)
  · have := congrArg List.length (put_out (v := (sa, na + nb, pw)) e hl)
    rw [← k3, Array.length_toList] at this
    rw [this, ← Array.length_toList (xs := pendingOf z), e]
    simp
    omega
end
end HM
set_option Elab.async false
set_option linter.all false
set_option maxRecDepth 100000
set_option maxHeartbeats 4000000
namespace HM
open PySem PySem.Spec PyProof.Rows HS
section
variable {κ : KeyKind} {prog : Program} {w : World} {A : Around} {E : Value → Shared → Prop} {s : Shared} {kd : SortKind} {P : Keyed → Prop} {a0 : Array Keyed}
theorem ite_lt1 {c : Prop} [Decidable c] {a b m : Nat} (ha : a + 1 < m) (hb : b + 1 < m) : (if c then a else b) + 1 < m := by
  split
  · exact ha
  · exact hb
theorem RS.push {lo n pw : Nat} {z : SortSt} (r : RS κ a0 kd lo z) (u : Seg κ (arrOf z) lo (lo + n)) (hn : 1 ≤ n) : RS κ a0 kd (lo + n) (setPending z ((pendingOf z).push (lo, n, pw))) := by
  refine ⟨r.pm, r.kd, r.fl, ?_⟩
  show Runs κ (arrOf z) 0 ((pendingOf z).push (lo, n, pw)).toList (lo + n)
  rw [Array.toList_push]
  exact Runs.app.mpr ⟨lo, r.rn, rfl, hn, u, rfl⟩
theorem RS.repow {lo i : Nat} {z : SortSt} {f : Nat × Nat × Nat → Nat × Nat × Nat} (r : RS κ a0 kd lo z) (hf : ∀ t, (f t).1 = t.1 ∧ (f t).2.1 = t.2.1) : RS κ a0 kd lo (setPending z ((pendingOf z).modify i f)) := by
  refine ⟨r.pm, r.kd, r.fl, ?_⟩
  show Runs κ (arrOf z) 0 ((pendingOf z).modify i f).toList lo
  rw [Array.toList_modify]
  exact r.rn.power hf
variable (L : ∀ (z : SortSt) (x y : Keyed) (Q : Option Bool → SortSt → Prop), kindOf z = kd → P x → P y → Q (some (κ.blt (ky κ x) (ky κ y))) z → wpS (model prog w) A E s (lt' x y) Q z)
include L
theorem sort_all {z : SortSt} {Q : Unit → SortSt → Prop} (pa : ∀ p ∈ a0, P p) (pm : (arrOf z).Perm a0) (hk : kindOf z = kd) (hf : failedOf z = none) (hp : pendingOf z = #[]) (h1 : 1 ≤ a0.size)
    (h : ∀ z', (arrOf z').Perm a0 → failedOf z' = none → SortedToK κ (arrOf z') a0.size → Q () z') : wpS (model prog w) A E s sortRuns' Q z := by
  have sz := pm.size_eq
  rw [sortRuns'_eq]
  refine wpS_bind (wpS_get ?_)
  dsimp only
  rw [sz]
  generalize minRun' a0.size a0.size 0 = mr
  refine wpS_bind (wpS_mono (wpS_forRange (I := fun x c z' => ∃ lo, c = (none, lo) ∧ lo ≤ a0.size ∧ (x ≤ lo ∨ lo = a0.size) ∧ RS κ a0 kd lo z') (Q := fun c z' => c = (none, a0.size) ∧ RS κ a0 kd a0.size z') (fun x c z1 x1 x2 ⟨lo, e1, l1, l2, r1⟩ => ?stp) (fun c z1 ⟨lo, e1, l1, l2, r1⟩ => ?fin) ⟨0, rfl, by omega, .inl (Nat.le_refl _), pm, hk, hf, by rw [hp]; rfl⟩) fun c z1 ⟨e1, r1⟩ => ?pst)
  case fin =>
    obtain rfl : lo = a0.size := by omega
    exact ⟨e1, r1⟩
  case stp =>
    subst e1
    dsimp only
    by_cases g : lo ≥ a0.size
    · rw [if_pos g]
      obtain rfl : lo = a0.size := by omega
      exact wpS_pure ⟨rfl, r1⟩
    rw [if_neg g]
    have s1 := r1.pm.size_eq
    refine wpS_bind (countRun_ok L r1.kd (fun p q => pa p (r1.pm.mem_iff.mp q)) (by omega) (by omega) fun n z2 n1 n2 a2 u2 => ?_)
    have r2 := r1.ahd a2
    have s2 := r2.pm.size_eq
    dsimp only
    by_cases gn : n < mr
    · rw [if_pos gn]
      refine wpS_bind (wpS_lift (wpAny_rule ⟨rfl, ?_⟩))
      have fn : n ≤ min (a0.size - lo) mr := by omega
      have fs : lo + min (a0.size - lo) mr ≤ a0.size := by omega
      generalize min (a0.size - lo) mr = fc at fn fs
      refine wpS_bind (binSort_ok L r2.kd (fun p q => pa p (r2.pm.mem_iff.mp q)) n1 fn (by omega) u2 fun z3 a3 u3 => ?_)
      have r3 := r2.ahd a3
      rw [if_neg (by simp)]
      refine wpS_bind (wpS_get ?_)
      cases hb : (pendingOf z3).back? with
      | none => exact wpS_bind (wpS_modify (wpS_pure ⟨lo + fc, rfl, by omega, by omega, r3.push u3 (by omega)⟩))
      | some t =>
        obtain ⟨s1, n1, o1⟩ := t
        dsimp only
        refine wpS_bind (wpS_mono (wpS_forRange (I := fun _ c z' => c = (none, ()) ∧ RS κ a0 kd lo z' ∧ Seg κ (arrOf z') lo (lo + fc)) (Q := fun c z' => c = (none, ()) ∧ RS κ a0 kd lo z' ∧ Seg κ (arrOf z') lo (lo + fc)) (fun x c z4 x1 x2 ⟨e4, r4, u4⟩ => ?ms) (fun c z4 q => q) ⟨rfl, r3, u3⟩) fun c z4 ⟨e4, r4, u4⟩ => ?mp)
        case ms =>
          subst e4
          refine wpS_bind (wpS_get ?_)
          by_cases g2 : (pendingOf z4).size > 1
          · rw [if_pos g2]
            rw [getElem?_pos (pendingOf z4) ((pendingOf z4).size - 2) (by omega)]
            dsimp only
            split
            · exact wpS_pure ⟨rfl, r4, u4⟩
            · refine wpS_bind (mergeAt_runs L pa r4 (by omega) (by omega) fun z5 r5 _ f5 => ?_)
              rw [if_neg (by simp)]
              exact wpS_pure ⟨rfl, r5, u4.congr fun k k1 _ => f5 k k1⟩
          · rw [if_neg g2]
            exact wpS_pure ⟨rfl, r4, u4⟩
        case mp =>
          subst e4
          dsimp only
          refine wpS_bind (wpS_modify (wpS_bind (wpS_modify (wpS_pure ⟨lo + fc, rfl, by omega, by omega, ?_⟩))))
          refine RS.push (RS.repow r4 ?_) u4 (by omega)
          exact fun t => ⟨rfl, rfl⟩
    · rw [if_neg gn]
      refine wpS_bind (wpS_get ?_)
      cases hb : (pendingOf z2).back? with
      | none => exact wpS_bind (wpS_modify (wpS_pure ⟨lo + n, rfl, by omega, by omega, r2.push u2 (by omega)⟩))
      | some t =>
        obtain ⟨s1, n1, o1⟩ := t
        dsimp only
        refine wpS_bind (wpS_mono (wpS_forRange (I := fun _ c z' => c = (none, ()) ∧ RS κ a0 kd lo z' ∧ Seg κ (arrOf z') lo (lo + n)) (Q := fun c z' => c = (none, ()) ∧ RS κ a0 kd lo z' ∧ Seg κ (arrOf z') lo (lo + n)) (fun x c z4 x1 x2 ⟨e4, r4, u4⟩ => ?ms) (fun c z4 q => q) ⟨rfl, r2, u2⟩) fun c z4 ⟨e4, r4, u4⟩ => ?mp)
        case ms =>
          subst e4
          refine wpS_bind (wpS_get ?_)
          by_cases g2 : (pendingOf z4).size > 1
          · rw [if_pos g2]
            rw [getElem?_pos (pendingOf z4) ((pendingOf z4).size - 2) (by omega)]
            dsimp only
            split
            · exact wpS_pure ⟨rfl, r4, u4⟩
            · refine wpS_bind (mergeAt_runs L pa r4 (by omega) (by omega) fun z5 r5 _ f5 => ?_)
              rw [if_neg (by simp)]
              exact wpS_pure ⟨rfl, r5, u4.congr fun k k1 _ => f5 k k1⟩
          · rw [if_neg g2]
            exact wpS_pure ⟨rfl, r4, u4⟩
        case mp =>
          subst e4
          dsimp only
          refine wpS_bind (wpS_modify (wpS_bind (wpS_modify (wpS_pure ⟨lo + n, rfl, by omega, by omega, ?_⟩))))
          refine RS.push (RS.repow r4 ?_) u4 (by omega)
          exact fun t => ⟨rfl, rfl⟩
  case pst =>
    subst e1
    dsimp only
    have ln := r1.rn.len
    rw [Array.length_toList] at ln
    refine wpS_bind (wpS_mono (wpS_forRange (I := fun x c z' => c = (none, ()) ∧ RS κ a0 kd a0.size z' ∧ ((pendingOf z').size + x ≤ a0.size ∨ (pendingOf z').size ≤ 1)) (Q := fun c z' => c = (none, ()) ∧ RS κ a0 kd a0.size z' ∧ (pendingOf z').size ≤ 1) (fun x c z4 x1 x2 ⟨e4, r4, o4⟩ => ?ls) (fun c z4 ⟨e4, r4, o4⟩ => ⟨e4, r4, by omega⟩) ⟨rfl, r1, .inl (by omega)⟩) fun c z4 ⟨e4, r4, o4⟩ => ?lp)
    case ls =>
      subst e4
      refine wpS_bind (wpS_get ?_)
      by_cases g2 : (pendingOf z4).size ≤ 1
      · rw [if_pos g2]
        exact wpS_pure ⟨rfl, r4, g2⟩
      · rw [if_neg g2]
        refine wpS_bind (mergeAt_runs L pa r4 (Nat.le_refl _) (ite_lt1 (by omega) (by omega)) fun z5 r5 q5 f5 => ?_)
        rw [if_neg (by simp)]
        exact wpS_pure ⟨rfl, r5, by omega⟩
    case lp =>
      subst e4
      refine wpS_pure (h z4 r4.pm r4.fl ?_)
      have rn := r4.rn
      have lp : (pendingOf z4).toList.length ≤ 1 := by simpa using o4
      match hpp : (pendingOf z4).toList, lp with
      | [], _ =>
        rw [hpp] at rn
        have : 0 = a0.size := rn
        omega
      | [t], _ =>
        rw [hpp] at rn
        obtain ⟨t1, t2, t3, t4⟩ := rn
        have : 0 + t.2.1 = a0.size := t4
        rw [this] at t3
        exact fun i j ij ja => t3 i j (Nat.zero_le _) ij ja
end
end HM
set_option Elab.async false
set_option linter.all false
set_option maxRecDepth 100000
set_option maxHeartbeats 4000000
namespace HS
open PySem PySem.Spec PyProof.Rows
def ltI : List Int → List Int → Bool
  | [], [] => false
  | [], _ :: _ => true
  | _ :: _, [] => false
  | a :: r, b :: t => if a = b then ltI r t else decide (a < b)
theorem ltI_irr : ∀ a, ltI a a = false
  | [] => rfl
  | x :: r => by show (if x = x then ltI r r else _) = false; rw [if_pos rfl]; exact ltI_irr r
theorem ltI_trans : ∀ a b c, ltI a b = true → ltI b c = true → ltI a c = true
  | [], [], _, h, _ => by cases h
  | [], _ :: _, [], _, h => by cases h
  | [], _ :: _, _ :: _, _, _ => rfl
  | _ :: _, [], _, h, _ => by cases h
  | _ :: _, _ :: _, [], _, h => by cases h
  | x :: a, y :: b, z :: c, h, h' => by
    simp only [ltI] at h h' ⊢
    split at h <;> split at h'
    · rename_i e1 e2; rw [if_pos (e1.trans e2)]; exact ltI_trans a b c h h'
    · rename_i e1 e2; subst e1; rw [if_neg e2]; exact h'
    · rename_i e1 e2; subst e2; rw [if_neg e1]; exact h
    · simp only [decide_eq_true_eq] at h h'
      rw [if_neg (by omega)]; simp; omega
theorem ltI_neg : ∀ a b c, ltI a c = true → ltI a b = true ∨ ltI b c = true
  | [], [], _, h => .inr h
  | [], _ :: _, _, _ => .inl rfl
  | _ :: _, _, [], h => by cases h
  | _ :: _, [], _ :: _, _ => .inr rfl
  | x :: a, y :: b, z :: c, h => by
    simp only [ltI] at h ⊢
    split at h
    · rename_i e1; subst e1
      by_cases e2 : x = y
      · subst e2; rw [if_pos rfl, if_pos rfl]; exact ltI_neg a b c h
      · rw [if_neg e2, if_neg (Ne.symm e2)]; simp; omega
    · rename_i e1
      simp only [decide_eq_true_eq] at h
      by_cases e2 : x = y
      · subst e2; right; rw [if_neg e1]; simp; omega
      · by_cases e3 : y = z
        · subst e3; left; rw [if_neg e2]; simp; omega
        · rw [if_neg e2, if_neg e3]; simp; omega
theorem ltI_tot : ∀ a b, ltI a b = false → ltI b a = false → a = b
  | [], [], _, _ => rfl
  | [], _ :: _, h, _ => by cases h
  | _ :: _, [], _, h => by cases h
  | x :: a, y :: b, h, h' => by
    simp only [ltI] at h h'
    by_cases e : x = y
    · subst e; rw [if_pos rfl] at h h'; rw [ltI_tot a b h h']
    · rw [if_neg e] at h; rw [if_neg (Ne.symm e)] at h'
      simp only [decide_eq_false_iff_not] at h h'; omega
def tAt (h : Heap) : Value → Option (List Int)
  | .ref a => match h.get? a with
    | some o => match o.data with
      | .seq its _ => some (its.toList.map numOf)
      | _ => none
    | none => none
  | _ => none
abbrev tupKind (h : Heap) : KeyKind where
  α := List Int
  blt := ltI
  irrefl := ltI_irr
  trans := ltI_trans
  negTrans := ltI_neg
  total := ltI_tot
  keyOf := tAt h
  dflt := []
structure TI (h : Heap) (v : Value) (ns : List Int) : Prop where
  ex : ∃ a o its n, v = .ref a ∧ h.get? a = some o ∧ o.cls = .type "tuple" ∧ o.data = .seq its n ∧ IntsAre its.toList ns
  ne : ns ≠ []
theorem TI.items {h : Heap} {v : Value} {ns : List Int} (t : TI h v ns) : tAt h v = some ns := by
  obtain ⟨a, o, its, n, rfl, e, _, d, i⟩ := t.ex
  unfold tAt
  simp only [e, d]
  rw [i.nums]
theorem keyLt_tuples (b : Bool) (x y : Value) : keyLt' (tuples' b) x y = (do
    let xs ← Builtin.List.listItems x; let ys ← Builtin.List.listItems y
    for ((p, q), i) in (xs.toList.zip ys.toList).zipIdx do
      if !(← eqBool p q) then return ← oneLt' (b && i == 0) p q
    return decide (xs.size < ys.size)) := rfl
section
variable {prog : Program} {w : World} {A : Around} {E : Value → Shared → Prop} {s : Shared}
theorem oneLt_ints {b : Bool} {i j : Int} {t u : Tok} {Q : Bool → Shared → Prop} (h : Q (decide (i < j)) s) : wpAny (model prog w) A (oneLt' b (.int i t) (.int j u)) Q E s := by
  cases b with
  | true => exact oneLt_int h
  | false =>
    rw [oneLt'_eq]
    simp only [Bool.false_eq_true, if_false]
    refine wpAny_bind (m := richCompare .Lt (.int i t) (.int j u)) (wpAny_lt_int ?_)
    exact wpAny_truthy_bool h
def diffI : List Int → List Int → Option Bool
  | a :: r, b :: t => if a = b then diffI r t else some (decide (a < b))
  | _, _ => none
theorem ltI_diff : ∀ ns ms, ltI ns ms = (diffI ns ms).getD (decide (ns.length < ms.length))
  | [], [] => rfl
  | [], _ :: _ => by simp [ltI, diffI]
  | _ :: _, [] => by simp [ltI, diffI]
  | a :: r, b :: t => by
    simp only [ltI, diffI]
    split
    · rw [ltI_diff r t]; simp
    · rfl
theorem loop_lt {b : Bool} {Q : Option Bool × Unit → Shared → Prop} : ∀ (ps qs : List Value) (ns ms : List Int) (k : Nat), IntsAre ps ns → IntsAre qs ms → Q (diffI ns ms, ()) s →
    wpAny (model prog w) A (forIn ((ps.zip qs).zipIdx k) ((none, ()) : Option Bool × Unit) fun x r => do
      let e ← eqBool x.1.1 x.1.2
      if (!e) = true then do
        let c ← oneLt' (b && x.2 == 0) x.1.1 x.1.2
        pure (ForInStep.done (some c, ()))
      else pure (ForInStep.yield (none, ()))) Q E s
  | _, _, _, _, k, .nil, _, h => by
    simp only [List.zip_nil_left, List.zipIdx_nil, List.forIn_nil]
    exact wpAny_pure h
  | _, _, _, _, k, .cons a t i, .nil, h => by
    simp only [List.zip_nil_right, List.zipIdx_nil, List.forIn_nil]
    exact wpAny_pure h
  | _, _, _, _, k, .cons a t i, .cons c u j, h => by
    simp only [List.zip_cons_cons, List.zipIdx_cons, List.forIn_cons]
    refine wpAny_bind (wpAny_bind (wpAny_eqBool_int ?_))
    simp only [diffI] at h
    by_cases e : a = c
    · subst e
      rw [if_pos rfl] at h
      rw [if_neg (by simp)]
      refine wpAny_pure ?_
      exact loop_lt _ _ _ _ (k + 1) i j h
    · rw [if_neg e] at h
      rw [if_pos (by simpa using e)]
      exact wpAny_bind (oneLt_ints (wpAny_pure (wpAny_pure h)))
theorem keyLt_tup {b : Bool} {x y : Value} {ns ms : List Int} {Q : Bool → Shared → Prop} (hx : TI s.heap x ns) (hy : TI s.heap y ms) (h : Q (ltI ns ms) s) : wpAny (model prog w) A (keyLt' (tuples' b) x y) Q E s := by
  obtain ⟨a, o, its, n, rfl, e, _, d, i⟩ := hx.ex
  obtain ⟨a', o', its', n', rfl, e', _, d', i'⟩ := hy.ex
  rw [keyLt_tuples]
  refine wpAny_bind (listItems_at e d (wpAny_bind (listItems_at e' d' (wpAny_bind ?_))))
  refine loop_lt (Q := _) its.toList its'.toList ns ms 0 i i' ?_
  rw [ltI_diff] at h
  cases q : diffI ns ms with
  | some c =>
    rw [q] at h
    exact wpAny_pure h
  | none =>
    rw [q] at h
    refine wpAny_pure ?_
    have l1 := i.length
    have l2 := i'.length
    simp only [Array.length_toList] at l1 l2
    rw [l1, l2]
    exact h
theorem first_tup {v : Value} {ns : List Int} {Q : Option Value → Shared → Prop} (hv : TI s.heap v ns) (h : ∀ i t, Q (some (.int i t)) s) : wpAny (model prog w) A (firstOfTuple' v) Q E s := by
  obtain ⟨a, o, its, n, rfl, e, c, d, i⟩ := hv.ex
  show wpAny _ _ (do
    if (← typeOf (.ref a)) != .type "tuple" then return none
    return (← Builtin.List.listItems (.ref a))[0]?) _ _ _
  refine wpAny_bind (wpAny_typeOf (T := "tuple") ⟨o, e, c⟩ ?_)
  rw [if_neg (by decide)]
  refine wpAny_bind (listItems_at e d (wpAny_pure ?_))
  obtain ⟨l⟩ := its
  cases i with
  | nil => exact absurd rfl hv.ne
  | cons k t r => exact h k t
theorem firsts_tup {Q : List (Option Value) → Shared → Prop} : ∀ (vs : List Value), (∀ v ∈ vs, ∃ ns, TI s.heap v ns) → (∀ fs : List (Option Value), fs.length = vs.length → (∀ f ∈ fs, ∃ i t, f = some (.int i t)) → Q fs s) → wpAny (model prog w) A (vs.mapM firstOfTuple') Q E s
  | [], _, h => by
    simp only [List.mapM_nil]
    exact wpAny_pure (h [] rfl (by simp))
  | v :: r, hv, h => by
    simp only [List.mapM_cons]
    obtain ⟨ns, t⟩ := hv v (by simp)
    refine wpAny_bind (first_tup t fun i t' => wpAny_bind (firsts_tup r (fun u hu => hv u (by simp [hu])) fun fs hl hf => wpAny_pure (h _ (by simp [hl]) fun f hm => ?_)))
    rcases List.mem_cons.mp hm with e | e
    · exact ⟨i, t', e⟩
    · exact hf f e
theorem mapM_typeOf_int : ∀ {vs : List Value}, (∀ v ∈ vs, ∃ i t, v = .int i t) → vs.mapM typeOf = pure (vs.map fun _ => Value.type "int")
  | [], _ => by simp
  | v :: r, h => by
    obtain ⟨i, t, rfl⟩ := h v (by simp)
    rw [List.mapM_cons, mapM_typeOf_int fun u hu => h u (by simp [hu])]
    show (pure (Value.type "int") >>= fun b => pure _ >>= fun bs => pure (b :: bs)) = _
    simp
theorem filterMap_id_some : ∀ (fs : List (Option Value)), (∀ f ∈ fs, ∃ i t, f = some (.int i t)) → (∀ v ∈ fs.filterMap id, ∃ i t, v = Value.int i t) ∧ (fs.filterMap id).length = fs.length
  | [], _ => ⟨by simp, rfl⟩
  | f :: r, h => by
    obtain ⟨i, t, rfl⟩ := h f (by simp)
    obtain ⟨h1, h2⟩ := filterMap_id_some r fun g hg => h g (by simp [hg])
    simp only [List.filterMap_cons, id]
    exact ⟨fun v hv => by
      rcases List.mem_cons.mp hv with e | e
      · exact ⟨i, t, e⟩
      · exact h1 v e, by simp [h2]⟩
theorem keyKind_tup {vs : List Value} {Q : SortKind → Shared → Prop} (h2 : 1 ≤ vs.length) (hv : ∀ v ∈ vs, ∃ ns, TI s.heap v ns) (h : Q (tuples' true) s) : wpAny (model prog w) A (keyKind' vs.toArray) Q E s := by
  rw [keyKind'_eq]
  rw [List.mapM_toArray]
  refine wpAny_bind ?_
  rw [map_eq_pure_bind]
  refine wpAny_bind (firsts_tup vs hv fun fs hl hf => wpAny_pure ?_)
  rw [if_pos (by
    simp only [List.all_toArray, List.all_eq_true]
    intro f hm
    obtain ⟨i, t, rfl⟩ := hf f hm
    rfl)]
  refine wpAny_bind (wpAny_rule (wpAny_bind ?_))
  obtain ⟨q1, q2⟩ := filterMap_id_some fs hf
  rw [oneTypeOnly'_eq]
  have e0 : fs.toArray.filterMap id = (fs.filterMap id).toArray := by simp
  rw [e0, List.mapM_toArray, mapM_typeOf_int q1]
  simp only [map_pure, pure_bind]
  cases q : fs.filterMap id with
  | nil => rw [q] at q2; simp at q2; omega
  | cons u r =>
    have hall : ((List.map (fun _ => Value.type "int") (u :: r)).toArray.all fun x => x == Value.type "int") = true := by
      simp only [List.all_toArray, List.all_map, List.all_eq_true]
      intro _ _; rfl
    have h0 : (List.map (fun _ => Value.type "int") (u :: r)).toArray[0]? = some (Value.type "int") := by simp
    rw [h0]
    simp only [hall, if_true]
    refine wpAny_pure (wpAny_pure ?_)
    exact h
theorem sort_tree {a : Addr} {vs : List Value} {n : Nat} {P : Fin → Shared → Prop} (ho : s.heap.get? a = some (seqObj "list" vs.toArray n)) (hv : ∀ v ∈ vs, (∃ ns, TI s.heap v ns) ∧ v ≠ .ref a) (h64 : vs.length < 1000)
    (h : ∀ out : Array Value, out.toList.Perm vs → (∀ i j, i ≤ j → j < out.size → ltI ((tAt s.heap (out.getD j .none)).getD []) ((tAt s.heap (out.getD i .none)).getD []) = false) → P (.done (.ret .none)) { s with heap := sortedHeap s.heap a vs out }) :
    wpAny (model prog w) A (Builtin.«list.sort» ⟨[.ref a], []⟩) P E s := by
  rw [list_sort_plain]
  have ha : a < s.heap.objs.size := Heap.lt_size ho
  refine wpAny_bind (listItems_at ho rfl (wpAny_bind (listUpdate_at ho rfl ?_)))
  obtain ⟨e1, ho1⟩ : ∃ e1, (s.heap.update a (Obj.mapSeq fun _ => #[])).get? a = some (seqObj "list" #[] e1) := ⟨_, get?_update_seq ho (fun _ => #[])⟩
  refine wpAny_bind (seqEpoch_at ho1 rfl (wpAny_bind (wpAny_newTuple (wpAny_bind (wpAny_newList (wpAny_holding ?_))))))
  have up : ∀ c o, c ≠ a → s.heap.get? c = some o → (((s.heap.update a (Obj.mapSeq fun _ => #[])).push (seqObj "tuple" vs.toArray 0)).push (seqObj "list" #[] 0)).get? c = some o := fun c o hc e => Heap.get?_push_of_some _ (Heap.get?_push_of_some _ (by rw [Heap.get?_update_ne _ _ _ _ hc]; exact e))
  have ho6 : (((s.heap.update a (Obj.mapSeq fun _ => #[])).push (seqObj "tuple" vs.toArray 0)).push (seqObj "list" #[] 0)).get? a = some (seqObj "list" #[] e1) := Heap.get?_push_of_some _ (Heap.get?_push_of_some _ ho1)
  show wpAny (model prog w) A _ P E { s with heap := (((s.heap.update a (Obj.mapSeq fun _ => #[])).push (seqObj "tuple" vs.toArray 0)).push (seqObj "list" #[] 0)) }
  generalize hg : ((s.heap.update a (Obj.mapSeq fun _ => #[])).push (seqObj "tuple" vs.toArray 0)).push (seqObj "list" #[] 0) = g at up ho6 ⊢
  have hv' : ∀ v ∈ vs, ∃ ns, TI g v ns ∧ tAt s.heap v = some ns := fun v hm => by
    obtain ⟨⟨ns, t⟩, na⟩ := hv v hm
    have t' := t
    obtain ⟨⟨b, o, its, k, rfl, q1, q2, q3, q4⟩, ne⟩ := t
    exact ⟨ns, ⟨⟨b, o, its, k, rfl, up b o (fun z => na (by rw [z])) q1, q2, q3, q4⟩, ne⟩, t'.items⟩
  dsimp only
  have fin : ∀ z : SortSt, (arrOf z).Perm (pairsOf vs) → SortedToK (tupKind g) (arrOf z) (pairsOf vs).size → P (.done (.ret .none)) { s with heap := g.update a (Obj.mapSeq fun _ => (arrOf z).map (·.2)) } := by
    intro z pm st
    have pl : (arrOf z).toList.Perm (vs.zip vs) := by rw [← pairsOf_toList]; exact Array.perm_iff_toList_perm.mp pm
    have mem : ∀ p ∈ (arrOf z).toList, p.1 = p.2 ∧ p.1 ∈ vs := fun p hp => mem_zip_self (pl.mem_iff.mp hp)
    have := h ((arrOf z).map (·.2)) (by
      have q := pl.map (·.2)
      rw [Array.toList_map]
      refine q.trans (.of_eq ?_)
      rw [List.map_snd_zip (Nat.le_refl _)]) fun i j ij hj => by
        have hj' : j < (arrOf z).size := by simpa using hj
        have hi' : i < (arrOf z).size := by omega
        have q := st i j ij (by rw [← pm.size_eq]; exact hj')
        have gk : ∀ k, (hk : k < (arrOf z).size) → KK (tupKind g) (arrOf z) k = (tAt s.heap (((arrOf z).map (·.2)).getD k .none)).getD [] := fun k hk => by
          obtain ⟨m1, m2⟩ := mem _ (show (arrOf z)[k] ∈ (arrOf z).toList by simp)
          obtain ⟨ns, t1, t2⟩ := hv' _ m2
          have e1 : KK (tupKind g) (arrOf z) k = ns := by
            unfold KK
            rw [getElem?_pos _ k hk]
            show (tAt g (arrOf z)[k].1).getD [] = ns
            rw [t1.items]; rfl
          have e2 : ((arrOf z).map (·.2)).getD k .none = (arrOf z)[k].1 := by
            rw [m1]; simp [Array.getD, hk]
          rw [e1, e2, t2]; rfl
        rw [← gk i hi', ← gk j hj']
        exact q
    unfold sortedHeap at this
    rw [hg] at this
    exact this
  have hsz : vs.toArray.size = vs.length := by simp
  by_cases h2 : vs.toArray.size < 2
  · rw [if_pos h2, if_pos h2]
    refine wpAny_bind (wpAny_pure ?_)
    rw [StateT.run_pure]
    refine wpAny_bind (wpAny_pure (wpAny_bind (seqEpoch_at ho6 rfl (wpAny_bind (listUpdate_at ho6 rfl ?_ (hsz2 := by rw [Array.size_map]; show (pairsOf vs).size ≤ _; rw [pairsOf_size, sizeLine_eq]; omega))))))
    simp only [bne_self_eq_false, Bool.false_eq_true, if_false]
    refine wpAny_pure (fin (SortSt.mk' general' (vs.toArray.zip vs.toArray) #[] 7 none) (Array.Perm.refl _) fun i j hij hj => ?_)
    obtain rfl : i = j := by rw [pairsOf_size] at hj; omega
    exact KeyOrd.kle_refl _
  · rw [if_neg h2, if_neg h2]
    refine wpAny_bind (keyKind_tup (s := { s with heap := g }) (by omega) (fun v hm => by obtain ⟨ns, t, _⟩ := hv' v hm; exact ⟨ns, t⟩) ?_)
    have L : ∀ (z : SortSt) (x y : Keyed) (Q : Option Bool → SortSt → Prop), kindOf z = tuples' true → x ∈ pairsOf vs → y ∈ pairsOf vs → Q (some ((tupKind g).blt (HM.ky (tupKind g) x) (HM.ky (tupKind g) y))) z → wpS (model prog w) A E { s with heap := g } (lt' x y) Q z := by
      intro z x y Q b hi hj q
      have key : ∀ p ∈ pairsOf vs, ∃ ns, TI g p.1 ns ∧ HM.ky (tupKind g) p = ns := fun p hk => by
        have hm : p ∈ vs.zip vs := by rw [← pairsOf_toList]; simpa using hk
        obtain ⟨m1, m2⟩ := mem_zip_self hm
        obtain ⟨ns, t, _⟩ := hv' _ m2
        refine ⟨ns, t, ?_⟩
        unfold HM.ky
        show (tAt g p.1).getD [] = ns
        rw [t.items]; rfl
      obtain ⟨ns, x2, x3⟩ := key x hi
      obtain ⟨ms, y2, y3⟩ := key y hj
      rw [x3, y3] at q
      rw [lt'_eq]
      refine wpS_bind (wpS_get ?_)
      rw [b]
      exact wpS_bind (wpS_lift (wpAny_attempt (keyLt_tup (s := { s with heap := g }) x2 y2 ⟨rfl, wpS_pure q⟩)))
    refine wpAny_bind (wpAny_mono (HM.sort_all (a0 := pairsOf vs) L (z := SortSt.mk' (tuples' true) (vs.toArray.zip vs.toArray) #[] 7 none) (Q := fun _ z' => (arrOf z').Perm (pairsOf vs) ∧ failedOf z' = none ∧ SortedToK (tupKind g) (arrOf z') (pairsOf vs).size)
      (fun p hp => hp) (Array.Perm.refl _) rfl rfl rfl (by rw [pairsOf_size]; omega) fun z' a1 a2 a3 => ⟨a1, a2, a3⟩) ?_ fun _ _ e => e)
    rintro ⟨⟨⟩, z'⟩ s' ⟨e', pm, hf, st⟩
    subst e'
    dsimp only
    refine wpAny_bind (seqEpoch_at ho6 rfl (wpAny_bind (listUpdate_at ho6 rfl ?_ (hsz2 := by refine Nat.le_trans (Nat.le_of_eq ((Array.size_map ..).trans (pm.size_eq.trans (pairsOf_size _)))) ?_; rw [sizeLine_eq]; omega))))
    rw [hf]
    simp only [bne_self_eq_false, Bool.false_eq_true, if_false]
    exact wpAny_pure (fin z' pm st)
end
end HS
set_option Elab.async false
set_option linter.all false
set_option maxRecDepth 100000
set_option maxHeartbeats 4000000
namespace HS
open PySem PySem.Spec PyProof.Rows
section
variable {prog : Program} {w : World} {A : Around} {E : Value → Shared → Prop} {s : Shared}
theorem sorted_got {v : Value} {vs : List Value} {Q : Value → Shared → Prop} (hv : ∀ u ∈ vs, ∃ ns, TI s.heap u ns) (h64 : vs.length < 1000)
    (hc : ∀ (Q' : List Value → Shared → Prop), Q' vs { s with heap := (s.heap.push (seqObj "list" #[] 0)).update s.heap.objs.size (Obj.mapSeq (· ++ vs.toArray)) } → wpAny (model prog w) A.in1 (collect v) Q' E s)
    (h : ∀ out : Array Value, out.toList.Perm vs → (out.toList.map fun u => (tAt s.heap u).getD []).Pairwise (fun a b => ltI b a = false) → Q (.ref (s.heap.objs.size + 1)) { s with heap := sortedAll s.heap vs out }) :
    wpAny (model prog w) A (call (.builtin "sorted") [v]) Q E s := by
  refine Calls.call_function_entry kind_sorted plain_sorted entry_sorted (args_sorted1 _) ?_
  unfold Builtin.«sorted»
  refine wpAny_bind (m := checkCount "sorted" 1 1 _) (wpAny_pure (wpAny_bind (hc _ (wpAny_bind (wpAny_newList ?_)))))
  have hsz : ((s.heap.push (seqObj "list" #[] 0)).update s.heap.objs.size (Obj.mapSeq (· ++ vs.toArray))).objs.size = s.heap.objs.size + 1 := by rw [Heap.size_update, size_push']
  have hoL : (((s.heap.push (seqObj "list" #[] 0)).update s.heap.objs.size (Obj.mapSeq (· ++ vs.toArray))).push (seqObj "list" vs.toArray 0)).get? (s.heap.objs.size + 1) = some (seqObj "list" vs.toArray 0) := by rw [← hsz]; exact Heap.get?_push_size _ rfl
  have old : ∀ c o, s.heap.get? c = some o → (((s.heap.push (seqObj "list" #[] 0)).update s.heap.objs.size (Obj.mapSeq (· ++ vs.toArray))).push (seqObj "list" vs.toArray 0)).get? c = some o := fun c o e => Heap.get?_push_of_some _ (by
    rw [Heap.get?_update_ne _ _ _ _ (Nat.ne_of_lt (Heap.lt_size e))]; exact Heap.get?_push_of_some _ e)
  show wpAny _ _ _ _ _ { s with heap := ((s.heap.push (seqObj "list" #[] 0)).update s.heap.objs.size (Obj.mapSeq (· ++ vs.toArray))).push (seqObj "list" vs.toArray 0) }
  rw [hsz]
  have eqi : ∀ u ∈ vs, tAt (((s.heap.push (seqObj "list" #[] 0)).update s.heap.objs.size (Obj.mapSeq (· ++ vs.toArray))).push (seqObj "list" vs.toArray 0)) u = tAt s.heap u ∧ (∃ ns, TI (((s.heap.push (seqObj "list" #[] 0)).update s.heap.objs.size (Obj.mapSeq (· ++ vs.toArray))).push (seqObj "list" vs.toArray 0)) u ns) ∧ u ≠ .ref (s.heap.objs.size + 1) := fun u hu => by
    obtain ⟨ns, t⟩ := hv u hu
    have t0 := t
    obtain ⟨⟨a, o, its, n, rfl, e1, e2, e3, e4⟩, ne⟩ := t
    have t' : TI (((s.heap.push (seqObj "list" #[] 0)).update s.heap.objs.size (Obj.mapSeq (· ++ vs.toArray))).push (seqObj "list" vs.toArray 0)) (.ref a) ns := ⟨⟨a, o, its, n, rfl, old a o e1, e2, e3, e4⟩, ne⟩
    refine ⟨by rw [t'.items, t0.items], ⟨ns, t'⟩, fun z => ?_⟩
    cases z
    exact absurd (Heap.lt_size e1) (Nat.not_lt.mpr (Nat.le_succ _))
  refine wpAny_bind (wpAny_holding (wpAny_call_entry slot_list_sort ⟨_, hoL, rfl⟩ entry_list_sort (sort_tree (s := { s with heap := ((s.heap.push (seqObj "list" #[] 0)).update s.heap.objs.size (Obj.mapSeq (· ++ vs.toArray))).push (seqObj "list" vs.toArray 0) }) hoL (fun u hu => (eqi u hu).2) h64 fun out pm so => ⟨_, rfl, wpAny_pure ⟨_, rfl, h out pm ?_⟩⟩) (args_list_sort _)))
  rw [List.pairwise_iff_getElem]
  intro i j hi hj ij
  have hj' : j < out.size := by simpa using hj
  have hi' : i < out.size := by omega
  have q := so i j (Nat.le_of_lt ij) hj'
  have g : ∀ k, (hk : k < out.size) → tAt (((s.heap.push (seqObj "list" #[] 0)).update s.heap.objs.size (Obj.mapSeq (· ++ vs.toArray))).push (seqObj "list" vs.toArray 0)) (out.getD k .none) = tAt s.heap out[k] := fun k hk => by
    have e : out.getD k .none = out[k] := by simp [Array.getD, hk]
    rw [e]
    exact (eqi _ (pm.mem_iff.mp (by simp))).1
  rw [g i hi', g j hj'] at q
  simpa using q
end
end HS
namespace L3
open PySem PySem.Spec PyProof.Rows L2 HS
section
variable {X : Cx} {e : Expr} {pos p : Pos} {tl : TL2}
def tI (ns : List Int) : D := .tup (ns.map D.int)
theorem tups_at {pins : List (Addr × Obj)} {σ : L2.St} {H : Hp} {s : Shared} (I : Inv X pins σ H s) : ∀ {nss : List (List Int)} {ys : List V} {us : List Value}, Dens X.K H (nss.map tI) ys → Vals ys us → (∀ ns ∈ nss, ns ≠ []) →
    us.map (fun u => (tAt s.heap u).getD []) = nss ∧ ∀ u ∈ us, ∃ a ns, u = .ref a ∧ TI s.heap u ns ∧ Den X.K H (tI ns) (.ref a)
  | [], ys, us, d, r, _ => by
    simp only [List.map_nil] at d
    unfold Dens at d
    subst d
    cases r
    exact ⟨rfl, by simp⟩
  | ns :: nss, ys, us, d, r, hne => by
    simp only [List.map_cons] at d
    unfold Dens at d
    obtain ⟨x, xs, rfl, d1, d2⟩ := d
    cases r with
    | cons r1 r2 =>
      rename_i u us'
      obtain ⟨q1, q2⟩ := tups_at I d2 r2 fun n hn => hne n (by simp [hn])
      have d0 := d1
      unfold tI Den at d1
      obtain ⟨a, zs, rfl, hs, hd⟩ := d1
      have hz := hd.ints_inv
      subst hz
      obtain ⟨its, rv, ⟨o, h1, h2, n, h3⟩, _⟩ := I.tuple hs
      cases (show u = Value.ref a from r1)
      have t : TI s.heap (.ref a) ns := ⟨⟨a, o, its.toArray, n, rfl, h1, h2, h3, by simpa using intsAre_of rv⟩, hne ns (by simp)⟩
      refine ⟨by rw [List.map_cons, q1, t.items]; rfl, fun v hv => ?_⟩
      rcases List.mem_cons.mp hv with e | e
      · subst e; exact ⟨a, ns, rfl, t, d0⟩
      · exact q2 v e
theorem tups_back {pins : List (Addr × Obj)} {σ : L2.St} {H : Hp} {s : Shared} (I : Inv X pins σ H s) : ∀ {us : List Value}, (∀ u ∈ us, ∃ a ns, u = .ref a ∧ TI s.heap u ns ∧ Den X.K H (tI ns) (.ref a)) →
    ∃ ys : List V, Vals ys us ∧ Dens X.K H ((us.map fun u => (tAt s.heap u).getD []).map tI) ys
  | [], _ => ⟨[], .nil, .nil⟩
  | u :: us, h => by
    obtain ⟨ys, v, d⟩ := tups_back I (us := us) fun w hw => h w (List.mem_cons_of_mem _ hw)
    obtain ⟨a, ns, rfl, t, d1⟩ := h u (by simp)
    refine ⟨.ref a :: ys, .cons rfl v, ?_⟩
    simp only [List.map_cons]
    rw [t.items]
    exact .cons d1 d
theorem call_sortedT : CallR X (.builtin "sorted") (fun xs H Q => ∃ (p : Addr) (ys : List V) (nss : List (List Int)), xs = [.ref p] ∧ (SqL X.K H p ys ∨ SqT X.K H p ys) ∧ Dens X.K H (nss.map tI) ys ∧ nss.length < 1000 ∧ (∀ ns ∈ nss, ns ≠ []) ∧
    ∀ (l : Addr) (ys' : List V) (nss' : List (List Int)), H l = none → nss'.Perm nss → Dens X.K H (nss'.map tI) ys' → nss'.Pairwise (fun a b => ltI b a = false) → Q (.ref l) (upd H l (.lst ys'))) := by
  intro pins s σ H xs us Q I r h
  obtain ⟨p, ys, nss, rfl, hq, hd, hz, hne, q⟩ := h
  obtain ⟨u, rfl, rx⟩ := vals1 r
  cases rx
  have fin : ∀ (its : List Value) (out : Array Value), Vals ys its → out.toList.Perm its → (out.toList.map fun u => (tAt s.heap u).getD []).Pairwise (fun a b => ltI b a = false) → EP X pins σ Q (.ref (s.heap.objs.size + 1)) { s with heap := sortedAll s.heap its out } := by
    intro its out rv pm so
    obtain ⟨q1, q2⟩ := tups_at I hd rv hne
    obtain ⟨ys', rv', d'⟩ := tups_back I (us := out.toList) fun w hw => q2 w (pm.mem_iff.mp hw)
    obtain ⟨e, he⟩ := sortedAll_at s.heap its out
    have hn : H (s.heap.objs.size + 1) = none := I.hok.fresh (Nat.le_succ _)
    refine ⟨.ref (s.heap.objs.size + 1), _, I.laid (t' := s.toks) (o := .lst ys') (fun b u q => sortedAll_old q) (Nat.le_succ _) ?_, rfl, q _ ys' _ hn (by rw [← q1]; exact pm.map _) d' so⟩
    have hp := pm.length_eq
    have l1 := rv'.length
    have l2 := rv.length
    have l3 := hd.length
    rw [List.length_map] at l3
    refine ⟨?_, out.toList, e, rv', ?_⟩
    · rw [sizeLine_eq]; omega
    · rw [he] <;> rfl
  rcases hq with hq | hq
  · obtain ⟨its, rv, pl, _⟩ := I.list hq
    obtain ⟨q1, q2⟩ := tups_at I hd rv hne
    have l2 := rv.length
    have l3 := hd.length
    rw [List.length_map] at l3
    exact sorted_got (vs := its) (fun w hw => by obtain ⟨_, ns, _, t, _⟩ := q2 w hw; exact ⟨ns, t⟩) (by omega) (fun Q' hQ' => collect_list pl.isList hQ' (by rw [sizeLine_eq]; omega)) fun out pm so => fin its out rv pm so
  · obtain ⟨its, rv, pl, _⟩ := I.tuple hq
    obtain ⟨q1, q2⟩ := tups_at I hd rv hne
    have l2 := rv.length
    have l3 := hd.length
    rw [List.length_map] at l3
    exact sorted_got (vs := its) (fun w hw => by obtain ⟨_, ns, _, t, _⟩ := q2 w hw; exact ⟨ns, t⟩) (by omega) (fun Q' hQ' => HT.collect_tup pl hQ') fun out pm so => fin its out rv pm so
def xSortedTF (t : TL2) : TL2 := fun σ G R => t σ G fun ds G1 => ∃ nss : List (List Int), ds = nss.map tI ∧ nss.length < 1000 ∧ (∀ ns ∈ nss, ns ≠ []) ∧ ∀ nss' : List (List Int), nss'.Perm nss → nss'.Pairwise (fun a b => ltI b a = false) → R (nss'.map tI) G1
theorem f_sortedTF (hg : Gl X "sorted") (hm : X.mg "sorted" = none) (ha : F2 X e tl) (he : starEach [e] X.env = (false, eval e X.env) :: starEach [] X.env := by rfl) (hpl : (backTo pos (starEach [] X.env)).any (·.1) = false := by rfl) :
    F2 X (.Call (.Name "sorted" p) [e] [] pos) (xSortedTF tl) := by
  refine PE.mono (pe_callB call_sortedT hg hm boot_sorted (pa_cons ha pa_nil he) (by decide) (by decide) he hpl) ?_
  rintro σ1 H Q ⟨σ, G, R, rl, q, k⟩
  refine ⟨σ, G, _, rl, q, fun ds G1 q1 l xs H1 g1 r1 n e1 d1 => ?_⟩
  obtain ⟨nss, rfl, hl, hne, q1⟩ := q1
  refine ⟨l, xs, nss, rfl, .inl (.of e1), d1, hl, hne, fun l' ys' nss' n' h1 h2 h3 => ?_⟩
  exact k _ G1 (q1 nss' h1 h3) l' _ _ (g1.trans (.fresh n')) (r1.fresh n') (r1.free n') upd_same (h2.grow (.fresh n'))
end
end L3
set_option Elab.async false
set_option linter.all false
set_option maxRecDepth 100000
set_option maxHeartbeats 4000000
namespace HT
open PySem PySem.Spec PyProof.Rows
open PySem.AutoSeq1 (wpAny_loadPart')
section
variable {prog : Program} {w : World} {A : Around} {E : Value → Shared → Prop} {s : Shared}
end
end HT
namespace L3
open PySem PySem.Spec PyProof.Rows L2
section
variable {X : Cx} {a b c e o : Expr} {es : List Expr} {pos p : Pos} {ta tb te : TE2}
end
end L3
set_option Elab.async false
set_option linter.all false
set_option maxRecDepth 100000
set_option maxHeartbeats 4000000
namespace L3
open PySem PySem.Spec PyProof.Rows L2
section
variable {X : Cx} {a b c e o we : Expr} {es : List Expr} {pos p : Pos} {ta tb te tw : TE2}
end
end L3
set_option Elab.async false
set_option linter.all false
set_option maxRecDepth 100000
set_option maxHeartbeats 4000000
namespace HI
open PySem PySem.Spec PyProof.Rows
def Ris (xs : Array Nat) : Prop := xs.toList.Pairwise (· < ·)
theorem Ris.lt {xs : Array Nat} (h : Ris xs) {i k : Nat} (ik : i < k) (hk : k < xs.size) : xs[i]'(Nat.lt_trans ik hk) < xs[k] := by
  have := List.pairwise_iff_getElem.mp h i k (by simpa using Nat.lt_trans ik hk) (by simpa using hk) ik
  simpa using this
theorem go_ok {xs : Array Nat} {j : Nat} (hr : Ris xs) : ∀ (fuel lo hi : Nat), hi ≤ xs.size → lo ≤ hi → hi - lo ≤ fuel → (∀ i, (q : i < xs.size) → i < lo → xs[i] < j) → (∀ i, (q : i < xs.size) → hi ≤ i → j ≤ xs[i]) →
    (∀ i, (q : i < xs.size) → i < SetTable.below.go xs j fuel lo hi → xs[i] < j) ∧ ∀ i, (q : i < xs.size) → SetTable.below.go xs j fuel lo hi ≤ i → j ≤ xs[i]
  | 0, lo, hi, h1, h2, h3, a, b => by
    unfold SetTable.below.go
    obtain rfl : lo = hi := by omega
    exact ⟨fun i q e => a i q e, fun i q e => b i q e⟩
  | fuel + 1, lo, hi, h1, h2, h3, a, b => by
    unfold SetTable.below.go
    by_cases c : lo < hi
    · rw [if_pos c]
      dsimp only
      have hm : (lo + hi) / 2 < xs.size := by omega
      have eg : xs.getD ((lo + hi) / 2) j = xs[(lo + hi) / 2] := by simp [Array.getD, hm]
      rw [eg]
      by_cases d : xs[(lo + hi) / 2] < j
      · rw [if_pos d]
        refine go_ok hr fuel ((lo + hi) / 2 + 1) hi h1 (by omega) (by omega) (fun i q e => ?_) b
        rcases Nat.lt_or_ge i ((lo + hi) / 2) with z | z
        · exact Nat.lt_trans (hr.lt z hm) d
        · obtain rfl : i = (lo + hi) / 2 := by omega
          exact d
      · rw [if_neg d]
        refine go_ok hr fuel lo ((lo + hi) / 2) (by omega) (by omega) (by omega) a (fun i q e => ?_)
        rcases Nat.lt_or_ge ((lo + hi) / 2) i with z | z
        · exact Nat.le_trans (Nat.not_lt.mp d) (Nat.le_of_lt (hr.lt z q))
        · obtain rfl : i = (lo + hi) / 2 := by omega
          exact Nat.not_lt.mp d
    · rw [if_neg c]
      obtain rfl : lo = hi := by omega
      exact ⟨fun i q e => a i q e, fun i q e => b i q e⟩
theorem below_ok {xs : Array Nat} {j : Nat} (hr : Ris xs) : (∀ i, (q : i < xs.size) → i < SetTable.below xs j → xs[i] < j) ∧ ∀ i, (q : i < xs.size) → SetTable.below xs j ≤ i → j ≤ xs[i] := by
  unfold SetTable.below
  exact go_ok hr xs.size 0 xs.size (Nat.le_refl _) (Nat.zero_le _) (by omega) (fun i q e => absurd e (Nat.not_lt_zero _)) (fun i q e => absurd q (Nat.not_lt.mpr e))
theorem ins_ris {xs : Array Nat} {j : Nat} (hr : Ris xs) (hn : xs[SetTable.below xs j]? ≠ some j) : Ris (SetTable.insertAt xs (SetTable.below xs j) j) := by
  obtain ⟨b1, b2⟩ := below_ok (j := j) hr
  generalize SetTable.below xs j = p at *
  unfold Ris
  rw [SetTable.toList_insertAt]
  have hd : ∀ a ∈ xs.toList.drop p, j < a := fun a ha => by
    obtain ⟨i, hi, rfl⟩ := List.mem_iff_getElem.mp ha
    rw [List.length_drop, Array.length_toList] at hi
    have hpi : p + i < xs.size := by omega
    rw [List.getElem_drop, Array.getElem_toList]
    have h1 := b2 (p + i) hpi (by omega)
    rcases Nat.eq_or_lt_of_le h1 with e | e
    · exfalso
      cases i with
      | zero =>
        apply hn
        rw [getElem?_pos xs p (by omega)]
        congr 1
        simpa using e.symm
      | succ i =>
        have hp : p < xs.size := by omega
        have := b2 p hp (Nat.le_refl _)
        have l := hr.lt (i := p) (k := p + (i + 1)) (by omega) hpi
        omega
    · exact e
  have ht : ∀ a ∈ xs.toList.take p, a < j := fun a ha => by
    obtain ⟨i, hi, rfl⟩ := List.mem_iff_getElem.mp ha
    rw [List.length_take, Array.length_toList] at hi
    rw [List.getElem_take, Array.getElem_toList]
    exact b1 i (by omega) (by omega)
  refine List.pairwise_append.mpr ⟨hr.sublist (List.take_sublist _ _), List.pairwise_cons.mpr ⟨hd, hr.sublist (List.drop_sublist _ _)⟩, fun a ha b hb => ?_⟩
  rcases List.mem_cons.mp hb with e | e
  · rw [e]; exact ht a ha
  · exact Nat.lt_trans (ht a ha) (hd b e)
theorem not_live {t : SetTable} {j : Nat} (h : t.slot j = .empty ∨ t.slot j = .dummy) : t.place[SetTable.below t.place j]? ≠ some j := fun e => by
  unfold SetTable.slot at h
  simp only [e, beq_self_eq_true, if_true] at h
  rcases h with h | h <;> cases h
end HI
set_option Elab.async false
set_option linter.all false
set_option maxRecDepth 100000
set_option maxHeartbeats 4000000
namespace HI
open PySem PySem.Spec PyProof.Rows
abbrev kyI (e : Int × Value) : Int := numOf e.2
def OkE (prog : Program) (w : World) (l : List (Int × Value)) : Prop := ∀ e ∈ l, ∃ k u, e = ((intKind prog w).hash k, .int k u)
def SI (prog : Program) (w : World) (h : Heap) (a : Addr) (ks : List Int) : Prop :=
  ∃ o es ep t, h.get? a = some o ∧ o.ExactSet ∧ o.data = .set es ep t ∧ OkE prog w es.toList ∧ es.toList.map kyI = ks ∧ es.size < scanBound ∧ t.fits es.size = true ∧ Ris t.place ∧ t.led = !(w.params.followText "set-order")
section
variable {prog : Program} {w : World} {A : Around} {E : Value → Shared → Prop} {s : Shared}
theorem SI.keep {h h' : Heap} {a : Addr} {ks : List Int} (x : SI prog w h a ks) (k : ∀ o, h.get? a = some o → h'.get? a = some o) : SI prog w h' a ks := let ⟨o, es, ep, t, e, r⟩ := x; ⟨o, es, ep, t, k o e, r⟩
end
section
variable {prog : Program} {w : World} {A : Around} {R : Result → Shared → Prop} {I : Addr} {fp wr : List Addr} {G : Array GenState → Array GenState → Prop} {n : Nat} {P : Nat → Value → Prop} {St : Nat → Shared → Prop}
end
end HI
set_option Elab.async false
set_option linter.all false
set_option maxRecDepth 100000
set_option maxHeartbeats 4000000
namespace HI
open PySem PySem.Spec PyProof.Rows
abbrev ledOf (w : World) : Bool := !(w.params.followText "set-order")
abbrev set0 (w : World) : Obj := { cls := .type "set", dict := none, data := .set #[] 0 (.fresh 0 0 (ledOf w)) }
section
variable {prog : Program} {w : World} {A : Around} {E : Value → Shared → Prop} {s : Shared}
theorem code_new (v : Value) {Q1 : Value → Shared → Prop} (h : Q1 (.ref s.heap.objs.size) { s with heap := s.heap.push (set0 w) }) :
    codeAny (model prog w) A (.call (.builtin "set.__new__") ⟨[.type "set", v], []⟩) (wants Q1 E) s := by
  refine codeAny_of_tree ?_
  show wpAny _ A.in1 (do checkBuiltinCall "set.__new__" ⟨[.type "set", v], []⟩; again (.builtin "set.__new__" ⟨[.type "set", v], []⟩)) _ _ s
  refine wpAny_bind (wpAny_of_eq (F.newCall_set_1 v) (wpAny_pure ⟨plainId_quiet F.plain_set_new _, codeAny_builtin F.entry_set_new ?_⟩))
  rw [Around.under_plainId F.plain_set_new _]
  unfold Builtin.«set.__new__» Builtin.Frozenset.newClass
  have hsub := sub_set_self
  obtain ⟨hp, g, d, tk, os⟩ := s
  dsimp only
  wp_walk
  refine wpAny_askSetting (wpAny_pure ?_)
  dsimp only
  simp only [newObj]
  exact wpAny_bind (wpAny_alloc (wpAny_pure (wpAny_pure h)))
end
end HI
set_option Elab.async false
set_option linter.all false
set_option maxRecDepth 100000
set_option maxHeartbeats 4000000
namespace HI
open PySem PySem.Spec PyProof.Rows
theorem sit_slot : Slot "set_iterator" "__next__" "set_iterator.__next__" :=
  .of (owner := "set_iterator") (n := "__next__") (by rw [typeLookup_type, builtinLookup_eq_fast]; kernel_rfl) (by decide +kernel) (by decide +kernel) (by decide +kernel) (by first | exact .inl (by decide +kernel) | exact .inr (by decide +kernel)) (by rw [isSubtype_type]; kernel_rfl)
theorem sit_entry : entryFor table "set_iterator.__next__" = some Builtin.«set_iterator.__next__» := entryFor_of_tree (by kernel_rfl)
theorem sit_args (v : Value) : argsOk "set_iterator.__next__" ⟨[v], []⟩ := by unfold argsOk; kernel_rfl
theorem si_entry : entryFor table "set.__iter__" = some Builtin.«frozenset.__iter__» := entryFor_alias (id' := "frozenset.__iter__") (by kernel_rfl) rfl (by decide +kernel) (by kernel_rfl)
theorem perm_er {α : Type} : ∀ (l : List α) (i : Nat) (h : i < l.length), ([l[i]] ++ l.eraseIdx i).Perm l
  | a :: r, 0, _ => .refl _
  | a :: r, i + 1, h => by
    have hi : i < r.length := by simpa using h
    have q := perm_er r i hi
    show ([r[i]] ++ (a :: r.eraseIdx i)).Perm (a :: r)
    exact (List.Perm.swap a r[i] _).trans (q.cons a)
theorem pick_go {α : Type} (f : Nat → Nat) : ∀ (n k : Nat) (l : List α) (out : Array α), l.length = n → (pickOrder.go f n k l out).toList.Perm (out.toList ++ l)
  | 0, k, l, out, h => by
    have : l = [] := List.length_eq_zero_iff.mp h
    subst this
    unfold pickOrder.go
    simp
  | n + 1, k, l, out, h => by
    unfold pickOrder.go
    have hi : f k % l.length < l.length := Nat.mod_lt _ (by omega)
    rw [List.getElem?_eq_getElem hi]
    dsimp only
    refine (pick_go f n (k + 1) _ _ (by rw [List.length_eraseIdx_of_lt hi]; omega)).trans ?_
    rw [Array.toList_push, List.append_assoc]
    refine List.Perm.append_left _ ?_
    exact perm_er l _ hi
theorem pick_perm {α : Type} (f : Nat → Nat) (xs : Array α) : (pickOrder f xs).toList.Perm xs.toList := by
  unfold pickOrder
  simpa using pick_go f xs.size 0 xs.toList #[] (by simp)
section
variable {prog : Program} {w : World} {A : Around} {E : Value → Shared → Prop} {s : Shared}
theorem byText {Q : Bool → Shared → Prop} (h : Q (w.params.followText "set-order") s) : wpAny (model prog w) A setsByText Q E s := by
  unfold setsByText
  exact wpAny_bind (wpAny_askSetting (wpAny_pure h))
abbrev sitObj (f : Value) (i : Int) (a : Addr) (n : Nat) (ep : Nat) : Obj := { cls := .type "set_iterator", dict := none, data := .fields #[f, rawInt i, .ref a, rawInt n, rawInt ep], slots := #[] }
structure Sx (h : Heap) (a : Addr) (es : Array (Int × Value)) (ep : Nat) (t : SetTable) : Prop where
  ex : ∃ o, h.get? a = some o ∧ o.ExactSet ∧ o.data = .set es ep t
theorem Sx.keep {h h' : Heap} {a : Addr} {es : Array (Int × Value)} {ep : Nat} {t : SetTable} (x : Sx h a es ep t) (k : ∀ o, h.get? a = some o → h'.get? a = some o) : Sx h' a es ep t := let ⟨o, e, r⟩ := x.ex; ⟨o, k o e, r⟩
def Tells (prog : Program) (w : World) (a : Addr) (es : Array (Int × Value)) (ep : Nat) (t : SetTable) (sl : Nat → Nat) (xs : List Value) : Prop :=
  ∀ (A : Around) (E : Value → Shared → Prop) (s : Shared) (i : Nat) (Q : Option (Value × Nat) → Shared → Prop), i ≤ xs.length → Sx s.heap a es ep t → Q ((xs[i]?).map fun v => (v, sl (i + 1))) s → wpAny (model prog w) A (setNext a (sl i) i ep) Q E s
theorem tells_text {a : Addr} {es : Array (Int × Value)} {ep : Nat} {t : SetTable} (hf : t.fits es.size = true) (hb : w.params.followText "set-order" = true) : Tells prog w a es ep t (fun _ => 0) ((pickOrder (w.params.setOrder a ep) es).toList.map (·.2)) := by
  intro A E s i Q hi hx h
  obtain ⟨o, ho, _, hd⟩ := hx.ex
  unfold setNext
  refine wpAny_bind (wpAny_setState_of ho hd hf ?_)
  dsimp only
  refine wpAny_bind (byText ?_)
  rw [hb]
  simp only [↓reduceIte, bne_self_eq_false, Bool.false_eq_true]
  refine wpAny_bind ?_
  unfold setWalk
  refine wpAny_bind (wpAny_setState_of ho hd hf ?_)
  dsimp only
  refine wpAny_bind (byText ?_)
  rw [hb]
  simp only [↓reduceIte]
  refine wpAny_bind (wpAny_askSetting (wpAny_pure (wpAny_pure ?_)))
  rw [List.getElem?_map, Option.map_map, Array.getElem?_toList] at h
  exact h
theorem below_at {xs : Array Nat} (hr : Ris xs) {i : Nat} (hi : i ≤ xs.size) : (i < xs.size → SetTable.below xs (if i = 0 then 0 else xs.getD (i - 1) 0 + 1) = i) ∧ (i = xs.size → xs.size ≤ SetTable.below xs (if i = 0 then 0 else xs.getD (i - 1) 0 + 1)) := by
  generalize hj : (if i = 0 then 0 else xs.getD (i - 1) 0 + 1) = j
  obtain ⟨b1, b2⟩ := below_ok (j := j) hr
  generalize SetTable.below xs j = p at b1 b2
  have lo : i ≤ p := by
    rcases Nat.lt_or_ge p i with q | q
    · exfalso
      have h1 := b2 p (by omega) (Nat.le_refl _)
      rw [if_neg (by omega)] at hj
      have h0 : i - 1 < xs.size := by omega
      have e : xs.getD (i - 1) 0 = xs[i - 1] := by simp [Array.getD, h0]
      rw [e] at hj
      rcases Nat.lt_or_ge p (i - 1) with z | z
      · have := hr.lt z h0; omega
      · have e2 : p = i - 1 := by omega
        subst e2; omega
    · exact q
  refine ⟨fun h => ?_, fun h => by omega⟩
  rcases Nat.lt_or_ge i p with q | q
  · exfalso
    have h1 := b1 i h q
    by_cases z : i = 0
    · rw [if_pos z] at hj; omega
    · rw [if_neg z] at hj
      have h0 : i - 1 < xs.size := by omega
      have e : xs.getD (i - 1) 0 = xs[i - 1] := by simp [Array.getD, h0]
      have := hr.lt (i := i - 1) (k := i) (by omega) h
      omega
  · omega
theorem tells_plain {a : Addr} {es : Array (Int × Value)} {ep : Nat} {t : SetTable} (hf : t.fits es.size = true) (hr : Ris t.place) (hb : w.params.followText "set-order" = false) (hl : t.led = true) (hp : (!t.plain && decide (es.size > 1)) = false) :
    Tells prog w a es ep t (fun i => if i = 0 then 0 else t.place.getD (i - 1) 0 + 1) (es.toList.map (·.2)) := by
  intro A E s i Q hi hx h
  obtain ⟨o, ho, _, hd⟩ := hx.ex
  have hs : t.place.size = es.size := by
    simp only [SetTable.fits, Bool.and_eq_true, beq_iff_eq] at hf
    exact hf.1
  unfold setNext
  refine wpAny_bind (wpAny_setState_of ho hd hf ?_)
  dsimp only
  refine wpAny_bind (byText ?_)
  rw [hb]
  simp only [Bool.false_eq_true, ↓reduceIte]
  refine wpAny_ite_split (fun q => absurd (show (!t.plain && decide (es.size > 1)) = true from q) (by rw [hp]; decide)) (fun _ => ?_)
  refine wpAny_bind (wpAny_ite_split (fun q => absurd q (by rw [hl]; simp)) (fun _ => wpAny_pure (wpAny_pure ?_)))
  rw [List.length_map, Array.length_toList] at hi
  obtain ⟨b1, b2⟩ := below_at hr (i := i) (by omega)
  rw [List.getElem?_map, Option.map_map, Array.getElem?_toList] at h
  rcases Nat.lt_or_ge i es.size with q | q
  · rw [b1 (by omega), getElem?_pos es i q, getElem?_pos t.place i (by omega)]
    rw [getElem?_pos es i q] at h
    have e : t.place.getD (i + 1 - 1) 0 = t.place[i]'(by omega) := by simp [Array.getD, hs, q]
    have h' : Q (some (es[i].2, if i + 1 = 0 then 0 else t.place.getD (i + 1 - 1) 0 + 1)) s := h
    rw [if_neg (by omega), e] at h'
    exact h'
  · have hn : es[SetTable.below t.place (if i = 0 then 0 else t.place.getD (i - 1) 0 + 1)]? = none := by
      rw [Array.getElem?_eq_none_iff]
      have := b2 (by omega)
      omega
    have hn2 : es[i]? = none := by rw [Array.getElem?_eq_none_iff]; exact q
    rw [hn]
    rw [hn2] at h
    exact h
end
end HI
set_option Elab.async false
set_option linter.all false
set_option maxRecDepth 100000
set_option maxHeartbeats 4000000
namespace HI
open PySem PySem.Spec PyProof.Rows
section
variable {prog : Program} {w : World} {A : Around} {E : Value → Shared → Prop} {s : Shared}
theorem next_tab {a it : Addr} {es : Array (Int × Value)} {ep : Nat} {t : SetTable} {sl : Nat → Nat} {xs : List Value} (T : Tells prog w a es ep t sl xs) (hf : t.fits es.size = true) (hx : xs.length = es.size) {i : Nat} (hi : i < es.size) (hit : s.heap.get? it = some (sitObj (rawInt (sl i)) i a es.size ep)) (hS : Sx s.heap a es ep t) (hne : a ≠ it) {Q : Option Value → Shared → Prop}
    (hQ : ∀ h' v, xs[i]? = some v → h'.get? it = some (sitObj (rawInt (sl (i + 1))) ((i + 1 : Nat) : Int) a es.size ep) → (∀ b o, b ≠ it → s.heap.get? b = some o → h'.get? b = some o) → Q (some v) { s with heap := h' }) : wpAny (model prog w) A (pyNext (.ref it)) Q E s := by
  have hT : s.TypeIs (.ref it) "set_iterator" := ⟨_, hit, rfl⟩
  obtain ⟨o, ho, _, hd⟩ := hS.ex
  unfold pyNext
  refine wpAny_bind (wpAny_attempt (wpAny_callSpecial?_slot (name := Str.ofString "__next__") hT sit_slot (wpAny_call_entry sit_slot hT sit_entry ?_ (sit_args _))))
  unfold Builtin.«set_iterator.__next__»
  refine wpAny_bind (m := slotArgs "__next__" 0 _) (wpAny_pure ?_)
  refine wpAny_bind (wpAny_fieldsOf hit rfl ?_)
  simp only [rawInt]
  refine wpAny_bind (wpAny_setEntries_of ho hd hf ?_)
  simp only [bne_self_eq_false, Bool.false_eq_true, ↓reduceIte]
  simp only [Int.toNat_natCast]
  refine wpAny_bind (T _ _ _ i _ (by omega) hS ?_)
  rw [List.getElem?_eq_getElem (show i < xs.length by omega)]
  refine wpAny_bind (wpAny_setField_rec hit (by simp) fun h1 e1 s1 => wpAny_bind (wpAny_setField_rec e1 (by simp) fun h2 e2 s2 => wpAny_pure ⟨_, rfl, wpAny_pure (hQ h2 xs[i] (List.getElem?_eq_getElem _) ?_ fun b o hb e => s2.extBut _ _ hb (s1.extBut _ _ hb e))⟩))
  exact e2
theorem stop_it {B : Around} {z : Shared} {Q : Fin → Shared → Prop} {E' : Value → Shared → Prop} (hh : B.handled = none) (h : ∀ h' e, (∀ b o, z.heap.get? b = some o → h'.get? b = some o) → (∃ o, h'.get? e = some o ∧ o.cls = .type "StopIteration") → E' (.ref e) { z with heap := h' }) :
    wpAny (model prog w) B (do raiseNew (← newExc (.type "StopIteration") [])) Q E' z := by
  refine wpAny_bind ?_
  simp only [newExc, newTuple]
  refine wpAny_bind (wpAny_newObj_type (wpAny_bind (m := firstArgMember _ _) (wpAny_of_eq (a := Value.none) (by first | rfl | (simp only [firstArgMember]; rfl)) (wpAny_newObj_type ?_ (by size_fits)))) (by size_fits))
  simp only [raiseNew]
  refine wpAny_bind (wpAny_handled ?_)
  rw [hh]
  exact wpAny_bind (wpAny_pure (wpAny_throw (h _ _ (fun b o e => Heap.get?_push_of_some _ (Heap.get?_push_of_some _ e)) ⟨_, Heap.get?_push_size _ rfl, rfl⟩)))
theorem end_tab {a it : Addr} {es : Array (Int × Value)} {ep : Nat} {t : SetTable} {sl : Nat → Nat} {xs : List Value} (hh : A.handled = none) (T : Tells prog w a es ep t sl xs) (hf : t.fits es.size = true) (hx : xs.length = es.size) (hit : s.heap.get? it = some (sitObj (rawInt (sl es.size)) es.size a es.size ep)) (hS : Sx s.heap a es ep t) {Q : Option Value → Shared → Prop}
    (hQ : ∀ h', (∀ b o, b ≠ it → s.heap.get? b = some o → h'.get? b = some o) → Q none { s with heap := h' }) : wpAny (model prog w) A (pyNext (.ref it)) Q E s := by
  have hT : s.TypeIs (.ref it) "set_iterator" := ⟨_, hit, rfl⟩
  obtain ⟨o, ho, _, hd⟩ := hS.ex
  unfold pyNext
  refine wpAny_bind (wpAny_attempt (wpAny_callSpecial?_slot (name := Str.ofString "__next__") hT sit_slot (wpAny_call_entry sit_slot hT sit_entry ?_ (sit_args _))))
  unfold Builtin.«set_iterator.__next__»
  refine wpAny_bind (m := slotArgs "__next__" 0 _) (wpAny_pure ?_)
  refine wpAny_bind (wpAny_fieldsOf hit rfl ?_)
  simp only [rawInt]
  refine wpAny_bind (wpAny_setEntries_of ho hd hf ?_)
  simp only [bne_self_eq_false, Bool.false_eq_true, ↓reduceIte]
  simp only [Int.toNat_natCast]
  refine wpAny_bind (T _ _ _ es.size _ (by omega) hS ?_)
  rw [List.getElem?_eq_none (show xs.length ≤ es.size by omega)]
  refine wpAny_bind (wpAny_setField_rec hit (by simp) fun h1 e1 s1 => ?_)
  refine stop_it (by simpa using hh) fun h' e kp he => ?_
  obtain ⟨oe, q1, q2⟩ := he
  refine wpAny_bind (wpAny_isInstance (T := "StopIteration") (b := true) ⟨oe, q1, q2⟩ isSubtype_stop (wpAny_pure (hQ _ fun b o hb e => kp _ _ (s1.extBut _ _ hb e))))
end
end HI
set_option Elab.async false
set_option linter.all false
set_option maxRecDepth 100000
set_option maxHeartbeats 4000000
namespace HI
open PySem PySem.Spec PyProof.Rows
theorem sii_slot : Slot "set_iterator" "__iter__" "set_iterator.__iter__" :=
  .of (owner := "set_iterator") (n := "__iter__") (by rw [typeLookup_type, builtinLookup_eq_fast]; kernel_rfl) (by decide +kernel) (by decide +kernel) (by decide +kernel) (by first | exact .inl (by decide +kernel) | exact .inr (by decide +kernel)) (by rw [isSubtype_type]; kernel_rfl)
theorem sii_entry : entryFor table "set_iterator.__iter__" = some Builtin.«dict_keyiterator.__iter__» :=
  entryFor_alias (id' := "dict_keyiterator.__iter__") (by kernel_rfl) (by first | rfl | decide +kernel | (unfold String.splitOn; simp +decide [String.splitOnAux])) (by decide +kernel) (by kernel_rfl)
theorem sii_args (v : Value) : argsOk "set_iterator.__iter__" ⟨[v], []⟩ := by unfold argsOk; kernel_rfl
section
variable {prog : Program} {w : World} {A : Around} {E : Value → Shared → Prop} {s : Shared}
theorem sit_self {it : Addr} {f : Value} {i : Int} {a : Addr} {n ep : Nat} {Q : Value → Shared → Prop} (h : s.heap.get? it = some (sitObj f i a n ep)) (q : Q (.ref it) s) : wpAny (model prog w) A (pyIter (.ref it)) Q E s := by
  have hT : s.TypeIs (.ref it) "set_iterator" := ⟨_, h, rfl⟩
  refine wpAny_pyIter_slot hT sii_slot (wpAny_call_entry sii_slot hT sii_entry ?_ (sii_args _))
  show wpAny _ _ (ret (.ref it)) _ _ s
  exact wpAny_pure ⟨_, rfl, "set_iterator", _, hT, sit_slot.lookup, q⟩
end
end HI
set_option Elab.async false
set_option linter.all false
set_option maxRecDepth 100000
set_option maxHeartbeats 4000000
namespace HI
open PySem PySem.Spec PyProof.Rows
section
variable {prog : Program} {w : World} {A : Around} {E : Value → Shared → Prop} {s : Shared}
theorem hint_set {a : Addr} {o : Obj} {Q : Bool → Shared → Prop} (ho : s.heap.get? a = some o) (hc : o.cls = .type "set") (h : Q false s) : wpAny (model prog w) A (Builtin.List.listLengthHint (.ref a)) Q E s := by
  unfold Builtin.List.listLengthHint
  refine wpAny_bind (wpAny_specialOf ⟨o, ho, hc⟩ F.slot_set_len.lookup ?_)
  generalize hid : ("set.__len__" : String) = id0
  wp_delta
  rw [show splitId id0 = some ("set", "__len__") from by subst hid; decide +kernel]
  subst hid
  refine wpAny_bind (wpAny_isInstance (T := "set") (b := true) ⟨o, ho, hc⟩ (by rw [isSubtype_type]; kernel_rfl) ?_)
  refine wpAny_ite_split (fun hab => absurd hab (by decide)) (fun _ => ?_)
  refine wpAny_ite_split (fun _ => ?_) (fun hab => absurd (by decide +kernel) hab)
  exact wpAny_bind (wpAny_typeOf (T := "set") ⟨o, ho, hc⟩ (wpAny_pure h))
end
end HI
set_option Elab.async false
set_option linter.all false
set_option maxRecDepth 100000
set_option maxHeartbeats 4000000
namespace L2
open PySem PySem.Spec PyProof.Rows HI
variable {X : Cx} {e : Expr} {t : TA} {p p2 pos pos2 : Pos}
end L2
namespace L3
open PySem PySem.Spec PyProof.Rows L2
section
variable {X : Cx} {e : Expr} {p p2 pos pos2 : Pos}
end
end L3
set_option Elab.async false
set_option linter.all false
set_option maxRecDepth 100000
set_option maxHeartbeats 4000000
namespace HT2
open PySem
abbrev Probe := SetTable.Probe
def adv (mask : Nat) (p : Probe) : Probe :=
  if p.more > 0 then { p with j := p.j + 1, more := p.more - 1 } else
  { p with j := (SetTable.leap mask p.i p.perturb).1, more := SetTable.runEnd mask (SetTable.leap mask p.i p.perturb).1 - (SetTable.leap mask p.i p.perturb).1, i := (SetTable.leap mask p.i p.perturb).1, perturb := (SetTable.leap mask p.i p.perturb).2 }
theorem adv_dummy (mask : Nat) (p : Probe) (d : Option Nat) : adv mask { p with dummy := d } = { adv mask p with dummy := d } := by
  unfold adv
  split <;> rfl
def pth (mask : Nat) (h : Int) : Nat → Probe
  | 0 => { j := SetTable.bits h % (mask + 1), more := SetTable.runEnd mask (SetTable.bits h % (mask + 1)) - SetTable.bits h % (mask + 1), i := SetTable.bits h % (mask + 1), perturb := SetTable.bits h, dummy := none }
  | n + 1 => adv mask (pth mask h n)
def lp (mask : Nat) (h : Int) : Nat → Nat × Nat
  | 0 => (SetTable.bits h % (mask + 1), SetTable.bits h)
  | n + 1 => SetTable.leap mask (lp mask h n).1 (lp mask h n).2
theorem run_le (mask i : Nat) : SetTable.runEnd mask i - i ≤ 9 := by
  unfold SetTable.runEnd
  split <;> omega
section
variable {mask : Nat} {h : Int}
theorem pth_run {n i r q : Nat} (e : pth mask h n = ⟨i, r, i, q, none⟩) : ∀ m, m ≤ r → pth mask h (n + m) = ⟨i + m, r - m, i, q, none⟩
  | 0, _ => by simpa using e
  | m + 1, hm => by
    have := pth_run e m (by omega)
    show adv mask (pth mask h (n + m)) = _
    rw [this]
    unfold adv
    rw [if_pos (show r - m > 0 by omega)]
    simp only [SetTable.Probe.mk.injEq, and_true]
    omega
theorem pth_lp : ∀ k, ∃ n, n ≤ 10 * k ∧ pth mask h n = ⟨(lp mask h k).1, SetTable.runEnd mask (lp mask h k).1 - (lp mask h k).1, (lp mask h k).1, (lp mask h k).2, none⟩
  | 0 => ⟨0, Nat.le_refl _, rfl⟩
  | k + 1 => by
    obtain ⟨n, hn, e⟩ := pth_lp k
    have hr := run_le mask (lp mask h k).1
    have := pth_run e _ (Nat.le_refl _)
    refine ⟨n + (SetTable.runEnd mask (lp mask h k).1 - (lp mask h k).1) + 1, by omega, ?_⟩
    show adv mask (pth mask h _) = _
    rw [this]
    unfold adv
    rw [if_neg (by simp)]
    rfl
theorem lp_per : ∀ k, (lp mask h k).2 = SetTable.bits h / 32 ^ k
  | 0 => by simp [lp]
  | k + 1 => by
    show (SetTable.leap mask (lp mask h k).1 (lp mask h k).2).2 = _
    unfold SetTable.leap
    simp only
    rw [lp_per k, Nat.div_div_eq_div_mul, Nat.pow_succ]
theorem bits_lt : SetTable.bits h < 2 ^ 64 := by
  unfold SetTable.bits
  have h1 := Int.emod_lt_of_pos h (show (0 : Int) < 2 ^ 64 by decide)
  have h2 := Int.emod_nonneg h (show (2 ^ 64 : Int) ≠ 0 by decide)
  omega
theorem per0 {k : Nat} (hk : 13 ≤ k) : (lp mask h k).2 = 0 := by
  rw [lp_per]
  apply Nat.div_eq_of_lt
  have h1 := bits_lt (h := h)
  have h2 : 32 ^ 13 ≤ 32 ^ k := Nat.pow_le_pow_right (by omega) hk
  have h3 : (2 : Nat) ^ 64 ≤ 32 ^ 13 := by decide
  omega
def fM (M x : Nat) : Nat := (x * 5 + 1) % M
def itr (M : Nat) : Nat → Nat → Nat
  | 0, x => x
  | m + 1, x => fM M (itr M m x)
theorem itr_add (M : Nat) (a : Nat) : ∀ b x, itr M (a + b) x = itr M a (itr M b x) := by
  induction a with
  | zero => intro b x; simp [itr]
  | succ a ih => intro b x; rw [Nat.add_right_comm]; show fM M _ = fM M _; rw [ih]
theorem lp_itr : ∀ m, (lp mask h (13 + m)).1 = itr (mask + 1) m (lp mask h 13).1
  | 0 => rfl
  | m + 1 => by
    show (SetTable.leap mask (lp mask h (13 + m)).1 (lp mask h (13 + m)).2).1 = fM _ _
    unfold SetTable.leap fM
    simp only
    rw [per0 (by omega), lp_itr m]
theorem lp_lt (k : Nat) : (lp mask h k).1 < mask + 1 := by
  cases k with
  | zero => exact Nat.mod_lt _ (by omega)
  | succ k => exact Nat.mod_lt _ (by omega)
end
def Cyc (M : Nat) : Prop := ∀ i, i < M → ∀ j, j < M → ∃ m, m < M ∧ itr M m i = j
def orb (M : Nat) : Nat → Nat → List Nat
  | 0, _ => []
  | n + 1, x => x :: orb M n (fM M x)
theorem itr_succ' (M : Nat) (m x : Nat) : itr M (m + 1) x = itr M m (fM M x) := by
  have := itr_add M m 1 x
  simpa [itr] using this
theorem orb_mem {M : Nat} : ∀ {n x j : Nat}, j ∈ orb M n x → ∃ m, m < n ∧ itr M m x = j
  | 0, _, _, h => by cases h
  | n + 1, x, j, h => by
    rcases List.mem_cons.mp h with rfl | h
    · exact ⟨0, by omega, rfl⟩
    · obtain ⟨m, hm, e⟩ := orb_mem h
      exact ⟨m + 1, by omega, by rw [itr_succ']; exact e⟩
theorem cyc_of {M : Nat} (hall : ((List.range M).all fun j => (orb M M 0).contains j) = true) (hM : itr M M 0 = 0) : Cyc M := by
  have at0 : ∀ j, j < M → ∃ m, m < M ∧ itr M m 0 = j := fun j hj => by
    have := List.all_eq_true.mp hall j (List.mem_range.mpr hj)
    exact orb_mem (by simpa using this)
  intro i hi j hj
  obtain ⟨a, ha, rfl⟩ := at0 i hi
  obtain ⟨b, hb, rfl⟩ := at0 j hj
  rcases Nat.lt_or_ge b a with hab | hab
  · refine ⟨M + b - a, by omega, ?_⟩
    rw [← itr_add, show M + b - a + a = b + M by omega, itr_add, hM]
  · refine ⟨b - a, by omega, ?_⟩
    rw [← itr_add, show b - a + a = b by omega]
theorem cyc8 : Cyc 8 := cyc_of (by decide +kernel) (by decide +kernel)
theorem cyc16 : Cyc 16 := cyc_of (by decide +kernel) (by decide +kernel)
theorem cyc32 : Cyc 32 := cyc_of (by decide +kernel) (by decide +kernel)
theorem cyc64 : Cyc 64 := cyc_of (by decide +kernel) (by decide +kernel)
theorem cyc128 : Cyc 128 := cyc_of (by decide +kernel) (by decide +kernel)
theorem cyc256 : Cyc 256 := cyc_of (by decide +kernel) (by decide +kernel)
def Msk (mask : Nat) : Prop := mask = 7 ∨ mask = 15 ∨ mask = 31 ∨ mask = 63 ∨ mask = 127 ∨ mask = 255
theorem Msk.cyc {mask : Nat} (h : Msk mask) : Cyc (mask + 1) := by
  rcases h with rfl | rfl | rfl | rfl | rfl | rfl
  · exact cyc8
  · exact cyc16
  · exact cyc32
  · exact cyc64
  · exact cyc128
  · exact cyc256
theorem heads {mask : Nat} {h : Int} (hm : Cyc (mask + 1)) {j : Nat} (hj : j ≤ mask) : ∃ k, k ≤ 13 + mask ∧ (lp mask h k).1 = j := by
  obtain ⟨m, h1, h2⟩ := hm (lp mask h 13).1 (lp_lt 13) j (by omega)
  exact ⟨13 + m, by omega, by rw [lp_itr]; exact h2⟩
theorem covers {mask : Nat} {h : Int} (hm : Cyc (mask + 1)) {j : Nat} (hj : j ≤ mask) : ∃ n, n ≤ 10 * (13 + mask) ∧ (pth mask h n).j = j := by
  obtain ⟨k, h1, h2⟩ := heads (h := h) hm hj
  obtain ⟨n, h3, h4⟩ := pth_lp (mask := mask) (h := h) k
  exact ⟨n, by omega, by rw [h4]; exact h2⟩
open HI (Ris)
def Ent (t : SetTable) (es : Array (Int × Value)) (j : Nat) (h : Int) (x : Value) : Prop := ∃ i : Nat, t.place[i]? = some j ∧ es[i]? = some (h, x)
def Full (t : SetTable) (j : Nat) : Prop := t.slot j ≠ .empty
theorem at_below {xs : Array Nat} (hr : Ris xs) {i j : Nat} (e : xs[i]? = some j) : SetTable.below xs j = i := by
  obtain ⟨b1, b2⟩ := HI.below_ok (j := j) hr
  obtain ⟨hi, e⟩ := Array.getElem?_eq_some_iff.mp e
  rcases Nat.lt_trichotomy (SetTable.below xs j) i with z | z | z
  · have h1 := b2 (SetTable.below xs j) (by omega) (Nat.le_refl _)
    have h2 := hr.lt z hi
    omega
  · exact z
  · have := b1 i hi z
    omega
theorem slot_live {t : SetTable} (hr : Ris t.place) {i j : Nat} (e : t.place[i]? = some j) : t.slot j = .live i := by
  unfold SetTable.slot
  simp only
  rw [at_below hr e, e]
  simp
theorem has_iff {xs : Array Nat} (hr : Ris xs) {j : Nat} : SetTable.has xs j = true ↔ j ∈ xs := by
  unfold SetTable.has
  constructor
  · intro q
    have q : xs[SetTable.below xs j]? = some j := by simpa using q
    exact Array.mem_of_getElem? q
  · intro q
    obtain ⟨i, hi, e⟩ := Array.getElem_of_mem q
    have e' : xs[i]? = some j := by simp [hi, e]
    rw [at_below hr e', e']
    simp
theorem full_iff {t : SetTable} (hr : Ris t.place) (hd : Ris t.dummies) {j : Nat} : Full t j ↔ j ∈ t.place ∨ j ∈ t.dummies := by
  unfold Full
  constructor
  · intro q
    unfold SetTable.slot at q
    simp only at q
    split at q
    · rename_i z
      exact .inl (Array.mem_of_getElem? (by simpa using z))
    · split at q
      · rename_i z
        exact .inr ((has_iff hd).mp z)
      · exact (q rfl).elim
  · rintro (q | q) z
    · obtain ⟨i, hi, e⟩ := Array.getElem_of_mem q
      rw [slot_live hr (i := i) (by simp [hi, e])] at z
      cases z
    · unfold SetTable.slot at z
      simp only at z
      split at z
      · cases z
      · rw [if_pos ((has_iff hd).mpr q)] at z
        cases z
structure Tab (t : SetTable) (es : Array (Int × Value)) : Prop where
  msk : Msk t.mask
  size : t.place.size = es.size
  ris : Ris t.place
  risD : Ris t.dummies
  le : ∀ j ∈ t.place, j ≤ t.mask
  leD : ∀ j ∈ t.dummies, j ≤ t.mask
  room : t.fill ≤ t.mask
  way : ∀ j h x, Ent t es j h x → ∃ n, (pth t.mask h n).j = j ∧ ∀ m, m < n → Full t (pth t.mask h m).j
  dis : ∀ j ∈ t.dummies, j ∉ t.place
theorem exists_free {P : Nat → Prop} [DecidablePred P] {M : Nat} {l : List Nat} (h : ∀ j, j < M → P j → j ∈ l) (hl : l.length < M) : ∃ j, j < M ∧ ¬ P j := by
  by_cases q : ∃ j, j < M ∧ ¬ P j
  · exact q
  · have hs : List.range M ⊆ l := fun j hj => by
      have hj := List.mem_range.mp hj
      by_cases z : P j
      · exact h j hj z
      · exact (q ⟨j, hj, z⟩).elim
    have := List.Nodup.length_le_of_subset List.nodup_range hs
    simp at this
    omega
theorem Tab.free {t : SetTable} {es : Array (Int × Value)} (T : Tab t es) : ∃ j, j ≤ t.mask ∧ t.slot j = .empty := by
  have := exists_free (P := fun j => t.slot j ≠ .empty) (M := t.mask + 1) (l := t.place.toList ++ t.dummies.toList) (fun j _ q => by
    rcases (full_iff T.ris T.risD).mp q with z | z
    · exact List.mem_append_left _ (by simpa using z)
    · exact List.mem_append_right _ (by simpa using z)) (by
    have := T.room
    unfold SetTable.fill at this
    simp
    omega)
  obtain ⟨j, h1, h2⟩ := this
  exact ⟨j, by omega, Decidable.not_not.mp h2⟩
theorem Tab.stop {t : SetTable} {es : Array (Int × Value)} (T : Tab t es) (h : Int) : ∃ N, N ≤ 10 * (13 + t.mask) ∧ t.slot (pth t.mask h N).j = .empty ∧ ∀ m, m < N → Full t (pth t.mask h m).j := by
  obtain ⟨j, hj, he⟩ := T.free
  obtain ⟨n, hn, e⟩ := covers (h := h) T.msk.cyc hj
  have : ∀ n, t.slot (pth t.mask h n).j = .empty → ∃ N, N ≤ n ∧ t.slot (pth t.mask h N).j = .empty ∧ ∀ m, m < N → Full t (pth t.mask h m).j := by
    intro n
    induction n using Nat.strongRecOn with
    | ind n ih =>
      intro q
      by_cases z : ∃ m, m < n ∧ t.slot (pth t.mask h m).j = .empty
      · obtain ⟨m, hm, q'⟩ := z
        obtain ⟨N, h1, h2⟩ := ih m hm q'
        exact ⟨N, by omega, h2⟩
      · exact ⟨n, Nat.le_refl _, q, fun m hm q' => z ⟨m, hm, q'⟩⟩
  obtain ⟨N, h1, h2, h3⟩ := this n (by rw [e]; exact he)
  exact ⟨N, by omega, h2, h3⟩
end HT2
set_option Elab.async false
set_option linter.all false
set_option maxRecDepth 100000
set_option maxHeartbeats 4000000
namespace HT2
open PySem
open HI (Ris)
abbrev At (mask : Nat) (h : Int) (n : Nat) (d : Option Nat) : Probe := { pth mask h n with dummy := d }
theorem At.adv {mask : Nat} {h : Int} {n : Nat} {d : Option Nat} : adv mask (At mask h n d) = At mask h (n + 1) d := adv_dummy mask (pth mask h n) d
end HT2
set_option Elab.async false
set_option linter.all false
set_option maxRecDepth 100000
set_option maxHeartbeats 4000000
namespace HT2
open PySem PySem.Spec
open HI (Ris)
section
variable {prog : Program} {w : World} {P : Addr → Prop} {A : Around} {E : Value → Shared → Prop} {s : Shared}
abbrev TK (prog : Program) (w : World) (P : Addr → Prop) (h : Heap) (ns : List Int) (b : Addr) : Prop := IsTupleKey (intKind prog w) h ns b ∧ P b
abbrev hT (prog : Program) (w : World) (ns : List Int) : Int := tupleKeyHash (intKind prog w) ns
def OkT (prog : Program) (w : World) (P : Addr → Prop) (h : Heap) (es : Array (Int × Value)) : Prop := ∀ (i : Nat) (e : Int × Value), es[i]? = some e → ∃ c ms, e = (hT prog w ms, .ref c) ∧ TK prog w P h ms c
def sf (es : Array (Int × Value)) (i : Nat) : Int := (es[i]?.map (·.1)).getD 0
end
end HT2
set_option Elab.async false
set_option linter.all false
set_option maxRecDepth 100000
set_option maxHeartbeats 4000000
namespace HT2
open PySem PySem.Spec
open HI (Ris)
theorem pth_ok (mask : Nat) (h : Int) : ∀ n, (pth mask h n).j + (pth mask h n).more ≤ mask ∧ (pth mask h n).i ≤ mask
  | 0 => by
    have hi : SetTable.bits h % (mask + 1) ≤ mask := by have := Nat.mod_lt (SetTable.bits h) (show 0 < mask + 1 by omega); omega
    show SetTable.bits h % (mask + 1) + (SetTable.runEnd mask (SetTable.bits h % (mask + 1)) - SetTable.bits h % (mask + 1)) ≤ mask ∧ SetTable.bits h % (mask + 1) ≤ mask
    generalize SetTable.bits h % (mask + 1) = i at *
    unfold SetTable.runEnd
    split <;> omega
  | n + 1 => by
    have ih := pth_ok mask h n
    show (adv mask (pth mask h n)).j + (adv mask (pth mask h n)).more ≤ mask ∧ (adv mask (pth mask h n)).i ≤ mask
    unfold adv
    split
    · simp only
      omega
    · simp only
      have hi : (SetTable.leap mask (pth mask h n).i (pth mask h n).perturb).1 ≤ mask := by
        unfold SetTable.leap
        simp only
        have := Nat.mod_lt ((pth mask h n).i * 5 + 1 + (pth mask h n).perturb / 32) (show 0 < mask + 1 by omega)
        omega
      generalize (SetTable.leap mask (pth mask h n).i (pth mask h n).perturb).1 = i at *
      unfold SetTable.runEnd
      split <;> omega
theorem ent_zip {t : SetTable} {es : Array (Int × Value)} {j : Nat} {h : Int} {x : Value} : Ent t es j h x ↔ (j, (h, x)) ∈ t.place.toList.zip es.toList := by
  unfold Ent
  rw [List.mem_iff_getElem?]
  constructor
  · rintro ⟨i, e1, e2⟩
    exact ⟨i, by rw [List.getElem?_zip_eq_some]; simpa using ⟨e1, e2⟩⟩
  · rintro ⟨i, e⟩
    rw [List.getElem?_zip_eq_some] at e
    exact ⟨i, by simpa using e.1, by simpa using e.2⟩
theorem zip_ins {α β : Type} {l : List α} {l' : List β} (hl : l.length = l'.length) (p : Nat) (a : α) (b : β) (z : α × β) : z ∈ (l.take p ++ a :: l.drop p).zip (l'.take p ++ b :: l'.drop p) ↔ z = (a, b) ∨ z ∈ l.zip l' := by
  rw [List.zip_append (by simp [hl])]
  have e : l.zip l' = (l.take p).zip (l'.take p) ++ (l.drop p).zip (l'.drop p) := by
    rw [← List.zip_append (by simp [hl]), List.take_append_drop, List.take_append_drop]
  rw [e]
  simp only [List.zip_cons_cons, List.mem_append, List.mem_cons]
  constructor
  · rintro (h | h | h)
    · exact .inr (.inl h)
    · exact .inl h
    · exact .inr (.inr h)
  · rintro (h | h | h)
    · exact .inr (.inl h)
    · exact .inl h
    · exact .inr (.inr h)
theorem toList_eraseAt {α : Type} (xs : Array α) (p : Nat) : (SetTable.eraseAt xs p).toList = xs.toList.take p ++ xs.toList.drop (p + 1) := by
  simp [SetTable.eraseAt, List.extract_eq_take_drop, List.take_of_length_le]
theorem er_sub {α : Type} (l : List α) (p : Nat) : (l.take p ++ l.drop (p + 1)).Sublist l := by
  conv => rhs; rw [← List.take_append_drop p l]
  exact (List.Sublist.refl _).append (by rw [← List.drop_drop]; exact List.drop_sublist 1 _)
theorem er_mem {α : Type} {l : List α} {p : Nat} {x y : α} (hp : l[p]? = some x) (hy : y ∈ l) (hne : y ≠ x) : y ∈ l.take p ++ l.drop (p + 1) := by
  rw [← List.take_append_drop p l] at hy
  rcases List.mem_append.mp hy with h | h
  · exact List.mem_append_left _ h
  · obtain ⟨hlt, e⟩ := List.getElem?_eq_some_iff.mp hp
    rw [List.drop_eq_getElem_cons hlt, e] at h
    rcases List.mem_cons.mp h with h | h
    · exact (hne h).elim
    · exact List.mem_append_right _ h
theorem er_perm {α : Type} {l : List α} {p : Nat} {x : α} (hp : l[p]? = some x) : l.Perm (x :: (l.take p ++ l.drop (p + 1))) := by
  obtain ⟨hlt, e⟩ := List.getElem?_eq_some_iff.mp hp
  conv => lhs; rw [← List.take_append_drop p l, List.drop_eq_getElem_cons hlt, e]
  exact List.perm_middle
theorem er_not {xs : Array Nat} (hr : Ris xs) {p j : Nat} (hp : xs.toList[p]? = some j) : j ∉ xs.toList.take p ++ xs.toList.drop (p + 1) := by
  have nd : xs.toList.Nodup := List.Pairwise.imp (fun h => Nat.ne_of_lt h) hr
  exact (List.nodup_cons.mp ((er_perm hp).nodup_iff.mp nd)).1
theorem ris_erase {xs : Array Nat} (hr : Ris xs) (p : Nat) : Ris (SetTable.eraseAt xs p) := by
  unfold Ris
  rw [toList_eraseAt]
  exact List.Pairwise.sublist (er_sub _ _) hr
section
variable {t : SetTable} {es : Array (Int × Value)} {j : Nat} {h : Int} {x : Value}
theorem has_of_dummy (hs : t.slot j = .dummy) : SetTable.has t.dummies j = true := by
  unfold SetTable.slot at hs
  simp only at hs
  split at hs
  · cases hs
  · split at hs
    · rename_i q; exact q
    · cases hs
theorem ent_put (T : Tab t es) {j' : Nat} {h' : Int} {x' : Value} : Ent (t.put j).1 (SetTable.insertAt es (t.put j).2 (h, x)) j' h' x' ↔ (j' = j ∧ h' = h ∧ x' = x) ∨ Ent t es j' h' x' := by
  rw [ent_zip, ent_zip]
  show (j', (h', x')) ∈ (SetTable.insertAt t.place (SetTable.below t.place j) j).toList.zip (SetTable.insertAt es (SetTable.below t.place j) (h, x)).toList ↔ _
  rw [SetTable.toList_insertAt, SetTable.toList_insertAt, zip_ins (by simpa using T.size)]
  simp
theorem full_put (T : Tab t es) (hnl : t.slot j = .empty ∨ t.slot j = .dummy) (rD : Ris (t.put j).1.dummies) (rP : Ris (t.put j).1.place) {i : Nat} (hf : Full t i) : Full (t.put j).1 i := by
  rw [full_iff rP rD]
  have pm : ∀ y, y ∈ (t.put j).1.place ↔ y = j ∨ y ∈ t.place := fun y => by
    show y ∈ SetTable.insertAt t.place (SetTable.below t.place j) j ↔ _
    rw [← Array.mem_toList_iff, (SetTable.insertAt_perm _ _ _).mem_iff]
    simp [or_comm]
  rcases (full_iff T.ris T.risD).mp hf with q | q
  · exact .inl ((pm i).mpr (.inr q))
  · by_cases e : i = j
    · exact .inl ((pm i).mpr (.inl e))
    · refine .inr ?_
      show i ∈ (if SetTable.has t.dummies j then SetTable.eraseAt t.dummies (SetTable.below t.dummies j) else t.dummies)
      split
      · rename_i hh
        rw [← Array.mem_toList_iff, toList_eraseAt]
        have hp : t.dummies.toList[SetTable.below t.dummies j]? = some j := by
          unfold SetTable.has at hh
          simpa using hh
        exact er_mem hp (by simpa using q) e
      · exact q
theorem Tab.put (T : Tab t es) {n : Nat} (hj : (pth t.mask h n).j = j) (hw : ∀ m, m < n → Full t (pth t.mask h m).j) (hnl : t.slot j = .empty ∨ t.slot j = .dummy) (rm : t.fill + 1 ≤ t.mask) :
    Tab (t.put j).1 (SetTable.insertAt es (t.put j).2 (h, x)) ∧ (t.put j).1.fill ≤ t.fill + 1 ∧ (t.slot j = .dummy → (t.put j).1.fill = t.fill) := by
  have hnl' : t.place[SetTable.below t.place j]? ≠ some j := HI.not_live hnl
  have rP : Ris (t.put j).1.place := HI.ins_ris T.ris hnl'
  have rD : Ris (t.put j).1.dummies := by
    show Ris (if SetTable.has t.dummies j then SetTable.eraseAt t.dummies (SetTable.below t.dummies j) else t.dummies)
    split
    · exact ris_erase T.risD _
    · exact T.risD
  have jm : j ≤ t.mask := by have := (pth_ok t.mask h n).1; omega
  have pz : (t.put j).1.place.size = t.place.size + 1 := by
    have := (SetTable.insertAt_perm t.place (SetTable.below t.place j) j).length_eq
    show (SetTable.insertAt t.place (SetTable.below t.place j) j).size = _
    simpa using this
  have dz : (t.put j).1.dummies.size ≤ t.dummies.size ∧ (t.slot j = .dummy → (t.put j).1.dummies.size + 1 = t.dummies.size) := by
    show (if SetTable.has t.dummies j then SetTable.eraseAt t.dummies (SetTable.below t.dummies j) else t.dummies).size ≤ _ ∧ (_ → (if SetTable.has t.dummies j then SetTable.eraseAt t.dummies (SetTable.below t.dummies j) else t.dummies).size + 1 = _)
    split
    · rename_i hh
      have hp : t.dummies.toList[SetTable.below t.dummies j]? = some j := by
        unfold SetTable.has at hh
        simpa using hh
      have hlt := (List.getElem?_eq_some_iff.mp hp).1
      have e : (SetTable.eraseAt t.dummies (SetTable.below t.dummies j)).size = t.dummies.size - 1 := by
        rw [← Array.length_toList, toList_eraseAt, List.length_append, List.length_take, List.length_drop]
        simp only [Array.length_toList] at *
        omega
      simp only [Array.length_toList] at hlt
      omega
    · rename_i hh
      exact ⟨Nat.le_refl _, fun q => (hh (has_of_dummy q)).elim⟩
  have fz : (t.put j).1.fill = (t.put j).1.place.size + (t.put j).1.dummies.size := rfl
  have fz0 : t.fill = t.place.size + t.dummies.size := rfl
  refine ⟨⟨T.msk, ?_, rP, rD, fun y hy => ?_, fun y hy => ?_, ?_, fun j' h' x' he => ?_, fun y hy hy' => ?_⟩, by omega, fun q => by have := dz.2 q; omega⟩
  · rw [pz, T.size]
    have := (SetTable.insertAt_perm es (t.put j).2 (h, x)).length_eq
    simp at this
    omega
  · have : y ∈ SetTable.insertAt t.place (SetTable.below t.place j) j := hy
    rw [← Array.mem_toList_iff, (SetTable.insertAt_perm _ _ _).mem_iff] at this
    rcases (by simpa using this : y ∈ t.place ∨ y = j) with q | q
    · exact T.le y q
    · rw [q]; exact jm
  · have : y ∈ (if SetTable.has t.dummies j then SetTable.eraseAt t.dummies (SetTable.below t.dummies j) else t.dummies) := hy
    refine T.leD y ?_
    split at this
    · rw [← Array.mem_toList_iff, toList_eraseAt] at this
      simpa using (er_sub _ _).subset this
    · exact this
  · show (t.put j).1.fill ≤ t.mask
    omega
  · rcases (ent_put T).mp he with ⟨rfl, rfl, rfl⟩ | q
    · exact ⟨n, hj, fun m hm => full_put T hnl rD rP (hw m hm)⟩
    · obtain ⟨n', w1, w2⟩ := T.way j' h' x' q
      exact ⟨n', w1, fun m hm => full_put T hnl rD rP (w2 m hm)⟩
  · have hz : y ∈ (if SetTable.has t.dummies j then SetTable.eraseAt t.dummies (SetTable.below t.dummies j) else t.dummies) := hy
    have hz' : y ∈ SetTable.insertAt t.place (SetTable.below t.place j) j := hy'
    clear hy hy'
    rw [← Array.mem_toList_iff, (SetTable.insertAt_perm _ _ _).mem_iff] at hz'
    have hz' : y ∈ t.place ∨ y = j := by simpa using hz'
    by_cases hh : SetTable.has t.dummies j = true
    · rw [if_pos hh] at hz
      have hp : t.dummies.toList[SetTable.below t.dummies j]? = some j := by
        unfold SetTable.has at hh
        simpa using hh
      rw [← Array.mem_toList_iff, toList_eraseAt] at hz
      rcases hz' with q | q
      · exact T.dis y (by simpa using (er_sub _ _).subset hz) q
      · rw [q] at hz
        exact er_not T.risD hp hz
    · rw [if_neg hh] at hz
      rcases hz' with q | q
      · exact T.dis y hz q
      · rw [q] at hz
        exact hh ((has_iff T.risD).mpr hz)
end
section
variable {t : SetTable} {es : Array (Int × Value)} {i j : Nat}
theorem zip_er {α β : Type} {l : List α} {l' : List β} (hl : l.length = l'.length) (p : Nat) {z : α × β} (h : z ∈ (l.take p ++ l.drop (p + 1)).zip (l'.take p ++ l'.drop (p + 1))) : z ∈ l.zip l' := by
  rw [List.zip_append (by simp [hl])] at h
  have e : l.zip l' = (l.take p).zip (l'.take p) ++ (l.drop p).zip (l'.drop p) := by
    rw [← List.zip_append (by simp [hl]), List.take_append_drop, List.take_append_drop]
  rw [e]
  rcases List.mem_append.mp h with q | q
  · exact List.mem_append_left _ q
  · refine List.mem_append_right _ ?_
    rw [← List.drop_drop, ← List.drop_drop] at q
    generalize l.drop p = a at q ⊢
    generalize l'.drop p = b at q ⊢
    cases a with
    | nil => simp at q
    | cons a0 a1 =>
      cases b with
      | nil => simp at q
      | cons b0 b1 =>
        have q : z ∈ a1.zip b1 := by simpa using q
        show z ∈ (a0, b0) :: a1.zip b1
        exact List.mem_cons_of_mem _ q
theorem Tab.drop (T : Tab t es) (hi : t.place[i]? = some j) : Tab (t.drop i) (SetTable.eraseAt es i) ∧ (t.drop i).fill = t.fill := by
  have ed : t.drop i = { t with place := SetTable.eraseAt t.place i, dummies := SetTable.insertAt t.dummies (SetTable.below t.dummies j) j } := by
    unfold SetTable.drop
    rw [hi]
  have hp : t.place.toList[i]? = some j := by simpa using hi
  have jp : j ∈ t.place := Array.mem_of_getElem? hi
  have jd : j ∉ t.dummies := fun q => T.dis j q jp
  have hlt : i < t.place.size := (Array.getElem?_eq_some_iff.mp hi).1
  have rP : Ris (SetTable.eraseAt t.place i) := ris_erase T.ris i
  have rD : Ris (SetTable.insertAt t.dummies (SetTable.below t.dummies j) j) := HI.ins_ris T.risD fun q => jd (Array.mem_of_getElem? q)
  have pz : (SetTable.eraseAt t.place i).size = t.place.size - 1 := by
    rw [← Array.length_toList, toList_eraseAt, List.length_append, List.length_take, List.length_drop]
    simp only [Array.length_toList]
    omega
  have ez : (SetTable.eraseAt es i).size = es.size - 1 := by
    have := T.size
    rw [← Array.length_toList, toList_eraseAt, List.length_append, List.length_take, List.length_drop]
    simp only [Array.length_toList]
    omega
  have dz : (SetTable.insertAt t.dummies (SetTable.below t.dummies j) j).size = t.dummies.size + 1 := by
    have := (SetTable.insertAt_perm t.dummies (SetTable.below t.dummies j) j).length_eq
    simpa using this
  have dm : ∀ y, y ∈ SetTable.insertAt t.dummies (SetTable.below t.dummies j) j ↔ y ∈ t.dummies ∨ y = j := fun y => by
    rw [← Array.mem_toList_iff, (SetTable.insertAt_perm _ _ _).mem_iff]
    simp
  rw [ed]
  have fl : ∀ y, Full t y → Full { t with place := SetTable.eraseAt t.place i, dummies := SetTable.insertAt t.dummies (SetTable.below t.dummies j) j } y := fun y q => by
    rw [full_iff rP rD]
    rcases (full_iff T.ris T.risD).mp q with z | z
    · by_cases e : y = j
      · exact .inr ((dm y).mpr (.inr e))
      · left
        show y ∈ SetTable.eraseAt t.place i
        rw [← Array.mem_toList_iff, toList_eraseAt]
        exact er_mem hp (by simpa using z) e
    · exact .inr ((dm y).mpr (.inl z))
  have sb : ∀ y, y ∈ SetTable.eraseAt t.place i → y ∈ t.place := fun y hy => by
    rw [← Array.mem_toList_iff, toList_eraseAt] at hy
    simpa using (er_sub _ _).subset hy
  have fz : SetTable.fill { t with place := SetTable.eraseAt t.place i, dummies := SetTable.insertAt t.dummies (SetTable.below t.dummies j) j } = t.fill := by
    show (SetTable.eraseAt t.place i).size + (SetTable.insertAt t.dummies (SetTable.below t.dummies j) j).size = t.place.size + t.dummies.size
    omega
  refine ⟨⟨T.msk, ?_, rP, rD, fun y hy => T.le y (sb y hy), fun y hy => ?_, ?_, fun j' h' x' he => ?_, fun y hy hy' => ?_⟩, fz⟩
  · show (SetTable.eraseAt t.place i).size = _
    rw [pz, ez, T.size]
  · rcases (dm y).mp hy with q | q
    · exact T.leD y q
    · rw [q]; exact T.le j jp
  · rw [fz]; exact T.room
  · rw [ent_zip] at he
    have he : (j', (h', x')) ∈ (SetTable.eraseAt t.place i).toList.zip (SetTable.eraseAt es i).toList := he
    rw [toList_eraseAt, toList_eraseAt] at he
    obtain ⟨n', w1, w2⟩ := T.way j' h' x' (ent_zip.mpr (zip_er (by simpa using T.size) i he))
    exact ⟨n', w1, fun m hm => fl _ (w2 m hm)⟩
  · rcases (dm y).mp hy with q | q
    · exact T.dis y q (sb y hy')
    · subst q
      have hy' : y ∈ SetTable.eraseAt t.place i := hy'
      rw [← Array.mem_toList_iff, toList_eraseAt] at hy'
      exact er_not T.ris hp hy'
end
end HT2
set_option Elab.async false
set_option linter.all false
set_option maxRecDepth 100000
set_option maxHeartbeats 4000000
namespace HT2
open PySem PySem.Spec
open HI (Ris)
def hd (mask : Nat) (h : Int) : Nat → Nat
  | 0 => 0
  | k + 1 => hd mask h k + (SetTable.runEnd mask (lp mask h k).1 - (lp mask h k).1) + 1
section
variable {mask : Nat} {h : Int}
theorem pth_hd : ∀ k, pth mask h (hd mask h k) = ⟨(lp mask h k).1, SetTable.runEnd mask (lp mask h k).1 - (lp mask h k).1, (lp mask h k).1, (lp mask h k).2, none⟩
  | 0 => rfl
  | k + 1 => by
    have := pth_run (pth_hd k) _ (Nat.le_refl _)
    show adv mask (pth mask h (hd mask h k + (SetTable.runEnd mask (lp mask h k).1 - (lp mask h k).1))) = _
    rw [this]
    unfold adv
    rw [if_neg (by simp)]
    rfl
theorem pth_in {k m : Nat} (hm : m ≤ SetTable.runEnd mask (lp mask h k).1 - (lp mask h k).1) : (pth mask h (hd mask h k + m)).j = (lp mask h k).1 + m := by rw [pth_run (pth_hd k) m hm]
theorem run_ge (mask i : Nat) : i ≤ SetTable.runEnd mask i := by
  unfold SetTable.runEnd
  split <;> omega
def Tk (owner : Array (Option Nat)) (j : Nat) : Prop := (owner.getD j (some 0)).isSome = true
theorem free_ok2 {owner : Array (Option Nat)} {R : Nat} (hR : ¬ Tk owner (lp mask h R).1) : ∀ (fuel r : Nat), r ≤ R → R - r < fuel → (∀ m, m < hd mask h r → Tk owner (pth mask h m).j) →
    ∃ j n, SetTable.layClean.free mask owner fuel (lp mask h r).1 (lp mask h r).2 = some j ∧ (pth mask h n).j = j ∧ ¬ Tk owner j ∧ ∀ m, m < n → Tk owner (pth mask h m).j := by
  intro fuel
  induction fuel with
  | zero => intro r _ h; omega
  | succ fuel ih =>
    intro r hr hf hb
    unfold SetTable.layClean.free
    have hge := run_ge mask (lp mask h r).1
    cases hfd : (List.range (SetTable.runEnd mask (lp mask h r).1 + 1 - (lp mask h r).1)).find? fun k => (owner.getD ((lp mask h r).1 + k) (some 0)).isNone with
    | some k0 =>
      obtain ⟨f1, f2, f3⟩ := List.find?_range_eq_some.mp hfd
      have f2 := List.mem_range.mp f2
      refine ⟨(lp mask h r).1 + k0, hd mask h r + k0, by simp only [hfd], ?_, ?_, ?_⟩
      · exact pth_in (by omega)
      · unfold Tk
        rw [Option.isNone_iff_eq_none] at f1
        rw [f1]; simp
      · intro m hm
        rcases Nat.lt_or_ge m (hd mask h r) with z | z
        · exact hb m z
        · obtain ⟨d, rfl⟩ : ∃ d, m = hd mask h r + d := ⟨m - hd mask h r, by omega⟩
          rw [pth_in (by omega)]
          have := f3 d (by omega)
          unfold Tk
          cases q : owner.getD ((lp mask h r).1 + d) (some 0) with
          | none => rw [q] at this; simp at this
          | some _ => rfl
    | none =>
      rw [List.find?_range_eq_none] at hfd
      have all : ∀ d, d ≤ SetTable.runEnd mask (lp mask h r).1 - (lp mask h r).1 → Tk owner ((lp mask h r).1 + d) := fun d hd' => by
        have := hfd d (by omega)
        unfold Tk
        cases q : owner.getD ((lp mask h r).1 + d) (some 0) with
        | none => rw [q] at this; simp at this
        | some _ => rfl
      have hne : r ≠ R := fun e => by
        subst e
        exact hR (by simpa using all 0 (Nat.zero_le _))
      simp only
      refine ih (r + 1) (by omega) (by omega) fun m hm => ?_
      have hm : m < hd mask h r + (SetTable.runEnd mask (lp mask h r).1 - (lp mask h r).1) + 1 := hm
      rcases Nat.lt_or_ge m (hd mask h r) with z | z
      · exact hb m z
      · obtain ⟨d, rfl⟩ : ∃ d, m = hd mask h r + d := ⟨m - hd mask h r, by omega⟩
        rw [pth_in (by omega)]
        exact all d (by omega)
end
theorem fm_congr {β : Type} {f g : Nat → Option β} : ∀ {l : List Nat}, (∀ i ∈ l, g i = f i) → l.filterMap g = l.filterMap f
  | [], _ => rfl
  | a :: l, h => by
    have ea := h a List.mem_cons_self
    have ih := fm_congr fun i hi => h i (List.mem_cons_of_mem _ hi)
    cases q : f a with
    | none => rw [List.filterMap_cons_none (ea.trans q), List.filterMap_cons_none q, ih]
    | some c => rw [List.filterMap_cons_some (ea.trans q), List.filterMap_cons_some q, ih]
theorem fm_len {β : Type} {f : Nat → Option β} : ∀ {l : List Nat}, (∀ i ∈ l, (f i).isSome = true) → (l.filterMap f).length = l.length
  | [], _ => rfl
  | a :: l, h => by
    have ih := fm_len fun i hi => h i (List.mem_cons_of_mem _ hi)
    have ea := h a List.mem_cons_self
    cases q : f a with
    | none => rw [q] at ea; cases ea
    | some c => rw [List.filterMap_cons_some q, List.length_cons, List.length_cons, ih]
theorem fm_upd {β : Type} {f g : Nat → Option β} {j : Nat} {b : β} (hf : f j = none) (hg : g j = some b) : ∀ {l : List Nat}, l.Nodup → j ∈ l → (∀ i ∈ l, i ≠ j → g i = f i) → (l.filterMap g).Perm (b :: l.filterMap f)
  | [], _, hj, _ => by cases hj
  | a :: l, nd, hj, ho => by
    obtain ⟨n1, n2⟩ := List.nodup_cons.mp nd
    by_cases e : a = j
    · subst e
      have : l.filterMap g = l.filterMap f := by
        apply fm_congr
        intro i hi
        exact ho i (List.mem_cons_of_mem _ hi) fun e => n1 (e ▸ hi)
      rw [List.filterMap_cons_some hg, List.filterMap_cons_none hf, this]
    · have hj' : j ∈ l := by
        rcases List.mem_cons.mp hj with q | q
        · exact (e q.symm).elim
        · exact q
      have ih := fm_upd hf hg n2 hj' fun i hi hne => ho i (List.mem_cons_of_mem _ hi) hne
      have ea := ho a List.mem_cons_self e
      cases q : f a with
      | none => rw [List.filterMap_cons_none (ea.trans q), List.filterMap_cons_none q]; exact ih
      | some c =>
        rw [List.filterMap_cons_some (ea.trans q), List.filterMap_cons_some q]
        exact (List.Perm.cons c ih).trans (List.Perm.swap _ _ _)
structure LInv (mask : Nat) (hs : List Int) (owner : Array (Option Nat)) (k : Nat) : Prop where
  size : owner.size = mask + 1
  way : ∀ (j k' : Nat), owner.getD j none = some k' → ∃ h n, hs[k']? = some h ∧ (pth mask h n).j = j ∧ ∀ m, m < n → (owner.getD (pth mask h m).j none).isSome = true
  perm : ((List.range (mask + 1)).filterMap fun j => owner.getD j none).Perm (List.range k)
theorem LInv.gap {mask : Nat} {hs : List Int} {owner : Array (Option Nat)} {k : Nat} (I : LInv mask hs owner k) (hk : k ≤ mask) : ∃ j, j ≤ mask ∧ owner.getD j none = none := by
  by_cases q : ∃ j, j ≤ mask ∧ owner.getD j none = none
  · exact q
  · have := fm_len (f := fun j => owner.getD j none) (l := List.range (mask + 1)) fun i hi => by
      have hi := List.mem_range.mp hi
      cases z : owner.getD i none with
      | none => exact (q ⟨i, by omega, z⟩).elim
      | some _ => rfl
    rw [I.perm.length_eq, List.length_range, List.length_range] at this
    omega
theorem tk_iff {mask : Nat} {hs : List Int} {owner : Array (Option Nat)} {k : Nat} (I : LInv mask hs owner k) {j : Nat} (hj : j ≤ mask) : Tk owner j ↔ (owner.getD j none).isSome = true := by
  have : j < owner.size := by rw [I.size]; omega
  unfold Tk
  simp [Array.getD, this]
theorem LInv.step {mask : Nat} {hs : List Int} {owner : Array (Option Nat)} {k : Nat} {h : Int} (hm : Msk mask) (I : LInv mask hs owner k) (hk : k ≤ mask) (e : hs[k]? = some h) :
    ∃ j, SetTable.layClean.free mask owner (SetTable.turns mask) (SetTable.bits h % (mask + 1)) (SetTable.bits h) = some j ∧ LInv mask hs (owner.setIfInBounds j (some k)) (k + 1) := by
  obtain ⟨j0, h1, h2⟩ := I.gap hk
  obtain ⟨R, r1, r2⟩ := heads (h := h) hm.cyc h1
  obtain ⟨j, n, f1, f2, f3, f4⟩ := free_ok2 (mask := mask) (h := h) (owner := owner) (R := R) (by rw [r2, tk_iff I h1, h2]; simp) (SetTable.turns mask) 0 (Nat.zero_le _) (by unfold SetTable.turns; omega) (fun m hm => absurd hm (Nat.not_lt_zero _))
  have hj : j ≤ mask := by have := (pth_ok mask h n).1; omega
  have hjs : j < owner.size := by rw [I.size]; omega
  rw [tk_iff I hj] at f3
  have fn : owner.getD j none = none := by
    cases q : owner.getD j none with
    | none => rfl
    | some _ => rw [q] at f3; exact (f3 rfl).elim
  have gs : ∀ i, (owner.setIfInBounds j (some k)).getD i none = if i = j then some k else owner.getD i none := fun i => by
    by_cases e : i = j
    · subst e; rw [if_pos rfl]; simp [Array.getD, hjs]
    · rw [if_neg e]
      rw [Array.getD_eq_getD_getElem?, Array.getD_eq_getD_getElem?, Array.getElem?_setIfInBounds_ne (Ne.symm e)]
  have mono : ∀ i, (owner.getD i none).isSome = true → ((owner.setIfInBounds j (some k)).getD i none).isSome = true := fun i q => by
    rw [gs]
    split
    · rfl
    · exact q
  refine ⟨j, f1, ⟨by rw [Array.size_setIfInBounds]; exact I.size, fun j' k' q => ?_, ?_⟩⟩
  · rw [gs] at q
    split at q
    · rename_i e'
      cases q
      refine ⟨h, n, e, f2.trans e'.symm, fun m hm' => mono _ ?_⟩
      rw [← tk_iff I (by have := (pth_ok mask h m).1; omega)]
      exact f4 m hm'
    · obtain ⟨h', n', w1, w2, w3⟩ := I.way j' k' q
      exact ⟨h', n', w1, w2, fun m hm' => mono _ (w3 m hm')⟩
  · rw [show List.range (k + 1) = List.range k ++ [k] from List.range_succ]
    refine (fm_upd (f := fun i => owner.getD i none) (g := fun i => (owner.setIfInBounds j (some k)).getD i none) (j := j) (b := k) fn ((gs j).trans (if_pos rfl)) List.nodup_range (List.mem_range.mpr (by omega)) fun i _ hne => (gs i).trans (if_neg hne)).trans ?_
    refine (List.Perm.cons k I.perm).trans ?_
    exact (List.perm_append_singleton k _).symm
end HT2
set_option Elab.async false
set_option linter.all false
set_option maxRecDepth 100000
set_option maxHeartbeats 4000000
namespace HT2
open PySem PySem.Spec
open HI (Ris)
def numV : Value → Int
  | .int k _ => k
  | _ => 0
def kyT (h : Heap) (e : Int × Value) : List Int := match e.2 with
  | .ref c => (match h.get? c with | some o => (match o.data with | .seq its _ => its.toList.map numV | _ => []) | none => [])
  | _ => []
section
variable {prog : Program} {w : World} {P : Addr → Prop} {A : Around} {E : Value → Shared → Prop} {s : Shared}
theorem items_num {ns : List Int} {vs : List Value} (h : ItemsAre (intKind prog w) ns vs) : vs.map numV = ns := by
  induction h with
  | nil => rfl
  | cons h1 _ ih =>
    obtain ⟨t, rfl⟩ := Value.isInt_shape h1
    rw [List.map_cons, ih]
    rfl
theorem ky_of {h : Heap} {ns : List Int} {c : Addr} (x : TK prog w P h ns c) (n : Int) : kyT h (n, .ref c) = ns := by
  obtain ⟨⟨o, its, m, ho, hc, hd, hi⟩, _⟩ := x
  unfold kyT
  simp only [ho, hd]
  exact items_num hi
theorem OkT.mem {h : Heap} {es : Array (Int × Value)} (x : OkT prog w P h es) : ∀ e ∈ es.toList, ∃ c, e = (hT prog w (kyT h e), .ref c) ∧ TK prog w P h (kyT h e) c := fun e he => by
  obtain ⟨i, hi, rfl⟩ := List.getElem_of_mem he
  obtain ⟨c, ms, e1, e2⟩ := x i es.toList[i] (by simpa using hi)
  have : kyT h es.toList[i] = ms := by rw [e1]; exact ky_of e2 _
  rw [this]
  exact ⟨c, e1, e2⟩
theorem OkT.of {h : Heap} {es : Array (Int × Value)} (x : ∀ e ∈ es.toList, ∃ c ms, e = (hT prog w ms, .ref c) ∧ TK prog w P h ms c) : OkT prog w P h es := fun i e he => x e (by
  have := List.mem_of_getElem? (l := es.toList) (i := i) (a := e) (by simpa using he)
  exact this)
theorem OkT.perm {h : Heap} {es es' : Array (Int × Value)} (x : OkT prog w P h es) (p : es'.toList.Perm es.toList) : OkT prog w P h es' := .of fun e he => by
  obtain ⟨c, e1, e2⟩ := x.mem e (p.mem_iff.mp he)
  exact ⟨c, _, e1, e2⟩
theorem TK.keep {h h' : Heap} {ns : List Int} {c : Addr} (x : TK prog w P h ns c) (k : ∀ o, h.get? c = some o → h'.get? c = some o) : TK prog w P h' ns c := let ⟨⟨o, i, n, e, r⟩, q⟩ := x; ⟨⟨o, i, n, k o e, r⟩, q⟩
theorem OkT.keep {h h' : Heap} {es : Array (Int × Value)} (x : OkT prog w P h es) (k : ∀ c o its n, h.get? c = some o → o.data = .seq its n → h'.get? c = some o) : OkT prog w P h' es ∧ es.toList.map (kyT h') = es.toList.map (kyT h) := by
  have tk : ∀ {ns c}, TK prog w P h ns c → TK prog w P h' ns c := fun {ns c} q => let ⟨⟨o, i, n, e, c1, d, r⟩, q⟩ := q; ⟨⟨o, i, n, k _ o i n e d, c1, d, r⟩, q⟩
  refine ⟨fun i e he => ?_, List.map_congr_left fun e he => ?_⟩
  · obtain ⟨c, ms, e1, e2⟩ := x i e he
    exact ⟨c, ms, e1, tk e2⟩
  · obtain ⟨c, e1, e2⟩ := x.mem e he
    have h1 := ky_of (tk e2) (hT prog w (kyT h e))
    rw [← e1] at h1
    exact h1
def ST (prog : Program) (w : World) (P : Addr → Prop) (h : Heap) (a : Addr) (kys : List (List Int)) : Prop := ∃ o es ep t, h.get? a = some o ∧ o.ExactSet ∧ o.data = .set es ep t ∧ Tab t es ∧ OkT prog w P h es ∧ t.plain = true ∧ t.led = HI.ledOf w ∧ t.fill * 5 < t.mask * 3 ∧ kys.Perm (es.toList.map (kyT h)) ∧ kys.Nodup
theorem ST.keep {h h' : Heap} {a : Addr} {kys : List (List Int)} (x : ST prog w P h a kys) (k : ∀ b o, h.get? b = some o → h'.get? b = some o) : ST prog w P h' a kys := by
  obtain ⟨o, es, ep, t, h1, h2, h3, h4, h5, h6, h7, h8, h9, h10⟩ := x
  obtain ⟨k1, k2⟩ := h5.keep fun c o _ _ e _ => k c o e
  exact ⟨o, es, ep, t, k _ _ h1, h2, h3, h4, k1, h6, h7, h8, by rw [k2]; exact h9, h10⟩
end
end HT2
set_option Elab.async false
set_option linter.all false
set_option maxRecDepth 100000
set_option maxHeartbeats 4000000
namespace HT2
open PySem PySem.Spec
open HI (Ris)
section
variable {prog : Program} {w : World} {P : Addr → Prop} {A : Around} {E : Value → Shared → Prop} {s : Shared}
end
end HT2
set_option Elab.async false
set_option linter.all false
set_option maxRecDepth 100000
set_option maxHeartbeats 4000000
namespace HT2
open PySem PySem.Spec PyProof.Rows
open HI (Ris set0 ledOf code_new)
def Kp (h0 h : Heap) : Prop := ∀ b o, h0.get? b = some o → h.get? b = some o
section
variable {prog : Program} {w : World} {P : Addr → Prop} {A : Around} {R : Result → Shared → Prop} {h0 : Heap} {S I : Addr} {fp wr : List Addr} {n : Nat} {its : Array Value} {val : Nat → List Int} {St : Nat → Heap → Prop} {g : Array GenState} {d : Drawn} {os : OsState}
end
end HT2
set_option Elab.async false
set_option linter.all false
set_option maxRecDepth 100000
set_option maxHeartbeats 4000000
namespace HT2
open PySem PySem.Spec
open HI (Ris)
section
variable {prog : Program} {w : World} {P : Addr → Prop} {A : Around} {E : Value → Shared → Prop} {s : Shared}
end
end HT2
set_option Elab.async false
set_option linter.all false
set_option maxRecDepth 100000
set_option maxHeartbeats 4000000
namespace HT2
open PySem PySem.Spec
open HI (Ris set0 ledOf)
section
variable {prog : Program} {w : World} {P : Addr → Prop} {A : Around} {E : Value → Shared → Prop} {s : Shared}
structure New (w : World) (h : Heap) (a : Addr) (n : Nat) : Prop where
  ex : ∃ (o : Obj) (ep : Nat) (t : SetTable), h.get? a = some o ∧ o.ExactSet ∧ o.data = .set #[] ep t ∧ Tab t #[] ∧ t.plain = true ∧ t.led = ledOf w ∧ t.fill = 0 ∧ (n = 0 ∨ n * 5 < t.mask * 3)
end
end HT2
set_option Elab.async false
set_option linter.all false
set_option maxRecDepth 100000
set_option maxHeartbeats 4000000
namespace HT2
open PySem PySem.Spec PyProof.Rows
open HI (Ris set0 ledOf byText pick_perm)
section
variable {prog : Program} {w : World} {P : Addr → Prop} {A : Around} {E : Value → Shared → Prop} {s : Shared}
theorem ST.but {h h' : Heap} {a r : Addr} {kys : List (List Int)} (hS : ST prog w P h r kys) (hra : r ≠ a) (ha : ∃ o es ep t, h.get? a = some o ∧ o.data = .set es ep t) (sb : Heap.SameBut a h h') : ST prog w P h' r kys := by
  obtain ⟨o, es, ep, t, h1, h2, h3, h4, h5, h6, h7, h8, h9, h10⟩ := hS
  obtain ⟨oa, ea, epa, ta, g1, g2⟩ := ha
  obtain ⟨k1, k2⟩ := h5.keep fun c o' its n e1 e2 => by
    rw [sb.2 c (fun q => by subst q; rw [g1] at e1; cases e1; rw [g2] at e2; cases e2)]; exact e1
  exact ⟨o, es, ep, t, by rw [sb.2 r hra]; exact h1, h2, h3, h4, k1, h6, h7, h8, by rw [k2]; exact h9, h10⟩
end
end HT2
set_option Elab.async false
set_option linter.all false
set_option maxRecDepth 100000
set_option maxHeartbeats 4000000
namespace HT2
open PySem PySem.Spec PyProof.Rows
open HI (Ris set0 ledOf code_new)
section
variable {prog : Program} {w : World} {P : Addr → Prop} {A : Around} {E : Value → Shared → Prop} {s : Shared}
end
end HT2
set_option Elab.async false
set_option linter.all false
set_option maxRecDepth 100000
set_option maxHeartbeats 4000000
namespace HT2
open PySem PySem.Spec PyProof.Rows
open HI (Ris Sx Tells sitObj next_tab end_tab sit_self byText sit_slot si_entry tells_text tells_plain pick_perm hint_set)
section
variable {prog : Program} {w : World} {P : Addr → Prop} {A : Around} {E : Value → Shared → Prop} {s : Shared}
end
end HT2
set_option Elab.async false
set_option linter.all false
set_option maxRecDepth 100000
set_option maxHeartbeats 4000000
namespace HT2
open PySem PySem.Spec PyProof.Rows
open HI (hint_set)
open HS (TI tAt ltI sort_tree)
section
variable {prog : Program} {w : World} {P : Addr → Prop} {A : Around} {E : Value → Shared → Prop} {s : Shared}
end
end HT2
set_option Elab.async false
set_option linter.all false
set_option maxRecDepth 100000
set_option maxHeartbeats 4000000
namespace HT2
open PySem PySem.Spec PyProof.Rows
theorem e_xor : entryFor table "set.__xor__" = some Builtin.«frozenset.__xor__» := entryFor_alias (id' := "frozenset.__xor__") (by kernel_rfl) (by first | rfl | decide +kernel) (by decide +kernel) (by kernel_rfl)
section
variable {prog : Program} {w : World} {P : Addr → Prop} {A : Around} {E : Value → Shared → Prop} {s : Shared}
end
end HT2
set_option Elab.async false
set_option linter.all false
set_option maxRecDepth 100000
set_option maxHeartbeats 4000000
namespace L2
open PySem PySem.Spec PyProof.Rows
end L2
namespace L3
open PySem PySem.Spec PyProof.Rows L2 HT2 HS
section
variable {X : Cx} {pins : List (Addr × Obj)} {σ : L2.St} {H : Hp} {s : Shared}
end
end L3
set_option Elab.async false
set_option linter.all false
set_option maxRecDepth 100000
set_option maxHeartbeats 4000000
namespace L3
open PySem PySem.Spec PyProof.Rows L2 HT2 HS
end L3
set_option Elab.async false
set_option linter.all false
set_option maxRecDepth 100000
set_option maxHeartbeats 4000000
namespace L3
open PySem PySem.Spec PyProof.Rows L2
section
variable {X : Cx} {elt iter : Expr} {pos : Pos} {te : TE2} {ifs : List Expr} {sc : Scope} {N0 : List Str} {wi : TI2} {tc : TT2}
end
end L3
set_option Elab.async false
set_option linter.all false
set_option maxRecDepth 100000
set_option maxHeartbeats 4000000
namespace HZ
open PySem PySem.Spec PyProof.Rows
section
variable {prog : Program} {w : World} {A : Around} {E : Value → Shared → Prop} {s : Shared} {e it l : Addr} {xs : Array Value} (Z : Zs prog w it l xs)
end
end HZ
set_option Elab.async false
set_option linter.all false
set_option maxRecDepth 100000
set_option maxHeartbeats 4000000
namespace L2
open PySem PySem.Spec PyProof.Rows HZ
end L2
namespace L3
open PySem PySem.Spec PyProof.Rows L2
end L3
set_option Elab.async false
set_option linter.all false
set_option maxRecDepth 100000
set_option maxHeartbeats 4000000
namespace HZ
open PySem PySem.Spec PyProof.Rows
end HZ
namespace L2
open PySem PySem.Spec PyProof.Rows HZ
end L2
namespace L3
open PySem PySem.Spec PyProof.Rows L2
end L3
set_option Elab.async false
set_option linter.all false
set_option maxRecDepth 100000
set_option maxHeartbeats 4000000
namespace HI
open PySem PySem.Spec PyProof.Rows
section
variable {prog : Program} {w : World} {A : Around} {E : Value → Shared → Prop} {s : Shared}
end
end HI
namespace L2
open PySem PySem.Spec PyProof.Rows HI
variable {X : Cx} {e : Expr} {t : TA} {p p2 pos pos2 : Pos}
end L2
namespace L3
open PySem PySem.Spec PyProof.Rows L2
section
variable {X : Cx} {e : Expr} {p p2 pos pos2 : Pos}
end
end L3
set_option Elab.async false
set_option linter.all false
set_option maxRecDepth 100000
set_option maxHeartbeats 4000000
namespace L2
open PySem PySem.Spec PyProof.Rows
section
variable {X : Cx} {pos : Pos}
theorem call_sumI (hc : X.calm = true) : CallR X (.builtin "sum") (fun xs H Q => ∃ (l : Addr) (ns : List Int), xs = [.ref l] ∧ SqL X.K H l (ns.map V.int) ∧ ns.length ≤ 100 ∧ (∀ a ∈ ns, 0 ≤ a ∧ a ≤ 1000000) ∧ Q (.int ns.sum) H) := by
  intro pins s σ H xs us Q I r h
  obtain ⟨l, ns, rfl, hs, hp, hb, q⟩ := h
  obtain ⟨u, rfl, ru⟩ := vals1 r
  cases (show u = Value.ref l from ru)
  obtain ⟨its, rv, pl, hz⟩ := I.list hs
  have hi : IntsAre its ns := intsAre_of rv
  have ha : AllInts its.toArray := hi.allInts
  have hn : numsOf its.toArray.toList = ns := by rw [show its.toArray.toList = its from rfl, hi.numsOf]
  have hl := pl.isList
  have hl2 : its.length = ns.length := hi.length
  have hz2 : its.toArray.size = ns.length := by simp; omega
  generalize its.toArray = arr at ha hn hl hz2
  obtain ⟨zs, rfl⟩ := ha.items
  rw [nums_intItems] at hn
  have hsz : zs.size = ns.length := by simpa [intItems] using hz2
  have sm : ∀ (l : List Int), (∀ a ∈ l, 0 ≤ a ∧ a ≤ 1000000) → 0 ≤ l.sum ∧ l.sum ≤ 1000000 * l.length := fun l => by
    induction l with
    | nil => intro _; simp
    | cons a r ih =>
      intro h
      have h1 := h a List.mem_cons_self
      have h2 := ih fun x hx => h x (List.mem_cons_of_mem _ hx)
      rw [List.sum_cons, List.length_cons]
      omega
  refine sum_intList (I.ok.hd hc) hl (fun j hj => ?_) fun h' tk t' hk => ?_
  · have hm : numAt zs j ∈ ns := by rw [← hn, numAt_eq]; exact getD_mem (by rw [List.length_map, Array.length_toList]; omega)
    have h1 := hb _ hm
    rw [preSum_eq]
    have h2 := sm ((zs.toList.map (·.1)).take (j + 1)) fun a ha => hb a (by rw [← hn]; exact List.mem_of_mem_take ha)
    have h3 : ((zs.toList.map (·.1)).take (j + 1)).length ≤ 100 := by
      have : (zs.toList.map (·.1)).length = zs.size := by simp
      rw [List.length_take, this]; omega
    unfold InLong
    exact ⟨by constructor <;> omega, by constructor <;> omega⟩
  · refine ⟨.int _, H, I.kept (t' := tk) hk, ⟨_, rfl⟩, ?_⟩
    rw [preSum_eq, List.take_of_length_le (by simp), hn]
    exact q
end
end L2
namespace L3
open PySem PySem.Spec PyProof.Rows L2
section
variable {X : Cx} {e o : Expr} {te to : TE2} {t : TA2} {tl : TL2} {pos p apos cpos : Pos}
def gSumI : Sp2 := fun ds G R => ∃ ns : List Int, ds = ns.map D.int ∧ ns.length ≤ 100 ∧ (∀ a ∈ ns, 0 ≤ a ∧ a ≤ 1000000) ∧ R (.int ns.sum) G
theorem e_sumLI (hc : X.calm = true) (hg : Gl X "sum") (hm : X.mg "sum" = none) (ha : F2 X e tl) (he : starEach [e] X.env = (false, eval e X.env) :: starEach [] X.env := by rfl) (hpl : (backTo pos (starEach [] X.env)).any (·.1) = false := by rfl) :
    E2 X (.Call (.Name "sum" p) [e] [] pos) (xCallF gSumI tl) := e_callBF (call_sumI hc) (by
      rintro ds G R l xs H Q ⟨ns, rfl, hp, hb, h⟩ r e d k
      have := d.ints_inv
      subst this
      exact ⟨l, ns, rfl, .of e, hp, hb, k _ G h _ H (.refl H) r (by unfold Den; rfl)⟩) hg hm (by decide +kernel) ha (by decide) (by decide) he hpl
end
end L3
set_option Elab.async false
set_option linter.all false
set_option maxRecDepth 100000
set_option maxHeartbeats 4000000
namespace K
open PySem PySem.Spec PyProof.Rows L2 L3
theorem pu_andZ {σ : S2} {G : Gp} {ta tb : TE2} {a b : Bool} (ha : PuE ta σ G (.bl a)) (hb : a = true → PuE tb σ G (.bl b)) : PuE (xAnd ta tb) σ G (.bl (a && b)) := by
  cases a with
  | true => exact pu_and ha (hb rfl)
  | false => exact fun G2 e R q => ha G2 e _ (by show if false = true then _ else _; rw [if_neg (by simp)]; exact q)
theorem setF_8 {σ : S2} {G : Gp} {i : Nat} {tl : TL2} {u : TS2} {E : Ends2} {ds : List D} (h : PuL tl σ G ds) (h' : ∀ l, G.m l = none → u E (σ.set i (some (.adr l))) (gset G l ds)) : xSeq (xSetF i tl) u E σ G := h G (.refl G) _ h'
theorem seq_if8 {σ : S2} {G : Gp} {tc : TT2} {u : TS2} {E : Ends2} {b : Bool} {te : TE2} (h : PuT tc σ G b) (hy : b = true → xRet te E σ G) (hn : b = false → u E σ G) : xSeq (xIf tc (xRet te) xNext) u E σ G := by
  cases b with
  | false => exact seq_if_no h (hn rfl)
  | true => exact h G (.refl G) _ (by rw [if_pos rfl]; exact hy rfl)
theorem new_8 {σ : S2} {G : Gp} {tl : TL2} {R : Q2} (h : tl σ G fun ds G1 => ∀ l, G1.m l = none → R (.adr l) (gset G1 l ds)) : xNew tl σ G R := h
theorem op_8 {σ : S2} {G : Gp} {f : D → D → Gp → Q2 → Prop} {ta tb : TE2} {R : Q2} (h : ta σ G fun x G1 => tb σ G1 fun y G2 => f x y G2 R) : xOp f ta tb σ G R := h
theorem noadr8 {d : D} (h : flat 8 d = true) : ∀ l, d ≠ .adr l := fun l e => by subst e; cases h
theorem notTup8 {d : D} (h : ∀ xs, d ≠ .tup xs) : isTyB d "tuple" = false := by
  cases d with
  | tup xs => exact absurd rfl (h xs)
  | _ => rfl
theorem pu_isL8 {σ : S2} {G : Gp} {t : TE2} {l : Addr} {es : List D} (h : PuE t σ G (.adr l)) (hl : Ls G l es) : PuE (xIsI "tuple" t) σ G (.bl false) := fun G2 e R q => h G2 e _ ⟨⟨es, e.ls hl⟩, q⟩
theorem xs_all8 {α : Type} {xs : List α} (f : α → Bool) : (xs.map fun d => D.bl (f d)) = (xs.map f).map D.bl := by rw [List.map_map]; rfl
end K
set_option Elab.async false
set_option linter.all false
set_option maxRecDepth 100000
set_option maxHeartbeats 4000000
namespace K
open PySem PySem.Spec PyProof.Rows L2 L3
theorem adj_symm (q : Nat × Nat → Bool) (i j : Nat) : adj q i j = adj q j i := by
  unfold adj
  rw [Nat.min_comm, Nat.max_comm]
  congr 1
  rw [Bool.eq_iff_iff]; simp; omega
inductive Reach (n : Nat) (q : Nat × Nat → Bool) (i : Nat) : Nat → Prop where
  | refl : i < n → Reach n q i i
  | step {j k : Nat} : Reach n q i j → k < n → adj q j k = true → Reach n q i k
section
variable {n : Nat} {q : Nat × Nat → Bool}
theorem Reach.lt {i j : Nat} (h : Reach n q i j) : j < n := by cases h <;> assumption
theorem Reach.trans {i j k : Nat} (h : Reach n q i j) (h' : Reach n q j k) : Reach n q i k := by
  induction h' with
  | refl _ => exact h
  | step _ a b ih => exact .step ih a b
theorem Reach.symm {i j : Nat} (h : Reach n q i j) : Reach n q j i := by
  induction h with
  | refl h => exact .refl h
  | @step j k h1 hk ha ih => exact (Reach.step (.refl hk) h1.lt (by rw [adj_symm]; exact ha)).trans ih
noncomputable def dec (p : Prop) : Bool := @decide p (Classical.propDecidable p)
theorem dec_iff {p : Prop} : dec p = true ↔ p := by unfold dec; exact @decide_eq_true_iff p (Classical.propDecidable p)
noncomputable def comp (n : Nat) (q : Nat × Nat → Bool) (i : Nat) : List Nat := (List.range n).filter fun j => dec (Reach n q i j)
theorem mem_comp {i j : Nat} : j ∈ comp n q i ↔ Reach n q i j := by
  unfold comp
  rw [List.mem_filter, List.mem_range, dec_iff]
  exact ⟨fun h => h.2, fun h => ⟨h.lt, h⟩⟩
theorem comp_nodup {i : Nat} : (comp n q i).Nodup := List.nodup_range.filter _
end
structure Far (n : Nat) (q : Nat × Nat → Bool) (i : Nat) (r : List Nat) (d : Nat) : Prop where
  nd : r.Nodup
  all : ∀ x ∈ r, Reach n q i x
  st : i ∈ r
  dn : d ≤ r.length
  nb : ∀ (m x y : Nat), m < d → r[m]? = some x → y < n → adj q x y = true → y ∈ r
theorem Far.len {n : Nat} {q : Nat × Nat → Bool} {i d : Nat} {r : List Nat} (f : Far n q i r d) : r.length ≤ n := by
  have := List.Nodup.length_le_of_subset f.nd (l₂ := List.range n) fun x hx => List.mem_range.mpr (f.all x hx).lt
  simpa using this
theorem Far.end {n : Nat} {q : Nat × Nat → Bool} {i : Nat} {r : List Nat} (f : Far n q i r r.length) : r.Perm (comp n q i) := by
  refine (List.perm_ext_iff_of_nodup f.nd comp_nodup).mpr fun x => ?_
  rw [mem_comp]
  refine ⟨f.all x, fun h => ?_⟩
  induction h with
  | refl _ => exact f.st
  | @step j k h1 hk ha ih =>
    obtain ⟨m, hm⟩ := List.getElem?_of_mem ih
    exact f.nb m j k (List.getElem?_eq_some_iff.mp hm).1 hm hk ha
theorem Far.turn {n : Nat} {q : Nat × Nat → Bool} {i d : Nat} {r r' : List Nat} {x : Nat} (f : Far n q i r d) (hx : r[d]? = some x) (pre : ∃ t, r' = r ++ t) (nd : r'.Nodup) (all : ∀ y ∈ r', Reach n q i y) (nb : ∀ y, y < n → adj q x y = true → y ∈ r') : Far n q i r' (d + 1) := by
  obtain ⟨t, rfl⟩ := pre
  have hd : d < r.length := (List.getElem?_eq_some_iff.mp hx).1
  refine ⟨nd, all, List.mem_append_left _ f.st, by rw [List.length_append]; omega, fun m z y hm hz hy ha => ?_⟩
  rw [List.getElem?_append_left (by omega)] at hz
  by_cases hmd : m = d
  · subst hmd
    rw [hx] at hz; cases hz
    exact nb y hy ha
  · exact List.mem_append_left _ (f.nb m z y (by omega) hz hy ha)
end K
set_option Elab.async false
set_option linter.all false
set_option maxRecDepth 100000
set_option maxHeartbeats 4000000
namespace K
open PySem PySem.Spec PyProof.Rows L2 L3
section
variable {n : Nat} {q : Nat × Nat → Bool}
end
end K
set_option Elab.async false
set_option linter.all false
set_option maxRecDepth 100000
set_option maxHeartbeats 4000000
namespace K
open PySem PySem.Spec PyProof.Rows L2 L3
end K
set_option Elab.async false
set_option linter.all false
set_option maxRecDepth 100000
set_option maxHeartbeats 4000000
namespace K
open PySem PySem.Spec PyProof.Rows L2 L3
end K
set_option Elab.async false
set_option linter.all false
set_option maxRecDepth 100000
set_option maxHeartbeats 4000000
namespace K
open PySem PySem.Spec PyProof.Rows L2 L3
abbrev uD (l : List Nat) : D := .tup (l.map nD)
theorem asg_8 {σ : S2} {G : Gp} {te : TE2} {g : TG2} {E : Ends2} {d : D} (h : PuE te σ G d) (h' : g d σ G fun σ' G' => E.nx σ' G') : xAsg te g E σ G := h G (.refl G) _ h'
theorem asg_g8 {σ : S2} {G : Gp} {te : TE2} {g : TG2} {E : Ends2} (h : te σ G fun d G1 => g d σ G1 fun σ' G' => E.nx σ' G') : xAsg te g E σ G := h
theorem cat_8 {σ : S2} {G : Gp} {ta tb : TE2} {l : Addr} {R : List D → Gp → Prop} (h : PuE ta σ G (.adr l)) (h' : tb σ G fun y G2 => match D.adr l, y with | .adr l, .adr m => ∃ xs ys, G2.m l = some xs ∧ G2.m m = some ys ∧ xs.length + ys.length ≤ 1000000 ∧ R (xs ++ ys) G2 | _, _ => False) : xCatL ta tb σ G R := h G (.refl G) _ h'
theorem sub_none {G G' : Gp} (h : L3.Sub G G') {a : Addr} (n : G'.m a = none) : G.m a = none := by
  cases q : G.m a with
  | none => rfl
  | some u => rw [h.m a u q] at n; cases n
end K
namespace K
open L3
theorem drop_8 {σ : S2} {G : Gp} {te : TE2} {E : Ends2} (h : te σ G fun _ G1 => E.nx σ G1) : xDrop te E σ G := h
end K
set_option Elab.async false
set_option linter.all false
set_option maxRecDepth 100000
set_option maxHeartbeats 4000000
namespace K
open PySem PySem.Spec PyProof.Rows L2 L3
def goodP (n : Nat) : D → Bool
  | .int x => decide (0 ≤ x) && decide (x < (n : Int))
  | _ => false
def Bad (n : Nat) (d : D) (G : Gp) : Prop := (∃ xs, d = .tup xs ∧ (∀ x ∈ xs, flat 8 x = true) ∧ xs.length ≤ 1000 ∧ xs.all (goodP n) = false) ∨ ((∀ xs, d ≠ .tup xs) ∧ ∀ l, d ≠ .adr l) ∨ ∃ l es, d = .adr l ∧ Ls G l es
def Good (n : Nat) (d : D) (ps : List Nat) : Prop := d = .tup (ps.map nD) ∧ (∀ x ∈ ps, x < n) ∧ ps.length ≤ 60
theorem Bad.ext {n : Nat} {d : D} {G G' : Gp} (h : Bad n d G) (e : Ext G G') : Bad n d G' := by
  rcases h with h | h | ⟨l, es, rfl, h⟩
  · exact .inl h
  · exact .inr (.inl h)
  · exact .inr (.inr ⟨l, es, rfl, e.ls h⟩)
theorem all_good {n : Nat} {ps : List Nat} (h : ∀ x ∈ ps, x < n) : (ps.map nD).all (goodP n) = true := by
  rw [List.all_map, List.all_eq_true]
  intro x hx
  have := h x hx
  simp only [Function.comp, nD, goodP, Bool.and_eq_true, decide_eq_true_eq]
  omega
def sp_are_places : Sp2 := fun ds G R => ∃ (n : Nat) (d : D), ds = [nD n, d] ∧ ((∃ ps, Good n d ps ∧ R (.bl true) G) ∨ (Bad n d G ∧ R (.bl false) G))
def t_are_places : TS2 := (xRet (xAnd (xIsI "tuple" (xVar 1)) (xCallF gAll (xComp (iV (xVar 1)) bd1 xYes (xAnd (xCall sp_is_number (xCons (xVar 2) xNil)) (xChain2 (fII fun i j => .bl (decide (i ≤ j))) (fII fun i j => .bl (decide (i < j))) (xC (.int 0)) (xVar 2) (xVar 0)))))))
theorem r_are_places (ds : List D) (G : Gp) (R : Q2) (h : sp_are_places ds G R) : ds.length = 2 ∧ t_are_places (endsOf R) (start2 ["many", "thing"] ds) G := by
  obtain ⟨n, d, rfl, h⟩ := h
  refine ⟨rfl, ?_⟩
  unfold t_are_places
  have tup : ∀ xs : List D, (∀ x ∈ xs, flat 8 x = true) → R (.bl (xs.all (goodP n))) G → xRet (xAnd (xIsI "tuple" (xVar 1)) (xCallF gAll (xComp (iV (xVar 1)) bd1 xYes (xAnd (xCall sp_is_number (xCons (xVar 2) xNil)) (xChain2 (fII fun i j => .bl (decide (i ≤ j))) (fII fun i j => .bl (decide (i < j))) (xC (.int 0)) (xVar 2) (xVar 0)))))) (endsOf R) (start2 ["many", "thing"] [nD n, .tup xs]) G := fun xs fx hR => by
    have m := pu_map (σ := start2 ["many", "thing"] [nD n, .tup xs]) (G := G) (bd := bd1) (te := xAnd (xCall sp_is_number (xCons (xVar 2) xNil)) (xChain2 (fII fun i j => .bl (decide (i ≤ j))) (fII fun i j => .bl (decide (i < j))) (xC (.int 0)) (xVar 2) (xVar 0))) (fun d => .bl (goodP n d)) (fun d => [d]) (pu_iv_tup (pu_var (i := 1) (d := .tup xs) rfl)) fun x hx => by
      refine ⟨rfl, ?_⟩
      have na := noadr8 (fx x hx)
      have num : PuE (xCall sp_is_number (xCons (xVar 2) xNil)) (start2 ["many", "thing"] [nD n, .tup xs] ++ [some x]) G (.bl (isNumB x)) := pu_call (pu_cons (pu_var (d := x) rfl) pu_nil) fun _ _ _ q => ⟨x, rfl, .inl ⟨na, q⟩⟩
      cases x with
      | int v => exact pu_and (show PuE _ _ _ (.bl true) from num) (pu_chain2 (f := fun i j => decide (i ≤ j)) (g := fun i j => decide (i < j)) (pu_c (d := .int 0)) (pu_var rfl) (pu_var (i := 0) (d := nD n) rfl))
      | _ => exact pu_andZ (b := false) num fun z => by cases z
    rw [xs_all8] at m
    have a := pu_all m
    rw [List.all_map] at a
    exact ret_l (pu_and (pu_isI (T := "tuple") (d := .tup xs) (pu_var rfl) rfl) a) (.of hR)
  rcases h with ⟨ps, ⟨rfl, hp, _⟩, h⟩ | ⟨hb, h⟩
  · exact tup _ (flat_nDs ps) (by rw [all_good hp]; exact h)
  · rcases hb with ⟨xs, rfl, fx, _, ha⟩ | ⟨h1, h2⟩ | ⟨l, es, rfl, hl⟩
    · exact tup xs fx (by rw [ha]; exact h)
    · exact ret_l (pu_andZ (b := false) (pu_isB (T := "tuple") (d := d) (pu_var rfl) h2 (notTup8 h1)) fun z => by cases z) (.of h)
    · exact ret_l (pu_andZ (b := false) (pu_isL8 (l := l) (pu_var rfl) hl) fun z => by cases z) (.of h)
def risB (ps : List Nat) : Bool := (List.range (ps.length - 1)).all fun k => decide (ps.getD k 0 < ps.getD (k + 1) 0)
theorem risB_iff : ∀ ps : List Nat, risB ps = true ↔ ps.Pairwise (· < ·) := by
  intro ps
  unfold risB
  rw [List.all_eq_true]
  constructor
  · intro h
    have step : ∀ k, k + 1 < ps.length → ps.getD k 0 < ps.getD (k + 1) 0 := fun k hk => of_decide_eq_true (h k (List.mem_range.mpr (by omega)))
    have far : ∀ m i, i + m + 1 < ps.length → ps.getD i 0 < ps.getD (i + m + 1) 0 := fun m => by
      induction m with
      | zero => intro i hi; exact step i hi
      | succ m ih => intro i hi; exact Nat.lt_trans (ih i (by omega)) (step (i + m + 1) (by omega))
    rw [List.pairwise_iff_getElem]
    intro i j hi hj hij
    have := far (j - i - 1) i (by omega)
    rw [show i + (j - i - 1) + 1 = j by omega] at this
    simpa only [List.getD, hi, hj, List.getElem?_eq_getElem, Option.getD_some] using this
  · intro h k hk
    have hk' := List.mem_range.mp hk
    have h1 : k < ps.length := by omega
    have h2 : k + 1 < ps.length := by omega
    refine decide_eq_true ?_
    simp only [List.getD, h1, h2, List.getElem?_eq_getElem, Option.getD_some]
    exact (List.pairwise_iff_getElem.mp h) k (k + 1) h1 h2 (by omega)
def sp_is_risingN : Sp2 := fun ds G R => ∃ ps : List Nat, ds = [.tup (ps.map nD)] ∧ ps.length ≤ 1000 ∧ R (.bl (risB ps)) G
def t_is_risingN : TS2 := (xRet (xCallF gAll (xComp (iR1 (xCons (xOp (fII fun i j => .int (i - j)) (xCall spLen (xCons (xVar 0) xNil)) (xC (.int 1))) xNil)) bd1 xYes (xOp (fII fun i j => .bl (decide (i < j))) (xOp fIx (xVar 0) (xVar 1)) (xOp fIx (xVar 0) (xOp fAdd (xVar 1) (xC (.int 1))))))))
theorem r_is_risingN (ds : List D) (G : Gp) (R : Q2) (h : sp_is_risingN ds G R) : ds.length = 1 ∧ t_is_risingN (endsOf R) (start2 ["things"] ds) G := by
  obtain ⟨ps, rfl, hl, h⟩ := h
  refine ⟨rfl, ?_⟩
  unfold t_is_risingN
  have rg : PuI (iR1 (xCons (xOp (fII fun i j => .int (i - j)) (xCall spLen (xCons (xVar 0) xNil)) (xC (.int 1))) xNil)) (start2 ["things"] [.tup (ps.map nD)]) G ((List.range (ps.length - 1)).map nD) := by
    have := pu_range1 (pu_cons (pu_ii (g := fun i j => .int (i - j)) (pu_len2 (ps := ps) (pu_var (σ := start2 ["things"] [.tup (ps.map nD)]) (G := G) (i := 0) rfl)) (pu_c (d := .int 1))) pu_nil) (by omega)
    rw [show ((ps.length : Int) - 1).toNat = ((ps.length - 1 : Nat) : Int).toNat by omega, rangeD0] at this
    exact this
  have m := pu_map (bd := bd1) (te := (xOp (fII fun i j => .bl (decide (i < j))) (xOp fIx (xVar 0) (xVar 1)) (xOp fIx (xVar 0) (xOp fAdd (xVar 1) (xC (.int 1)))))) (fun d => match d with | .int v => .bl (decide (ps.getD v.toNat 0 < ps.getD (v.toNat + 1) 0)) | _ => .non) (fun d => [d]) rg fun x hx => by
    obtain ⟨k, hk, rfl⟩ := List.mem_map.mp hx
    have hk' := List.mem_range.mp hk
    refine ⟨rfl, ?_⟩
    have ad : PuE (xOp fAdd (xVar 1) (xC (.int 1))) (start2 ["things"] [.tup (ps.map nD)] ++ [some (nD k)]) G (nD (k + 1)) := by
      have := pu_add (σ := start2 ["things"] [.tup (ps.map nD)] ++ [some (nD k)]) (G := G) (i := (k : Int)) (j := 1) (pu_var (i := 1) rfl) pu_c
      rwa [show (k : Int) + 1 = ((k + 1 : Nat) : Int) by omega] at this
    have := pu_ii (g := fun i j => .bl (decide (i < j))) (pu_ixT2 (ps := ps) (i := k) (pu_var (σ := start2 ["things"] [.tup (ps.map nD)] ++ [some (nD k)]) (G := G) (i := 0) rfl) (pu_var (i := 1) rfl) (by omega)) (pu_ixT2 (ps := ps) (i := k + 1) (pu_var (i := 0) rfl) ad (by omega))
    have e : decide (((ps.getD k 0 : Nat) : Int) < ((ps.getD (k + 1) 0 : Nat) : Int)) = decide (ps.getD k 0 < ps.getD (k + 1) 0) := by
      rw [Bool.eq_iff_iff]; simp
    rw [e] at this
    exact this
  have e : List.map (fun d => match d with | .int v => D.bl (decide (ps.getD v.toNat 0 < ps.getD (v.toNat + 1) 0)) | _ => .non) ((List.range (ps.length - 1)).map nD) = ((List.range (ps.length - 1)).map fun k => decide (ps.getD k 0 < ps.getD (k + 1) 0)).map D.bl := by
    rw [List.map_map, List.map_map]; rfl
  rw [e] at m
  have a := pu_all m
  rw [List.all_map] at a
  exact ret_l a (.of h)
end K
set_option Elab.async false
set_option linter.all false
set_option maxRecDepth 100000
set_option maxHeartbeats 4000000
namespace L3
open PySem PySem.Spec PyProof.Rows L2
section
variable {X : Cx} {a b e : Expr} {ta tb te : TE2} {t : TA2} {p pos : Pos}
end
end L3
set_option Elab.async false
set_option linter.all false
set_option maxRecDepth 100000
set_option maxHeartbeats 4000000
namespace L3
open PySem PySem.Spec PyProof.Rows L2 HT2 HS
end L3
set_option Elab.async false
set_option linter.all false
set_option maxRecDepth 100000
set_option maxHeartbeats 4000000
namespace L3
open PySem PySem.Spec PyProof.Rows L2
section
variable {X : Cx} {e : Expr} {p pos : Pos}
end
end L3
set_option Elab.async false
set_option linter.all false
set_option maxRecDepth 100000
set_option maxHeartbeats 4000000
namespace L3
open PySem PySem.Spec PyProof.Rows L2
section
variable {X : Cx} {a b : Expr} {ta tb : TE2} {pos : Pos}
theorem e_shl (ha : E2 X a ta) (hb : E2 X b tb) : E2 X (.BinOp a .LShift b pos) (xOp (fIIC CPow fun i j => .int (i * 2 ^ j.toNat)) ta tb) := e_op op_shl (fit_iic fun _ _ => ⟨rfl, rfl⟩) ha hb
theorem e_xor (ha : E2 X a ta) (hb : E2 X b tb) : E2 X (.BinOp a .BitXor b pos) (xOp (fII fun i j => .int (Builtin.bitXor i j)) ta tb) := e_op op_xor (fit_ii fun _ _ => ⟨rfl, rfl⟩) ha hb
end
theorem xor_and_sum (a b : Nat) : (a ^^^ b) + 2 * (a &&& b) = a + b := by
  induction a using Nat.strongRecOn generalizing b with
  | _ a ih =>
    by_cases h : a = 0
    · subst h; simp
    · have h0 := ih (a / 2) (by omega) (b / 2)
      rw [← Nat.xor_div_two, ← Nat.and_div_two] at h0
      have h1 := @Nat.xor_mod_two_eq_one a b
      have h2 := @Nat.and_mod_two_eq_one a b
      have h3 : (a ^^^ b) % 2 + 2 * ((a &&& b) % 2) = a % 2 + b % 2 := by
        clear h0 ih h
        rcases Nat.mod_two_eq_zero_or_one a with x | x <;> rcases Nat.mod_two_eq_zero_or_one b with y | y <;> rcases Nat.mod_two_eq_zero_or_one (a &&& b) with z | z <;> rcases Nat.mod_two_eq_zero_or_one (a ^^^ b) with w | w <;> rw [x, y, z, w] <;> rw [x, y, z] at h2 <;> rw [x, y, w] at h1 <;> simp at h1 h2 ⊢
      generalize a ^^^ b = u at h0 h3 ⊢
      generalize a &&& b = v at h0 h3 ⊢
      omega
theorem bitXor_nat (a b : Nat) : Builtin.bitXor (a : Int) (b : Int) = ((a ^^^ b : Nat) : Int) := by
  have e : Builtin.bitAnd (a : Int) (b : Int) = ((a &&& b : Nat) : Int) := by
    unfold Builtin.bitAnd
    have h1 : decide ((0 : Int) ≤ (a : Int)) = true := decide_eq_true (by omega)
    have h2 : decide ((0 : Int) ≤ (b : Int)) = true := decide_eq_true (by omega)
    rw [h1, h2]
    rfl
  have h := xor_and_sum a b
  rw [PyProof.Rows.bitXor_and, e]
  omega
end L3
set_option Elab.async false
set_option linter.all false
namespace K
theorem xc (x a : Nat) : x ^^^ a ^^^ a = x := by rw [Nat.xor_assoc, Nat.xor_self, Nat.xor_zero]
def red (free : List Nat) (x : Nat) : Nat := free.foldl (fun x b => min x (x ^^^ b)) x
def stepF (free : List Nat) (row : Nat) : List Nat := if red free row ≠ 0 then free ++ [red free row] else free
end K
set_option Elab.async false
set_option linter.all false
set_option maxRecDepth 100000
set_option maxHeartbeats 4000000
namespace K
open PySem PySem.Spec PyProof.Rows L2 L3
theorem snoc_ind {P : List Nat → Prop} (nil : P []) (append_singleton : ∀ l o, P l → P (l ++ [o])) (l : List Nat) : P l := by
  rw [← List.reverse_reverse l]
  induction l.reverse with
  | nil => exact nil
  | cons a r ih => rw [List.reverse_cons]; exact append_singleton _ _ ih
def pows (l : List Nat) : Nat := (l.map fun o => 2 ^ o).sum
theorem pows_lt : ∀ (l : List Nat) (m : Nat), l.Pairwise (· < ·) → (∀ x ∈ l, x < m) → pows l < 2 ^ m := by
  intro l
  induction l using snoc_ind with
  | nil => intro m _ _; exact Nat.two_pow_pos m
  | append_singleton l o ih =>
    intro m hp hm
    have hp' := List.pairwise_append.mp hp
    have h1 := ih o hp'.1 fun x hx => hp'.2.2 x hx o (by simp)
    have ho := hm o (by simp)
    have h2 : 2 ^ (o + 1) ≤ 2 ^ m := Nat.pow_le_pow_right (by omega) ho
    unfold pows at *
    rw [List.map_append, List.sum_append]
    simp only [List.map_cons, List.map_nil, List.sum_cons, List.sum_nil]
    rw [Nat.pow_succ] at h2
    omega
theorem pows_bit : ∀ (l : List Nat), l.Pairwise (· < ·) → ∀ i, (pows l).testBit i = decide (i ∈ l) := by
  intro l
  induction l using snoc_ind with
  | nil => intro _ i; simp [pows]
  | append_singleton l o ih =>
    intro hp i
    have hp' := List.pairwise_append.mp hp
    have hl := pows_lt l o hp'.1 fun x hx => hp'.2.2 x hx o (by simp)
    have h1 := ih hp'.1 i
    have e : pows (l ++ [o]) = 2 ^ o * 1 + pows l := by
      unfold pows
      rw [List.map_append, List.sum_append]
      simp; omega
    rw [e, Nat.testBit_two_pow_mul_add _ hl]
    by_cases hi : i < o
    · rw [if_pos hi, h1]
      have : i ≠ o := by omega
      simp [this]
    · rw [if_neg hi]
      have hni : i ∉ l := fun z => by have := hp'.2.2 i z o (by simp); omega
      by_cases hio : i = o
      · subst hio; simp
      · obtain ⟨j, hj⟩ : ∃ j, i - o = j + 1 := ⟨i - o - 1, by omega⟩
        rw [hj, Nat.testBit_succ]
        simp [hni, hio]
def oth (n : Nat) (ps : List Nat) : List Nat := (List.range n).filter fun x => !decide (x ∈ ps)
theorem oth_rise (n : Nat) (ps : List Nat) : (oth n ps).Pairwise (· < ·) := List.pairwise_lt_range.sublist List.filter_sublist
theorem oth_lt {n : Nat} {ps : List Nat} {x : Nat} (h : x ∈ oth n ps) : x < n := List.mem_range.mp (List.mem_filter.mp h).1
theorem oth_len (n : Nat) (ps : List Nat) : (oth n ps).length ≤ n := by
  have := List.length_filter_le (fun x => !decide (x ∈ ps)) (List.range n)
  rw [List.length_range] at this; exact this
theorem pu_oth {σ : S2} {G : Gp} {i : Nat} {t : TE2} {n : Nat} {ps : List Nat} {q : Nat × Nat → Bool} (h0 : look σ 0 = some (webD n q)) (ht : ∀ k : Nat, PuE t (σ ++ [nD k].map some) G (uD ps)) (hk : ∀ k : Nat, look (σ ++ [nD k].map some) i = some (nD k)) (hn : n ≤ 1000) : PuL (xComp (iR1 (xCons (xOp fIx (xVar 0) (xC (.int 0))) xNil)) bd1 (xB (xOp (fIn true) (xVar i) t)) (xVar i)) σ G ((oth n ps).map nD) := by
  have c := pu_comp (σ := σ) (G := G) (bd := bd1) (tc := (xB (xOp (fIn true) (xVar i) t))) (te := xVar i) (fun d => match d with | .int v => !decide (v.toNat ∈ ps) | _ => false) (fun d => d) (fun d => [d])
    (show PuI (iR1 (xCons (xOp fIx (xVar 0) (xC (.int 0))) xNil)) _ _ ((List.range n).map nD) by
      rw [← rangeD0]
      exact pu_range1 (pu_cons (pu_w0 (pu_var h0)) pu_nil) (by omega)) fun x hx => by
    obtain ⟨k, hk', rfl⟩ := List.mem_map.mp hx
    refine ⟨rfl, pu_b (pu_inT (pu_var (hk k)) (ht k) rfl (flat_nDs ps) ?_), fun _ => pu_var (hk k)⟩
    rw [if_pos rfl, any_nD]; rfl
  have e : List.map (fun d => d) (List.filter (fun d => match d with | .int v => !decide (v.toNat ∈ ps) | _ => false) ((List.range n).map nD)) = (oth n ps).map nD := by
    rw [List.map_id', List.filter_map]; rfl
  rw [e] at c
  exact c
def sp_other_side : Sp2 := fun ds G R => ∃ (n : Nat) (q : Nat × Nat → Bool) (ps : List Nat), ds = [webD n q, uD ps] ∧ n ≤ 100 ∧ R (uD (oth n ps)) G
def t_other_side : TS2 := (xRet (xCallF gTuple (xComp (iR1 (xCons (xOp fIx (xVar 0) (xC (.int 0))) xNil)) bd1 (xB (xOp (fIn true) (xVar 2) (xVar 1))) (xVar 2))))
theorem r_other_side (ds : List D) (G : Gp) (R : Q2) (h : sp_other_side ds G R) : ds.length = 2 ∧ t_other_side (endsOf R) (start2 ["web", "places"] ds) G := by
  obtain ⟨n, q, ps, rfl, hn, h⟩ := h
  refine ⟨rfl, ?_⟩
  unfold t_other_side
  exact ret_l (pu_tuple (pu_oth (σ := start2 ["web", "places"] [webD n q, uD ps]) (n := n) (q := q) rfl (fun k => pu_var rfl) (fun k => rfl) (by omega))) (.of h)
def mask (q : Nat × Nat → Bool) (i : Nat) (os : List Nat) : Nat := pows (os.filter (adj q i))
def sp_row_of : Sp2 := fun ds G R => ∃ (n : Nat) (q : Nat × Nat → Bool) (i : Nat) (os : List Nat), ds = [webD n q, nD i, uD os] ∧ i < n ∧ (∀ x ∈ os, x < n) ∧ n ≤ 9 ∧ os.length ≤ 50 ∧ R (nD (mask q i os)) G
def t_row_of : TS2 := (xRet (xCallF gSumI (xComp (iV (xVar 2)) bd1 (xB (xCall sp_tied (xCons (xVar 0) (xCons (xVar 1) (xCons (xVar 3) xNil))))) (xOp (fIIC CPow fun i j => .int (i * 2 ^ j.toNat)) (xC (.int 1)) (xVar 3)))))
theorem sum_cast (l : List Nat) : (l.map fun (x : Nat) => (x : Int)).sum = ((l.sum : Nat) : Int) := by
  induction l with
  | nil => rfl
  | cons a r ih => rw [List.map_cons, List.sum_cons, ih, List.sum_cons]; omega
theorem r_row_of (ds : List D) (G : Gp) (R : Q2) (h : sp_row_of ds G R) : ds.length = 3 ∧ t_row_of (endsOf R) (start2 ["web", "place", "others"] ds) G := by
  obtain ⟨n, q, i, os, rfl, hi, ho, hn, hl, h⟩ := h
  refine ⟨rfl, ?_⟩
  unfold t_row_of
  have c := pu_comp (σ := start2 ["web", "place", "others"] [webD n q, nD i, uD os]) (G := G) (bd := bd1) (tc := (xB (xCall sp_tied (xCons (xVar 0) (xCons (xVar 1) (xCons (xVar 3) xNil)))))) (te := (xOp (fIIC CPow fun i j => .int (i * 2 ^ j.toNat)) (xC (.int 1)) (xVar 3))) (fun d => match d with | .int v => adj q i v.toNat | _ => false) (fun d => match d with | .int v => nD (2 ^ v.toNat) | _ => .non) (fun d => [d]) (pu_iv_tup (pu_var (i := 2) (d := uD os) rfl)) fun x hx => by
    obtain ⟨k, hk, rfl⟩ := List.mem_map.mp hx
    refine ⟨rfl, pu_b (pu_call (pu_cons (pu_var (d := webD n q) rfl) (pu_cons (pu_var (d := nD i) rfl) (pu_cons (pu_var (d := nD k) rfl) pu_nil))) fun _ _ _ q' => ⟨n, q, i, k, rfl, hi, ho k hk, q'⟩), fun _ => pu_op (x := .int 1) (y := nD k) pu_c (pu_var rfl) fun _ _ _ q' => ⟨⟨by omega, by have := ho k hk; omega, by decide⟩, ?_⟩⟩
    dsimp only
    have : (1 : Int) * 2 ^ ((k : Int)).toNat = ((2 ^ k : Nat) : Int) := by simp
    rw [this]
    exact q'
  have e : List.map (fun d => match d with | .int v => nD (2 ^ v.toNat) | _ => .non) (List.filter (fun d => match d with | .int v => adj q i v.toNat | _ => false) (os.map nD)) = (((os.filter (adj q i)).map fun o => 2 ^ o).map fun (x : Nat) => (x : Int)).map D.int := by
    rw [List.filter_map, List.map_map, List.map_map, List.map_map]; rfl
  rw [e] at c
  have s : PuE (xCallF gSumI (xComp (iV (xVar 2)) bd1 (xB (xCall sp_tied (xCons (xVar 0) (xCons (xVar 1) (xCons (xVar 3) xNil))))) (xOp (fIIC CPow fun i j => .int (i * 2 ^ j.toNat)) (xC (.int 1)) (xVar 3)))) (start2 ["web", "place", "others"] [webD n q, nD i, uD os]) G (nD (mask q i os)) := fun G2 e2 R' q' => c G2 e2 _ ⟨_, rfl, by
      have := List.length_filter_le (adj q i) os
      simp only [List.length_map]; omega, fun a ha => by
      obtain ⟨b, hb, rfl⟩ := List.mem_map.mp ha
      obtain ⟨o, ho', rfl⟩ := List.mem_map.mp hb
      have := ho o (List.mem_filter.mp ho').1
      have h2 : 2 ^ o ≤ 2 ^ 9 := Nat.pow_le_pow_right (by omega) (by omega)
      generalize 2 ^ o = z at h2 ⊢
      omega, by rw [sum_cast]; exact q'⟩
  exact ret_l s (.of h)
def rk (n : Nat) (q : Nat × Nat → Bool) (ps : List Nat) : List Nat := (ps.map fun i => mask q i (oth n ps)).foldl stepF []
def sp_cut_rank : Sp2 := fun ds G R => ∃ (n : Nat) (q : Nat × Nat → Bool) (ps : List Nat), ds = [webD n q, uD ps] ∧ n ≤ 9 ∧ (∀ x ∈ ps, x < n) ∧ ps.length ≤ 50 ∧ R (nD (rk n q ps).length) G
def t_cut_rank : TS2 := (xSeq (xAsg (xCall sp_other_side (xCons (xVar 0) (xCons (xVar 1) xNil))) (gN 2)) (xSeq (xAsg (xNew (xLst xNil)) (gN 3)) (xSeq (xForF (iV (xVar 1)) (gN 4) (xSeq (xAsg (xCall sp_row_of (xCons (xVar 0) (xCons (xVar 4) (xCons (xVar 2) xNil)))) (gN 5)) (xSeq (xForF (iV (xVar 3)) (gN 6) (xAsg (xCall spMin (xCons (xVar 5) (xCons (xOp (fII fun i j => .int (Builtin.bitXor i j)) (xVar 5) (xVar 6)) xNil))) (gN 5))) (xIf (xB (xOp (fEq true) (xVar 5) (xC (.int 0)))) (xDrop (xApp (xVar 3) (xCons (xVar 5) xNil))) xNext)))) (xRet (xCall spLen (xCons (xVar 3) xNil))))))
theorem stepF_len (free : List Nat) (row : Nat) : (stepF free row).length ≤ free.length + 1 := by
  unfold stepF
  split <;> simp
theorem foldF_len : ∀ (rows free : List Nat), (rows.foldl stepF free).length ≤ free.length + rows.length
  | [], free => by simp
  | r :: rows, free => by
    rw [List.foldl_cons, List.length_cons]
    have := foldF_len rows (stepF free r)
    have := stepF_len free r
    omega
theorem pu_min2 {σ : S2} {G : Gp} {t u : TE2} {a b : Nat} (h : PuE t σ G (nD a)) (h' : PuE u σ G (nD b)) : PuE (xCall spMin (xCons t (xCons u xNil))) σ G (nD (min a b)) := by
  have a3 : PuE (xCall spMin (xCons t (xCons u xNil))) σ G (.int (if (b : Int) < (a : Int) then (b : Int) else (a : Int))) := pu_call (pu_cons h (pu_cons h' pu_nil)) fun _ _ _ q => q
  have e : (if (b : Int) < (a : Int) then (b : Int) else (a : Int)) = ((min a b : Nat) : Int) := by split <;> omega
  rw [e] at a3
  exact a3
theorem pu_xor2 {σ : S2} {G : Gp} {t u : TE2} {a b : Nat} (h : PuE t σ G (nD a)) (h' : PuE u σ G (nD b)) : PuE (xOp (fII fun i j => .int (Builtin.bitXor i j)) t u) σ G (nD (a ^^^ b)) := by
  have := pu_ii (g := fun i j => .int (Builtin.bitXor i j)) h h'
  rw [bitXor_nat] at this
  exact this
theorem r_cut_rank (ds : List D) (G : Gp) (R : Q2) (h : sp_cut_rank ds G R) : ds.length = 2 ∧ t_cut_rank (endsOf R) (start2 ["web", "places", "others", "free", "place", "rest", "row"] ds) G := by
  obtain ⟨n, q, ps, rfl, hn, hm, hl, h⟩ := h
  refine ⟨rfl, ?_⟩
  unfold t_cut_rank
  rw [show start2 ["web", "places", "others", "free", "place", "rest", "row"] [webD n q, uD ps] = [some (webD n q), some (uD ps), none, none, none, none, none] from rfl]
  refine seq_asg (d := uD (oth n ps)) (pu_call (pu_cons (pu_var rfl) (pu_cons (pu_var rfl) pu_nil)) fun _ _ _ q' => ⟨n, q, ps, rfl, by omega, q'⟩) ?_
  simp only [gN, List.set_cons_succ, List.set_cons_zero]
  refine seq_asgG (new_l (ds := []) (fun G2 e R q => lst_l (nil_l ⟨by rw [sizeLine_eq]; simp, q⟩)) fun f hf => ?_)
  simp only [gN, List.set_cons_succ, List.set_cons_zero]
  have hol := oth_len n ps
  refine for_in (iv_l (ds := ps.map nD) (pu_var rfl) (for_inv (fun k G' => G'.m f = some ((((ps.take k).map fun i => mask q i (oth n ps)).foldl stepF []).map nD) ∧ L3.Sub G G') ⟨by simpa using gset_same, .new hf⟩ (fun _ _ _ => trivial) ?_ ?_))
  · rintro k x hx G2 ⟨h1, h2⟩
    obtain ⟨i, hi, rfl⟩ := get_map hx
    have hin := hm i (List.mem_of_getElem? hi)
    have hkl : k < ps.length := (List.getElem?_eq_some_iff.mp hi).1
    simp only [gN, List.set_cons_succ, List.set_cons_zero]
    rw [take_succ hi, List.map_append, List.foldl_append]
    simp only [List.map_cons, List.map_nil, List.foldl_cons, List.foldl_nil]
    have hfl : (((ps.take k).map fun i => mask q i (oth n ps)).foldl stepF []).length ≤ 50 := by
      have := foldF_len ((ps.take k).map fun i => mask q i (oth n ps)) []
      rw [List.length_map, List.length_take] at this
      simp only [List.length_nil] at this
      omega
    generalize ((ps.take k).map fun i => mask q i (oth n ps)).foldl stepF [] = free at h1 hfl
    refine seq_asg (d := nD (mask q i (oth n ps))) (pu_call (pu_cons (pu_var rfl) (pu_cons (pu_var rfl) (pu_cons (pu_var rfl) pu_nil))) fun _ _ _ q' => ⟨n, q, i, oth n ps, rfl, hin, fun x hx => oth_lt hx, hn, by omega, q'⟩) ?_
    simp only [gN, List.set_cons_succ, List.set_cons_zero]
    generalize mask q i (oth n ps) = row
    refine for_in (show iV _ _ _ _ from (pu_var (i := 3) (d := .adr f) rfl) _ (.refl _) _ ⟨free.map nD, .inl h1, ⟨fun j σ' G' => σ' = [some (webD n q), some (uD ps), some (uD (oth n ps)), some (.adr f), some (nD i), some (nD (red (free.take j) row)), none] ∧ G' = G2, ⟨rfl, rfl⟩, ?_, ?_, ?_⟩⟩)
    · rintro j σ' G' _ ⟨_, rfl⟩
      exact .inl h1
    · rintro j x σ' G' hx ⟨rfl, rfl⟩
      obtain ⟨b, hb, rfl⟩ := get_map hx
      simp only [gN, List.set_cons_succ, List.set_cons_zero]
      refine asg_8 (pu_min2 (pu_var rfl) (pu_xor2 (pu_var rfl) (pu_var rfl))) ?_
      simp only [gN, List.set_cons_succ, List.set_cons_zero]
      refine ⟨_, _, .keep (.keep (.keep (.keep (.keep (.keep (.skip .nil)))))), .refl _, ?_, rfl⟩
      rw [take_succ hb]
      unfold red
      rw [List.foldl_append]; rfl
    · rintro σ' G' ⟨rfl, rfl⟩
      rw [List.length_map, List.take_length]
      have t : PuT (xB (xOp (fEq true) (xVar 5) (xC (.int 0)))) [some (webD n q), some (uD ps), some (uD (oth n ps)), some (.adr f), some (nD i), some (nD (red free row)), none] G' (!decide (red free row = 0)) := pu_b (pu_eq (x := nD (red free row)) (y := nD 0) (pu_var rfl) pu_c rfl rfl (by rw [if_pos rfl, eqD_nD]))
      by_cases hz : red free row = 0
      · rw [decide_eq_true hz] at t
        dsimp only
        refine if_no t ⟨.keep (.keep (.keep (.keep (.skip (.skip (.skip .nil)))))), G', .refl _, ?_, h2⟩
        unfold stepF
        rw [if_neg (fun z => z hz)]
        exact h1
      · rw [decide_eq_false hz] at t
        dsimp only
        refine if_yes t (drop_8 (app_own (d := nD (red free row)) rfl h1 (fun Q q' => pu_cons (pu_var rfl) pu_nil _ (.refl _) _ q') (by rw [List.length_map]; omega) ?_))
        refine ⟨.keep (.keep (.keep (.keep (.skip (.skip (.skip .nil)))))), _, .refl _, ?_, h2.put hf⟩
        unfold stepF
        rw [if_pos hz, gset_same]
        simp
  · rintro G2 ⟨h1, h2⟩
    rw [List.length_map, List.take_length] at h1
    dsimp only
    exact ret_l (d := nD (rk n q ps).length) (pu_call (pu_cons (pu_var (i := 3) (d := .adr f) rfl) pu_nil) fun _ e _ q' => ⟨_, e.ls (.inl h1), by rw [List.length_map]; exact q'⟩) ⟨G, h2, h⟩
def splB (n : Nat) (q : Nat × Nat → Bool) (ps : List Nat) : Bool := decide (2 ≤ ps.length) && decide (ps.length + 2 ≤ n) && decide ((rk n q ps).length ≤ 1)
def sp_is_split : Sp2 := fun ds G R => ∃ (n : Nat) (q : Nat × Nat → Bool) (ps : List Nat), ds = [webD n q, uD ps] ∧ n ≤ 9 ∧ (∀ x ∈ ps, x < n) ∧ ps.length ≤ 50 ∧ ps.Pairwise (· < ·) ∧ R (.bl (splB n q ps)) G
def t_is_split : TS2 := (xSeq (xIf (xTOr (xTNot (xB (xCall sp_are_places (xCons (xOp fIx (xVar 0) (xC (.int 0))) (xCons (xVar 1) xNil))))) (xTNot (xB (xCall sp_is_risingN (xCons (xVar 1) xNil))))) (xRet (xC (.bl false))) xNext) (xRet (xAnd (xChain2 (fII fun i j => .bl (decide (i ≤ j))) (fII fun i j => .bl (decide (i ≤ j))) (xC (.int 2)) (xCall spLen (xCons (xVar 1) xNil)) (xOp (fII fun i j => .int (i - j)) (xOp fIx (xVar 0) (xC (.int 0))) (xC (.int 2)))) (xOp (fII fun i j => .bl (decide (i ≤ j))) (xCall sp_cut_rank (xCons (xVar 0) (xCons (xVar 1) xNil))) (xC (.int 1))))))
theorem r_is_split (ds : List D) (G : Gp) (R : Q2) (h : sp_is_split ds G R) : ds.length = 2 ∧ t_is_split (endsOf R) (start2 ["web", "places"] ds) G := by
  obtain ⟨n, q, ps, rfl, hn, hm, hl, hr, h⟩ := h
  refine ⟨rfl, ?_⟩
  unfold t_is_split
  rw [show start2 ["web", "places"] [webD n q, uD ps] = [some (webD n q), some (uD ps)] from rfl]
  have c1 : PuE (xCall sp_are_places (xCons (xOp fIx (xVar 0) (xC (.int 0))) (xCons (xVar 1) xNil))) [some (webD n q), some (uD ps)] G (.bl true) := pu_call (pu_cons (pu_w0 (pu_var rfl)) (pu_cons (pu_var (d := uD ps) rfl) pu_nil)) fun _ _ _ q' => ⟨n, _, rfl, .inl ⟨ps, ⟨rfl, hm, by omega⟩, q'⟩⟩
  have c2 : PuE (xCall sp_is_risingN (xCons (xVar 1) xNil)) [some (webD n q), some (uD ps)] G (.bl true) := pu_call (pu_cons (pu_var (d := uD ps) rfl) pu_nil) fun _ _ _ q' => ⟨ps, rfl, by omega, by rw [(risB_iff ps).mpr hr]; exact q'⟩
  refine seq_if_no (pu_or2 (pu_tnot (b := true) (pu_b c1)) (pu_tnot (b := true) (pu_b c2))) ?_
  have a1 := pu_chain2 (f := fun i j => decide (i ≤ j)) (g := fun i j => decide (i ≤ j)) (pu_c (σ := [some (webD n q), some (uD ps)]) (G := G) (d := .int 2)) (pu_len2 (ps := ps) (pu_var (i := 1) rfl)) (pu_ii (g := fun i j => .int (i - j)) (pu_w0 (n := n) (q := q) (pu_var (i := 0) rfl)) (pu_c (d := .int 2)))
  have a2 : PuE (xOp (fII fun i j => .bl (decide (i ≤ j))) (xCall sp_cut_rank (xCons (xVar 0) (xCons (xVar 1) xNil))) (xC (.int 1))) [some (webD n q), some (uD ps)] G (.bl (decide (((rk n q ps).length : Int) ≤ 1))) := pu_ii (g := fun i j => .bl (decide (i ≤ j))) (pu_call (d := nD (rk n q ps).length) (pu_cons (pu_var rfl) (pu_cons (pu_var rfl) pu_nil)) fun _ _ _ q' => ⟨n, q, ps, rfl, hn, hm, hl, q'⟩) (pu_c (d := .int 1))
  have := pu_andZ a1 fun _ => a2
  have e : ((decide ((2 : Int) ≤ (ps.length : Int)) && decide ((ps.length : Int) ≤ (n : Int) - 2)) && decide (((rk n q ps).length : Int) ≤ 1)) = splB n q ps := by
    unfold splB
    rw [Bool.eq_iff_iff]
    simp only [Bool.and_eq_true, decide_eq_true_eq]
    omega
  rw [e] at this
  exact ret_l this (.of h)
end K
set_option Elab.async false
set_option linter.all false
set_option maxRecDepth 100000
set_option maxHeartbeats 4000000
namespace K
open PySem PySem.Spec PyProof.Rows L2 L3
def Gd (l : Addr) (G : Gp) (d : D) : Prop := (∃ xs, d = .tup xs ∧ (∀ x ∈ xs, flat 8 x = true) ∧ xs.length ≤ 60) ∨ ((∀ xs, d ≠ .tup xs) ∧ ∀ l, d ≠ .adr l) ∨ ∃ l2 es, d = .adr l2 ∧ l2 ≠ l ∧ G.m l2 = some es
theorem Gd.one {l : Addr} {G : Gp} {d : D} (h : flat 8 d = true) (ht : ∀ xs, d ≠ .tup xs) : Gd l G d := .inr (.inl ⟨ht, noadr8 h⟩)
theorem Gd.tup {l : Addr} {G : Gp} {xs : List D} (h : ∀ x ∈ xs, flat 8 x = true) (hl : xs.length ≤ 60) : Gd l G (.tup xs) := .inl ⟨xs, rfl, h, hl⟩
theorem Gd.dr {l : Addr} {G G' : Gp} {d : D} (h : Gd l G d) (hd : Dr l G G') : Gd l G' d := by
  obtain ⟨s, b, rfl, _⟩ := hd
  rcases h with h | h | ⟨l2, es, e, ne, h⟩
  · exact .inl h
  · exact .inr (.inl h)
  · exact .inr (.inr ⟨l2, es, e, ne, by rw [gset_ne ne]; exact h⟩)
theorem Gd.sub {l : Addr} {G G' : Gp} {d : D} (h : Gd l G d) (hs : L3.Sub G G') : Gd l G' d := by
  rcases h with h | h | ⟨l2, es, e, ne, h⟩
  · exact .inl h
  · exact .inr (.inl h)
  · exact .inr (.inr ⟨l2, es, e, ne, hs.m _ _ h⟩)
theorem Gd.drS {l : Addr} {G G' : Gp} {d : D} (h : Gd l G d) (hd : DrS l G G') : Gd l G' d := by
  obtain ⟨G1, d1, s1⟩ := hd
  exact (h.dr d1).sub s1
end K
set_option Elab.async false
set_option linter.all false
set_option maxRecDepth 100000
set_option maxHeartbeats 4000000
namespace K
open PySem PySem.Spec PyProof.Rows L2 L3
theorem eqDs_nDs : ∀ l l' : List Nat, eqDs (l.map nD) (l'.map nD) = decide (l = l')
  | [], [] => by simp [eqDs]
  | [], _ :: _ => by simp [eqDs]
  | _ :: _, [] => by simp [eqDs]
  | a :: r, b :: t => by
    simp only [List.map_cons, eqDs]
    rw [eqD_nD, eqDs_nDs r t, Bool.eq_iff_iff]
    simp
end K
set_option Elab.async false
set_option linter.all false
set_option maxRecDepth 100000
set_option maxHeartbeats 4000000
namespace K
open PySem PySem.Spec PyProof.Rows L2 L3 HS
def pI (p : Nat × Nat) : List Int := [(p.1 : Int), (p.2 : Int)]
theorem map_pI (l : List (Nat × Nat)) : l.map prD = (l.map pI).map tI := by rw [List.map_map]; rfl
theorem ltP_pI {a b : Nat × Nat} (h : ltP a b) : ltI (pI b) (pI a) = false := by
  unfold ltP at h
  unfold pI
  simp only [ltI]
  split
  · split
    · rfl
    · simp only [decide_eq_false_iff_not]; omega
  · simp only [decide_eq_false_iff_not]; omega
theorem ne_pI {l : List (Nat × Nat)} : ∀ ns ∈ l.map pI, ns ≠ [] := fun ns h => by
  obtain ⟨p, _, rfl⟩ := List.mem_map.mp h
  simp [pI]
theorem prs_lenW : ∀ n, n < 10 → (prs n).length ≤ 36 := by decide +kernel
theorem list_len {n : Nat} {l : List (Nat × Nat)} (nd : l.Nodup) (hp : ∀ p ∈ l, p.1 < p.2 ∧ p.2 < n) (hn : n ≤ 9) : l.length ≤ 36 :=
  Nat.le_trans (nd.length_le_of_subset fun p h => mem_prs.mpr (hp p h)) (prs_lenW n (by omega))
theorem sorted_web {n : Nat} {l : List (Nat × Nat)} {m : List (List Int)} (nd : l.Nodup) (hp : ∀ p ∈ l, p.1 < p.2 ∧ p.2 < n) (pm : m.Perm (l.map pI)) (hm : m.Pairwise (fun a b => ltI b a = false)) : m = ((prs n).filter fun p => decide (p ∈ l)).map pI := by
  have rs : ((prs n).filter fun p => decide (p ∈ l)).Pairwise ltP := (prs_rise n).filter _
  refine List.Perm.eq_of_pairwise (fun a b _ _ h1 h2 => ltI_tot a b h2 h1) hm ?_ (pm.trans (List.Perm.map _ ?_))
  · rw [List.pairwise_map]
    exact rs.imp ltP_pI
  · refine (List.perm_ext_iff_of_nodup nd ((nodup_prs n).filter _)).mpr fun p => ?_
    rw [List.mem_filter, mem_prs]
    constructor
    · intro h; exact ⟨hp p h, decide_eq_true h⟩
    · rintro ⟨_, h⟩; exact of_decide_eq_true h
end K
set_option Elab.async false
set_option linter.all false
set_option maxRecDepth 100000
set_option maxHeartbeats 4000000
namespace L2
open PySem PySem.Spec PyProof.Rows
structure CompOkC (X : Cx) (sc : Scope) (N0 : List Str) (z : Str) : Prop where
  kind : sc.kind = .function
  one : sc.names.lookup z = some .cell
  lay : ∀ a acc, cellsFrom a sc.names acc = (z, a) :: acc
  push : ∀ h : Heap, pushCells h sc.names = h.push { cls := .type "cell", data := .cell none }
  rel : ∀ x, ((relabel sc X.env).names.lookup x = some .cell ∨ (relabel sc X.env).names.lookup x = some .free) → x = z ∨ sc.names.lookup x = some .free
  names : ∀ y ∈ sc.names, y.2 = .local → sc.names.lookup y.1 = some .local
  cap : ∀ y ∈ sc.names, y.2 = .free → X.env.kindOf y.1 = some .cell ∨ X.env.kindOf y.1 = some .free
  len : N0.length = X.N.length
  vis : ∀ (i : Nat) (x : Str), N0[i]? = some x → Vis (relabel sc X.env) x → X.N[i]? = some x ∧ sc.names.lookup x = some .free
section
variable {X : Cx} {z : Str} {tg elt iter : Expr} {ifs : List Expr} {sc : Scope} {pos : Pos} {N0 own : List Str} {wi : TI} {g : TG} {tc : TT} {te : TE}
end
end L2
namespace L3
open PySem PySem.Spec PyProof.Rows L2
structure CompTC (X : Cx) (sc : Scope) (N0 : List Str) (z : Str) : Prop where
  ok : CompOkC X sc N0 z
  nd : (N0 ++ [z]).Nodup
  cel : (relabel sc X.env).names.lookup z = some .cell
section
variable {X : Cx} {elt iter : Expr} {pos : Pos} {te : TE2} {ifs : List Expr} {sc : Scope} {N0 : List Str} {wi : TI2} {tc : TT2}
end
end L3
set_option Elab.async false
set_option linter.all false
set_option maxRecDepth 100000
set_option maxHeartbeats 4000000
namespace K
open PySem PySem.Spec PyProof.Rows L2 L3
end K
set_option Elab.async false
set_option linter.all false
set_option maxRecDepth 100000
set_option maxHeartbeats 4000000
namespace K
open PySem PySem.Spec PyProof.Rows L2 L3
end K
set_option Elab.async false
set_option linter.all false
set_option maxRecDepth 100000
set_option maxHeartbeats 4000000
namespace K
open PySem PySem.Spec PyProof.Rows L2 L3
def Side (n : Nat) (ps : List Nat) : Prop := ps.Pairwise (· < ·) ∧ ∀ x ∈ ps, x < n
theorem Side.len {n : Nat} {ps : List Nat} (h : Side n ps) : ps.length ≤ n := by
  have nd : ps.Nodup := h.1.imp fun a => Nat.ne_of_lt a
  have := nd.length_le_of_subset (l₂ := List.range n) fun x hx => List.mem_range.mpr (h.2 x hx)
  rwa [List.length_range] at this
theorem swapA {G0 : Gp} {A l : Addr} {x y : List D} (h : A ≠ l) : gset (gset G0 A x) l y = gset (gset G0 l y) A x := by
  unfold gset
  dsimp only
  congr 1
  funext z
  by_cases hz : z = l
  · subst hz
    simp only [if_true, if_neg (Ne.symm h)]
  · by_cases hzA : z = A
    · subst hzA
      simp only [if_true, if_neg h]
    · simp only [if_neg hz, if_neg hzA]
theorem Dr.swap {G0 G3 : Gp} {A l : Addr} {x : List D} (h : A ≠ l) (d : Dr l (gset G0 A x) G3) (st : StAt G0 l) : ∃ G1, Dr l G0 G1 ∧ G3 = gset G1 A x := by
  obtain ⟨s', b', rfl, ok⟩ := d
  exact ⟨gset G0 l [.int s', .bl b'], ⟨s', b', rfl, ok⟩, swapA h⟩
theorem Side.nil {n : Nat} : Side n [] := ⟨.nil, fun x hx => nomatch hx⟩
theorem Side.all {n : Nat} : Side n (List.range n) := ⟨List.pairwise_lt_range, fun x hx => List.mem_range.mp hx⟩
theorem Side.oth {n : Nat} {ps : List Nat} : Side n (oth n ps) := ⟨oth_rise n ps, fun x hx => oth_lt hx⟩
end K
set_option Elab.async false
set_option linter.all false
set_option maxRecDepth 100000
set_option maxHeartbeats 4000000
namespace HZ
open PySem PySem.Spec PyProof.Rows
end HZ
namespace L2
open PySem PySem.Spec PyProof.Rows HZ
end L2
namespace L3
open PySem PySem.Spec PyProof.Rows L2
end L3
set_option Elab.async false
set_option linter.all false
set_option maxRecDepth 100000
set_option maxHeartbeats 4000000
namespace K
open PySem PySem.Spec PyProof.Rows L2 L3 HS
theorem pu_lenA {σ : S2} {G : Gp} {t : TE2} {a : Addr} {xs : List D} (h : PuE t σ G (.adr a)) (hl : Ls G a xs) : PuE (xCall spLen (xCons t xNil)) σ G (nD xs.length) := pu_call (pu_cons h pu_nil) fun _ e _ q => ⟨xs, e.ls hl, q⟩
def sdN : Nat → List (List Nat)
  | 0 => [[0]]
  | i + 1 => sdN i ++ (sdN i).map (· ++ [i + 1])
theorem sdN_len : ∀ i, (sdN i).length = 2 ^ i
  | 0 => rfl
  | i + 1 => by
    rw [sdN, List.length_append, List.length_map, sdN_len i, Nat.pow_succ]; omega
theorem sdN_side : ∀ i, ∀ p ∈ sdN i, Side (i + 1) p ∧ p ≠ []
  | 0, p, hp => by
    rw [sdN, List.mem_singleton] at hp
    subst hp
    exact ⟨⟨List.pairwise_singleton _ _, fun x hx => by rw [List.mem_singleton.mp hx]; omega⟩, by simp⟩
  | i + 1, p, hp => by
    rw [sdN] at hp
    rcases List.mem_append.mp hp with hp | hp
    · obtain ⟨⟨h1, h2⟩, h3⟩ := sdN_side i p hp
      exact ⟨⟨h1, fun x hx => Nat.lt_succ_of_lt (h2 x hx)⟩, h3⟩
    · obtain ⟨r, hr, rfl⟩ := List.mem_map.mp hp
      obtain ⟨⟨h1, h2⟩, h3⟩ := sdN_side i r hr
      refine ⟨⟨List.pairwise_append.mpr ⟨h1, List.pairwise_singleton _ _, fun a ha b hb => by rw [List.mem_singleton.mp hb]; exact h2 a ha⟩, fun x hx => ?_⟩, by simp⟩
      rcases List.mem_append.mp hx with hx | hx
      · exact Nat.lt_succ_of_lt (h2 x hx)
      · rw [List.mem_singleton.mp hx]; omega
def uI (p : List Nat) : List Int := p.map fun (k : Nat) => (k : Int)
theorem map_uI (l : List (List Nat)) : l.map uD = (l.map uI).map tI := by
  rw [List.map_map]
  refine List.map_congr_left fun p _ => ?_
  show D.tup (p.map nD) = D.tup ((uI p).map D.int)
  unfold uI
  rw [List.map_map]; rfl
def spls (n : Nat) (q : Nat × Nat → Bool) : List (List Nat) := (sdN (n - 1)).filter (splB n q)
def sp_splits : List D → Gp → (List D → Gp → Prop) → Prop := fun ds G R => ∃ (n : Nat) (q : Nat × Nat → Bool), ds = [webD n q] ∧ 1 ≤ n ∧ n ≤ 9 ∧ ∀ m : List (List Int), m.Perm ((spls n q).map uI) → m.Pairwise (fun a b => ltI b a = false) → R (m.map tI) G
theorem mono_splits : ∀ ds G R R', (∀ ls G', R ls G' → R' ls G') → sp_splits ds G R → sp_splits ds G R' := by
  rintro ds G R R' h ⟨n, q, e, h1, h9, k⟩
  exact ⟨n, q, e, h1, h9, fun m a b => h _ _ (k m a b)⟩
theorem rangeD1 (n : Nat) : rangeD 1 n = (List.range n).map fun k => nD (k + 1) := by
  unfold rangeD
  refine List.map_congr_left fun k _ => ?_
  show D.int _ = D.int _
  congr 1
  omega
theorem get_nD1 {n i : Nat} {x : D} (h : ((List.range n).map fun k => nD (k + 1))[i]? = some x) : x = nD (i + 1) ∧ i < n := by
  rw [List.getElem?_map] at h
  by_cases hi : i < n
  · rw [List.getElem?_range hi] at h
    cases h
    exact ⟨rfl, hi⟩
  · rw [List.getElem?_eq_none (by rw [List.length_range]; omega)] at h
    cases h
theorem splits_walk {n : Nat} {q : Nat × Nat → Bool} {G : Gp} {R : Q2} {tc : TT2} (h1 : 1 ≤ n) (h9 : n ≤ 9) (hc : ∀ (l : Addr) (p : List Nat) (σ1 : Option D) (G' : Gp), Side n p → PuT tc [some (webD n q), some (.adr l), σ1, some (uD p)] G' (splB n q p))
    (h : ∀ m : List (List Int), m.Perm ((spls n q).map uI) → m.Pairwise (fun a b => ltI b a = false) → ∀ l, G.m l = none → R (.adr l) (gset G l (m.map tI))) :
    (xSeq (xAsg (xNew (xLst (xCons (xTup (xCons (xC (.int 0)) xNil)) xNil))) (gN 1)) (xSeq (xForF (iR2 (xCons (xC (.int 1)) (xCons (xOp fIx (xVar 0) (xC (.int 0))) xNil))) (gN 2) (xAsg (xNew (xCatL (xVar 1) (xNew (xComp (iV (xVar 1)) bd1 xYes (xOp fAdd (xVar 3) (xTup (xCons (xVar 2) xNil))))))) (gN 1))) (xRet (xNew (xSortedTF (xComp (iV (xVar 1)) bd1 tc (xVar 3))))))) (endsOf R) [some (webD n q), none, none] G := by
  refine seq_asgG (new_l (ds := [uD [0]]) (fun G2 e R q => lst_l (pu_cons (pu_tup (pu_cons pu_c pu_nil) (by simp)) pu_nil G2 e _ ⟨by rw [sizeLine_eq]; simp, q⟩)) fun f hf => ?_)
  simp only [gN, List.set_cons_succ, List.set_cons_zero]
  refine for_r2 (i := 1) (j := n) (pu_cons pu_c (pu_cons (pu_w0 (q := q) (pu_var rfl)) pu_nil)) (by omega) ?_
  rw [show ((n : Int) - 1).toNat = n - 1 by omega, rangeD1]
  refine ⟨fun i σ' G' => ∃ l σ1, σ' = [some (webD n q), some (.adr l), σ1] ∧ G.m l = none ∧ G'.m l = some ((sdN i).map uD) ∧ L3.Sub G G', ⟨f, none, rfl, hf, gset_same, .new hf⟩, fun _ _ _ _ _ => trivial, ?_, ?_⟩
  · rintro i x σ' G' hx ⟨l, σ1, rfl, hl, hg, sb⟩
    obtain ⟨rfl, hi⟩ := get_nD1 hx
    simp only [gN, List.set_cons_succ, List.set_cons_zero]
    have m := pu_map (σ := [some (webD n q), some (.adr l), some (nD (i + 1))]) (G := G') (bd := bd1) (te := xOp fAdd (xVar 3) (xTup (xCons (xVar 2) xNil))) (fun d => match d with | .tup xs => .tup (xs ++ [nD (i + 1)]) | _ => .non) (fun d => [d]) (pu_iv_adr (pu_var (i := 1) rfl) (.inl hg)) fun x hx => by
      obtain ⟨p, hp, rfl⟩ := List.mem_map.mp hx
      refine ⟨rfl, pu_cat (xs := p.map nD) (ys := [nD (i + 1)]) (pu_var rfl) (pu_tup (pu_cons (pu_var rfl) pu_nil) (by simp)) ?_⟩
      have := (sdN_side i p hp).1.len
      simp only [List.length_map, List.length_cons, List.length_nil]; omega
    have e : List.map (fun d => match d with | .tup xs => D.tup (xs ++ [nD (i + 1)]) | _ => .non) ((sdN i).map uD) = ((sdN i).map (· ++ [i + 1])).map uD := by
      rw [List.map_map, List.map_map]
      refine List.map_congr_left fun p _ => ?_
      simp [Function.comp]
    rw [e] at m
    refine asg_g8 (new_8 (cat_8 (pu_var (d := .adr l) rfl) (new_l m fun k hk => ⟨_, _, by rw [gset_ne (fun z => by rw [z] at hg; rw [hg] at hk; cases hk)]; exact hg, gset_same, ?_, fun l' hl' => ?_⟩)))
    · have a := sdN_len i
      have b : 2 ^ i ≤ 2 ^ 8 := Nat.pow_le_pow_right (n := 2) (by omega) (by omega)
      simp only [List.length_map]; omega
    · have sb2 : L3.Sub G (gset G' k (((sdN i).map (· ++ [i + 1])).map uD)) := sb.put (sub_none sb hk)
      simp only [gN, List.set_cons_succ, List.set_cons_zero]
      refine ⟨[some (webD n q), some (.adr l'), none], _, .keep (.keep (.skip .nil)), .refl _, l', none, rfl, sub_none sb2 hl', ?_, sb2.put (sub_none sb2 hl')⟩
      rw [gset_same, ← List.map_append]
      rfl
  · rintro σ' G' ⟨l, σ1, rfl, hl, hg, sb⟩
    rw [List.length_map, List.length_range] at hg
    have hsd : ∀ p ∈ sdN (n - 1), Side n p ∧ p ≠ [] := fun p hp => by
      have := sdN_side (n - 1) p hp
      rw [show n - 1 + 1 = n by omega] at this
      exact this
    have c := pu_comp (σ := [some (webD n q), some (.adr l), σ1]) (G := G') (bd := bd1) (tc := tc) (te := xVar 3) (fun d => match d with | .tup xs => splB n q (xs.map fun d => match d with | .int v => v.toNat | _ => 0) | _ => false) (fun d => d) (fun d => [d]) (pu_iv_adr (pu_var (i := 1) rfl) (.inl hg)) fun x hx => by
      obtain ⟨p, hp, rfl⟩ := List.mem_map.mp hx
      have ep : List.map (fun d => match d with | D.int v => v.toNat | _ => 0) (p.map nD) = p := by
        rw [List.map_map]
        conv => rhs; rw [← List.map_id p]
        exact List.map_congr_left fun k _ => rfl
      refine ⟨rfl, ?_, fun _ => pu_var rfl⟩
      show PuT tc _ _ (splB n q (List.map (fun d => match d with | D.int v => v.toNat | _ => 0) (p.map nD)))
      rw [ep]
      exact hc l p σ1 G' (hsd p hp).1
    have e : List.map (fun d => d) (List.filter (fun d => match d with | .tup xs => splB n q (xs.map fun d => match d with | .int v => v.toNat | _ => 0) | _ => false) ((sdN (n - 1)).map uD)) = ((spls n q).map uI).map tI := by
      rw [List.map_id', List.filter_map, ← map_uI]
      congr 1
      refine List.filter_congr fun p _ => ?_
      show splB n q (List.map (fun d => match d with | D.int v => v.toNat | _ => 0) (p.map nD)) = splB n q p
      congr 1
      rw [List.map_map]
      conv => rhs; rw [← List.map_id p]
      exact List.map_congr_left fun k _ => rfl
    rw [e] at c
    refine c G' (.refl G') _ ⟨(spls n q).map uI, rfl, ?_, ?_, fun m pm pw l' hl' => ?_⟩
    · have a := sdN_len (n - 1)
      have b : 2 ^ (n - 1) ≤ 2 ^ 8 := Nat.pow_le_pow_right (n := 2) (by omega) (by omega)
      have c := List.length_filter_le (splB n q) (sdN (n - 1))
      unfold spls
      rw [List.length_map]; omega
    · intro ns hns
      obtain ⟨p, hp, rfl⟩ := List.mem_map.mp hns
      have := (hsd p (List.mem_filter.mp hp).1).2
      intro z
      unfold uI at z
      exact this (List.map_eq_nil_iff.mp z)
    · refine ⟨gset G l' (m.map tI), ⟨fun a o e => ?_, fun a o e => sb.ro a o e⟩, h m pm pw l' (sub_none sb hl')⟩
      by_cases ha : a = l'
      · subst ha; rw [gset_same] at e; cases e; exact gset_same
      · rw [gset_ne ha] at e; rw [gset_ne ha]; exact sb.m a o e
def t_splits : TS2 := (xSeq (xAsg (xNew (xLst (xCons (xTup (xCons (xC (.int 0)) xNil)) xNil))) (gN 1)) (xSeq (xForF (iR2 (xCons (xC (.int 1)) (xCons (xOp fIx (xVar 0) (xC (.int 0))) xNil))) (gN 2) (xAsg (xNew (xCatL (xVar 1) (xNew (xComp (iV (xVar 1)) bd1 xYes (xOp fAdd (xVar 3) (xTup (xCons (xVar 2) xNil))))))) (gN 1))) (xRet (xNew (xSortedTF (xComp (iV (xVar 1)) bd1 (xB (xCall sp_is_split (xCons (xVar 0) (xCons (xVar 3) xNil)))) (xVar 3)))))))
theorem r_splits (ds : List D) (G : Gp) (R : Q2) (h : spL sp_splits ds G R) : ds.length = 1 ∧ t_splits (endsOf R) (start2 ["web", "sides", "place"] ds) G := by
  obtain ⟨n, q, rfl, h1, h9, h⟩ := h
  refine ⟨rfl, splits_walk (tc := _) h1 h9 (fun l p σ1 G' hp => ?_) h⟩
  exact pu_b (pu_call (pu_cons (pu_var rfl) (pu_cons (pu_var rfl) pu_nil)) fun _ _ _ q' => ⟨n, q, p, rfl, h9, hp.2, by have := hp.len; omega, hp.1, q'⟩)
end K
set_option Elab.async false
set_option linter.all false
set_option maxRecDepth 100000
set_option maxHeartbeats 4000000
namespace K
open L3
theorem fold_mono {α : Type} {st : List α → α → List α} (hm : ∀ l m, l.length ≤ (st l m).length) : ∀ (ms l : List α), l.length ≤ (ms.foldl st l).length
  | [], l => Nat.le_refl _
  | m :: ms, l => Nat.le_trans (hm l m) (fold_mono hm ms (st l m))
theorem one_gen {α : Type} {st : List α → α → List α} {Z : α → Prop} (hm : ∀ l m, l.length ≤ (st l m).length) (h0 : ∀ m, Z m → st [] m = []) (h1 : ∀ m, ¬ Z m → st [] m = [m])
    (h2 : ∀ r m, ¬ Z r → (Z m ∨ m = r) → st [r] m = [r]) (h3 : ∀ r m, ¬ Z r → ¬ (Z m ∨ m = r) → 2 ≤ (st [r] m).length) (ms : List α) : (ms.foldl st []).length ≤ 1 ↔ ∀ a ∈ ms, ∀ b ∈ ms, ¬ Z a → ¬ Z b → a = b := by
  have one : ∀ (ms : List α) (r : α), ¬ Z r → ((ms.foldl st [r]).length ≤ 1 ↔ ∀ a ∈ ms, Z a ∨ a = r) := by
    intro ms
    induction ms with
    | nil => intro r _; simp
    | cons m ms ih =>
      intro r hr
      rw [List.foldl_cons]
      by_cases hz : Z m ∨ m = r
      · rw [h2 r m hr hz, ih r hr]
        constructor
        · intro h a ha
          rcases List.mem_cons.mp ha with rfl | ha
          · exact hz
          · exact h a ha
        · intro h a ha
          exact h a (List.mem_cons_of_mem _ ha)
      · have := fold_mono hm ms (st [r] m)
        have h3' := h3 r m hr hz
        constructor
        · intro h; omega
        · intro h; exact absurd (h m (List.mem_cons_self ..)) hz
  induction ms with
  | nil => simp
  | cons m ms ih =>
    rw [List.foldl_cons]
    by_cases hz : Z m
    · rw [h0 m hz]
      refine ih.trans ?_
      constructor
      · intro h a ha b hb na nb
        rcases List.mem_cons.mp ha with rfl | ha
        · exact absurd hz na
        rcases List.mem_cons.mp hb with rfl | hb
        · exact absurd hz nb
        exact h a ha b hb na nb
      · intro h a ha b hb
        exact h a (List.mem_cons_of_mem _ ha) b (List.mem_cons_of_mem _ hb)
    · rw [h1 m hz, one ms m hz]
      constructor
      · intro h a ha b hb na nb
        have key : ∀ c ∈ m :: ms, ¬ Z c → c = m := fun c hc nc => by
          rcases List.mem_cons.mp hc with rfl | hc
          · rfl
          · exact (h c hc).resolve_left nc
        rw [key a ha na, key b hb nb]
      · intro h a ha
        by_cases za : Z a
        · exact .inl za
        · exact .inr (h a (List.mem_cons_of_mem _ ha) m (List.mem_cons_self ..) za hz)
theorem one_F (ms : List Nat) : (ms.foldl stepF []).length ≤ 1 ↔ ∀ a ∈ ms, ∀ b ∈ ms, ¬ a = 0 → ¬ b = 0 → a = b := by
  have r1 : ∀ r m, red [r] m = min m (m ^^^ r) := fun r m => rfl
  refine one_gen (Z := fun m => m = 0) ?_ ?_ ?_ ?_ ?_ ms
  · intro l m
    unfold stepF
    split
    · rw [List.length_append]; omega
    · exact Nat.le_refl _
  · intro m hm
    subst hm
    rfl
  · intro m hm
    unfold stepF
    rw [if_pos (show red [] m ≠ 0 from hm)]; rfl
  · intro r m hr hz
    unfold stepF
    rw [r1, if_neg]
    rcases hz with rfl | rfl
    · simp
    · simp
  · intro r m hr hz
    have : red [r] m ≠ 0 := fun z => by
      rw [r1] at z
      rcases Nat.le_total m (m ^^^ r) with h | h
      · rw [Nat.min_eq_left h] at z; exact hz (.inl z)
      · rw [Nat.min_eq_right h] at z
        refine hz (.inr ?_)
        have := xc m r
        rw [z, Nat.zero_xor] at this
        exact this.symm
    unfold stepF
    rw [if_pos this]
    simp
def stepR (acc : List (List Nat)) (r : List Nat) : List (List Nat) := if r = [] ∨ r ∈ acc then acc else acc ++ [r]
theorem one_R (ms : List (List Nat)) : (ms.foldl stepR []).length ≤ 1 ↔ ∀ a ∈ ms, ∀ b ∈ ms, ¬ a = [] → ¬ b = [] → a = b := by
  refine one_gen (Z := fun m => m = []) ?_ ?_ ?_ ?_ ?_ ms
  · intro l m
    unfold stepR
    split
    · exact Nat.le_refl _
    · rw [List.length_append]; omega
  · intro m hm
    unfold stepR
    rw [if_pos (.inl hm)]
  · intro m hm
    unfold stepR
    rw [if_neg (by simp [hm])]; rfl
  · intro r m hr hz
    unfold stepR
    rw [if_pos (by simpa using hz)]
  · intro r m hr hz
    unfold stepR
    rw [if_neg (by simpa using hz)]
    simp
theorem pows_inj {l l' : List Nat} (h : l.Pairwise (· < ·)) (h' : l'.Pairwise (· < ·)) (e : pows l = pows l') : l = l' := by
  refine List.Perm.eq_of_pairwise (le := (· < ·)) (fun a b _ _ x y => by omega) h h' ?_
  refine (List.perm_ext_iff_of_nodup (h.imp fun x => Nat.ne_of_lt x) (h'.imp fun x => Nat.ne_of_lt x)).mpr fun i => ?_
  have a := pows_bit l h i
  have b := pows_bit l' h' i
  rw [e, b] at a
  have := Bool.eq_iff_iff.mp a
  simp only [decide_eq_true_eq] at this
  exact this.symm
def rwS (n : Nat) (q : Nat × Nat → Bool) (ps : List Nat) (i : Nat) : List Nat := (oth n ps).filter (adj q i)
theorem rwS_rise (n : Nat) (q : Nat × Nat → Bool) (ps : List Nat) (i : Nat) : (rwS n q ps i).Pairwise (· < ·) := (oth_rise n ps).sublist List.filter_sublist
def rwl (n : Nat) (q : Nat × Nat → Bool) (ps : List Nat) (k : Nat) : List (List Nat) := ((ps.take k).map (rwS n q ps)).foldl stepR []
theorem rank_one (n : Nat) (q : Nat × Nat → Bool) (ps : List Nat) : (rwl n q ps ps.length).length < 2 ↔ (rk n q ps).length ≤ 1 := by
  unfold rk rwl
  rw [List.take_length, one_F]
  refine (Nat.lt_succ_iff.trans (one_R (ps.map (rwS n q ps)))).trans ?_
  simp only [List.mem_map, forall_exists_index, and_imp, forall_apply_eq_imp_iff₂]
  have z : ∀ i, mask q i (oth n ps) = 0 ↔ rwS n q ps i = [] := fun i => by
    constructor
    · intro h
      exact pows_inj (l' := []) (rwS_rise n q ps i) .nil h
    · intro h
      show pows (rwS n q ps i) = 0
      rw [h]; rfl
  constructor
  · intro h a ha b hb na nb
    have := h a ha b hb (fun x => na ((z a).mpr x)) (fun x => nb ((z b).mpr x))
    show pows (rwS n q ps a) = pows (rwS n q ps b)
    rw [this]
  · intro h a ha b hb na nb
    exact pows_inj (rwS_rise n q ps a) (rwS_rise n q ps b) (h a ha b hb (fun x => na ((z a).mp x)) (fun x => nb ((z b).mp x)))
theorem rwl_succ {n : Nat} {q : Nat × Nat → Bool} {ps : List Nat} {k i : Nat} (h : ps[k]? = some i) : rwl n q ps (k + 1) = stepR (rwl n q ps k) (rwS n q ps i) := by
  unfold rwl
  rw [take_succ h, List.map_append, List.foldl_append]; rfl
theorem rwl_len (n : Nat) (q : Nat × Nat → Bool) (ps : List Nat) : ∀ k, (rwl n q ps k).length ≤ ps.length := fun k => by
  have : ∀ (ms l : List (List Nat)), (ms.foldl stepR l).length ≤ l.length + ms.length := by
    intro ms
    induction ms with
    | nil => intro l; simp
    | cons m ms ih =>
      intro l
      rw [List.foldl_cons]
      have := ih (stepR l m)
      have h2 : (stepR l m).length ≤ l.length + 1 := by
        unfold stepR
        split
        · omega
        · simp
      simp only [List.length_cons]
      omega
  have := this ((ps.take k).map (rwS n q ps)) []
  unfold rwl
  simp only [List.length_map, List.length_take, List.length_nil] at this ⊢
  omega
def sdK (k : Nat) (i : Nat) : List Nat := 0 :: ((List.range i).filter fun j => k.testBit j).map (· + 1)
theorem sdK_succ (k i : Nat) : sdK k (i + 1) = sdK k i ++ (if k.testBit i then [i + 1] else []) := by
  unfold sdK
  rw [List.range_succ, List.filter_append, List.map_append]
  cases h : k.testBit i <;> simp [h]
theorem sdK_all : ∀ i, (List.range (2 ^ i)).map (fun k => sdK k i) = sdN i
  | 0 => rfl
  | i + 1 => by
    rw [sdN, ← sdK_all i, Nat.pow_succ, Nat.mul_two, List.range_add, List.map_append, List.map_map, List.map_map]
    congr 1
    · refine List.map_congr_left fun k hk => ?_
      rw [sdK_succ, Nat.testBit_lt_two_pow (List.mem_range.mp hk)]
      simp
    · refine List.map_congr_left fun k hk => ?_
      have hk := List.mem_range.mp hk
      show sdK (2 ^ i + k) (i + 1) = sdK k i ++ [i + 1]
      rw [sdK_succ, Nat.testBit_two_pow_add_eq, Nat.testBit_lt_two_pow hk]
      have : sdK (2 ^ i + k) i = sdK k i := by
        unfold sdK
        congr 2
        refine List.filter_congr fun j hj => ?_
        exact Nat.testBit_two_pow_add_gt (List.mem_range.mp hj) k
      rw [this]; rfl
def dueB (n : Nat) (q : Nat × Nat → Bool) : Bool := decide (5 ≤ n) && (sdN (n - 1)).all fun p => !splB n q p
theorem due_whole (n : Nat) (q : Nat × Nat → Bool) : (decide (5 ≤ n) && (spls n q).isEmpty) = dueB n q := by
  unfold dueB spls
  congr 1
  rw [Bool.eq_iff_iff, List.isEmpty_iff, List.filter_eq_nil_iff, List.all_eq_true]
  refine forall_congr' fun p => forall_congr' fun _ => ?_
  cases splB n q p <;> simp
end K
set_option Elab.async false
set_option linter.all false
set_option maxRecDepth 100000
set_option maxHeartbeats 4000000
namespace L3
open PySem PySem.Spec PyProof.Rows L2
section
variable {X : Cx} {pins : List (Addr × Obj)} {σ1 : L2.St} {H : Hp} {s : Shared} {A : Around}
def rInL (K : PySem.W.Frag) (ng : Bool) : R2 := fun x y H Q => ∃ (a : Addr) (ds : List D) (xs : List V) (b : Addr) (as : List Addr) (f : Addr → List D), x = .ref a ∧ y = .ref b ∧ SqL K H a xs ∧ Dens K H ds xs ∧ SqL K H b (as.map V.ref) ∧
  (∀ c ∈ as, c ≠ a ∧ (∃ ys, SqL K H c ys ∧ Dens K H (f c) ys) ∧ ∀ d ∈ f c, flat 8 d = true) ∧ (∀ d ∈ ds, flat 8 d = true) ∧ Q (.bl (if ng then !as.any fun c => eqDs (f c) ds else as.any fun c => eqDs (f c) ds)) H
theorem vals_refs : ∀ {as : List Addr} {its : List Value}, Vals (as.map V.ref) its → its = as.map Value.ref
  | [], its, h => by cases h; rfl
  | a :: as, its, h => by
    cases h with
    | cons r rr =>
      cases r
      rw [vals_refs rr]; rfl
theorem op_notInL (hu : X.A.units + 10 < cLine) : OpR X (compareOp .NotIn) (rInL X.K true) := by
  intro pins s σ H x y v u Q I rx ry h
  obtain ⟨a, ds, xs, b, as, f, rfl, rfl, h1, h2, h3, h4, h5, q⟩ := h
  cases rx
  cases ry
  obtain ⟨its, rv, pl, _⟩ := I.list h3
  have e := vals_refs rv
  subst e
  refine SeqAt.notIn_listAt (fun v => match v with | .ref c => eqDs (f c) ds | _ => false) pl.isList (fun y hy => ?_) ⟨.bl _, H, I, rfl, ?_⟩
  · have hy' : y ∈ as.map Value.ref := by simpa using hy
    obtain ⟨c, hc, rfl⟩ := List.mem_map.mp hy'
    obtain ⟨n1, ⟨ys, n2, n3⟩, n4⟩ := h4 c hc
    exact SeqAt.EqAt.of_refs n1 (rcAt_L (A := X.A.in1) I n2 n3 h1 h2 n4 h5 (by rw [in1_units]; omega))
  · have : ((as.map Value.ref).toArray.any fun v => match v with | .ref c => eqDs (f c) ds | _ => false) = as.any fun c => eqDs (f c) ds := by
      simp [List.any_map, Function.comp_def]
    rw [this]
    exact q
end
section
variable {X : Cx} {a b : Expr} {pos p : Pos} {ta tb te : TE2}
def fInL (ng : Bool) : D → D → Gp → Q2 → Prop := fun x y G R => match x, y with
  | .adr l, .adr m => ∃ (ds : List D) (as : List Addr) (f : Addr → List D), Ls G l ds ∧ Ls G m (as.map D.adr) ∧ (∀ c ∈ as, c ≠ l ∧ Ls G c (f c) ∧ ∀ d ∈ f c, flat 8 d = true) ∧ (∀ d ∈ ds, flat 8 d = true) ∧ R (.bl (if ng then !as.any fun c => eqDs (f c) ds else as.any fun c => eqDs (f c) ds)) G
  | _, _ => False
theorem dens_adrs {K : PySem.W.Frag} {H : Hp} : ∀ {as : List Addr} {xs : List V}, Dens K H (as.map D.adr) xs → xs = as.map V.ref
  | [], xs, h => by unfold Dens at h; exact h
  | a :: as, xs, h => by
    unfold Dens at h
    obtain ⟨x, r, rfl, h1, h2⟩ := h
    unfold Den at h1
    rw [dens_adrs h2, h1]; rfl
theorem fit_inL {K : PySem.W.Frag} {ng : Bool} : Fit K (rInL K ng) (fInL ng) := by
  intro dx dy G R x y H Q h r d1 d2 k
  unfold fInL at h
  split at h
  · rename_i l m
    obtain ⟨ds, as, f, e1, e2, e3, e4, h⟩ := h
    obtain ⟨xs, s1, t1⟩ := r.sq e1
    obtain ⟨ys, s2, t2⟩ := r.sq e2
    have e := dens_adrs t2
    subst e
    unfold Den at d1 d2
    exact ⟨l, ds, xs, m, as, f, d1, d2, s1, t1, s2, fun c hc => ⟨(e3 c hc).1, r.sq (e3 c hc).2.1, (e3 c hc).2.2⟩, e4, k _ G h _ H (.refl H) r (by unfold Den; rfl)⟩
  · exact h.elim
theorem t_notInL {k : Nat} (hr : Room k X.A) (ha : E2 X a ta) (hb : E2 X b tb) (hm : behindInMarks .NotIn b = false := by rfl) : T2 X (.Compare a [.NotIn] [b] pos) (xB (xOp (fInL true) ta tb)) := t_cmp (op_notInL (by have := hr.units; omega)) fit_inL ha hb hm
end
end L3
set_option Elab.async false
set_option linter.all false
set_option maxRecDepth 100000
set_option maxHeartbeats 4000000
namespace K
open PySem PySem.Spec PyProof.Rows L2 L3
def WkT (t : TT2) (σ : S2) (G : Gp) (b : Bool) : Prop := ∀ G2, Ext G G2 → ∀ R : Bool → Gp → Prop, (∀ G3, Ext G2 G3 → R b G3) → t σ G2 R
def WkE (t : TE2) (σ : S2) (G : Gp) (d : D) : Prop := ∀ G2, Ext G G2 → ∀ R : D → Gp → Prop, (∀ G3, Ext G2 G3 → R d G3) → t σ G2 R
end K
set_option Elab.async false
set_option linter.all false
set_option maxRecDepth 100000
set_option maxHeartbeats 4000000
namespace K
open PySem PySem.Spec PyProof.Rows L2 L3 HS
theorem callL_g72 {σ : S2} {G : Gp} {sp : List D → Gp → (List D → Gp → Prop) → Prop} {t : TA2} {R : List D → Gp → Prop} (h : t σ G fun ds G1 => sp ds G1 R) : xCallL sp t σ G R := h
theorem seq_for72 {wi : TI2} {g : TG2} {tb u : TS2} {E : Ends2} {σ : S2} {G : Gp} (h : xForF wi g tb { E with nx := u E } σ G) : xSeq (xForF wi g tb) u E σ G := h
theorem if_wk72 {σ : S2} {G : Gp} {tc : TT2} {t u : TS2} {E : Ends2} {b : Bool} (h : WkT tc σ G b) (hy : b = true → ∀ G3, Ext G G3 → t E σ G3) (hn : b = false → ∀ G3, Ext G G3 → u E σ G3) : xIf tc t u E σ G := h G (.refl G) _ fun G3 e => by
  cases b
  · rw [if_neg (by simp)]; exact hn rfl G3 e
  · rw [if_pos rfl]; exact hy rfl G3 e
theorem wk_tand {σ : S2} {G : Gp} {t u : TT2} {b c : Bool} (h : WkT t σ G b) (h' : b = true → WkT u σ G c) : WkT (xTAnd t u) σ G (b && c) := fun G2 e R q => h G2 e _ fun G3 e3 => by
  cases b
  · rw [if_neg (by simp)]; exact q G3 e3
  · rw [if_pos rfl]; exact h' rfl G3 (e.trans e3) _ fun G4 e4 => q G4 (e3.trans e4)
theorem wk_b {σ : S2} {G : Gp} {t : TE2} {b : Bool} (h : WkE t σ G (.bl b)) : WkT (xB t) σ G b := fun G2 e R q => h G2 e _ q
theorem wk_opl {σ : S2} {G : Gp} {f : D → D → Gp → Q2 → Prop} {ta tb : TE2} {x y d : D} (h : WkE ta σ G x) (h' : PuE tb σ G y) (hf : ∀ G2 (R : Q2), R d G2 → f x y G2 R) : WkE (xOp f ta tb) σ G d := fun G2 e R q => h G2 e _ fun G3 e3 => h' G3 (e.trans e3) _ (hf G3 R (q G3 e3))
theorem wk_opr {σ : S2} {G : Gp} {f : D → D → Gp → Q2 → Prop} {ta tb : TE2} {x y d : D} (h : PuE ta σ G x) (h' : WkE tb σ G y) (hf : ∀ G2 (R : Q2), R d G2 → f x y G2 R) : WkE (xOp f ta tb) σ G d := fun G2 e R q => h G2 e _ (h' G2 e _ fun G3 e3 => hf G3 R (q G3 e3))
theorem wk_ix {σ : S2} {G : Gp} {ta : TA2} {tb : TE2} {ds : List D} {k : Int} {d : D} (h : PuA ta σ G ds) (hl : ds.length ≤ 1000) (h' : PuE tb σ G (.int k)) (e : atI ds k = some d) : WkE (xOp fIx (xNew (xLst ta)) tb) σ G d := fun G2 e2 R q => h G2 e2 _ ⟨by rw [sizeLine_eq]; omega, fun l hl => h' _ (e2.trans (.new hl)) _ ⟨ds, d, .own, e, q _ (.new hl)⟩⟩
theorem app_q72 {σ : S2} {G : Gp} {to : TE2} {t : TA2} {R : Q2} {l : Addr} {xs : List D} (ho : PuE to σ G (.adr l)) (h : G.m l = some xs) (ht : t σ G fun ds G2 => match ds with | [d] => ∃ ys, G2.m l = some ys ∧ ys.length ≤ 1000000 ∧ R .non (gset G2 l (ys ++ [d])) | _ => False) : xApp to t σ G R := by
  refine ho G (.refl G) _ ?_
  show match G.m l with | some _ => _ | none => _
  rw [h]
  have : ∀ (ds : List D) (G2 : Gp), (match ds with | [d] => ∃ ys, G2.m l = some ys ∧ ys.length ≤ 1000000 ∧ R .non (gset G2 l (ys ++ [d])) | _ => False) = (match ds with | [d] => (match G2.m l with | some xs => xs.length ≤ 1000000 ∧ R .non (gset G2 l (xs ++ [d])) | none => False) | _ => False) := fun ds G2 => by
    split
    · rename_i d
      cases q : G2.m l with
      | none => simp
      | some ys => simp
    · rfl
  simp only [this] at ht
  exact ht
def sp_is_whole : Sp2 := fun ds G R => ∃ (n : Nat) (q : Nat × Nat → Bool), ds = [webD n q] ∧ 1 ≤ n ∧ n ≤ 9 ∧ R (.bl (dueB n q)) G
def t_is_whole : TS2 := (xRet (xAnd (xOp (fII fun i j => .bl (decide (j ≤ i))) (xOp fIx (xVar 0) (xC (.int 0))) (xC (.int 5))) (xOp (fEq false) (xNew (xCallL sp_splits (xCons (xVar 0) xNil))) (xNew (xLst xNil)))))
theorem r_is_whole (ds : List D) (G : Gp) (R : Q2) (h : sp_is_whole ds G R) : ds.length = 1 ∧ t_is_whole (endsOf R) (start2 ["web"] ds) G := by
  obtain ⟨n, q, rfl, h1, h9, h⟩ := h
  refine ⟨rfl, ?_⟩
  unfold t_is_whole
  rw [show start2 ["web"] [webD n q] = [some (webD n q)] from rfl]
  have a1 : PuE (xOp (fII fun i j => .bl (decide (j ≤ i))) (xOp fIx (xVar 0) (xC (.int 0))) (xC (.int 5))) [some (webD n q)] G (.bl (decide (5 ≤ n))) := by
    have := pu_ii (g := fun i j => .bl (decide (j ≤ i))) (pu_w0 (q := q) (n := n) (pu_var (σ := [some (webD n q)]) (G := G) (i := 0) rfl)) (pu_c (d := .int 5))
    have e : decide ((5 : Int) ≤ (n : Int)) = decide (5 ≤ n) := by rw [Bool.eq_iff_iff]; simp only [decide_eq_true_eq]; omega
    rw [← e]; exact this
  have d := due_whole n q
  refine a1 G (.refl G) _ ?_
  dsimp only
  by_cases hn : 5 ≤ n
  · rw [decide_eq_true hn, if_pos rfl]
    rw [decide_eq_true hn, Bool.true_and] at d
    refine op_8 (new_8 (callL_g72 (cons_l (pu_var rfl) (nil_l ⟨n, q, rfl, h1, h9, fun m pm pw l hl => new_l (ds := []) (fun G2 e R q => lst_l (nil_l ⟨by rw [sizeLine_eq]; simp, q⟩)) fun l2 hl2 => ?_⟩))))
    have ne : l ≠ l2 := fun z => by rw [← z, gset_same] at hl2; cases hl2
    refine ⟨m.map tI, [], .inl (by rw [gset_ne ne]; exact gset_same), .own, ?_, (fun d hd => by cases hd), ?_⟩
    · intro d hd
      obtain ⟨ns, _, rfl⟩ := List.mem_map.mp hd
      show (ns.map D.int).all (flat 7) = true
      rw [List.all_eq_true]
      intro x hx
      obtain ⟨k, _, rfl⟩ := List.mem_map.mp hx
      rfl
    · have e : (if false = true then !eqDs (m.map tI) [] else eqDs (m.map tI) []) = dueB n q := by
        rw [if_neg (by simp), ← d]
        have := pm.length_eq
        rw [List.length_map] at this
        cases m with
        | nil =>
          have : (spls n q) = [] := List.length_eq_zero_iff.mp this.symm
          rw [this]; rfl
        | cons a r =>
          cases hs : spls n q with
          | nil => rw [hs] at this; cases this
          | cons b t => rfl
      rw [e]
      exact ⟨G, (L3.Sub.new hl).trans (.new hl2), h⟩
  · rw [decide_eq_false hn, if_neg (by simp)]
    rw [decide_eq_false hn, Bool.false_and] at d
    rw [← d] at h
    exact .of h
def sp_l_rank_one : Sp2 := fun ds G R => ∃ (n : Nat) (q : Nat × Nat → Bool) (ps : List Nat) (l : Addr), ds = [webD n q, .adr l] ∧ Ls G l (ps.map nD) ∧ n ≤ 9 ∧ Side n ps ∧ R (.bl (decide ((rk n q ps).length ≤ 1))) G
def t_l_rank_one : TS2 := (xSeq (xAsg (xNew (xLst xNil)) (gN 2)) (xSeq (xForF (iV (xVar 1)) (gN 3) (xSeq (xSetF 4 (xComp (iF (xCallL sp_l_around (xCons (xVar 0) (xCons (xVar 3) xNil)))) bd1 (xB (xOp (fIn true) (xVar 5) (xVar 1))) (xVar 5))) (xIf (xTAnd (xB (xOp (fEq true) (xVar 4) (xNew (xLst xNil)))) (xB (xOp (fInL true) (xNew (xSorted (xCons (xVar 4) xNil))) (xVar 2)))) (xDrop (xApp (xVar 2) (xCons (xNew (xSorted (xCons (xVar 4) xNil))) xNil))) xNext))) (xRet (xOp (fII fun i j => .bl (decide (i < j))) (xCall spLen (xCons (xVar 2) xNil)) (xC (.int 2))))))
def rwU (n : Nat) (q : Nat × Nat → Bool) (ps : List Nat) (i : Nat) : List Nat := (lar n q i).filter fun x => !decide (x ∈ ps)
theorem rwU_perm {n : Nat} {q : Nat × Nat → Bool} {ps : List Nat} {i : Nat} (hi : i < n) : (rwS n q ps i).Perm (rwU n q ps i) := by
  unfold rwS rwU oth
  rw [List.filter_filter, show (fun a => adj q i a && !decide (a ∈ ps)) = fun a => (!decide (a ∈ ps)) && adj q i a from funext fun a => Bool.and_comm .., ← List.filter_filter]
  exact (lar_perm hi).filter _
theorem any_rows {as : List Addr} {c : Addr → List Nat} {x : List Nat} : (as.any fun a => eqDs ((c a).map nD) (x.map nD)) = decide (x ∈ as.map c) := by
  rw [Bool.eq_iff_iff]
  simp only [List.any_eq_true, eqDs_nDs, decide_eq_true_eq, List.mem_map]
theorem r_l_rank_one (ds : List D) (G : Gp) (R : Q2) (h : sp_l_rank_one ds G R) : ds.length = 2 ∧ t_l_rank_one (endsOf R) (start2 ["web", "side", "rows", "place", "row"] ds) G := by
  obtain ⟨n, q, ps, l, rfl, hl, hn, hs, h⟩ := h
  refine ⟨rfl, ?_⟩
  unfold t_l_rank_one
  rw [show start2 ["web", "side", "rows", "place", "row"] [webD n q, .adr l] = [some (webD n q), some (.adr l), none, none, none] from rfl]
  refine seq_asgG (new_l (ds := []) (fun G2 e R q => lst_l (nil_l ⟨by rw [sizeLine_eq]; simp, q⟩)) fun f hf => ?_)
  simp only [gN, List.set_cons_succ, List.set_cons_zero]
  refine seq_for72 (for_in (show iV _ _ _ _ from (pu_var (i := 1) (d := .adr l) rfl) _ (.refl _) _ ⟨ps.map nD, hl.sub (.new hf), ?_⟩))
  refine for_inv (fun k G' => ∃ (as : List Addr) (c : Addr → List Nat), G'.m f = some (as.map D.adr) ∧ as.map c = rwl n q ps k ∧ (∀ a ∈ as, G'.m a = some ((c a).map nD) ∧ a ≠ f) ∧ L3.Sub G G') ⟨[], fun _ => [], gset_same, rfl, (fun a ha => by cases ha), .new hf⟩ (fun k G' ⟨as, c, _, _, _, sb⟩ => hl.sub sb) ?_ ?_
  · rintro k x hx G1 ⟨as, c, gf, hrw, hac, sb⟩
    obtain ⟨i, hi, rfl⟩ := get_map hx
    have hin : i < n := hs.2 i (List.mem_of_getElem? hi)
    have hpl := hs.len
    simp only [gN, List.set_cons_succ, List.set_cons_zero]
    have l1 : Ls G1 l (ps.map nD) := hl.sub sb
    have cp := pu_comp (σ := [some (webD n q), some (.adr l), some (.adr f), some (nD i), none]) (G := G1) (bd := bd1) (tc := (xB (xOp (fIn true) (xVar 5) (xVar 1)))) (te := xVar 5) (fun d => match d with | .int v => !decide (v.toNat ∈ ps) | _ => false) (fun d => d) (fun d => [d])
      (show PuI (iF (xCallL sp_l_around (xCons (xVar 0) (xCons (xVar 3) xNil)))) _ _ ((lar n q i).map nD) from fun G2 e R q' => if_l (callL_g72 (cons_l (pu_var (d := webD n q) rfl) (cons_l (pu_var (d := nD i) rfl) (nil_l ⟨n, q, i, rfl, fun a ha => q' _ _ (.new ha) fun G4 e4 => e4.ls .own⟩))))) fun x hx => by
      obtain ⟨j, _, rfl⟩ := List.mem_map.mp hx
      refine ⟨rfl, pu_b (pu_op (x := nD j) (y := .adr l) (pu_var rfl) (pu_var rfl) fun G2 e R q' => ⟨ps.map nD, e.ls l1, rfl, flat_nDs ps, ?_⟩), fun _ => pu_var rfl⟩
      rw [if_pos rfl, any_nD]; exact q'
    have e : List.map (fun d => d) (List.filter (fun d => match d with | .int v => !decide (v.toNat ∈ ps) | _ => false) ((lar n q i).map nD)) = (rwU n q ps i).map nD := by
      rw [List.map_id', List.filter_map]; rfl
    rw [e] at cp
    refine setF_8 cp fun lr hlr => ?_
    simp only [List.set_cons_succ, List.set_cons_zero]
    have fr : f ≠ lr := fun z => by rw [z] at gf; rw [gf] at hlr; cases hlr
    have pm := rwU_perm (n := n) (q := q) (ps := ps) (i := i) hin
    have ulen : (rwU n q ps i).length < 64 := by
      have a := List.length_filter_le (fun x => !decide (x ∈ ps)) (lar n q i)
      have b := lar_len (q := q) hin (by omega)
      unfold rwU; omega
    have g2f : (gset G1 lr ((rwU n q ps i).map nD)).m f = some (as.map D.adr) := by rw [gset_ne fr]; exact gf
    have g2a : ∀ a ∈ as, (gset G1 lr ((rwU n q ps i).map nD)).m a = some ((c a).map nD) ∧ a ≠ f := fun a ha => by
      refine ⟨?_, (hac a ha).2⟩
      rw [gset_ne (fun z => by rw [z] at ha; rw [(hac _ ha).1] at hlr; cases hlr)]
      exact (hac a ha).1
    have g2r : Ls (gset G1 lr ((rwU n q ps i).map nD)) lr ((rwU n q ps i).map nD) := .own
    have sb2 : L3.Sub G (gset G1 lr ((rwU n q ps i).map nD)) := sb.trans (.new hlr)
    generalize gset G1 lr ((rwU n q ps i).map nD) = G2 at g2f g2a g2r sb2
    have srt : ∀ {G3 : Gp}, Ext G2 G3 → PuL (xSorted (xCons (xVar 4) xNil)) [some (webD n q), some (.adr l), some (.adr f), some (nD i), some (.adr lr)] G3 ((rwS n q ps i).map nD) := fun {G3} e3 =>
      pu_sortedP (d := .adr lr) (l := rwU n q ps i) (pu_cons (pu_var rfl) pu_nil) (e3.ls g2r) ulen pm ((rwS_rise n q ps i).imp fun x => Nat.le_of_lt x)
    have t1 : WkT (xB (xOp (fEq true) (xVar 4) (xNew (xLst xNil)))) [some (webD n q), some (.adr l), some (.adr f), some (nD i), some (.adr lr)] G2 (!decide (rwS n q ps i = [])) := fun G3 e3 R q' => op_8 ((pu_var (i := 4) (d := .adr lr) rfl) G3 (.refl _) _ (new_l (ds := []) (fun G2 e R q => lst_l (nil_l ⟨by rw [sizeLine_eq]; simp, q⟩)) fun l2 hl2 => by
      refine ⟨(rwU n q ps i).map nD, [], (e3.ls g2r).sub (.new hl2), .own, flat_nDs _, (fun d hd => by cases hd), ?_⟩
      have e : (if true = true then !eqDs ((rwU n q ps i).map nD) [] else eqDs ((rwU n q ps i).map nD) []) = !decide (rwS n q ps i = []) := by
        rw [if_pos rfl]
        have := pm.length_eq
        cases hu : rwU n q ps i with
        | nil => rw [hu] at this; rw [List.length_eq_zero_iff.mp this]; rfl
        | cons a r =>
          cases hv : rwS n q ps i with
          | nil => rw [hu, hv] at this; cases this
          | cons b t => rfl
      rw [e]
      exact q' _ (.new hl2)))
    have t2 : WkT (xB (xOp (fInL true) (xNew (xSorted (xCons (xVar 4) xNil))) (xVar 2))) [some (webD n q), some (.adr l), some (.adr f), some (nD i), some (.adr lr)] G2 (!decide (rwS n q ps i ∈ rwl n q ps k)) := fun G3 e3 R q' => op_8 (new_l (srt e3) fun l2 hl2 => (pu_var (i := 2) (d := .adr f) rfl) _ (.refl _) _ (by
      refine ⟨(rwS n q ps i).map nD, as, fun a => (c a).map nD, .own, (e3.ls (.inl g2f)).sub (.new hl2), fun a ha => ⟨fun z => ?_, (e3.ls (.inl (g2a a ha).1)).sub (.new hl2), flat_nDs _⟩, flat_nDs _, ?_⟩
      · have := e3.sub.m _ _ (g2a a ha).1
        rw [z, hl2] at this; cases this
      · rw [if_pos rfl, any_rows, hrw]
        exact q' _ (.new hl2)))
    refine if_wk72 (wk_tand t1 fun _ => t2) (fun hb G3 e3 => ?_) fun hb G3 e3 => ?_
    · have hb : rwS n q ps i ≠ [] ∧ rwS n q ps i ∉ rwl n q ps k := by simpa using hb
      have g3f := e3.sub.m _ _ g2f
      have alen : as.length ≤ ps.length := by
        have := rwl_len n q ps k
        rw [← hrw, List.length_map] at this
        exact this
      refine drop_8 (app_q72 (l := f) (pu_var rfl) g3f (cons_g (new_l (srt e3) fun la hla => nil_l ⟨as.map D.adr, ?_, by rw [List.length_map]; omega, ?_⟩)))
      · rw [gset_ne (fun z => by rw [z] at g3f; rw [g3f] at hla; cases hla)]; exact g3f
      · have fa : f ≠ la := fun z => by rw [z] at g3f; rw [g3f] at hla; cases hla
        refine ⟨.keep (.keep (.keep (.skip (.skip .nil)))), _, .refl _, as ++ [la], fun a => if a = la then rwS n q ps i else c a, ?_, ?_, ?_, ?_⟩
        · rw [gset_same, List.map_append]; rfl
        · rw [rwl_succ hi]
          unfold stepR
          rw [if_neg (by simp [hb.1, hb.2]), List.map_append, ← hrw]
          congr 1
          · refine List.map_congr_left fun a ha => ?_
            rw [if_neg (fun z => by rw [z] at ha; have := e3.sub.m _ _ (g2a _ ha).1; rw [hla] at this; cases this)]
          · simp
        · intro a ha
          rcases List.mem_append.mp ha with ha | ha
          · have ne : a ≠ la := fun z => by rw [z] at ha; have := e3.sub.m _ _ (g2a _ ha).1; rw [hla] at this; cases this
            refine ⟨?_, (g2a a ha).2⟩
            rw [gset_ne (g2a a ha).2, gset_ne ne]
            dsimp only
            rw [if_neg ne]
            exact e3.sub.m _ _ (g2a a ha).1
          · rw [List.mem_singleton.mp ha]
            refine ⟨?_, Ne.symm fa⟩
            rw [gset_ne (Ne.symm fa), gset_same]
            dsimp only
            rw [if_pos rfl]
        · exact ((sb2.trans e3.sub).trans (.new hla)).put hf
    · have hb : rwS n q ps i = [] ∨ rwS n q ps i ∈ rwl n q ps k := by
        by_cases z : rwS n q ps i = []
        · exact .inl z
        · right
          simpa [z] using hb
      refine ⟨.keep (.keep (.keep (.skip (.skip .nil)))), G3, .refl _, as, c, e3.sub.m _ _ g2f, ?_, fun a ha => ⟨e3.sub.m _ _ (g2a a ha).1, (g2a a ha).2⟩, sb2.trans e3.sub⟩
      rw [rwl_succ hi]
      unfold stepR
      rw [if_pos hb]; exact hrw
  · rintro G1 ⟨as, c, gf, hrw, hac, sb⟩
    rw [List.length_map] at hrw
    have p := pu_ii (g := fun i j => .bl (decide (i < j))) (pu_lenA (t := xVar 2) (σ := [some (webD n q), some (.adr l), some (.adr f), none, none]) (G := G1) (a := f) (pu_var rfl) (.inl gf)) (pu_c (d := .int 2))
    have e : decide ((((as.map D.adr).length : Nat) : Int) < 2) = decide ((rk n q ps).length ≤ 1) := by
      have := rank_one n q ps
      rw [← hrw, List.length_map] at this
      rw [List.length_map, Bool.eq_iff_iff]
      simp only [decide_eq_true_eq]
      rw [← this]
      omega
    rw [e] at p
    exact ret_l p ⟨G, sb, h⟩
end K
set_option Elab.async false
set_option linter.all false
set_option maxRecDepth 100000
set_option maxHeartbeats 4000000
namespace K
open PySem PySem.Spec PyProof.Rows L2 L3 HS
def sp_l_due72 : Sp2 := fun ds G R => ∃ (n : Nat) (q : Nat × Nat → Bool), ds = [webD n q] ∧ 1 ≤ n ∧ n ≤ 9 ∧ R (.bl (dueB n q)) G
def t_l_due72 : TS2 := (xSeq (xAsg (xOp fIx (xVar 0) (xC (.int 0))) (gN 1)) (xSeq (xIf (xB (xOp (fII fun i j => .bl (decide (i < j))) (xVar 1) (xC (.int 5)))) (xRet (xC (.bl false))) xNext) (xSeq (xForF (iR1 (xCons (xOp fIx (xNew (xLst (xCons (xC (.int 16)) (xCons (xC (.int 32)) (xCons (xC (.int 64)) (xCons (xC (.int 128)) (xCons (xC (.int 256)) xNil))))))) (xOp (fII fun i j => .int (i - j)) (xVar 1) (xC (.int 5)))) xNil)) (gN 2) (xSeq (xAsg (xNew (xLst (xCons (xC (.int 0)) xNil))) (gN 3)) (xSeq (xForF (iR2 (xCons (xC (.int 1)) (xCons (xVar 1) xNil))) (gN 4) (xIf (xB (xOp (fEq false) (xOp (fIIC (fun _ j => 0 < j) fun i j => .int (i % j)) (xOp (fIIC CDiv fun i j => .int (i / j)) (xVar 2) (xOp fIx (xNew (xLst (xCons (xC (.int 1)) (xCons (xC (.int 2)) (xCons (xC (.int 4)) (xCons (xC (.int 8)) (xCons (xC (.int 16)) (xCons (xC (.int 32)) (xCons (xC (.int 64)) (xCons (xC (.int 128)) xNil)))))))))) (xOp (fII fun i j => .int (i - j)) (xVar 4) (xC (.int 1))))) (xC (.int 2))) (xC (.int 1)))) (xDrop (xApp (xVar 3) (xCons (xVar 4) xNil))) xNext)) (xIf (xTAnd (xB (xChain2 (fII fun i j => .bl (decide (i ≤ j))) (fII fun i j => .bl (decide (i ≤ j))) (xC (.int 2)) (xCall spLen (xCons (xVar 3) xNil)) (xOp (fII fun i j => .int (i - j)) (xVar 1) (xC (.int 2))))) (xB (xCall sp_l_rank_one (xCons (xVar 0) (xCons (xVar 3) xNil))))) (xRet (xC (.bl false))) xNext)))) (xRet (xC (.bl true))))))
theorem sdK_mem {n k : Nat} (h1 : 1 ≤ n) (hk : k < 2 ^ (n - 1)) : sdK k (n - 1) ∈ sdN (n - 1) := by
  rw [← sdK_all]
  exact List.mem_map.mpr ⟨k, List.mem_range.mpr hk, rfl⟩
theorem bit_div (k j : Nat) : decide ((k : Int) / ((2 ^ j : Nat) : Int) % 2 = 1) = k.testBit j := by
  rw [Nat.testBit_eq_decide_div_mod_eq, Bool.eq_iff_iff]
  simp only [decide_eq_true_eq]
  rw [show ((k : Int) / ((2 ^ j : Nat) : Int) % 2 : Int) = ((k / 2 ^ j % 2 : Nat) : Int) by simp]
  omega
theorem r_l_due72 (ds : List D) (G : Gp) (R : Q2) (h : sp_l_due72 ds G R) : ds.length = 1 ∧ t_l_due72 (endsOf R) (start2 ["web", "many", "number", "side", "place"] ds) G := by
  obtain ⟨n, q, rfl, h1, h9, h⟩ := h
  refine ⟨rfl, ?_⟩
  unfold t_l_due72
  rw [show start2 ["web", "many", "number", "side", "place"] [webD n q] = [some (webD n q), none, none, none, none] from rfl]
  refine seq_asg (d := nD n) (pu_w0 (q := q) (pu_var rfl)) ?_
  simp only [gN, List.set_cons_succ, List.set_cons_zero]
  have c1 : PuT (xB (xOp (fII fun i j => .bl (decide (i < j))) (xVar 1) (xC (.int 5)))) [some (webD n q), some (nD n), none, none, none] G (decide (n < 5)) := by
    have := pu_ii (g := fun i j => .bl (decide (i < j))) (pu_var (σ := [some (webD n q), some (nD n), none, none, none]) (G := G) (i := 1) (d := nD n) rfl) (pu_c (d := .int 5))
    have e : decide ((n : Int) < (5 : Int)) = decide (n < 5) := by rw [Bool.eq_iff_iff]; simp only [decide_eq_true_eq]; omega
    rw [← e]; exact pu_b this
  refine seq_if8 c1 (fun hb => ret_l (d := .bl false) pu_c (.of ?_)) fun hb => ?_
  · have : dueB n q = false := by
      unfold dueB
      rw [decide_eq_false (by have := of_decide_eq_true hb; omega)]; rfl
    rw [this] at h
    exact h
  have n5 : 5 ≤ n := by have := of_decide_eq_false hb; omega
  have hat : atI ([16, 32, 64, 128, 256].map nD) ((n : Int) - 5) = some (nD (2 ^ (n - 1))) := by
    have : n = 5 ∨ n = 6 ∨ n = 7 ∨ n = 8 ∨ n = 9 := by omega
    rcases this with rfl | rfl | rfl | rfl | rfl <;> rfl
  have hp8 : 2 ^ (n - 1) ≤ 2 ^ 8 := Nat.pow_le_pow_right (n := 2) (by omega) (by omega)
  refine seq_for72 (for_in (show iR1 _ _ _ _ from cons_g (wk_ix (ds := [16, 32, 64, 128, 256].map nD) (pu_cons pu_c (pu_cons pu_c (pu_cons pu_c (pu_cons pu_c (pu_cons pu_c pu_nil))))) (by simp) (pu_ii (g := fun i j => .int (i - j)) (pu_var (d := nD n) rfl) (pu_c (d := .int 5))) hat G (.refl _) _ fun G1 e1 => nil_l ⟨⟨Int.le_trans (show (-1000000 : Int) ≤ 0 by decide) (Int.natCast_nonneg (2 ^ (n - 1))), Int.le_trans (show ((2 ^ (n - 1) : Nat) : Int) ≤ ((2 ^ 8 : Nat) : Int) from Int.ofNat_le.mpr hp8) (by decide)⟩, ?_⟩)))
  rw [rangeD0]
  refine for_inv (fun k G' => (∀ j, j < k → splB n q (sdK j (n - 1)) = false) ∧ L3.Sub G G') ⟨fun j hj => absurd hj (by omega), e1.sub⟩ (fun _ _ _ => trivial) ?_ ?_
  · rintro k x hx G2 ⟨hno, sb⟩
    obtain ⟨rfl, hk⟩ := get_nD hx
    simp only [gN, List.set_cons_succ, List.set_cons_zero]
    refine seq_asgG (new_l (ds := [nD 0]) (fun G2 e R q => lst_l (pu_cons pu_c pu_nil G2 e _ ⟨by rw [sizeLine_eq]; simp, q⟩)) fun ls hls => ?_)
    simp only [gN, List.set_cons_succ, List.set_cons_zero]
    refine seq_for72 (for_r2 (i := 1) (j := n) (pu_cons pu_c (pu_cons (pu_var rfl) pu_nil)) (by omega) ?_)
    rw [show ((n : Int) - 1).toNat = n - 1 by omega, rangeD1]
    refine for_inv (fun j G' => G'.m ls = some ((sdK k j).map nD) ∧ L3.Sub G2 G') ⟨gset_same, .new hls⟩ (fun _ _ _ => trivial) ?_ ?_
    · rintro j x hx G3 ⟨gl, sb3⟩
      obtain ⟨rfl, hj⟩ := get_nD1 hx
      simp only [gN, List.set_cons_succ, List.set_cons_zero]
      have hat2 : atI ([1, 2, 4, 8, 16, 32, 64, 128].map nD) (((j + 1 : Nat) : Int) - 1) = some (nD (2 ^ j)) := by
        have : j = 0 ∨ j = 1 ∨ j = 2 ∨ j = 3 ∨ j = 4 ∨ j = 5 ∨ j = 6 ∨ j = 7 := by omega
        rcases this with rfl | rfl | rfl | rfl | rfl | rfl | rfl | rfl <;> rfl
      have hpj : 2 ^ j ≤ 2 ^ 8 := Nat.pow_le_pow_right (n := 2) (by omega) (by omega)
      have hp0 : 0 < 2 ^ j := Nat.pow_pos (by omega)
      have slen : (sdK k j).length ≤ 10 := by
        unfold sdK
        have := List.length_filter_le (fun j => k.testBit j) (List.range j)
        rw [List.length_range] at this
        simp only [List.length_cons, List.length_map]; omega
      refine if_wk72 (b := k.testBit j) (wk_b ?_) (fun hb G4 e4 => ?_) fun hb G4 e4 => ?_
      · refine wk_opl (x := .int ((k : Int) / ((2 ^ j : Nat) : Int) % 2)) (y := .int 1) (wk_opl (x := .int ((k : Int) / ((2 ^ j : Nat) : Int))) (y := .int 2) (wk_opr (x := nD k) (y := nD (2 ^ j)) (pu_var rfl) (wk_ix (pu_cons pu_c (pu_cons pu_c (pu_cons pu_c (pu_cons pu_c (pu_cons pu_c (pu_cons pu_c (pu_cons pu_c (pu_cons pu_c pu_nil)))))))) (by simp) (pu_ii (g := fun i j => .int (i - j)) (pu_var (d := nD (j + 1)) rfl) (pu_c (d := .int 1))) hat2) fun G2 R q' => ⟨⟨by omega, by omega⟩, q'⟩) pu_c fun G2 R q' => ⟨(by decide : (0 : Int) < 2), q'⟩) pu_c fun G2 R q' => ⟨rfl, rfl, ?_⟩
        rw [if_neg (by simp), eqD_int, bit_div]; exact q'
      · have g4 := e4.sub.m _ _ gl
        refine drop_8 (app_q72 (l := ls) (pu_var rfl) g4 (cons_l (d := nD (j + 1)) (pu_var rfl) (nil_l ⟨_, g4, by rw [List.length_map]; omega, ?_⟩)))
        refine ⟨.keep (.keep (.keep (.keep (.skip .nil)))), _, .refl _, ?_, (sb3.trans e4.sub).put hls⟩
        rw [gset_same, sdK_succ, hb, if_pos rfl, List.map_append]; rfl
      · refine ⟨.keep (.keep (.keep (.keep (.skip .nil)))), G4, .refl _, ?_, sb3.trans e4.sub⟩
        rw [sdK_succ, hb, if_neg (by simp), List.append_nil]
        exact e4.sub.m _ _ gl
    · rintro G3 ⟨gl, sb3⟩
      rw [List.length_map, List.length_range] at gl
      have mem := sdK_mem (n := n) h1 hk
      have sd : Side n (sdK k (n - 1)) := by
        have := (sdN_side (n - 1) _ mem).1
        rw [show n - 1 + 1 = n by omega] at this
        exact this
      have a1 := pu_chain2 (f := fun i j => decide (i ≤ j)) (g := fun i j => decide (i ≤ j)) (pu_c (σ := [some (webD n q), some (nD n), some (nD k), some (.adr ls), none]) (G := G3) (d := .int 2)) (pu_lenA (t := xVar 3) (a := ls) (pu_var rfl) (.inl gl)) (pu_ii (g := fun i j => .int (i - j)) (pu_var (i := 1) (d := nD n) rfl) (pu_c (d := .int 2)))
      have a2 : PuE (xCall sp_l_rank_one (xCons (xVar 0) (xCons (xVar 3) xNil))) [some (webD n q), some (nD n), some (nD k), some (.adr ls), none] G3 (.bl (decide ((rk n q (sdK k (n - 1))).length ≤ 1))) := pu_call (pu_cons (pu_var rfl) (pu_cons (pu_var rfl) pu_nil)) fun _ e _ q' => ⟨n, q, _, ls, rfl, e.ls (.inl gl), h9, sd, q'⟩
      have t := pu_tand (pu_b a1) fun _ => pu_b a2
      have e : ((decide ((2 : Int) ≤ ((((sdK k (n - 1)).map nD).length : Nat) : Int)) && decide (((((sdK k (n - 1)).map nD).length : Nat) : Int) ≤ (n : Int) - 2)) && decide ((rk n q (sdK k (n - 1))).length ≤ 1)) = splB n q (sdK k (n - 1)) := by
        unfold splB
        rw [Bool.eq_iff_iff, List.length_map]
        simp only [Bool.and_eq_true, decide_eq_true_eq]
        omega
      rw [e] at t
      dsimp only
      cases hb : splB n q (sdK k (n - 1)) with
      | true =>
        rw [hb] at t
        have : dueB n q = false := by
          unfold dueB
          rw [Bool.and_eq_false_iff]
          right
          rw [List.all_eq_false]
          exact ⟨_, mem, by rw [hb]; simp⟩
        rw [this] at h
        exact if_yes t (ret_l (d := .bl false) pu_c ⟨G, sb.trans sb3, h⟩)
      | false =>
        rw [hb] at t
        refine if_no t ⟨.keep (.keep (.skip (.skip (.skip .nil)))), G3, .refl _, fun j hj => ?_, sb.trans sb3⟩
        by_cases hjk : j = k
        · rw [hjk]; exact hb
        · exact hno j (by omega)
  · rintro G2 ⟨hno, sb⟩
    rw [List.length_map, List.length_range] at hno
    dsimp only
    have : dueB n q = true := by
      unfold dueB
      rw [decide_eq_true n5, Bool.true_and, List.all_eq_true]
      intro p hp
      rw [← sdK_all] at hp
      obtain ⟨k, hk, rfl⟩ := List.mem_map.mp hp
      rw [hno k (List.mem_range.mp hk)]; rfl
    rw [this] at h
    exact ret_l (d := .bl true) pu_c ⟨G, sb, h⟩
end K
set_option Elab.async false
set_option linter.all false
set_option maxRecDepth 100000
set_option maxHeartbeats 4000000
namespace K
open PySem PySem.Spec PyProof.Rows L2 L3 HS
theorem call_g72 {σ : S2} {G : Gp} {sp : Sp2} {t : TA2} {R : Q2} (h : t σ G fun ds G1 => sp ds G1 R) : xCall sp t σ G R := h
theorem srtG72 {σ : S2} {G : Gp} {tl : TL2} {R : Q2} (h : tl σ G fun ds G1 => ∃ nss : List (List Int), ds = nss.map tI ∧ nss.length < 1000 ∧ (∀ ns ∈ nss, ns ≠ []) ∧ ∀ nss' : List (List Int), nss'.Perm nss → nss'.Pairwise (fun a b => ltI b a = false) → R (.tup (nss'.map tI)) G1) : xCallF gTuple (xSortedTF tl) σ G R := h
theorem cat_gg72 {σ : S2} {G : Gp} {ta tb : TE2} {R : List D → Gp → Prop} (h : ta σ G fun x G1 => tb σ G1 fun y G2 => match x, y with | D.adr l, D.adr m => ∃ xs ys, G2.m l = some xs ∧ G2.m m = some ys ∧ xs.length + ys.length ≤ 1000000 ∧ R (xs ++ ys) G2 | _, _ => False) : xCatL ta tb σ G R := h
theorem add_q72 {i j : Int} {G : Gp} {R : Q2} (h : R (.int (i + j)) G) : fAdd (.int i) (.int j) G R := h
def rndL (n : Nat) : List (Nat × Nat) := (List.range (n - 1)).map (fun i => (i, i + 1)) ++ [(0, n - 1)]
theorem rndL_in {n : Nat} (h : 3 ≤ n) : ∀ p ∈ rndL n, p.1 < p.2 ∧ p.2 < n := fun p hp => by
  rcases List.mem_append.mp hp with hp | hp
  · obtain ⟨i, hi, rfl⟩ := List.mem_map.mp hp
    have := List.mem_range.mp hi
    exact ⟨by show i < i + 1; omega, by show i + 1 < n; omega⟩
  · rw [List.mem_singleton.mp hp]
    exact ⟨by show 0 < n - 1; omega, by show n - 1 < n; omega⟩
theorem rndL_nodup {n : Nat} (h : 3 ≤ n) : (rndL n).Nodup := by
  refine List.nodup_append.mpr ⟨?_, by simp, fun a ha b hb e => ?_⟩
  · refine List.Pairwise.map _ (fun a b (x : a ≠ b) => ?_) List.nodup_range
    intro z
    exact x (Prod.mk.inj z).1
  · obtain ⟨i, hi, rfl⟩ := List.mem_map.mp ha
    rw [List.mem_singleton.mp hb] at e
    have := Prod.mk.inj e
    omega
def t_law : TS2 := (xSeq (xForF (iR1 (xCons (xCall spMax (xCons (xC (.int 1)) (xCons (xCall spMin (xCons (xCall spLen (xCons (xVar 0) xNil)) (xCons (xC (.int 4)) xNil))) xNil))) xNil)) (gN 1) (xSeq (xAsg (xNew (xCallL sp_l_state (xCons (xVar 0) (xCons (xVar 1) xNil)))) (gN 2)) (xSeq (xAsg (xOp fAdd (xC (.int 3)) (xCall sp_l_take (xCons (xVar 2) (xCons (xC (.int 6)) xNil)))) (gN 3)) (xSeq (xAsg (xCallF gTuple (xSortedTF (xCatL (xNew (xComp (iR1 (xCons (xOp (fII fun i j => .int (i - j)) (xVar 3) (xC (.int 1))) xNil)) bd1 xYes (xTup (xCons (xVar 8) (xCons (xOp fAdd (xVar 8) (xC (.int 1))) xNil))))) (xNew (xLst (xCons (xTup (xCons (xC (.int 0)) (xCons (xOp (fII fun i j => .int (i - j)) (xVar 3) (xC (.int 1))) xNil))) xNil)))))) (gN 4)) (xSeq (xAsg (xNew (xLst (xCons (xCall sp_l_web (xCons (xVar 2) (xCons (xOp fIx (xNew (xLst (xCons (xC (.int 9)) (xCons (xC (.int 7)) xNil)))) (xCall sp_l_take (xCons (xVar 2) (xCons (xC (.int 2)) xNil)))) xNil))) (xCons (xCall sp_l_web_of (xCons (xCall sp_l_ring (xCons (xVar 2) (xCons (xVar 3) xNil))) xNil)) xNil)))) (gN 5)) (xForF (iF (xCatL (xVar 5) (xNew (xLst (xCons (xTup (xCons (xVar 3) (xCons (xVar 4) xNil))) xNil))))) (gN 6) (xSeq (xAsg (xCall sp_is_whole (xCons (xVar 6) xNil)) (gN 7)) (xIf (xTOr (xTNot (xB (xIsI "bool" (xVar 7)))) (xB (xOp (fEq true) (xVar 7) (xCall sp_l_due72 (xCons (xVar 6) xNil))))) (xRet (xC (.bl false))) xNext)))))))) (xRet (xC (.bl true))))
theorem r_law (ds : List D) (G : Gp) (R : Q2) (h : spLaw ds G R) : ds.length = 1 ∧ t_law (endsOf R) (start2 ["script", "k", "state", "many", "round_of", "some", "web", "found"] ds) G := by
  obtain ⟨a, ns, rfl, ha, _, _, h⟩ := h
  refine ⟨rfl, ?_⟩
  unfold t_law
  rw [show start2 ["script", "k", "state", "many", "round_of", "some", "web", "found"] [.adr a] = [some (.adr a), none, none, none, none, none, none, none] from rfl]
  obtain ⟨mm, hmm⟩ := pu_rounds (σ := [some (.adr a), none, none, none, none, none, none, none]) (G := G) (c := 4) (by omega) rfl (.inr ha)
  refine for_each hmm ?_ ?_
  rotate_left
  · intro G1 e1
    exact ⟨G, e1.sub, h⟩
  intro x hx G1 e1
  obtain ⟨k, _, rfl⟩ := List.mem_map.mp hx
  simp only [gN, List.set_cons_succ, List.set_cons_zero]
  have ha1 : Ls G1 a (ns.map D.int) := e1.ls (.inr ha)
  refine seq_state (i := 0) (j := 1) (x := 2) rfl rfl ha1 fun l s b hl ok => ?_
  simp only [List.set_cons_succ, List.set_cons_zero]
  have st0 : StAt (gset G1 l [.int s, .bl b]) l := ⟨s, b, gset_same, ok⟩
  have sb0 : L3.Sub G1 (gset G1 l [.int s, .bl b]) := .new hl
  generalize gset G1 l [.int s, .bl b] = G2 at st0 sb0
  have drS : ∀ {G G' : Gp}, L3.Sub G1 G → Dr l G G' → L3.Sub G1 G' := fun {G G'} hs hd => by
    obtain ⟨s', b', rfl, _⟩ := hd
    exact hs.put hl
  -- how many
  refine seq_asgG (op_8 (pu_c (d := .int 3) G2 (.refl _) _ (call_l (pu_cons (pu_var (d := .adr l) rfl) (pu_cons (pu_c (d := .int 6)) pu_nil)) ⟨l, 6, rfl, st0, by omega, by omega, fun r0 G3 hr0 d3 => ?_⟩)))
  have st3 := d3.st
  have sb3 := drS sb0 d3
  clear st0 sb0 d3
  obtain ⟨N, hN, N3, N8⟩ : ∃ N : Nat, ((3 : Int) + (r0 : Int)) = (N : Int) ∧ 3 ≤ N ∧ N ≤ 8 := ⟨3 + r0, by omega, by omega, by omega⟩
  refine add_q72 ?_
  rw [hN]
  simp only [gN, List.set_cons_succ, List.set_cons_zero]
  -- a round of them
  have cp := pu_map (σ := [some (.adr a), some (nD k), some (.adr l), some (D.int (N : Int)), none, none, none, none]) (G := G3) (bd := bd1) (te := xTup (xCons (xVar 8) (xCons (xOp fAdd (xVar 8) (xC (.int 1))) xNil))) (fun d => match d with | .int v => .tup [.int v, .int (v + 1)] | _ => .non) (fun d => [d])
    (pu_range1 (t := xCons (xOp (fII fun i j => .int (i - j)) (xVar 3) (xC (.int 1))) xNil) (pu_cons (pu_ii (g := fun i j => .int (i - j)) (pu_var (d := .int (N : Int)) rfl) (pu_c (d := .int 1))) pu_nil) (by omega)) fun x hx => by
      obtain ⟨v, _, rfl⟩ := List.mem_map.mp hx
      exact ⟨rfl, pu_tup (pu_cons (pu_var rfl) (pu_cons (pu_add (pu_var rfl) pu_c) pu_nil)) (by simp)⟩
  have ecp : List.map (fun d => match d with | D.int v => D.tup [.int v, .int (v + 1)] | _ => .non) (rangeD 0 ((N : Int) - 1).toNat) = ((List.range (N - 1)).map fun i => (i, i + 1)).map prD := by
    rw [show ((N : Int) - 1).toNat = N - 1 by omega]
    unfold rangeD
    rw [List.map_map, List.map_map]
    refine List.map_congr_left fun i _ => ?_
    show D.tup [.int (0 + (i : Int)), .int (0 + (i : Int) + 1)] = D.tup [.int (i : Int), .int ((i + 1 : Nat) : Int)]
    rw [Int.zero_add]; rfl
  rw [ecp] at cp
  refine seq_asgG (srtG72 (cat_gg72 (new_l cp fun f1 hf1 => new_l (ds := [(0, N - 1)].map prD) (fun G2 e R q => lst_l (pu_cons (d := prD (0, N - 1)) (pu_tup (pu_cons (d := nD 0) pu_c (pu_cons (d := nD (N - 1)) (by
    have := pu_ii (g := fun i j => .int (i - j)) (pu_var (σ := [some (.adr a), some (nD k), some (.adr l), some (D.int (N : Int)), none, none, none, none]) (G := gset G3 f1 (((List.range (N - 1)).map fun i => (i, i + 1)).map prD)) (i := 3) (d := .int (N : Int)) rfl) (pu_c (d := .int 1))
    rw [show ((N : Int) - 1) = ((N - 1 : Nat) : Int) by omega] at this
    exact this) pu_nil)) (by simp)) pu_nil G2 e _ ⟨by rw [sizeLine_eq]; simp, q⟩)) fun f2 hf2 => ?_)))
  have n12 : f1 ≠ f2 := fun z => by rw [← z, gset_same] at hf2; cases hf2
  refine ⟨_, _, by rw [gset_ne n12]; exact gset_same, gset_same, by simp only [List.length_map, List.length_range, List.length_cons, List.length_nil]; omega, ?_⟩
  rw [← List.map_append]
  refine ⟨(rndL N).map pI, map_pI _, by have := list_len (rndL_nodup N3) (rndL_in N3) (by omega); rw [List.length_map]; omega, ne_pI, fun m pm hm => ?_⟩
  rw [sorted_web (rndL_nodup N3) (rndL_in N3) pm hm, ← map_pI]
  have sb4 : L3.Sub G1 (gset (gset G3 f1 (((List.range (N - 1)).map fun i => (i, i + 1)).map prD)) f2 ([(0, N - 1)].map prD)) := (sb3.trans (.new hf1)).trans (.new hf2)
  have st4 : StAt (gset (gset G3 f1 (((List.range (N - 1)).map fun i => (i, i + 1)).map prD)) f2 ([(0, N - 1)].map prD)) l := (st3.ext (.new hf1)).ext (.new hf2)
  generalize gset (gset G3 f1 (((List.range (N - 1)).map fun i => (i, i + 1)).map prD)) f2 ([(0, N - 1)].map prD) = G4 at sb4 st4
  clear cp ecp pm hm hf1 hf2 sb3 st3 n12
  generalize hq3 : (fun p => decide (p ∈ rndL N)) = q3
  simp only [gN, List.set_cons_succ, List.set_cons_zero]
  -- the webs
  refine seq_asgG (new_8 (lst_l (cons_g (call_g72 (cons_l (pu_var (d := .adr l) rfl) (cons_g (op_8 (new_l (ds := [9, 7].map nD) (fun G2 e R q => lst_l (pu_cons pu_c (pu_cons pu_c pu_nil) G2 e _ ⟨by rw [sizeLine_eq]; simp, q⟩)) fun c0 hc0 => call_l (pu_cons (pu_var (d := .adr l) rfl) (pu_cons (pu_c (d := .int 2)) pu_nil)) ⟨l, 2, rfl, st4.ext (.new hc0), by omega, by omega, fun t0 G5 ht0 d5 => ?_⟩))))))))
  have c0l : c0 ≠ l := st4.ne hc0
  have m5 : G5.m c0 = some ([9, 7].map nD) := by rw [d5.ne c0l]; exact gset_same
  have sb5 : L3.Sub G1 G5 := drS (sb4.trans (.new hc0)) d5
  have st5 := d5.st
  have hw0 : ∃ mo, atI ([9, 7].map nD) (t0 : Int) = some (nD mo) ∧ 1 ≤ mo ∧ mo ≤ 9 := by
    match t0, ht0 with
    | 0, _ => exact ⟨9, rfl, by omega, by omega⟩
    | 1, _ => exact ⟨7, rfl, by omega, by omega⟩
  obtain ⟨mo, hw0, mo1, mo9⟩ := hw0
  refine ix_own m5 hw0 (nil_l ⟨l, mo, rfl, st5, by omega, by omega, fun n1 q1 G6 h1 h19 d6 => cons_g (call_g72 (cons_g (call_l (pu_cons (pu_var (d := .adr l) rfl) (pu_cons (pu_var (d := nD N) rfl) pu_nil)) ⟨l, N, rfl, d6.st, by omega, fun r G7 hr d7 => nil_l ⟨N, r, rfl, hr, by omega, nil_l ⟨by rw [sizeLine_eq]; simp, fun c2 hc2 => ?_⟩⟩⟩)))⟩)
  have sb8 : L3.Sub G1 (gset G7 c2 [webD n1 q1, webD N (crossL r)]) := (drS (drS sb5 d6) d7).trans (.new hc2)
  have m8 : (gset G7 c2 [webD n1 q1, webD N (crossL r)]).m c2 = some [webD n1 q1, webD N (crossL r)] := gset_same
  generalize gset G7 c2 [webD n1 q1, webD N (crossL r)] = G8 at sb8 m8
  clear m5 hw0 d5 d6 d7 st5 sb5 hc0 c0l sb4 st4 hc2
  simp only [gN, List.set_cons_succ, List.set_cons_zero]
  refine for_in (if_l (cat_8 (pu_var (i := 5) (d := .adr c2) rfl) (new_l (ds := [webD N q3]) (fun G2 e R q' => lst_l (pu_cons (d := webD N q3) (pu_tup (pu_cons (d := nD N) (pu_var rfl) (pu_cons (d := .tup (((prs N).filter q3).map prD)) (pu_var (by rw [← hq3]; rfl)) pu_nil)) (by simp)) pu_nil G2 e _ ⟨by rw [sizeLine_eq]; simp, q'⟩)) fun f4 hf4 => ?_)))
  have n34 : c2 ≠ f4 := fun z => by rw [← z, m8] at hf4; cases hf4
  refine ⟨_, _, by rw [gset_ne n34]; exact m8, gset_same, by simp, fun f5 hf5 => ?_⟩
  refine for_eachR .own (fun x hx => ?_) ⟨.keep (.skip (.skip (.skip (.skip (.skip (.skip (.skip .nil))))))), (sb8.trans (.new hf4)).trans (.new hf5)⟩
  have hxr : ∃ n q, x = webD n q ∧ 1 ≤ n ∧ n ≤ 9 := by
    simp only [List.cons_append, List.nil_append, List.mem_cons, List.not_mem_nil, or_false] at hx
    rcases hx with rfl | rfl | rfl
    · exact ⟨n1, q1, rfl, h1, by omega⟩
    · exact ⟨N, _, rfl, by omega, by omega⟩
    · exact ⟨N, q3, rfl, by omega, by omega⟩
  obtain ⟨n, q, rfl, n1', n9⟩ := hxr
  simp only [gN, List.set_cons_succ, List.set_cons_zero]
  refine seq_asg (d := .bl (dueB n q)) (pu_call (pu_cons (pu_var rfl) pu_nil) fun _ _ _ q' => ⟨n, q, rfl, n1', n9, q'⟩) ?_
  simp only [gN, List.set_cons_succ, List.set_cons_zero]
  refine if_no (pu_or2 (pu_notI (d := .bl (dueB n q)) (pu_var rfl) rfl) (pu_b (pu_neSame (x := .bl (dueB n q)) (pu_var rfl) (pu_call (pu_cons (pu_var rfl) pu_nil) fun _ _ _ q' => ⟨n, q, rfl, n1', n9, q'⟩) rfl))) ?_
  exact ⟨.keep (.keep (.keep (.keep (.keep (.keep (.skip (.skip .nil))))))), .refl _⟩
end K
set_option Elab.async false
set_option linter.all false
set_option maxRecDepth 100000
set_option maxHeartbeats 4000000
namespace K
open PySem PySem.Spec PyProof.Rows L2 L3
def top (i : Nat) : Stmt := PySem.Challenge.pw_chordwebs_k72_whole_ones.main.body.getD i (.Pass ⟨0, 0, 0, 0⟩)
abbrev s_is_number : Stmt := top 1
theorem sc_is_number : FnScope ["thing"] ["thing"] (defScope s_is_number) := ⟨rfl, rfl, rfl, by decide +kernel, rfl, by decide +kernel, by decide +kernel⟩
abbrev s_are_places : Stmt := top 2
theorem sc_are_places : FnScope ["many", "thing"] ["many", "thing"] (defScope s_are_places) := ⟨rfl, rfl, rfl, by decide +kernel, rfl, by decide +kernel, by decide +kernel⟩
abbrev s_is_risingN : Stmt := top 3
theorem sc_is_risingN : FnScope ["things"] ["things"] (defScope s_is_risingN) := ⟨rfl, rfl, rfl, by decide +kernel, rfl, by decide +kernel, by decide +kernel⟩
abbrev s_tied : Stmt := top 5
theorem sc_tied : FnScope ["web", "one", "other"] ["web", "one", "other"] (defScope s_tied) := ⟨rfl, rfl, rfl, by decide +kernel, rfl, by decide +kernel, by decide +kernel⟩
abbrev s_other_side : Stmt := top 7
theorem sc_other_side : FnScope ["web", "places"] ["web", "places"] (defScope s_other_side) := ⟨rfl, rfl, rfl, by decide +kernel, rfl, by decide +kernel, by decide +kernel⟩
abbrev s_cut_rank : Stmt := top 8
theorem sc_cut_rank : FnScope ["web", "places", "others", "free", "place", "rest", "row"] ["web", "places"] (defScope s_cut_rank) := ⟨rfl, rfl, rfl, by decide +kernel, rfl, by decide +kernel, by decide +kernel⟩
abbrev s_row_of : Stmt := top 9
theorem sc_row_of : FnScope ["web", "place", "others"] ["web", "place", "others"] (defScope s_row_of) := ⟨rfl, rfl, rfl, by decide +kernel, rfl, by decide +kernel, by decide +kernel⟩
abbrev s_is_split : Stmt := top 10
theorem sc_is_split : FnScope ["web", "places"] ["web", "places"] (defScope s_is_split) := ⟨rfl, rfl, rfl, by decide +kernel, rfl, by decide +kernel, by decide +kernel⟩
abbrev s_splits : Stmt := top 11
theorem sc_splits : FnScope ["web", "sides", "place"] ["web"] (defScope s_splits) := ⟨rfl, rfl, rfl, by decide +kernel, rfl, by decide +kernel, by decide +kernel⟩
abbrev s_is_whole : Stmt := top 14
theorem sc_is_whole : FnScope ["web"] ["web"] (defScope s_is_whole) := ⟨rfl, rfl, rfl, by decide +kernel, rfl, by decide +kernel, by decide +kernel⟩
abbrev s_l_cell_at : Stmt := top 16
theorem sc_l_cell_at : FnScope ["script", "k"] ["script", "k"] (defScope s_l_cell_at) := ⟨rfl, rfl, rfl, by decide +kernel, rfl, by decide +kernel, by decide +kernel⟩
abbrev s_l_state : Stmt := top 17
theorem sc_l_state : FnScope ["script", "k", "cell"] ["script", "k"] (defScope s_l_state) := ⟨rfl, rfl, rfl, by decide +kernel, rfl, by decide +kernel, by decide +kernel⟩
abbrev s_l_take : Stmt := top 18
theorem sc_l_take : FnScope ["state", "many", "found", "mixed"] ["state", "many"] (defScope s_l_take) := ⟨rfl, rfl, rfl, by decide +kernel, rfl, by decide +kernel, by decide +kernel⟩
abbrev s_l_pairs : Stmt := top 19
theorem sc_l_pairs : FnScope ["many", "found", "one"] ["many"] (defScope s_l_pairs) := ⟨rfl, rfl, rfl, by decide +kernel, rfl, by decide +kernel, by decide +kernel⟩
abbrev s_l_web : Stmt := top 20
theorem sc_l_web : FnScope ["state", "most", "many", "way", "pairs", "far"] ["state", "most"] (defScope s_l_web) := ⟨rfl, rfl, rfl, by decide +kernel, rfl, by decide +kernel, by decide +kernel⟩
abbrev s_l_ring : Stmt := top 21
theorem sc_l_ring : FnScope ["state", "many", "left"] ["state", "many"] (defScope s_l_ring) := ⟨rfl, rfl, rfl, by decide +kernel, rfl, by decide +kernel, by decide +kernel⟩
abbrev s_l_web_of : Stmt := top 22
theorem sc_l_web_of : FnScope ["ring", "many", "found", "one", "other", "some"] ["ring"] (defScope s_l_web_of) := ⟨rfl, rfl, rfl, by decide +kernel, rfl, by decide +kernel, by decide +kernel⟩
abbrev s_l_around : Stmt := top 23
theorem sc_l_around : FnScope ["web", "place"] ["web", "place"] (defScope s_l_around) := ⟨rfl, rfl, rfl, by decide +kernel, rfl, by decide +kernel, by decide +kernel⟩
abbrev s_l_rank_one : Stmt := top 24
theorem sc_l_rank_one : FnScope ["web", "side", "rows", "place", "row"] ["web", "side"] (defScope s_l_rank_one) := ⟨rfl, rfl, rfl, by decide +kernel, rfl, by decide +kernel, by decide +kernel⟩
abbrev s_l_due72 : Stmt := top 25
theorem sc_l_due72 : FnScope ["web", "many", "number", "side", "place"] ["web"] (defScope s_l_due72) := ⟨rfl, rfl, rfl, by decide +kernel, rfl, by decide +kernel, by decide +kernel⟩
abbrev s_law : Stmt := top 26
theorem sc_law : FnScope ["script", "k", "state", "many", "round_of", "some", "web", "found"] ["script"] (defScope s_law) := ⟨rfl, rfl, rfl, by decide +kernel, rfl, by decide +kernel, by decide +kernel⟩
section
variable {P : Program} {w : World} {K : PySem.W.Frag} {mg : Str → Option Value} {base : Heap}
theorem ok_is_number {f : Addr} {fd : FuncData} (F : Fun K "is_number" "is_number" s_is_number f fd) (hm : mg "is_number" = some (.ref f)) (b_isinstance : mg "isinstance" = none) (b_int : mg "int" = none) (b_bool : mg "bool" = none)    : Df P w K mg base 1 "is_number" ["thing"] sp_is_number := by
  have nd := (sc_is_number).nd
  refine df_mk2 t_is_number F sc_is_number hm (F.binds fun _ _ _ _ _ _ us hl => match us, hl with | [_], _ => rfl) (fun cdv A outer s H E hr => ?_) r_is_number
  unfold t_is_number
  exact (ps_one (p_ret (e_and (e_isI (T := "int") rfl b_isinstance rfl b_int (by decide +kernel) (e_var 0)) (e_one (e_not (e_isI (T := "bool") rfl b_isinstance rfl b_bool (by decide +kernel) (e_var 0)))))))
theorem ok_are_places {f : Addr} {fd : FuncData} (F : Fun K "are_places" "are_places" s_are_places f fd) (hm : mg "are_places" = some (.ref f)) (b_isinstance : mg "isinstance" = none) (b_tuple : mg "tuple" = none) (b_all : mg "all" = none)    (D_is_number : Df P w K mg base 1 "is_number" ["thing"] sp_is_number) : Df P w K mg base 2 "are_places" ["many", "thing"] sp_are_places := by
  have nd := (sc_are_places).nd
  refine df_mk2 t_are_places F sc_are_places hm (F.binds fun _ _ _ _ _ _ us hl => match us, hl with | [_, _], _ => rfl) (fun cdv A outer s H E hr => ?_) r_are_places
  unfold t_are_places
  exact (ps_one (p_ret (e_and (e_isI (T := "tuple") rfl b_isinstance rfl b_tuple (by decide +kernel) (e_var 1)) (e_one (e_all rfl rfl b_all (f_c1 "place" rfl (compT_of (osc := defScope s_are_places) (N := ["many", "thing"]) (N0 := ["many", "!01"]) (own := ["place"]) (by decide +kernel)) (i_val (e_var 1)) (fun _ _ _ _ _ => ts_nil) (fun _ _ _ _ _ => (e_and (e_call D_is_number hr (by decide) rfl (a_cons (e_var 2) a_nil)) (e_one (e_ch2 op_le op_lt (fit_ii fun _ _ => ⟨rfl, rfl⟩) (fit_ii fun _ _ => ⟨rfl, rfl⟩) e_int (e_var 2) (e_var 0)))))))))))
theorem ok_is_risingN {f : Addr} {fd : FuncData} (F : Fun K "is_rising" "is_rising" s_is_risingN f fd) (hm : mg "is_rising" = some (.ref f)) (b_all : mg "all" = none) (b_range : mg "range" = none) (b_len : mg "len" = none)    : Df P w K mg base 1 "is_rising" ["things"] sp_is_risingN := by
  have nd := (sc_is_risingN).nd
  refine df_mk2 t_is_risingN F sc_is_risingN hm (F.binds fun _ _ _ _ _ _ us hl => match us, hl with | [_], _ => rfl) (fun cdv A outer s H E hr => ?_) r_is_risingN
  unfold t_is_risingN
  exact (ps_one (p_ret (e_all rfl rfl b_all (f_c1 "k" rfl (compT_of (osc := defScope s_is_risingN) (N := ["things"]) (N0 := ["things"]) (own := ["k"]) (by decide +kernel)) (i_range1 rfl b_range (a_cons (e_sub (e_len rfl b_len (a_cons (e_var 0) a_nil)) e_int) a_nil)) (fun _ _ _ _ _ => ts_nil) (fun _ _ _ _ _ => (e_lt (e_ix (e_var 0) (e_var 1)) (e_ix (e_var 0) (e_add (e_var 1) e_int))))))))
theorem ok_tied {f : Addr} {fd : FuncData} (F : Fun K "tied" "tied" s_tied f fd) (hm : mg "tied" = some (.ref f)) (b_min : mg "min" = none) (b_max : mg "max" = none)    : Df P w K mg base 1 "tied" ["web", "one", "other"] sp_tied := by
  have nd := (sc_tied).nd
  refine df_mk2 t_tied F sc_tied hm (F.binds fun _ _ _ _ _ _ us hl => match us, hl with | [_, _, _], _ => rfl) (fun cdv A outer s H E hr => ?_) r_tied
  unfold t_tied
  exact (ps_one (p_ret (e_in hr (e_tup (a_cons (e_min rfl rfl b_min (a_cons (e_var 1) (a_cons (e_var 2) a_nil))) (a_cons (e_max rfl rfl b_max (a_cons (e_var 1) (a_cons (e_var 2) a_nil))) a_nil))) (e_ix (e_var 0) e_int))))
theorem ok_other_side {f : Addr} {fd : FuncData} (F : Fun K "other_side" "other_side" s_other_side f fd) (hm : mg "other_side" = some (.ref f)) (b_tuple : mg "tuple" = none) (b_range : mg "range" = none)    : Df P w K mg base 1 "other_side" ["web", "places"] sp_other_side := by
  have nd := (sc_other_side).nd
  refine df_mk2 t_other_side F sc_other_side hm (F.binds fun _ _ _ _ _ _ us hl => match us, hl with | [_, _], _ => rfl) (fun cdv A outer s H E hr => ?_) r_other_side
  unfold t_other_side
  exact (ps_one (p_ret (e_tupF rfl b_tuple (f_c1 "place" rfl (compT_of (osc := defScope s_other_side) (N := ["web", "places"]) (N0 := ["!00", "places"]) (own := ["place"]) (by decide +kernel)) (i_range1 rfl b_range (a_cons (e_ix (e_var 0) e_int) a_nil)) (fun _ _ _ _ _ => (ts_one (t_notIn hr (e_var 2) (e_var 1)))) (fun _ _ _ _ _ => (e_var 2))))))
theorem ok_cut_rank {f : Addr} {fd : FuncData} (F : Fun K "cut_rank" "cut_rank" s_cut_rank f fd) (hm : mg "cut_rank" = some (.ref f)) (b_min : mg "min" = none) (b_len : mg "len" = none)    (D_other_side : Df P w K mg base 1 "other_side" ["web", "places"] sp_other_side) (D_row_of : Df P w K mg base 2 "row_of" ["web", "place", "others"] sp_row_of) : Df P w K mg base 3 "cut_rank" ["web", "places"] sp_cut_rank := by
  have nd := (sc_cut_rank).nd
  refine df_mk2 t_cut_rank F sc_cut_rank hm (F.binds fun _ _ _ _ _ _ us hl => match us, hl with | [_, _], _ => rfl) (fun cdv A outer s H E hr => ?_) r_cut_rank
  unfold t_cut_rank
  exact (ps_cons (p_set 2 nd (e_call D_other_side hr (by decide) rfl (a_cons (e_var 0) (a_cons (e_var 1) a_nil)))) (ps_cons (p_set 3 nd (e_new (f_lst a_nil))) (ps_cons (p_forF PassesOwn.never rfl (i_val (e_var 1)) (g_name 4 nd) (ps_cons (p_set 5 nd (e_call D_row_of hr (by decide) rfl (a_cons (e_var 0) (a_cons (e_var 4) (a_cons (e_var 2) a_nil))))) (ps_cons (p_forF PassesOwn.never rfl (i_val (e_var 3)) (g_name 6 nd) (ps_one (p_set 5 nd (e_min rfl rfl b_min (a_cons (e_var 5) (a_cons (e_xor (e_var 5) (e_var 6)) a_nil)))))) (ps_one (p_if (t_ne hr (e_var 5) e_int) (ps_one (p_expr (e_append (e_var 3) (a_cons (e_var 5) a_nil)))) ps_nil))))) (ps_one (p_ret (e_len rfl b_len (a_cons (e_var 3) a_nil)))))))
theorem ok_row_of {f : Addr} {fd : FuncData} (F : Fun K "row_of" "row_of" s_row_of f fd) (hm : mg "row_of" = some (.ref f)) (b_sum : mg "sum" = none)    (D_tied : Df P w K mg base 1 "tied" ["web", "one", "other"] sp_tied) : Df P w K mg base 2 "row_of" ["web", "place", "others"] sp_row_of := by
  have nd := (sc_row_of).nd
  refine df_mk2 t_row_of F sc_row_of hm (F.binds fun _ _ _ _ _ _ us hl => match us, hl with | [_, _, _], _ => rfl) (fun cdv A outer s H E hr => ?_) r_row_of
  unfold t_row_of
  exact (ps_one (p_ret (e_sumLI rfl rfl b_sum (f_c1 "other" rfl (compT_of (osc := defScope s_row_of) (N := ["web", "place", "others"]) (N0 := ["web", "place", "!02"]) (own := ["other"]) (by decide +kernel)) (i_val (e_var 2)) (fun _ _ _ _ _ => (ts_one (t_val (e_call D_tied hr (by decide) rfl (a_cons (e_var 0) (a_cons (e_var 1) (a_cons (e_var 3) a_nil))))))) (fun _ _ _ _ _ => (e_shl e_int (e_var 3)))))))
theorem ok_is_split {f : Addr} {fd : FuncData} (F : Fun K "is_split" "is_split" s_is_split f fd) (hm : mg "is_split" = some (.ref f)) (b_len : mg "len" = none)    (D_are_places : Df P w K mg base 2 "are_places" ["many", "thing"] sp_are_places) (D_is_risingN : Df P w K mg base 1 "is_rising" ["things"] sp_is_risingN) (D_cut_rank : Df P w K mg base 3 "cut_rank" ["web", "places"] sp_cut_rank) : Df P w K mg base 4 "is_split" ["web", "places"] sp_is_split := by
  have nd := (sc_is_split).nd
  refine df_mk2 t_is_split F sc_is_split hm (F.binds fun _ _ _ _ _ _ us hl => match us, hl with | [_, _], _ => rfl) (fun cdv A outer s H E hr => ?_) r_is_split
  unfold t_is_split
  exact (ps_cons (p_if (W2.test (w_or (t_not (t_val (e_call D_are_places hr (by decide) rfl (a_cons (e_ix (e_var 0) e_int) (a_cons (e_var 1) a_nil))))) (w_or1 (t_not (t_val (e_call D_is_risingN hr (by decide) rfl (a_cons (e_var 1) a_nil))))))) (ps_one (p_ret e_bl)) ps_nil) (ps_one (p_ret (e_and (e_ch2 op_le op_le (fit_ii fun _ _ => ⟨rfl, rfl⟩) (fit_ii fun _ _ => ⟨rfl, rfl⟩) e_int (e_len rfl b_len (a_cons (e_var 1) a_nil)) (e_sub (e_ix (e_var 0) e_int) e_int)) (e_one (e_le (e_call D_cut_rank hr (by decide) rfl (a_cons (e_var 0) (a_cons (e_var 1) a_nil))) e_int))))))
theorem ok_splits {f : Addr} {fd : FuncData} (F : Fun K "splits" "splits" s_splits f fd) (hm : mg "splits" = some (.ref f)) (b_range : mg "range" = none) (b_sorted : mg "sorted" = none)    (D_is_split : Df P w K mg base 4 "is_split" ["web", "places"] sp_is_split) : Df P w K mg base 5 "splits" ["web"] (spL sp_splits) := by
  have nd := (sc_splits).nd
  refine df_mk2 t_splits F sc_splits hm (F.binds fun _ _ _ _ _ _ us hl => match us, hl with | [_], _ => rfl) (fun cdv A outer s H E hr => ?_) r_splits
  unfold t_splits
  exact (ps_cons (p_set 1 nd (e_new (f_lst (a_cons (e_tup (a_cons e_int a_nil)) a_nil)))) (ps_cons (p_forF PassesOwn.never rfl (i_range2 rfl b_range (a_cons e_int (a_cons (e_ix (e_var 0) e_int) a_nil))) (g_name 2 nd) (ps_one (p_set 1 nd (e_new (f_cat (e_var 1) (e_new (f_c1 "side" rfl (compT_of (osc := defScope s_splits) (N := ["web", "sides", "place"]) (N0 := ["!00", "!01", "place"]) (own := ["side"]) (by decide +kernel)) (i_val (e_var 1)) (fun _ _ _ _ _ => ts_nil) (fun _ _ _ _ _ => (e_add (e_var 3) (e_tup (a_cons (e_var 2) a_nil))))))))))) (ps_one (p_ret (e_new (f_sortedTF rfl b_sorted (f_c1 "side" rfl (compT_of (osc := defScope s_splits) (N := ["web", "sides", "place"]) (N0 := ["web", "!01", "!02"]) (own := ["side"]) (by decide +kernel)) (i_val (e_var 1)) (fun _ _ _ _ _ => (ts_one (t_val (e_call D_is_split hr (by decide) rfl (a_cons (e_var 0) (a_cons (e_var 3) a_nil)))))) (fun _ _ _ _ _ => (e_var 3)))))))))
theorem ok_is_whole {f : Addr} {fd : FuncData} (F : Fun K "is_whole" "is_whole" s_is_whole f fd) (hm : mg "is_whole" = some (.ref f))  {gt_FEWEST_WHOLE : Tok} (g_FEWEST_WHOLE : mg "FEWEST_WHOLE" = some (.int 5 gt_FEWEST_WHOLE))   (D_splits : Df P w K mg base 5 "splits" ["web"] (spL sp_splits)) : Df P w K mg base 6 "is_whole" ["web"] sp_is_whole := by
  have nd := (sc_is_whole).nd
  refine df_mk2 t_is_whole F sc_is_whole hm (F.binds fun _ _ _ _ _ _ us hl => match us, hl with | [_], _ => rfl) (fun cdv A outer s H E hr => ?_) r_is_whole
  unfold t_is_whole
  exact (ps_one (p_ret (e_and (e_ge (e_ix (e_var 0) e_int) (e_globI rfl g_FEWEST_WHOLE)) (e_one (e_eq hr (e_new (f_call D_splits mono_splits hr (by decide) rfl (a_cons (e_var 0) a_nil))) (e_new (f_lst a_nil)))))))
theorem ok_l_cell_at {f : Addr} {fd : FuncData} (F : Fun K "_law_cell_at" "_law_cell_at" s_l_cell_at f fd) (hm : mg "_law_cell_at" = some (.ref f)) (b_len : mg "len" = none)    : Df P w K mg base 1 "_law_cell_at" ["script", "k"] sp_l_cell_at := by
  have nd := (sc_l_cell_at).nd
  refine df_mk2 t_l_cell_at F sc_l_cell_at hm (F.binds fun _ _ _ _ _ _ us hl => match us, hl with | [_, _], _ => rfl) (fun cdv A outer s H E hr => ?_) r_l_cell_at
  unfold t_l_cell_at
  exact (ps_cons (p_if (t_lt (e_var 1) (e_len rfl b_len (a_cons (e_var 0) a_nil))) (ps_one (p_ret (e_ix (e_var 0) (e_var 1)))) ps_nil) (ps_one (p_ret e_int)))
theorem ok_l_state {f : Addr} {fd : FuncData} (F : Fun K "_law_state" "_law_state" s_l_state f fd) (hm : mg "_law_state" = some (.ref f))     (D_l_cell_at : Df P w K mg base 1 "_law_cell_at" ["script", "k"] sp_l_cell_at) : Df P w K mg base 2 "_law_state" ["script", "k"] (spL sp_l_state) := by
  have nd := (sc_l_state).nd
  refine df_mk2 t_l_state F sc_l_state hm (F.binds fun _ _ _ _ _ _ us hl => match us, hl with | [_, _], _ => rfl) (fun cdv A outer s H E hr => ?_) r_l_state
  unfold t_l_state
  exact (ps_cons (p_set 2 nd (e_call D_l_cell_at hr (by decide) rfl (a_cons (e_var 0) (a_cons (e_var 1) a_nil)))) (ps_cons (p_if (t_ge (e_var 2) (e_pow e_int e_int)) (ps_one (p_ret (e_new (f_lst (a_cons (e_sub (e_var 2) (e_pow e_int e_int)) (a_cons e_bl a_nil)))))) ps_nil) (ps_one (p_ret (e_new (f_lst (a_cons (e_mod (e_var 2) e_int) (a_cons e_bl a_nil))))))))
theorem ok_l_take {f : Addr} {fd : FuncData} (F : Fun K "_law_take" "_law_take" s_l_take f fd) (hm : mg "_law_take" = some (.ref f))     : Df P w K mg base 1 "_law_take" ["state", "many"] sp_l_take := by
  have nd := (sc_l_take).nd
  refine df_mk2 t_l_take F sc_l_take hm (F.binds fun _ _ _ _ _ _ us hl => match us, hl with | [_, _], _ => rfl) (fun cdv A outer s H E hr => ?_) r_l_take
  unfold t_l_take
  exact (ps_cons (p_if (t_val (e_ix (e_var 0) e_int)) (ps_cons (p_set 2 nd (e_mod (e_ix (e_var 0) e_int) (e_var 1))) (ps_cons (p_asg (e_fdiv (e_ix (e_var 0) e_int) (e_var 1)) (g_ix (e_var 0) e_int)) (ps_one (p_ret (e_var 2))))) ps_nil) (ps_cons (p_asg (e_mod (e_add (e_mulI (e_ix (e_var 0) e_int) e_int) e_int) e_int) (g_ix (e_var 0) e_int)) (ps_cons (p_set 3 nd (e_mod (e_add (e_add (e_mulI (e_ix (e_var 0) e_int) (e_ix (e_var 0) e_int)) (e_mulI e_int (e_ix (e_var 0) e_int))) e_int) e_int)) (ps_cons (p_set 3 nd (e_mod (e_add (e_mulI (e_var 3) (e_var 3)) (e_mulI e_int (e_var 3))) e_int)) (ps_one (p_ret (e_mod (e_fdiv (e_var 3) e_int) (e_var 1))))))))
theorem ok_l_pairs {f : Addr} {fd : FuncData} (F : Fun K "_law_pairs" "_law_pairs" s_l_pairs f fd) (hm : mg "_law_pairs" = some (.ref f)) (b_range : mg "range" = none)    : Df P w K mg base 1 "_law_pairs" ["many"] (spL sp_l_pairs) := by
  have nd := (sc_l_pairs).nd
  refine df_mk2 t_l_pairs F sc_l_pairs hm (F.binds fun _ _ _ _ _ _ us hl => match us, hl with | [_], _ => rfl) (fun cdv A outer s H E hr => ?_) r_l_pairs
  unfold t_l_pairs
  exact (ps_cons (p_set 1 nd (e_new (f_lst a_nil))) (ps_cons (p_forF PassesOwn.never rfl (i_range1 rfl b_range (a_cons (e_var 0) a_nil)) (g_name 2 nd) (ps_one (p_expr (e_extend (e_var 1) (f_c1 "other" rfl (compT_of (osc := defScope s_l_pairs) (N := ["many", "found", "one"]) (N0 := ["!00", "!01", "one"]) (own := ["other"]) (by decide +kernel)) (i_range2 rfl b_range (a_cons (e_add (e_var 2) e_int) (a_cons (e_var 0) a_nil))) (fun _ _ _ _ _ => ts_nil) (fun _ _ _ _ _ => (e_tup (a_cons (e_var 2) (a_cons (e_var 3) a_nil))))))))) (ps_one (p_ret (e_var 1)))))
theorem ok_l_web {f : Addr} {fd : FuncData} (F : Fun K "_law_web" "_law_web" s_l_web f fd) (hm : mg "_law_web" = some (.ref f)) (b_tuple : mg "tuple" = none)    (D_l_take : Df P w K mg base 1 "_law_take" ["state", "many"] sp_l_take) (D_l_pairs : Df P w K mg base 1 "_law_pairs" ["many"] (spL sp_l_pairs)) (D_l_ring : Df P w K mg base 2 "_law_ring" ["state", "many"] sp_l_ring) (D_l_web_of : Df P w K mg base 2 "_law_web_of" ["ring"] sp_l_web_of) : Df P w K mg base 3 "_law_web" ["state", "most"] sp_l_web := by
  have nd := (sc_l_web).nd
  refine df_mk2 t_l_web F sc_l_web hm (F.binds fun _ _ _ _ _ _ us hl => match us, hl with | [_, _], _ => rfl) (fun cdv A outer s H E hr => ?_) r_l_web
  unfold t_l_web
  exact (ps_cons (p_set 2 nd (e_add e_int (e_call D_l_take hr (by decide) rfl (a_cons (e_var 0) (a_cons (e_var 1) a_nil))))) (ps_cons (p_set 3 nd (e_call D_l_take hr (by decide) rfl (a_cons (e_var 0) (a_cons e_int a_nil)))) (ps_cons (p_set 4 nd (e_new (f_call D_l_pairs mono_l_pairs hr (by decide) rfl (a_cons (e_var 2) a_nil)))) (ps_cons (p_if (t_eq hr (e_var 3) e_int) (ps_one (p_ret (e_call D_l_web_of hr (by decide) rfl (a_cons (e_call D_l_ring hr (by decide) rfl (a_cons (e_var 0) (a_cons (e_var 2) a_nil))) a_nil)))) ps_nil) (ps_cons (p_if (t_eq hr (e_var 3) e_int) (ps_one (p_ret (e_tup (a_cons (e_var 2) (a_cons (e_tupF rfl b_tuple (f_c1 "pair" rfl (compT_of (osc := defScope s_l_web) (N := ["state", "most", "many", "way", "pairs", "far"]) (N0 := ["state", "!01", "!02", "!03", "!04", "!05"]) (own := ["pair"]) (by decide +kernel)) (i_val (e_var 4)) (fun _ _ _ _ _ => (ts_one (W2.test (w_or (t_eq hr (e_ix (e_var 6) e_int) (e_add (e_ix (e_var 6) e_int) e_int)) (w_or1 (t_eq hr (e_call D_l_take hr (by decide) rfl (a_cons (e_var 0) (a_cons e_int a_nil))) e_int)))))) (fun _ _ _ _ _ => (e_var 6)))) a_nil))))) ps_nil) (ps_cons (p_set 5 nd (e_ix (e_new (f_lst (a_cons e_int (a_cons e_int (a_cons e_int a_nil))))) (e_sub (e_var 3) e_int))) (ps_one (p_ret (e_tup (a_cons (e_var 2) (a_cons (e_tupF rfl b_tuple (f_c1 "pair" rfl (compT_of (osc := defScope s_l_web) (N := ["state", "most", "many", "way", "pairs", "far"]) (N0 := ["state", "!01", "!02", "!03", "!04", "far"]) (own := ["pair"]) (by decide +kernel)) (i_val (e_var 4)) (fun _ _ _ _ _ => (ts_one (t_eq hr (e_call D_l_take hr (by decide) rfl (a_cons (e_var 0) (a_cons (e_var 5) a_nil))) e_int))) (fun _ _ _ _ _ => (e_var 6)))) a_nil)))))))))))
theorem ok_l_ring {f : Addr} {fd : FuncData} (F : Fun K "_law_ring" "_law_ring" s_l_ring f fd) (hm : mg "_law_ring" = some (.ref f)) (b_list : mg "list" = none) (b_range : mg "range" = none) (b_tuple : mg "tuple" = none) (b_len : mg "len" = none)    (D_l_take : Df P w K mg base 1 "_law_take" ["state", "many"] sp_l_take) : Df P w K mg base 2 "_law_ring" ["state", "many"] sp_l_ring := by
  have nd := (sc_l_ring).nd
  refine df_mk2 t_l_ring F sc_l_ring hm (F.binds fun _ _ _ _ _ _ us hl => match us, hl with | [_, _], _ => rfl) (fun cdv A outer s H E hr => ?_) r_l_ring
  unfold t_l_ring
  exact (ps_cons (p_set 2 nd (e_new (f_rep (e_new (f_listR rfl rfl b_list rfl b_range (a_cons (e_var 1) a_nil))) e_int))) (ps_one (p_ret (e_tupF rfl b_tuple (f_c1 "k" rfl (compT_of (osc := defScope s_l_ring) (N := ["state", "many", "left"]) (N0 := ["state", "!01", "left"]) (own := ["k"]) (by decide +kernel)) (i_range1 rfl b_range (a_cons (e_mulI e_int (e_var 1)) a_nil)) (fun _ _ _ _ _ => ts_nil) (fun _ _ _ _ _ => (e_pop (e_var 2) (a_cons (e_call D_l_take hr (by decide) rfl (a_cons (e_var 0) (a_cons (e_len rfl b_len (a_cons (e_var 2) a_nil)) a_nil))) a_nil))))))))
theorem ok_l_web_of {f : Addr} {fd : FuncData} (F : Fun K "_law_web_of" "_law_web_of" s_l_web_of f fd) (hm : mg "_law_web_of" = some (.ref f)) (b_len : mg "len" = none) (b_tuple : mg "tuple" = none)    (D_l_pairs : Df P w K mg base 1 "_law_pairs" ["many"] (spL sp_l_pairs)) : Df P w K mg base 2 "_law_web_of" ["ring"] sp_l_web_of := by
  have nd := (sc_l_web_of).nd
  refine df_mk2 t_l_web_of F sc_l_web_of hm (F.binds fun _ _ _ _ _ _ us hl => match us, hl with | [_], _ => rfl) (fun cdv A outer s H E hr => ?_) r_l_web_of
  unfold t_l_web_of
  exact (ps_cons (p_set 1 nd (e_fdiv (e_len rfl b_len (a_cons (e_var 0) a_nil)) e_int)) (ps_cons (p_set 2 nd (e_new (f_lst a_nil))) (ps_cons (p_forF PassesOwn.never rfl (i_new (f_call D_l_pairs mono_l_pairs hr (by decide) rfl (a_cons (e_var 1) a_nil))) (g_two 3 4 rfl nd) (ps_cons (p_setC1 5 "place" rfl (compT_of (osc := defScope s_l_web_of) (N := ["ring", "many", "found", "one", "other", "some"]) (N0 := ["!00", "!01", "!02", "one", "other", "!05"]) (own := ["place"]) (by decide +kernel)) (i_val (e_var 0)) (fun _ _ _ _ _ => (ts_one (t_in hr (e_var 6) (e_tup (a_cons (e_var 3) (a_cons (e_var 4) a_nil)))))) (fun _ _ _ _ _ => (e_var 6)) nd) (ps_one (p_if (W2.test (w_and (t_ne hr (e_ix (e_var 5) e_int) (e_ix (e_var 5) e_int)) (w_and1 (t_ne hr (e_ix (e_var 5) e_int) (e_ix (e_var 5) e_int))))) (ps_one (p_expr (e_append (e_var 2) (a_cons (e_tup (a_cons (e_var 3) (a_cons (e_var 4) a_nil))) a_nil)))) ps_nil)))) (ps_one (p_ret (e_tup (a_cons (e_var 1) (a_cons (e_tuple rfl b_tuple (a_cons (e_var 2) a_nil)) a_nil))))))))
theorem ok_l_around {f : Addr} {fd : FuncData} (F : Fun K "_law_around" "_law_around" s_l_around f fd) (hm : mg "_law_around" = some (.ref f))     : Df P w K mg base 1 "_law_around" ["web", "place"] (spL sp_l_around) := by
  have nd := (sc_l_around).nd
  refine df_mk2 t_l_around F sc_l_around hm (F.binds fun _ _ _ _ _ _ us hl => match us, hl with | [_, _], _ => rfl) (fun cdv A outer s H E hr => ?_) r_l_around
  unfold t_l_around
  exact (ps_one (p_ret (e_new (f_c2 "one" "other" rfl (compT_of (osc := defScope s_l_around) (N := ["web", "place"]) (N0 := ["!00", "place"]) (own := ["one", "other"]) (by decide +kernel)) (i_val (e_ix (e_var 0) e_int)) (fun _ _ _ _ _ => (ts_one (t_in hr (e_var 1) (e_tup (a_cons (e_var 2) (a_cons (e_var 3) a_nil)))))) (fun _ _ _ _ _ => (e_sub (e_add (e_var 2) (e_var 3)) (e_var 1)))))))
theorem ok_l_rank_one {f : Addr} {fd : FuncData} (F : Fun K "_law_rank_one" "_law_rank_one" s_l_rank_one f fd) (hm : mg "_law_rank_one" = some (.ref f)) (b_sorted : mg "sorted" = none) (b_len : mg "len" = none)    (D_l_around : Df P w K mg base 1 "_law_around" ["web", "place"] (spL sp_l_around)) : Df P w K mg base 2 "_law_rank_one" ["web", "side"] sp_l_rank_one := by
  have nd := (sc_l_rank_one).nd
  refine df_mk2 t_l_rank_one F sc_l_rank_one hm (F.binds fun _ _ _ _ _ _ us hl => match us, hl with | [_, _], _ => rfl) (fun cdv A outer s H E hr => ?_) r_l_rank_one
  unfold t_l_rank_one
  exact (ps_cons (p_set 2 nd (e_new (f_lst a_nil))) (ps_cons (p_forF PassesOwn.never rfl (i_val (e_var 1)) (g_name 3 nd) (ps_cons (p_setC1 4 "other" rfl (compT_of (osc := defScope s_l_rank_one) (N := ["web", "side", "rows", "place", "row"]) (N0 := ["!00", "side", "!02", "!03", "!04"]) (own := ["other"]) (by decide +kernel)) (i_new (f_call D_l_around mono_l_around hr (by decide) rfl (a_cons (e_var 0) (a_cons (e_var 3) a_nil)))) (fun _ _ _ _ _ => (ts_one (t_notIn hr (e_var 5) (e_var 1)))) (fun _ _ _ _ _ => (e_var 5)) nd) (ps_one (p_if (W2.test (w_and (t_ne hr (e_var 4) (e_new (f_lst a_nil))) (w_and1 (t_notInL hr (e_new (f_sorted rfl b_sorted (a_cons (e_var 4) a_nil))) (e_var 2))))) (ps_one (p_expr (e_append (e_var 2) (a_cons (e_new (f_sorted rfl b_sorted (a_cons (e_var 4) a_nil))) a_nil)))) ps_nil)))) (ps_one (p_ret (e_lt (e_len rfl b_len (a_cons (e_var 2) a_nil)) e_int)))))
theorem ok_l_due72 {f : Addr} {fd : FuncData} (F : Fun K "_law_due" "_law_due" s_l_due72 f fd) (hm : mg "_law_due" = some (.ref f)) (b_range : mg "range" = none) (b_len : mg "len" = none)    (D_l_rank_one : Df P w K mg base 2 "_law_rank_one" ["web", "side"] sp_l_rank_one) : Df P w K mg base 3 "_law_due" ["web"] sp_l_due72 := by
  have nd := (sc_l_due72).nd
  refine df_mk2 t_l_due72 F sc_l_due72 hm (F.binds fun _ _ _ _ _ _ us hl => match us, hl with | [_], _ => rfl) (fun cdv A outer s H E hr => ?_) r_l_due72
  unfold t_l_due72
  exact (ps_cons (p_set 1 nd (e_ix (e_var 0) e_int)) (ps_cons (p_if (t_lt (e_var 1) e_int) (ps_one (p_ret e_bl)) ps_nil) (ps_cons (p_forF PassesOwn.never rfl (i_range1 rfl b_range (a_cons (e_ix (e_new (f_lst (a_cons e_int (a_cons e_int (a_cons e_int (a_cons e_int (a_cons e_int a_nil))))))) (e_sub (e_var 1) e_int)) a_nil)) (g_name 2 nd) (ps_cons (p_set 3 nd (e_new (f_lst (a_cons e_int a_nil)))) (ps_cons (p_forF PassesOwn.never rfl (i_range2 rfl b_range (a_cons e_int (a_cons (e_var 1) a_nil))) (g_name 4 nd) (ps_one (p_if (t_eq hr (e_mod (e_fdiv (e_var 2) (e_ix (e_new (f_lst (a_cons e_int (a_cons e_int (a_cons e_int (a_cons e_int (a_cons e_int (a_cons e_int (a_cons e_int (a_cons e_int a_nil)))))))))) (e_sub (e_var 4) e_int))) e_int) e_int) (ps_one (p_expr (e_append (e_var 3) (a_cons (e_var 4) a_nil)))) ps_nil))) (ps_one (p_if (W2.test (w_and (t_ch2 op_le op_le (fit_ii fun _ _ => ⟨rfl, rfl⟩) (fit_ii fun _ _ => ⟨rfl, rfl⟩) e_int (e_len rfl b_len (a_cons (e_var 3) a_nil)) (e_sub (e_var 1) e_int)) (w_and1 (t_val (e_call D_l_rank_one hr (by decide) rfl (a_cons (e_var 0) (a_cons (e_var 3) a_nil))))))) (ps_one (p_ret e_bl)) ps_nil))))) (ps_one (p_ret e_bl)))))
theorem fn_law {f : Addr} {fd : FuncData} (F : Fun K "law" "law" s_law f fd) (b_range : mg "range" = none) (b_max : mg "max" = none) (b_min : mg "min" = none) (b_len : mg "len" = none) (b_tuple : mg "tuple" = none) (b_sorted : mg "sorted" = none) (b_isinstance : mg "isinstance" = none) (b_bool : mg "bool" = none)    (D_l_state : Df P w K mg base 2 "_law_state" ["script", "k"] (spL sp_l_state)) (D_l_take : Df P w K mg base 1 "_law_take" ["state", "many"] sp_l_take) (D_l_web : Df P w K mg base 3 "_law_web" ["state", "most"] sp_l_web) (D_l_ring : Df P w K mg base 2 "_law_ring" ["state", "many"] sp_l_ring) (D_l_web_of : Df P w K mg base 2 "_law_web_of" ["ring"] sp_l_web_of) (D_is_whole : Df P w K mg base 6 "is_whole" ["web"] sp_is_whole) (D_l_due72 : Df P w K mg base 3 "_law_due" ["web"] sp_l_due72) : FnOk P w K mg base CX0 7 f fd ["script"] (lSp K spLaw) := by
  have nd := sc_law.nd
  refine fn_mk2 t_law F sc_law (fun cdv A outer s H E hr => ?_) r_law
  unfold t_law
  exact (ps_cons (p_forF PassesOwn.never rfl (i_range1 rfl b_range (a_cons (e_max rfl rfl b_max (a_cons e_int (a_cons (e_min rfl rfl b_min (a_cons (e_len rfl b_len (a_cons (e_var 0) a_nil)) (a_cons e_int a_nil))) a_nil))) a_nil)) (g_name 1 nd) (ps_cons (p_set 2 nd (e_new (f_call D_l_state mono_l_state hr (by decide) rfl (a_cons (e_var 0) (a_cons (e_var 1) a_nil))))) (ps_cons (p_set 3 nd (e_add e_int (e_call D_l_take hr (by decide) rfl (a_cons (e_var 2) (a_cons e_int a_nil))))) (ps_cons (p_set 4 nd (e_tupF rfl b_tuple (f_sortedTF rfl b_sorted (f_cat (e_new (f_c1 "place" rfl (compT_of (osc := defScope s_law) (N := ["script", "k", "state", "many", "round_of", "some", "web", "found"]) (N0 := ["!00", "!01", "!02", "!03", "!04", "!05", "!06", "!07"]) (own := ["place"]) (by decide +kernel)) (i_range1 rfl b_range (a_cons (e_sub (e_var 3) e_int) a_nil)) (fun _ _ _ _ _ => ts_nil) (fun _ _ _ _ _ => (e_tup (a_cons (e_var 8) (a_cons (e_add (e_var 8) e_int) a_nil)))))) (e_new (f_lst (a_cons (e_tup (a_cons e_int (a_cons (e_sub (e_var 3) e_int) a_nil))) a_nil))))))) (ps_cons (p_set 5 nd (e_new (f_lst (a_cons (e_call D_l_web hr (by decide) rfl (a_cons (e_var 2) (a_cons (e_ix (e_new (f_lst (a_cons e_int (a_cons e_int a_nil)))) (e_call D_l_take hr (by decide) rfl (a_cons (e_var 2) (a_cons e_int a_nil)))) a_nil))) (a_cons (e_call D_l_web_of hr (by decide) rfl (a_cons (e_call D_l_ring hr (by decide) rfl (a_cons (e_var 2) (a_cons (e_var 3) a_nil))) a_nil)) a_nil))))) (ps_one (p_forF PassesOwn.never rfl (i_new (f_cat (e_var 5) (e_new (f_lst (a_cons (e_tup (a_cons (e_var 3) (a_cons (e_var 4) a_nil))) a_nil))))) (g_name 6 nd) (ps_cons (p_set 7 nd (e_call D_is_whole hr (by decide) rfl (a_cons (e_var 6) a_nil))) (ps_one (p_if (W2.test (w_or (t_not (t_val (e_isI (T := "bool") rfl b_isinstance rfl b_bool (by decide +kernel) (e_var 7)))) (w_or1 (t_ne hr (e_var 7) (e_call D_l_due72 hr (by decide) rfl (a_cons (e_var 6) a_nil)))))) (ps_one (p_ret e_bl)) ps_nil)))))))))) (ps_one (p_ret e_bl)))
end
theorem all_mk {l : PySem.W.OpenLaw} {w : World} {K : PySem.W.Frag} {h : Heap} {mg : Str → Option Value} {fa : Addr} (X : K.In h) (G : h.Ns mainGlobals mg) (hfa : mg "law" = some (.ref fa))
    {f0 : Addr} {od0 an0 : Option Addr} {sl0 : Array (Option Value)} {oc0 kV0 dc0 pm0 cd0 ct0 : Value} {f1 : Addr} {od1 an1 : Option Addr} {sl1 : Array (Option Value)} {oc1 kV1 dc1 pm1 cd1 ct1 : Value} {f2 : Addr} {od2 an2 : Option Addr} {sl2 : Array (Option Value)} {oc2 kV2 dc2 pm2 cd2 ct2 : Value} {f3 : Addr} {od3 an3 : Option Addr} {sl3 : Array (Option Value)} {oc3 kV3 dc3 pm3 cd3 ct3 : Value} {f4 : Addr} {od4 an4 : Option Addr} {sl4 : Array (Option Value)} {oc4 kV4 dc4 pm4 cd4 ct4 : Value} {f5 : Addr} {od5 an5 : Option Addr} {sl5 : Array (Option Value)} {oc5 kV5 dc5 pm5 cd5 ct5 : Value} {f6 : Addr} {od6 an6 : Option Addr} {sl6 : Array (Option Value)} {oc6 kV6 dc6 pm6 cd6 ct6 : Value} {f7 : Addr} {od7 an7 : Option Addr} {sl7 : Array (Option Value)} {oc7 kV7 dc7 pm7 cd7 ct7 : Value} {f8 : Addr} {od8 an8 : Option Addr} {sl8 : Array (Option Value)} {oc8 kV8 dc8 pm8 cd8 ct8 : Value} {f9 : Addr} {od9 an9 : Option Addr} {sl9 : Array (Option Value)} {oc9 kV9 dc9 pm9 cd9 ct9 : Value} {f10 : Addr} {od10 an10 : Option Addr} {sl10 : Array (Option Value)} {oc10 kV10 dc10 pm10 cd10 ct10 : Value} {f11 : Addr} {od11 an11 : Option Addr} {sl11 : Array (Option Value)} {oc11 kV11 dc11 pm11 cd11 ct11 : Value} {f12 : Addr} {od12 an12 : Option Addr} {sl12 : Array (Option Value)} {oc12 kV12 dc12 pm12 cd12 ct12 : Value} {f13 : Addr} {od13 an13 : Option Addr} {sl13 : Array (Option Value)} {oc13 kV13 dc13 pm13 cd13 ct13 : Value} {f14 : Addr} {od14 an14 : Option Addr} {sl14 : Array (Option Value)} {oc14 kV14 dc14 pm14 cd14 ct14 : Value} {f15 : Addr} {od15 an15 : Option Addr} {sl15 : Array (Option Value)} {oc15 kV15 dc15 pm15 cd15 ct15 : Value} {f16 : Addr} {od16 an16 : Option Addr} {sl16 : Array (Option Value)} {oc16 kV16 dc16 pm16 cd16 ct16 : Value} {f17 : Addr} {od17 an17 : Option Addr} {sl17 : Array (Option Value)} {oc17 kV17 dc17 pm17 cd17 ct17 : Value} {f18 : Addr} {od18 an18 : Option Addr} {sl18 : Array (Option Value)} {oc18 kV18 dc18 pm18 cd18 ct18 : Value} {f19 : Addr} {od19 an19 : Option Addr} {sl19 : Array (Option Value)} {oc19 kV19 dc19 pm19 cd19 ct19 : Value} {f20 : Addr} {od20 an20 : Option Addr} {sl20 : Array (Option Value)} {oc20 kV20 dc20 pm20 cd20 ct20 : Value} {gt_FEWEST_WHOLE : Tok}
    (a0 : PySem.W.nsIn K mainGlobals "is_number" = some (some (.ref f0))) (l0 : K.lookup f0 = some ⟨oc0, od0, .func (PySem.W.fnOf "is_number" "is_number" (defArgs s_is_number) (defBody s_is_number) (defScope s_is_number) .none kV0 dc0 pm0 an0 cd0 ct0), sl0⟩) (c0 : PySem.W.codeIn K cd0 "is_number" = true) (k0 : PySem.W.keepIn K (.ref f0) = true)
    (a1 : PySem.W.nsIn K mainGlobals "are_places" = some (some (.ref f1))) (l1 : K.lookup f1 = some ⟨oc1, od1, .func (PySem.W.fnOf "are_places" "are_places" (defArgs s_are_places) (defBody s_are_places) (defScope s_are_places) .none kV1 dc1 pm1 an1 cd1 ct1), sl1⟩) (c1 : PySem.W.codeIn K cd1 "are_places" = true) (k1 : PySem.W.keepIn K (.ref f1) = true)
    (a2 : PySem.W.nsIn K mainGlobals "is_rising" = some (some (.ref f2))) (l2 : K.lookup f2 = some ⟨oc2, od2, .func (PySem.W.fnOf "is_rising" "is_rising" (defArgs s_is_risingN) (defBody s_is_risingN) (defScope s_is_risingN) .none kV2 dc2 pm2 an2 cd2 ct2), sl2⟩) (c2 : PySem.W.codeIn K cd2 "is_rising" = true) (k2 : PySem.W.keepIn K (.ref f2) = true)
    (a3 : PySem.W.nsIn K mainGlobals "tied" = some (some (.ref f3))) (l3 : K.lookup f3 = some ⟨oc3, od3, .func (PySem.W.fnOf "tied" "tied" (defArgs s_tied) (defBody s_tied) (defScope s_tied) .none kV3 dc3 pm3 an3 cd3 ct3), sl3⟩) (c3 : PySem.W.codeIn K cd3 "tied" = true) (k3 : PySem.W.keepIn K (.ref f3) = true)
    (a4 : PySem.W.nsIn K mainGlobals "other_side" = some (some (.ref f4))) (l4 : K.lookup f4 = some ⟨oc4, od4, .func (PySem.W.fnOf "other_side" "other_side" (defArgs s_other_side) (defBody s_other_side) (defScope s_other_side) .none kV4 dc4 pm4 an4 cd4 ct4), sl4⟩) (c4 : PySem.W.codeIn K cd4 "other_side" = true) (k4 : PySem.W.keepIn K (.ref f4) = true)
    (a5 : PySem.W.nsIn K mainGlobals "cut_rank" = some (some (.ref f5))) (l5 : K.lookup f5 = some ⟨oc5, od5, .func (PySem.W.fnOf "cut_rank" "cut_rank" (defArgs s_cut_rank) (defBody s_cut_rank) (defScope s_cut_rank) .none kV5 dc5 pm5 an5 cd5 ct5), sl5⟩) (c5 : PySem.W.codeIn K cd5 "cut_rank" = true) (k5 : PySem.W.keepIn K (.ref f5) = true)
    (a6 : PySem.W.nsIn K mainGlobals "row_of" = some (some (.ref f6))) (l6 : K.lookup f6 = some ⟨oc6, od6, .func (PySem.W.fnOf "row_of" "row_of" (defArgs s_row_of) (defBody s_row_of) (defScope s_row_of) .none kV6 dc6 pm6 an6 cd6 ct6), sl6⟩) (c6 : PySem.W.codeIn K cd6 "row_of" = true) (k6 : PySem.W.keepIn K (.ref f6) = true)
    (a7 : PySem.W.nsIn K mainGlobals "is_split" = some (some (.ref f7))) (l7 : K.lookup f7 = some ⟨oc7, od7, .func (PySem.W.fnOf "is_split" "is_split" (defArgs s_is_split) (defBody s_is_split) (defScope s_is_split) .none kV7 dc7 pm7 an7 cd7 ct7), sl7⟩) (c7 : PySem.W.codeIn K cd7 "is_split" = true) (k7 : PySem.W.keepIn K (.ref f7) = true)
    (a8 : PySem.W.nsIn K mainGlobals "splits" = some (some (.ref f8))) (l8 : K.lookup f8 = some ⟨oc8, od8, .func (PySem.W.fnOf "splits" "splits" (defArgs s_splits) (defBody s_splits) (defScope s_splits) .none kV8 dc8 pm8 an8 cd8 ct8), sl8⟩) (c8 : PySem.W.codeIn K cd8 "splits" = true) (k8 : PySem.W.keepIn K (.ref f8) = true)
    (a9 : PySem.W.nsIn K mainGlobals "is_whole" = some (some (.ref f9))) (l9 : K.lookup f9 = some ⟨oc9, od9, .func (PySem.W.fnOf "is_whole" "is_whole" (defArgs s_is_whole) (defBody s_is_whole) (defScope s_is_whole) .none kV9 dc9 pm9 an9 cd9 ct9), sl9⟩) (c9 : PySem.W.codeIn K cd9 "is_whole" = true) (k9 : PySem.W.keepIn K (.ref f9) = true)
    (a10 : PySem.W.nsIn K mainGlobals "_law_cell_at" = some (some (.ref f10))) (l10 : K.lookup f10 = some ⟨oc10, od10, .func (PySem.W.fnOf "_law_cell_at" "_law_cell_at" (defArgs s_l_cell_at) (defBody s_l_cell_at) (defScope s_l_cell_at) .none kV10 dc10 pm10 an10 cd10 ct10), sl10⟩) (c10 : PySem.W.codeIn K cd10 "_law_cell_at" = true) (k10 : PySem.W.keepIn K (.ref f10) = true)
    (a11 : PySem.W.nsIn K mainGlobals "_law_state" = some (some (.ref f11))) (l11 : K.lookup f11 = some ⟨oc11, od11, .func (PySem.W.fnOf "_law_state" "_law_state" (defArgs s_l_state) (defBody s_l_state) (defScope s_l_state) .none kV11 dc11 pm11 an11 cd11 ct11), sl11⟩) (c11 : PySem.W.codeIn K cd11 "_law_state" = true) (k11 : PySem.W.keepIn K (.ref f11) = true)
    (a12 : PySem.W.nsIn K mainGlobals "_law_take" = some (some (.ref f12))) (l12 : K.lookup f12 = some ⟨oc12, od12, .func (PySem.W.fnOf "_law_take" "_law_take" (defArgs s_l_take) (defBody s_l_take) (defScope s_l_take) .none kV12 dc12 pm12 an12 cd12 ct12), sl12⟩) (c12 : PySem.W.codeIn K cd12 "_law_take" = true) (k12 : PySem.W.keepIn K (.ref f12) = true)
    (a13 : PySem.W.nsIn K mainGlobals "_law_pairs" = some (some (.ref f13))) (l13 : K.lookup f13 = some ⟨oc13, od13, .func (PySem.W.fnOf "_law_pairs" "_law_pairs" (defArgs s_l_pairs) (defBody s_l_pairs) (defScope s_l_pairs) .none kV13 dc13 pm13 an13 cd13 ct13), sl13⟩) (c13 : PySem.W.codeIn K cd13 "_law_pairs" = true) (k13 : PySem.W.keepIn K (.ref f13) = true)
    (a14 : PySem.W.nsIn K mainGlobals "_law_web" = some (some (.ref f14))) (l14 : K.lookup f14 = some ⟨oc14, od14, .func (PySem.W.fnOf "_law_web" "_law_web" (defArgs s_l_web) (defBody s_l_web) (defScope s_l_web) .none kV14 dc14 pm14 an14 cd14 ct14), sl14⟩) (c14 : PySem.W.codeIn K cd14 "_law_web" = true) (k14 : PySem.W.keepIn K (.ref f14) = true)
    (a15 : PySem.W.nsIn K mainGlobals "_law_ring" = some (some (.ref f15))) (l15 : K.lookup f15 = some ⟨oc15, od15, .func (PySem.W.fnOf "_law_ring" "_law_ring" (defArgs s_l_ring) (defBody s_l_ring) (defScope s_l_ring) .none kV15 dc15 pm15 an15 cd15 ct15), sl15⟩) (c15 : PySem.W.codeIn K cd15 "_law_ring" = true) (k15 : PySem.W.keepIn K (.ref f15) = true)
    (a16 : PySem.W.nsIn K mainGlobals "_law_web_of" = some (some (.ref f16))) (l16 : K.lookup f16 = some ⟨oc16, od16, .func (PySem.W.fnOf "_law_web_of" "_law_web_of" (defArgs s_l_web_of) (defBody s_l_web_of) (defScope s_l_web_of) .none kV16 dc16 pm16 an16 cd16 ct16), sl16⟩) (c16 : PySem.W.codeIn K cd16 "_law_web_of" = true) (k16 : PySem.W.keepIn K (.ref f16) = true)
    (a17 : PySem.W.nsIn K mainGlobals "_law_around" = some (some (.ref f17))) (l17 : K.lookup f17 = some ⟨oc17, od17, .func (PySem.W.fnOf "_law_around" "_law_around" (defArgs s_l_around) (defBody s_l_around) (defScope s_l_around) .none kV17 dc17 pm17 an17 cd17 ct17), sl17⟩) (c17 : PySem.W.codeIn K cd17 "_law_around" = true) (k17 : PySem.W.keepIn K (.ref f17) = true)
    (a18 : PySem.W.nsIn K mainGlobals "_law_rank_one" = some (some (.ref f18))) (l18 : K.lookup f18 = some ⟨oc18, od18, .func (PySem.W.fnOf "_law_rank_one" "_law_rank_one" (defArgs s_l_rank_one) (defBody s_l_rank_one) (defScope s_l_rank_one) .none kV18 dc18 pm18 an18 cd18 ct18), sl18⟩) (c18 : PySem.W.codeIn K cd18 "_law_rank_one" = true) (k18 : PySem.W.keepIn K (.ref f18) = true)
    (a19 : PySem.W.nsIn K mainGlobals "_law_due" = some (some (.ref f19))) (l19 : K.lookup f19 = some ⟨oc19, od19, .func (PySem.W.fnOf "_law_due" "_law_due" (defArgs s_l_due72) (defBody s_l_due72) (defScope s_l_due72) .none kV19 dc19 pm19 an19 cd19 ct19), sl19⟩) (c19 : PySem.W.codeIn K cd19 "_law_due" = true) (k19 : PySem.W.keepIn K (.ref f19) = true)
    (a20 : PySem.W.nsIn K mainGlobals "law" = some (some (.ref f20))) (l20 : K.lookup f20 = some ⟨oc20, od20, .func (PySem.W.fnOf "law" "law" (defArgs s_law) (defBody s_law) (defScope s_law) .none kV20 dc20 pm20 an20 cd20 ct20), sl20⟩) (c20 : PySem.W.codeIn K cd20 "law" = true) (k20 : PySem.W.keepIn K (.ref f20) = true)
    (y_FEWEST_WHOLE : PySem.W.nsIn K mainGlobals "FEWEST_WHOLE" = some (some (.int 5 gt_FEWEST_WHOLE)))
    (z_isinstance : PySem.W.nsIn K mainGlobals "isinstance" = some none)
    (z_int : PySem.W.nsIn K mainGlobals "int" = some none)
    (z_bool : PySem.W.nsIn K mainGlobals "bool" = some none)
    (z_tuple : PySem.W.nsIn K mainGlobals "tuple" = some none)
    (z_all : PySem.W.nsIn K mainGlobals "all" = some none)
    (z_range : PySem.W.nsIn K mainGlobals "range" = some none)
    (z_len : PySem.W.nsIn K mainGlobals "len" = some none)
    (z_min : PySem.W.nsIn K mainGlobals "min" = some none)
    (z_max : PySem.W.nsIn K mainGlobals "max" = some none)
    (z_sum : PySem.W.nsIn K mainGlobals "sum" = some none)
    (z_sorted : PySem.W.nsIn K mainGlobals "sorted" = some none)
    (z_list : PySem.W.nsIn K mainGlobals "list" = some none) :
    ∃ fd : FuncData, (∀ (s : Shared) (v : Value), BindsTo s fd ⟨[v], []⟩ [("script", v)]) ∧ ∀ base : Heap, K.In base → base.Ns mainGlobals mg → FnOk l.prog w K mg base CX0 7 fa fd ["script"] (lSp K spLaw) := by
  have e := hfa.symm.trans (PySem.W.mg_of X G a20)
  cases e
  have g_FEWEST_WHOLE := PySem.W.mg_of X G y_FEWEST_WHOLE
  have b_isinstance := PySem.W.mg_none_of X G z_isinstance
  have b_int := PySem.W.mg_none_of X G z_int
  have b_bool := PySem.W.mg_none_of X G z_bool
  have b_tuple := PySem.W.mg_none_of X G z_tuple
  have b_all := PySem.W.mg_none_of X G z_all
  have b_range := PySem.W.mg_none_of X G z_range
  have b_len := PySem.W.mg_none_of X G z_len
  have b_min := PySem.W.mg_none_of X G z_min
  have b_max := PySem.W.mg_none_of X G z_max
  have b_sum := PySem.W.mg_none_of X G z_sum
  have b_sorted := PySem.W.mg_none_of X G z_sorted
  have b_list := PySem.W.mg_none_of X G z_list
  refine ⟨PySem.W.fnOf "law" "law" (defArgs s_law) (defBody s_law) (defScope s_law) .none kV20 dc20 pm20 an20 cd20 ct20, fun s v => .of_eq rfl, fun base kb _  => ?_⟩
  have D_is_number : Df l.prog w K mg base 1 "is_number" ["thing"] sp_is_number := ok_is_number (fun_mk (st := s_is_number) l0 c0 k0) (PySem.W.mg_of X G a0) b_isinstance b_int b_bool
  have D_is_risingN : Df l.prog w K mg base 1 "is_rising" ["things"] sp_is_risingN := ok_is_risingN (fun_mk (st := s_is_risingN) l2 c2 k2) (PySem.W.mg_of X G a2) b_all b_range b_len
  have D_tied : Df l.prog w K mg base 1 "tied" ["web", "one", "other"] sp_tied := ok_tied (fun_mk (st := s_tied) l3 c3 k3) (PySem.W.mg_of X G a3) b_min b_max
  have D_other_side : Df l.prog w K mg base 1 "other_side" ["web", "places"] sp_other_side := ok_other_side (fun_mk (st := s_other_side) l4 c4 k4) (PySem.W.mg_of X G a4) b_tuple b_range
  have D_l_cell_at : Df l.prog w K mg base 1 "_law_cell_at" ["script", "k"] sp_l_cell_at := ok_l_cell_at (fun_mk (st := s_l_cell_at) l10 c10 k10) (PySem.W.mg_of X G a10) b_len
  have D_l_take : Df l.prog w K mg base 1 "_law_take" ["state", "many"] sp_l_take := ok_l_take (fun_mk (st := s_l_take) l12 c12 k12) (PySem.W.mg_of X G a12) 
  have D_l_pairs : Df l.prog w K mg base 1 "_law_pairs" ["many"] (spL sp_l_pairs) := ok_l_pairs (fun_mk (st := s_l_pairs) l13 c13 k13) (PySem.W.mg_of X G a13) b_range
  have D_l_around : Df l.prog w K mg base 1 "_law_around" ["web", "place"] (spL sp_l_around) := ok_l_around (fun_mk (st := s_l_around) l17 c17 k17) (PySem.W.mg_of X G a17) 
  have D_are_places : Df l.prog w K mg base 2 "are_places" ["many", "thing"] sp_are_places := ok_are_places (fun_mk (st := s_are_places) l1 c1 k1) (PySem.W.mg_of X G a1) b_isinstance b_tuple b_all D_is_number
  have D_row_of : Df l.prog w K mg base 2 "row_of" ["web", "place", "others"] sp_row_of := ok_row_of (fun_mk (st := s_row_of) l6 c6 k6) (PySem.W.mg_of X G a6) b_sum D_tied
  have D_l_state : Df l.prog w K mg base 2 "_law_state" ["script", "k"] (spL sp_l_state) := ok_l_state (fun_mk (st := s_l_state) l11 c11 k11) (PySem.W.mg_of X G a11) D_l_cell_at
  have D_l_ring : Df l.prog w K mg base 2 "_law_ring" ["state", "many"] sp_l_ring := ok_l_ring (fun_mk (st := s_l_ring) l15 c15 k15) (PySem.W.mg_of X G a15) b_list b_range b_tuple b_len D_l_take
  have D_l_web_of : Df l.prog w K mg base 2 "_law_web_of" ["ring"] sp_l_web_of := ok_l_web_of (fun_mk (st := s_l_web_of) l16 c16 k16) (PySem.W.mg_of X G a16) b_len b_tuple D_l_pairs
  have D_l_rank_one : Df l.prog w K mg base 2 "_law_rank_one" ["web", "side"] sp_l_rank_one := ok_l_rank_one (fun_mk (st := s_l_rank_one) l18 c18 k18) (PySem.W.mg_of X G a18) b_sorted b_len D_l_around
  have D_cut_rank : Df l.prog w K mg base 3 "cut_rank" ["web", "places"] sp_cut_rank := ok_cut_rank (fun_mk (st := s_cut_rank) l5 c5 k5) (PySem.W.mg_of X G a5) b_min b_len D_other_side D_row_of
  have D_l_web : Df l.prog w K mg base 3 "_law_web" ["state", "most"] sp_l_web := ok_l_web (fun_mk (st := s_l_web) l14 c14 k14) (PySem.W.mg_of X G a14) b_tuple D_l_take D_l_pairs D_l_ring D_l_web_of
  have D_l_due72 : Df l.prog w K mg base 3 "_law_due" ["web"] sp_l_due72 := ok_l_due72 (fun_mk (st := s_l_due72) l19 c19 k19) (PySem.W.mg_of X G a19) b_range b_len D_l_rank_one
  have D_is_split : Df l.prog w K mg base 4 "is_split" ["web", "places"] sp_is_split := ok_is_split (fun_mk (st := s_is_split) l7 c7 k7) (PySem.W.mg_of X G a7) b_len D_are_places D_is_risingN D_cut_rank
  have D_splits : Df l.prog w K mg base 5 "splits" ["web"] (spL sp_splits) := ok_splits (fun_mk (st := s_splits) l8 c8 k8) (PySem.W.mg_of X G a8) b_range b_sorted D_is_split
  have D_is_whole : Df l.prog w K mg base 6 "is_whole" ["web"] sp_is_whole := ok_is_whole (fun_mk (st := s_is_whole) l9 c9 k9) (PySem.W.mg_of X G a9) g_FEWEST_WHOLE D_splits
  exact fn_law (fun_mk (st := s_law) l20 c20 k20) b_range b_max b_min b_len b_tuple b_sorted b_isinstance b_bool D_l_state D_l_take D_l_web D_l_ring D_l_web_of D_is_whole D_l_due72
end K
open PySem PySem.W PyProof.Rows
set_option maxRecDepth 100000 in
set_option maxHeartbeats 0 in
theorem PySem.Challenge.cw_chordwebs_k72_whole_ones_holds : PySem.Challenge.rw_chordwebs_k72_whole_ones.Holds := by
  w_on; o_law; k_head; (case hw => w_witness2)
  k_fill
  refine L3.law_walk (l := PySem.Challenge.rw_chordwebs_k72_whole_ones) (k := 7) rfl rfl ⟨rfl, by decide, by decide⟩ (fun w h Y => ⟨PySem.W.kIn_of Y, [], fun _ => "", ⟨(fun _ h => nomatch h), (fun _ h => nomatch h), (fun _ h => nomatch h), fun x hx => nomatch hx⟩⟩) ?F
  case F =>
    intro w mg fa h KX G hmg
    refine' K.all_mk KX G hmg ?a0 ?l0 ?c0 ?k0 ?a1 ?l1 ?c1 ?k1 ?a2 ?l2 ?c2 ?k2 ?a3 ?l3 ?c3 ?k3 ?a4 ?l4 ?c4 ?k4 ?a5 ?l5 ?c5 ?k5 ?a6 ?l6 ?c6 ?k6 ?a7 ?l7 ?c7 ?k7 ?a8 ?l8 ?c8 ?k8 ?a9 ?l9 ?c9 ?k9 ?a10 ?l10 ?c10 ?k10 ?a11 ?l11 ?c11 ?k11 ?a12 ?l12 ?c12 ?k12 ?a13 ?l13 ?c13 ?k13 ?a14 ?l14 ?c14 ?k14 ?a15 ?l15 ?c15 ?k15 ?a16 ?l16 ?c16 ?k16 ?a17 ?l17 ?c17 ?k17 ?a18 ?l18 ?c18 ?k18 ?a19 ?l19 ?c19 ?k19 ?a20 ?l20 ?c20 ?k20 ?y_FEWEST_WHOLE ?z_isinstance ?z_int ?z_bool ?z_tuple ?z_all ?z_range ?z_len ?z_min ?z_max ?z_sum ?z_sorted ?z_list
    (case a0 => k_is)
    (case l0 => k_is)
    (case c0 => k_is)
    (case k0 => k_is)
    (case a1 => k_is)
    (case l1 => k_is)
    (case c1 => k_is)
    (case k1 => k_is)
    (case a2 => k_is)
    (case l2 => k_is)
    (case c2 => k_is)
    (case k2 => k_is)
    (case a3 => k_is)
    (case l3 => k_is)
    (case c3 => k_is)
    (case k3 => k_is)
    (case a4 => k_is)
    (case l4 => k_is)
    (case c4 => k_is)
    (case k4 => k_is)
    (case a5 => k_is)
    (case l5 => k_is)
    (case c5 => k_is)
    (case k5 => k_is)
    (case a6 => k_is)
    (case l6 => k_is)
    (case c6 => k_is)
    (case k6 => k_is)
    (case a7 => k_is)
    (case l7 => k_is)
    (case c7 => k_is)
    (case k7 => k_is)
    (case a8 => k_is)
    (case l8 => k_is)
    (case c8 => k_is)
    (case k8 => k_is)
    (case a9 => k_is)
    (case l9 => k_is)
    (case c9 => k_is)
    (case k9 => k_is)
    (case a10 => k_is)
    (case l10 => k_is)
    (case c10 => k_is)
    (case k10 => k_is)
    (case a11 => k_is)
    (case l11 => k_is)
    (case c11 => k_is)
    (case k11 => k_is)
    (case a12 => k_is)
    (case l12 => k_is)
    (case c12 => k_is)
    (case k12 => k_is)
    (case a13 => k_is)
    (case l13 => k_is)
    (case c13 => k_is)
    (case k13 => k_is)
    (case a14 => k_is)
    (case l14 => k_is)
    (case c14 => k_is)
    (case k14 => k_is)
    (case a15 => k_is)
    (case l15 => k_is)
    (case c15 => k_is)
    (case k15 => k_is)
    (case a16 => k_is)
    (case l16 => k_is)
    (case c16 => k_is)
    (case k16 => k_is)
    (case a17 => k_is)
    (case l17 => k_is)
    (case c17 => k_is)
    (case k17 => k_is)
    (case a18 => k_is)
    (case l18 => k_is)
    (case c18 => k_is)
    (case k18 => k_is)
    (case a19 => k_is)
    (case l19 => k_is)
    (case c19 => k_is)
    (case k19 => k_is)
    (case a20 => k_is)
    (case l20 => k_is)
    (case c20 => k_is)
    (case k20 => k_is)
    (case y_FEWEST_WHOLE => k_is)
    (case z_isinstance => k_is)
    (case z_int => k_is)
    (case z_bool => k_is)
    (case z_tuple => k_is)
    (case z_all => k_is)
    (case z_range => k_is)
    (case z_len => k_is)
    (case z_min => k_is)
    (case z_max => k_is)
    (case z_sum => k_is)
    (case z_sorted => k_is)
    (case z_list => k_is)
#print axioms PySem.Challenge.cw_chordwebs_k72_whole_ones_holds
