import PyProof.Rows.All
import Wide.All
import OpenK.AllK
import Wide.FinOn
import Lean
import PyProof.EqAt
import PyProof.EqKinds
import PyProof.TupleCall
import KE.KDictOf
import PyProof.AttrMissHeap
import PySem.Challenge.RW_signalwise_k43_ring
-- CHANGE: your row's module here, as the last of these rows
set_option Elab.async false
set_option linter.all false
set_option maxRecDepth 100000
/-! THE HAND LAYER, for ints, bools, texts, own classes, LISTS and tuples (index, slices, in, append, pop ..), calls, loops. Paste it whole ahead of your own text; what your proof does not reach may be deleted. -/
namespace L2
open PySem PySem.Spec PyProof.Rows

/-- a key: an int or a str -/
abbrev Key := Sum Int Str
def keyIs : Key → Value → Bool
  | .inl k, v => Value.isInt k v
  | .inr x, v => Value.isStrOf x v
def keyH (w : World) : Key → Int
  | .inl k => hashInt k
  | .inr x => hashStr w x
theorem keyIs_shape : ∀ {k : Key} {v : Value}, keyIs k v = true → (∃ i t, k = Sum.inl i ∧ v = Value.int i t) ∨ (∃ x t, k = Sum.inr x ∧ v = Value.str x t)
  | .inl i, v, h => by
    obtain ⟨t, e⟩ := Value.isInt_shape (k := i) (v := v) h
    exact .inl ⟨i, t, rfl, e⟩
  | .inr x, v, h => by
    obtain ⟨t, e⟩ := Value.isStrOf_shape (x := x) (v := v) h
    exact .inr ⟨x, t, rfl, e⟩
theorem keyIs_int (i : Int) (t : Tok) : keyIs (.inl i) (.int i t) = true := by simp [keyIs, Value.isInt]
theorem keyIs_str (x : Str) (t : Tok) : keyIs (.inr x) (.str x t) = true := by simp [keyIs, Value.isStrOf]
theorem key_ll (a b : Int) : decide ((Sum.inl a : Key) = Sum.inl b) = (a == b) := by
  by_cases e : a = b
  · subst e; simp
  · have h : ¬ (Sum.inl a : Key) = Sum.inl b := fun q => e (Sum.inl.inj q)
    rw [decide_eq_false h]
    exact (beq_eq_false_iff_ne.mpr e).symm
theorem key_rr (a b : Str) : decide ((Sum.inr a : Key) = Sum.inr b) = decide (a = b) := by
  by_cases e : a = b
  · subst e; simp
  · have h : ¬ (Sum.inr a : Key) = Sum.inr b := fun q => e (Sum.inr.inj q)
    rw [decide_eq_false h, decide_eq_false e]
theorem key_lr (a : Int) (b : Str) : decide ((Sum.inl a : Key) = Sum.inr b) = false := decide_eq_false (fun q => nomatch q)
theorem key_rl (a : Str) (b : Int) : decide ((Sum.inr a : Key) = Sum.inl b) = false := decide_eq_false (fun q => nomatch q)

def mixKind (prog : Program) (w : World) : PySem.KeyKind prog w Key where
  is := keyIs
  hash := keyH w
  inj := fun v a b ha hb => by
    rcases keyIs_shape ha with ⟨i, t, rfl, rfl⟩ | ⟨x, t, rfl, rfl⟩
    · rcases keyIs_shape hb with ⟨j, u, rfl, e⟩ | ⟨y, u, rfl, e⟩
      · injection e with e1 _; rw [e1]
      · exact nomatch e
    · rcases keyIs_shape hb with ⟨j, u, rfl, e⟩ | ⟨y, u, rfl, e⟩
      · exact nomatch e
      · injection e with e1 _; rw [e1]
  byValue := fun k v h => by
    rcases keyIs_shape h with ⟨i, t, rfl, rfl⟩ | ⟨x, t, rfl, rfl⟩ <;> rfl
  pyHash := fun hv h => by
    rcases keyIs_shape hv with ⟨i, t, rfl, rfl⟩ | ⟨x, t, rfl, rfl⟩
    · exact wpAny_pyHash_int h
    · exact wpAny_pyHash_str h
  eqBool := fun hu hv h => by
    rcases keyIs_shape hu with ⟨i, t, rfl, rfl⟩ | ⟨x, t, rfl, rfl⟩
    · rcases keyIs_shape hv with ⟨j, u, rfl, rfl⟩ | ⟨y, u, rfl, rfl⟩
      · rw [key_ll] at h; exact wpAny_eqBool_int h
      · rw [key_lr] at h; exact SeqAt.EqAt.int_str i t y u _ _ _ _ h
    · rcases keyIs_shape hv with ⟨j, u, rfl, rfl⟩ | ⟨y, u, rfl, rfl⟩
      · rw [key_rl] at h; exact SeqAt.EqAt.str_int x t j u _ _ _ _ h
      · rw [key_rr] at h; exact wpAny_eqBool_str h
  «strs» := fun k x t v h => by
    rcases keyIs_shape h with ⟨i, u, rfl, e⟩ | ⟨y, u, rfl, e⟩
    · exact nomatch e
    · injection e with e1 _
      subst e1
      cases v <;> rfl

theorem mixKind_int (prog : Program) (w : World) (i : Int) (t : Tok) : (mixKind prog w).is (.inl i) (.int i t) = true := keyIs_int i t
theorem mixKind_str (prog : Program) (w : World) (x : Str) (t : Tok) : (mixKind prog w).is (.inr x) (.str x t) = true := keyIs_str x t
end L2

namespace L2
open PySem PySem.Spec PyProof.Rows

/-- a value, without the heap -/
inductive V where
  | non | bl (b : Bool) | int (i : Int) | str (x : Str) | byt (b : Array UInt8) | flt (b : UInt64) | ref (a : Addr) | ty (n : String)
  deriving DecidableEq

def RelV : V → Value → Prop
  | .non, u => u = Value.none
  | .bl b, u => u = Value.bool b
  | .int i, u => ∃ t, u = Value.int i t
  | .str x, u => ∃ t, u = Value.str x t
  | .byt b, u => ∃ t, u = Value.bytes b t
  | .flt b, u => ∃ t, u = Value.float b t
  | .ref a, u => u = Value.ref a
  | .ty n, u => u = Value.type n

abbrev Vals : List V → List Value → Prop := Paired RelV
theorem Vals.length {xs : List V} {us : List Value} (r : Vals xs us) : xs.length = us.length := Paired.length r
theorem Vals.get : ∀ {xs : List V} {us : List Value} {i : Nat} {x : V}, Vals xs us → xs[i]? = some x → ∃ u, us[i]? = some u ∧ RelV x u
  | _, _, _, _, .nil, e => by simp at e
  | _, _, 0, _, .cons r _, e => by simp at e; subst e; exact ⟨_, rfl, r⟩
  | _, _, i + 1, x, .cons _ t, e => by
    obtain ⟨u, h1, h2⟩ := Vals.get (i := i) (x := x) t (by simpa using e)
    exact ⟨u, by simpa using h1, h2⟩
theorem Vals.set {x : V} {u : Value} (r : RelV x u) : ∀ {xs : List V} {us : List Value} (i : Nat), Vals xs us → Vals (xs.set i x) (us.set i u)
  | _, _, _, .nil => .nil
  | _, _, 0, .cons _ t => .cons r t
  | _, _, i + 1, .cons q t => .cons q (Vals.set r i t)
theorem Vals.append : ∀ {xs ys : List V} {us ws : List Value}, Vals xs us → Vals ys ws → Vals (xs ++ ys) (us ++ ws)
  | _, _, _, _, .nil, s => s
  | _, _, _, _, .cons r t, s => .cons r (Vals.append t s)
theorem Vals.take : ∀ {xs : List V} {us : List Value} (n : Nat), Vals xs us → Vals (xs.take n) (us.take n)
  | _, _, 0, _ => .nil
  | _, _, _ + 1, .nil => .nil
  | _, _, n + 1, .cons r t => .cons r (Vals.take n t)
theorem Vals.drop : ∀ {xs : List V} {us : List Value} (n : Nat), Vals xs us → Vals (xs.drop n) (us.drop n)
  | _, _, 0, r => r
  | _, _, _ + 1, .nil => .nil
  | _, _, n + 1, .cons _ t => Vals.drop n t
def RelO : Option V → Option Value → Prop
  | some v, some u => RelV v u
  | none, none => True
  | _, _ => False
def KV {κ : Type} : List (κ × V) → List (κ × Value) → Prop := Paired fun (p : κ × V) (q : κ × Value) => p.1 = q.1 ∧ RelV p.2 q.2

/-- a key of a dict (00_mix): an int or a text -/
def kV : Key → V
  | .inl i => .int i
  | .inr x => .str x

/-- what stands at a tracked address -/
inductive HO where
  /-- a list -/
  | lst (xs : List V)
  /-- a tuple (never changes) -/
  | tup (xs : List V)
  /-- a dict whose keys are ints and texts; one whose keys are tuples of ints and texts (the empty one is both) -/
  | dK (kvs : List (Key × V)) | dT (kvs : List (List Key × V))
  /-- a set of ints: its members, its size -/
  | set (S : Int → Bool) (n : Nat)
  /-- an instance of the class at C, its dict at dx, its attributes -/
  | ins (C dx : Addr) (fs : List (Str × V))
  /-- the dict of the instance at x -/
  | own (x : Addr)
  /-- the dict of an exception -/
  | xd (fs : List (Str × V))
  /-- a bound method, f of x -/
  | met (f x : Addr)
  /-- a range object lo, lo + 1, .. below hi -/
  | rng (lo hi : Int)
  /-- a thing that is known to the object (the script; a dict while a loop walks it): read, never written while it is so -/
  | frz (o : Obj) (u : HO)
  /-- a code object's table -/
  | tbl (ps : Array Value)
  /-- any other thing, by what is true of its one object (a def of one's own: SetO a S n := HO.ext fun h => ..) -/
  | ext (φ : Heap → Prop)

abbrev Hp := Addr → Option HO
def upd (H : Hp) (a : Addr) (o : HO) : Hp := fun b => if b = a then some o else H b
theorem upd_same {H : Hp} {a : Addr} {o : HO} : upd H a o a = some o := by unfold upd; rw [if_pos rfl]
theorem upd_ne {H : Hp} {a b : Addr} {o : HO} (h : b ≠ a) : upd H a o b = H b := by unfold upd; rw [if_neg h]
/-- two objects of different content stand apart -/
theorem ne_of {H : Hp} {a b : Addr} {o u : HO} (h : H a = some o) (h' : H b = some u) (d : o ≠ u) : a ≠ b := by
  intro e; subst e; rw [h] at h'; exact d (Option.some.inj h')
theorem ne_of_none {H : Hp} {a b : Addr} {o : HO} (h : H a = some o) (h' : H b = none) : a ≠ b := by
  intro e; subst e; rw [h] at h'; cases h'

section
variable (P : Program) (w : World)
def ObjOk (H : Hp) (h : Heap) (a : Addr) : HO → Prop
  | .lst xs => xs.length ≤ sizeLine ∧ ∃ (its : List Value) (n : Nat), Vals xs its ∧ h.get? a = some { cls := .type "list", data := .seq its.toArray n }
  | .tup xs => xs.length ≤ sizeLine ∧ ∃ its : List Value, Vals xs its ∧ IsTup h a its.toArray
  | .dK kvs => kvs.length ≤ sizeLine ∧ (a == sysModules) = false ∧ ∃ vs, KV kvs vs ∧ h.DictOf (mixKind P w) a vs
  | .dT kvs => kvs.length ≤ sizeLine ∧ (a == sysModules) = false ∧ ∃ xs : List (List Key × Addr × Value),
      Paired (fun (p : List Key × V) (q : List Key × Addr × Value) => p.1 = q.1 ∧ H q.2.1 = some (.tup (p.1.map kV)) ∧ RelV p.2 q.2.2) kvs xs ∧
      ∃ o es ep, h.get? a = some o ∧ o.ExactDict ∧ o.data = .dict es ep ∧ es.toList = xs.map (entryOfKey (tupleKind (mixKind P w))) ∧ (xs.map (·.1)).Nodup
  | .set S n => h.SetOf (intKind P w) a S n
  | .ins C dx fs => H dx = some (.own a) ∧ fs.length ≤ 1000 ∧ dx ≠ a ∧ h.get? a = some (PySem.W.instObj C dx) ∧
      ∃ mA, h.Ns1 dx mA ∧ (∀ f, RelO (fs.lookup f) (mA f)) ∧ PySem.Within mA (fs.map (·.1))
  | .own _ => ∃ o, h.get? a = some o
  | .xd fs => ∃ mA, h.Ns1 a mA ∧ ∀ f, RelO (fs.lookup f) (mA f)
  | .rng lo hi => ∃ t u v, h.get? a = some { cls := .type "range", data := .fields #[.int lo t, .int hi u, .int 1 v] }
  | .frz o u => h.get? a = some o ∧ ObjOk H h a u
  | .tbl ps => h.get? a = some { cls := .none, data := .fields ps }
  | .met f x => h.get? a = some (PySem.W.methodObj (.ref f) (.ref x))
  | .ext φ => φ h ∧ (∃ o, h.get? a = some o) ∧ ∀ h1 h2 : Heap, φ h1 → (∀ o, h1.get? a = some o → h2.get? a = some o) → φ h2
/-- the abstract heap is held -/
def HOk (H : Hp) (h : Heap) : Prop := ∀ a o, H a = some o → ObjOk P w H h a o
end

section
variable {P : Program} {w : World} {H H' : Hp} {h h' : Heap} {a : Addr} {o : HO}
theorem ObjOk.lt (x : ObjOk P w H h a o) : a < h.objs.size := by
  cases o with
  | lst xs => obtain ⟨_, _, _, _, e⟩ := x; exact Heap.lt_size e
  | tup xs => obtain ⟨_, _, _, p⟩ := x; exact p.lt
  | dK kvs => obtain ⟨_, _, _, _, o, _, _, e, _⟩ := x; exact Heap.lt_size e
  | dT kvs => obtain ⟨_, _, _, _, o, _, _, e, _⟩ := x; exact Heap.lt_size e
  | set S n => obtain ⟨o, _, _, _, e, _⟩ := x; exact Heap.lt_size e
  | ins C dx fs => obtain ⟨_, _, _, e, _⟩ := x; exact Heap.lt_size e
  | own y => obtain ⟨_, e⟩ := x; exact Heap.lt_size e
  | xd fs => obtain ⟨_, ⟨_, _, _, e, _⟩, _⟩ := x; exact Heap.lt_size e
  | rng lo hi => obtain ⟨_, _, _, e⟩ := x; exact Heap.lt_size e
  | frz ob u => obtain ⟨e, _⟩ := x; exact Heap.lt_size e
  | tbl ps => exact Heap.lt_size (show h.get? a = some _ from x)
  | met f y => exact Heap.lt_size (show h.get? a = some _ from x)
  | ext φ => obtain ⟨_, ⟨_, e⟩, _⟩ := x; exact Heap.lt_size e
theorem Paired.mapP {α β : Type} {F G : α → β → Prop} : ∀ {l₁ : List α} {l₂ : List β}, Paired F l₁ l₂ → (∀ a b, F a b → G a b) → Paired G l₁ l₂
  | _, _, .nil, _ => .nil
  | _, _, .cons r t, f => .cons (f _ _ r) (Paired.mapP t f)
/-- what an object's description leans on: its own object, its own dict, the tuples -/
theorem ObjOk.stay (x : ObjOk P w H h a o) (k : ∀ b u, (b = a ∨ H b = some (.own a)) → h.get? b = some u → h'.get? b = some u)
    (ho : ∀ b, H b = some (.own a) → H' b = some (.own a)) (ht : ∀ b xs, H b = some (.tup xs) → H' b = some (.tup xs)) : ObjOk P w H' h' a o := by
  induction o with
  | lst xs => obtain ⟨z, its, n, r, e⟩ := x; exact ⟨z, its, n, r, k _ _ (.inl rfl) e⟩
  | tup xs => obtain ⟨z, its, r, ob, e, c⟩ := x; exact ⟨z, its, r, ob, k _ _ (.inl rfl) e, c⟩
  | dK kvs => obtain ⟨z, y, vs, r, ob, es, ep, e, c⟩ := x; exact ⟨z, y, vs, r, ob, es, ep, k _ _ (.inl rfl) e, c⟩
  | dT kvs =>
    obtain ⟨z, y, xs, r, ob, es, ep, e, c⟩ := x
    exact ⟨z, y, xs, Paired.mapP r fun p q z => ⟨z.1, ht _ _ z.2.1, z.2.2⟩, ob, es, ep, k _ _ (.inl rfl) e, c⟩
  | set S n => obtain ⟨ob, es, ep, t, e, c⟩ := x; exact ⟨ob, es, ep, t, k _ _ (.inl rfl) e, c⟩
  | ins C dx fs =>
    obtain ⟨d, z, ne, e, mA, ⟨od, es, ep, e2, c⟩, r⟩ := x
    exact ⟨ho _ d, z, ne, k _ _ (.inl rfl) e, mA, ⟨od, es, ep, k _ _ (.inr d) e2, c⟩, r⟩
  | own y => obtain ⟨ob, e⟩ := x; exact ⟨ob, k _ _ (.inl rfl) e⟩
  | xd fs => obtain ⟨mA, ⟨od, es, ep, e, c⟩, r⟩ := x; exact ⟨mA, ⟨od, es, ep, k _ _ (.inl rfl) e, c⟩, r⟩
  | rng lo hi => obtain ⟨t, u, v, e⟩ := x; exact ⟨t, u, v, k _ _ (.inl rfl) e⟩
  | frz ob u ih => obtain ⟨e, q⟩ := x; exact ⟨k _ _ (.inl rfl) e, ih q⟩
  | tbl ps =>
    have e : h.get? a = some { cls := .none, data := .fields ps } := x
    show h'.get? a = some { cls := .none, data := .fields ps }
    exact k a _ (.inl rfl) e
  | met f y =>
    have e : h.get? a = some (PySem.W.methodObj (.ref f) (.ref y)) := x
    show h'.get? a = some (PySem.W.methodObj (.ref f) (.ref y))
    exact k a _ (.inl rfl) e
  | ext φ => obtain ⟨p, ⟨o, e⟩, st⟩ := x; exact ⟨st _ _ p fun o q => k _ _ (.inl rfl) q, ⟨o, k _ _ (.inl rfl) e⟩, st⟩
theorem HOk.lt (x : HOk P w H h) (e : H a = some o) : a < h.objs.size := (x a o e).lt
theorem HOk.fresh (x : HOk P w H h) (e : h.objs.size ≤ a) : H a = none := by
  cases q : H a with
  | none => rfl
  | some u => exact absurd (Nat.lt_of_lt_of_le (x.lt q) e) (Nat.lt_irrefl _)
/-- every object of the heap is kept -/
theorem HOk.kept (x : HOk P w H h) (k : ∀ b u, h.get? b = some u → h'.get? b = some u) : HOk P w H h' := fun a o e =>
  (x a o e).stay (fun b u _ q => k b u q) (fun _ q => q) fun _ _ q => q
/-- a new object is laid and tracked -/
theorem HOk.laid (x : HOk P w H h) (k : ∀ b u, h.get? b = some u → h'.get? b = some u) (hp : h.objs.size ≤ a) (new : ObjOk P w (upd H a o) h' a o) : HOk P w (upd H a o) h' := fun b u e => by
  have hn := x.fresh hp
  by_cases hb : b = a
  · subst hb; rw [upd_same] at e; cases e; exact new
  · rw [upd_ne hb] at e
    exact (x b u e).stay (fun c v _ q => k c v q) (fun c q => by rw [upd_ne (ne_of_none q hn)]; exact q) fun c xs q => by rw [upd_ne (ne_of_none q hn)]; exact q
end

/-- what may be read as u: it is u, or a known u -/
def Rd (H : Hp) (a : Addr) (u : HO) : Prop := H a = some u ∨ ∃ o, H a = some (.frz o u)
theorem Rd.ok {P : Program} {w : World} {H : Hp} {h : Heap} {a : Addr} {u : HO} (r : Rd H a u) (x : HOk P w H h) : ObjOk P w H h a u := by
  rcases r with r | ⟨o, r⟩
  · exact x a u r
  · obtain ⟨_, q⟩ := x a _ r
    exact q
/-- what may be written -/
def Mut : Option HO → Prop
  | some (.lst _) => True
  | some (.dK _) => True
  | some (.dT _) => True
  | some (.set _ _) => True
  | some (.ins _ _ _) => True
  | some (.ext _) => True
  | _ => False
section
variable {P : Program} {w : World} {H : Hp} {h h' : Heap} {x e : Addr} {o' : HO}
/-- the object at e is changed: x itself, or the dict of the instance x -/
theorem HOk.write (ok : HOk P w H h) (mu : Mut (H x)) (he : e = x ∨ H e = some (.own x)) (k : ∀ b u, b ≠ e → h.get? b = some u → h'.get? b = some u) (heo : ∃ u, h'.get? e = some u)
    (new : ObjOk P w (upd H x o') h' x o') : HOk P w (upd H x o') h' := fun b u q => by
  have nown : ∀ c y, H c = some (.own y) → c ≠ x := fun c y r z => by subst z; rw [r] at mu; exact mu
  have ntup : ∀ c xs, H c = some (.tup xs) → c ≠ x := fun c xs r z => by subst z; rw [r] at mu; exact mu
  by_cases hb : b = x
  · subst hb; rw [upd_same] at q; cases q; exact new
  · rw [upd_ne hb] at q
    by_cases hbe : b = e
    · have q' : H b = some (.own x) := by
        rcases he with z | z
        · exact absurd (hbe.trans z) hb
        · rw [hbe]; exact z
      rw [q] at q'; cases q'
      obtain ⟨v, hv⟩ := heo
      exact ⟨v, by rw [hbe]; exact hv⟩
    · refine (ok b u q).stay (fun c v hc r => k c v ?_ r) (fun c r => by rw [upd_ne (nown c b r)]; exact r) fun c xs r => by rw [upd_ne (ntup c xs r)]; exact r
      rcases hc with rfl | hc
      · exact hbe
      · rintro rfl
        rcases he with z | z
        · exact nown c b hc z
        · rw [hc] at z; cases z; exact hb rfl
end

/-! ### kept unless tracked; of the frames at fs (the callers') the slots may change (an exception that passes writes there); of the records at ex (iterators) nothing is said -/
structure Un (fs ex : List Addr) (H H' : Hp) (h h' : Heap) : Prop where
  keep : ∀ b o, h.get? b = some o → H b = none → b ∉ fs → b ∉ ex → h'.get? b = some o
  slot : ∀ b o, h.get? b = some o → H b = none → b ∈ fs → b ∉ ex → ∃ sl, h'.get? b = some { o with slots := sl }
  free : ∀ b o, h.get? b = some o → H b = none → b ∉ ex → H' b = none
  there : ∀ b o, h.get? b = some o → b ∉ ex → ∃ o', h'.get? b = some o'
  tups : ∀ b xs, H b = some (.tup xs) → H' b = some (.tup xs)
  frzs : ∀ b o u, H b = some (.frz o u) → H' b = some (.frz o u)
  tbls : ∀ b ps, H b = some (.tbl ps) → ∃ more, H' b = some (.tbl (ps ++ more))
section
variable {fs fs' ex ex' : List Addr} {H H1 H2 : Hp} {h h1 h2 h' : Heap} {a x e : Addr} {o : HO}
theorem Un.any (u : Un fs ex H H1 h h1) {b : Addr} {ob : Obj} (q : h.get? b = some ob) (n : H b = none) (hx : b ∉ ex) : ∃ sl, h1.get? b = some { ob with slots := sl } := by
  by_cases hb : b ∈ fs
  · exact u.slot b ob q n hb hx
  · exact ⟨ob.slots, u.keep b ob q n hb hx⟩
theorem Un.kept (k : ∀ b u, h.get? b = some u → h'.get? b = some u) : Un fs ex H H h h' :=
  ⟨fun b ob q _ _ _ => k b ob q, fun b ob q _ _ _ => ⟨ob.slots, k b ob q⟩, fun _ _ _ n _ => n, fun b ob q _ => ⟨ob, k b ob q⟩, fun _ _ q => q, fun _ _ _ q => q, fun _ ps q => ⟨#[], by rw [q]; simp⟩⟩
theorem Un.refl : Un fs ex H H h h := Un.kept fun _ _ q => q
theorem Un.laid (k : ∀ b u, h.get? b = some u → h'.get? b = some u) (hp : h.objs.size ≤ a) (hn : H a = none) : Un fs ex H (upd H a o) h h' where
  keep := fun b u q _ _ _ => k b u q
  slot := fun b u q _ _ _ => ⟨u.slots, k b u q⟩
  free := fun b u q n _ => by rw [upd_ne (Nat.ne_of_lt (Nat.lt_of_lt_of_le (Heap.lt_size q) hp))]; exact n
  there := fun b u q _ => ⟨u, k b u q⟩
  tups := fun b xs q => by rw [upd_ne (ne_of_none q hn)]; exact q
  frzs := fun b u xs q => by rw [upd_ne (ne_of_none q hn)]; exact q
  tbls := fun b ps q => ⟨#[], by rw [upd_ne (ne_of_none q hn), q]; simp⟩
theorem Un.write (mu : Mut (H x)) (he : e = x ∨ H e = some (.own x)) (k : ∀ b u, b ≠ e → h.get? b = some u → h'.get? b = some u) (heo : ∃ u, h'.get? e = some u) : Un fs ex H (upd H x o) h h' := by
  have hx : ∀ b, H b = none → b ≠ x := fun b n z => by subst z; rw [n] at mu; exact mu
  have hb : ∀ b, H b = none → b ≠ e := fun b n z => by
    subst z
    rcases he with r | r
    · exact hx b n r
    · rw [n] at r; cases r
  have hm : ∀ b u, H b = some u → ¬ Mut (some u) → b ≠ x := fun b u q nm z => by subst z; rw [q] at mu; exact nm mu
  refine ⟨fun b u q n _ _ => k b u (hb b n) q, fun b u q n _ _ => ⟨u.slots, k b u (hb b n) q⟩, fun b u q n _ => by rw [upd_ne (hx b n)]; exact n, fun b u q _ => ?_,
    fun b xs q => by rw [upd_ne (hm b _ q fun z => z)]; exact q, fun b u xs q => by rw [upd_ne (hm b _ q fun z => z)]; exact q, fun b ps q => ⟨#[], by rw [upd_ne (hm b _ q fun z => z), q]; simp⟩⟩
  by_cases hbe : b = e
  · subst hbe; exact heo
  · exact ⟨u, k b u hbe q⟩
end

/-! ### the heap without what is tracked -/
def trk (h : Heap) (H : Hp) : List Addr := (List.range h.objs.size).filter fun a => (H a).isSome
def hidT (h : Heap) (H : Hp) : Heap := PySem.W.hideAll h (trk h H)
theorem hidT_size (h : Heap) (H : Hp) : (hidT h H).objs.size = h.objs.size := PySem.W.hideAll_size _ _
theorem hidT_get {h : Heap} {H : Hp} {b : Addr} {o : Obj} (e : h.get? b = some o) (n : H b = none) : (hidT h H).get? b = some o :=
  PySem.W.hideAll_get _ e fun hm => by
    have q : (H b).isSome = true := (List.mem_filter.mp hm).2
    rw [n] at q; simp at q
theorem of_hidT {h : Heap} {H : Hp} {b : Addr} {o : Obj} (e : (hidT h H).get? b = some o) : h.get? b = some o ∧ H b = none := by
  have e' : h.get? b = some o := PySem.W.of_hideAll (trk h H) e
  refine ⟨e', ?_⟩
  cases q : H b with
  | none => rfl
  | some x =>
    have hm : b ∈ trk h H := List.mem_filter.mpr ⟨List.mem_range.mpr (Heap.lt_size e'), by simp [q]⟩
    have z : (hidT h H).get? b = none := PySem.W.hideAll_none (trk h H) hm
    rw [z] at e; cases e

/-! ### OpenK's ledger, filled with every new object but one -/
def allNews (g h : Heap) (L : Addr) : List (Addr × Obj) := (List.range h.objs.size).filterMap fun a => if a = L ∨ (g.get? a).isSome = true then none else (h.get? a).map fun o => (a, o)
def rest (g h : Heap) (L d : Addr) : List (Addr × Obj) := (allNews g h L).filter fun p => decide (p.1 ≠ d)
end L2

namespace L2
open PySem PySem.Spec PyProof.Rows

/-- the module's facts, over the base: the heap at the law's entry without what is tracked there -/
structure Mod (K : PySem.W.Frag) (mg : Str → Option Value) (base : Heap) : Prop where
  kin : K.In base
  glob : base.Ns mainGlobals mg
  blt : ∃ mb, base.Ns builtinsNs mb ∧ ∀ x : Str, x ≠ "__name__" → mb x = bootBuiltins x
  nolimit : base.NoLimit

/-- the context: a def's body (or a comprehension's block) running. base: fixed through the whole law; s₀, H₀: the entry; outer: the frames whose slots others may change (a def's callers); stack: all frames that run;
   ex: iterators that were made ahead of the entry and are walked here (a comprehension's); fn: the names whose cells were made at the entry (a def: all; a comprehension's block: its own); calm: not within an except suite; pn: pins that every state bears; xe: what is wanted of an exception that leaves the code -/
structure Cx where
  prog : Program
  w : World
  K : PySem.W.Frag
  mg : Str → Option Value
  base : Heap
  A : Around
  N : List Str
  s₀ : Shared
  H₀ : Hp
  env : Env
  outer : List Env
  stack : List Env
  ex : List Addr
  fn : Str → Bool
  calm : Bool
  pn : List (Addr × Obj)
  xe : Value → Shared → Prop
/-- the callers' frames -/
def frs (l : List Env) : List Addr := l.filterMap (·.frame)
abbrev Cx.fs (X : Cx) : List Addr := frs X.outer

def Vis (sc : Scope) (x : Str) : Prop := sc.names.lookup x = some .local ∨ sc.names.lookup x = some .cell ∨ sc.names.lookup x = some .free
def Loc (sc : Scope) (x : Str) : Prop := sc.names.lookup x = some .local ∨ sc.names.lookup x = some .cell
def Look (env : Env) (h : Heap) (m : Str → Option Value) (x : Str) (u : Value) : Prop :=
  (env.kindOf x = some .local ∧ m x = some u) ∨ ((env.kindOf x = some .cell ∨ env.kindOf x = some .free) ∧ ∃ c, env.cells.lookup x = some c ∧ h.IsCell c (some u))

structure Cx.Ok (X : Cx) : Prop where
  mod : Mod X.K X.mg X.base
  kind : X.env.scope.kind = .function
  glob : X.env.globals = mainGlobals
  blt : X.env.builtins = builtinsNs
  above : X.s₀.heap.objs.size ≤ X.env.locals
  inj : ∀ x y c, X.env.cells.lookup x = some c → X.env.cells.lookup y = some c → x = y
  has : ∀ x, (X.env.kindOf x = some .cell ∨ X.env.kindOf x = some .free) → ∃ c, X.env.cells.lookup x = some c
  cab : ∀ x c, X.fn x = true → X.env.cells.lookup x = some c → X.s₀.heap.objs.size ≤ c
  hd : X.calm = true → X.A.handled = none
  frames : X.A.frames = some X.stack
  stk : X.stack = X.outer ∨ (X.stack = X.env :: X.outer ∧ X.env.frame = some X.env.locals)
  exf : ∀ b ∈ X.ex, b ≠ X.env.locals ∧ ∀ x c, X.env.cells.lookup x = some c → c ≠ b
  bs : ∀ b o, X.base.get? b = some o → X.s₀.heap.get? b = some o ∧ X.H₀ b = none
  bsz : X.base.objs.size ≤ X.s₀.heap.objs.size
  noex : ∀ b o, X.base.get? b = some o → b ∉ X.ex
  exfs : ∀ b ∈ X.ex, b ∉ X.fs
  funs : X.s₀.heap.FunFrames X.base X.outer
  frf : ∀ b ∈ X.fs, X.H₀ b = none

structure Inv (X : Cx) (pins : List (Addr × Obj)) (σ : List (Option V)) (H : Hp) (s : Shared) : Prop where
  ok : X.Ok
  os : s.os = X.s₀.os
  bare : AllBare s.gens
  base : Un X.fs X.ex X.H₀ H X.s₀.heap s.heap
  loc : ∃ m, s.heap.Ns X.env.locals m ∧ ∀ (i : Nat) (x : Str) (v : V), X.N[i]? = some x → σ[i]? = some (some v) → Vis X.env.scope x → ∃ u, RelV v u ∧ Look X.env s.heap m x u
  cell : ∀ x c, X.env.cells.lookup x = some c → ∃ v, s.heap.IsCell c v
  free : H X.env.locals = none
  freeC : ∀ x c, X.env.cells.lookup x = some c → H c = none
  pin : ∀ p ∈ X.pn ++ pins, s.heap.get? p.1 = some p.2 ∧ H p.1 = none ∧ p.1 ≠ X.env.locals ∧ p.1 ∉ X.fs ∧ ∀ v, p.2.data ≠ .cell v
  hok : HOk X.prog X.w H s.heap
  len : σ.length = X.N.length

section
variable {X : Cx} {pins : List (Addr × Obj)} {σ : List (Option V)} {H H' : Hp} {s : Shared} {h' : Heap}

theorem Cx.Ok.nofr (ok : X.Ok) {b : Addr} {o : Obj} (e : X.base.get? b = some o) : b ∉ X.fs := fun hb => by
  have := (ok.funs.mem hb).1
  rw [e] at this; cases this
theorem Inv.bs (I : Inv X pins σ H s) : ∀ b o, X.base.get? b = some o → s.heap.get? b = some o ∧ H b = none := fun b o e =>
  ⟨I.base.keep b o (I.ok.bs b o e).1 (I.ok.bs b o e).2 (I.ok.nofr e) (I.ok.noex b o e), I.base.free b o (I.ok.bs b o e).1 (I.ok.bs b o e).2 (I.ok.noex b o e)⟩
theorem Inv.bk (I : Inv X pins σ H s) : ∀ b o, X.base.get? b = some o → s.heap.get? b = some o := fun b o e => (I.bs b o e).1
theorem Inv.mod (I : Inv X pins σ H s) : Mod X.K X.mg X.base := I.ok.mod
theorem Inv.kIn (I : Inv X pins σ H s) : X.K.In s.heap := I.ok.mod.kin.keeps I.bk
theorem Inv.lt (I : Inv X pins σ H s) : X.env.locals < s.heap.objs.size := let ⟨_, hn, _⟩ := I.loc; hn.lt
theorem Inv.sz (I : Inv X pins σ H s) : X.s₀.heap.objs.size ≤ s.heap.objs.size := Nat.le_trans I.ok.above (Nat.le_of_lt I.lt)
theorem Inv.nofs (I : Inv X pins σ H s) {a : Addr} (h : s.heap.objs.size ≤ a) : a ∉ X.fs := fun hb => by
  obtain ⟨_, o, ho, _⟩ := I.ok.funs.mem hb
  exact absurd (Nat.lt_of_lt_of_le (Heap.lt_size ho) (Nat.le_trans I.sz h)) (Nat.lt_irrefl _)
theorem Inv.cne (I : Inv X pins σ H s) : ∀ x c, X.env.cells.lookup x = some c → c ≠ X.env.locals := fun x c e z => by
  obtain ⟨v, o, ho, hd⟩ := I.cell x c e
  obtain ⟨m, ⟨o', es, ep, ho', hd', _⟩, _⟩ := I.loc
  rw [z, ho'] at ho; cases ho; rw [hd'] at hd; cases hd
theorem Inv.funs (I : Inv X pins σ H s) : s.heap.FunFrames X.base X.outer := by
  have all : ∀ (l : List Env), (∀ b ∈ frs l, b ∈ X.fs) → X.s₀.heap.FunFrames X.base l → s.heap.FunFrames X.base l := by
    intro l
    induction l with
    | nil => intro _ _; trivial
    | cons env r ih =>
      intro hs hl
      obtain ⟨hk, ⟨L, o, hf, hn, ho, hd⟩, hr⟩ := hl
      have hL : L ∈ X.fs := hs L (by unfold frs; rw [List.filterMap_cons, hf]; exact List.mem_cons_self)
      obtain ⟨sl, e⟩ := I.base.slot L o ho (I.ok.frf L hL) hL fun z => I.ok.exfs L z hL
      exact ⟨hk, ⟨L, _, hf, hn, e, hd⟩, ih (fun b hb => hs b (by unfold frs; rw [List.filterMap_cons, hf]; exact List.mem_cons_of_mem _ hb)) hr⟩
  exact all X.outer (fun _ hb => hb) I.ok.funs

/-- the frames that run, for a call -/
theorem Inv.stack (I : Inv X pins σ H s) : s.heap.FunFrames X.base X.stack := by
  rcases I.ok.stk with e | ⟨e, hf⟩
  · rw [e]; exact I.funs
  · rw [e]
    obtain ⟨m, hn, _⟩ := I.loc
    refine .cons (by rw [I.ok.kind]; decide) hf hn ?_ I.funs
    exact Heap.get?_none_of_le (Nat.le_trans I.ok.bsz I.ok.above)
theorem Inv.stkSub (I : Inv X pins σ H s) : ∀ b ∈ frs X.stack, b ∈ X.env.locals :: X.fs := fun b hb => by
  rcases I.ok.stk with e | ⟨e, hf⟩
  · rw [e] at hb; exact List.mem_cons_of_mem _ hb
  · rw [e] at hb
    unfold frs at hb
    rw [List.filterMap_cons, hf] at hb
    exact hb
theorem Inv.stkFree (I : Inv X pins σ H s) : ∀ b ∈ frs X.stack, H b = none := fun b hb => by
  rcases List.mem_cons.mp (I.stkSub b hb) with e | hb
  · rw [e]; exact I.free
  · obtain ⟨_, o, ho, _⟩ := I.ok.funs.mem hb
    exact I.base.free b o ho (I.ok.frf b hb) fun z => I.ok.exfs b z hb

/-- THE STEP: the untracked objects but the frame and the records at ch are kept (the callers' frames up to slots), the frame's map is kept, the new abstract heap is held -/
theorem Inv.step {g' : Array GenState} {t' : Nat} {d' : Drawn} {ch : List Addr} (I : Inv X pins σ H s)
    (hch : ∀ b ∈ ch, (b ∈ X.ex ∨ X.s₀.heap.objs.size ≤ b) ∧ b ≠ X.env.locals ∧ (∀ x c, X.env.cells.lookup x = some c → c ≠ b) ∧ ∀ p ∈ X.pn ++ pins, p.1 ≠ b)
    (keep : ∀ b o, b ≠ X.env.locals → b ∉ X.fs → b ∉ ch → s.heap.get? b = some o → H b = none → h'.get? b = some o)
    (slot : ∀ b o, b ≠ X.env.locals → b ∈ X.fs → b ∉ ch → s.heap.get? b = some o → H b = none → ∃ sl, h'.get? b = some { o with slots := sl }) (free : ∀ b o, b ∉ ch → s.heap.get? b = some o → H b = none → H' b = none)
    (there : ∀ b o, b ∉ ch → s.heap.get? b = some o → ∃ o', h'.get? b = some o')
    (tups : ∀ b xs, H b = some (.tup xs) → H' b = some (.tup xs)) (frzs : ∀ b o u, H b = some (.frz o u) → H' b = some (.frz o u)) (tbls : ∀ b ps, H b = some (.tbl ps) → ∃ more, H' b = some (.tbl (ps ++ more)))
    (ns : ∀ m, s.heap.Ns X.env.locals m → h'.Ns X.env.locals m) (hok : HOk X.prog X.w H' h') (hg : AllBare g') :
    Inv X pins σ H' { s with heap := h', gens := g', drawn := d', toks := t' } := by
  have neL : ∀ b o, X.s₀.heap.get? b = some o → b ≠ X.env.locals := fun b o e => Nat.ne_of_lt (Nat.lt_of_lt_of_le (Heap.lt_size e) I.ok.above)
  have neC : ∀ b o, X.s₀.heap.get? b = some o → b ∉ X.ex → b ∉ ch := fun b o e hx hb => by
    rcases (hch b hb).1 with z | z
    · exact hx z
    · exact absurd (Nat.lt_of_lt_of_le (Heap.lt_size e) z) (Nat.lt_irrefl _)
  have cellK : ∀ x c, X.env.cells.lookup x = some c → ∀ v, s.heap.IsCell c v → h'.IsCell c v := fun x c e v ⟨o, ho, hd⟩ => by
    have nch : c ∉ ch := fun z => (hch c z).2.2.1 x c e rfl
    by_cases hc : c ∈ X.fs
    · obtain ⟨sl, q⟩ := slot c o (I.cne x c e) hc nch ho (I.freeC x c e)
      exact ⟨_, q, hd⟩
    · exact ⟨o, keep c o (I.cne x c e) hc nch ho (I.freeC x c e), hd⟩
  refine ⟨I.ok, I.os, hg, ⟨fun b o e n hb hx => ?_, fun b o e n hb hx => ?_, fun b o e n hx => ?_, fun b o e hx => ?_, fun b xs e => tups b xs (I.base.tups b xs e), fun b o xs e => frzs b o xs (I.base.frzs b o xs e), fun b ps e => ?_⟩, ?_, fun x c e => ?_, ?_, fun x c e => ?_, fun p hp => ?_, hok, I.len⟩
  · exact keep b o (neL b o e) hb (neC b o e hx) (I.base.keep b o e n hb hx) (I.base.free b o e n hx)
  · obtain ⟨sl, e1⟩ := I.base.slot b o e n hb hx
    obtain ⟨sl', e2⟩ := slot b _ (neL b o e) hb (neC b o e hx) e1 (I.base.free b o e n hx)
    exact ⟨sl', e2⟩
  · obtain ⟨o', e1⟩ := I.base.there b o e hx
    exact free b o' (neC b o e hx) e1 (I.base.free b o e n hx)
  · obtain ⟨o', e1⟩ := I.base.there b o e hx
    exact there b o' (neC b o e hx) e1
  · obtain ⟨m1, e1⟩ := I.base.tbls b ps e
    obtain ⟨m2, e2⟩ := tbls b _ e1
    exact ⟨m1 ++ m2, by rw [e2, Array.append_assoc]⟩
  · obtain ⟨m, hn, hl⟩ := I.loc
    refine ⟨m, ns m hn, fun i x v e1 e2 e3 => ?_⟩
    obtain ⟨u, r, l⟩ := hl i x v e1 e2 e3
    refine ⟨u, r, ?_⟩
    rcases l with l | ⟨k, c, e, z⟩
    · exact .inl l
    · exact .inr ⟨k, c, e, cellK x c e _ z⟩
  · obtain ⟨v, z⟩ := I.cell x c e
    exact ⟨v, cellK x c e v z⟩
  · obtain ⟨m, ⟨o, _, _, ho, _⟩, _⟩ := I.loc
    exact free _ o (fun z => (hch _ z).2.1 rfl) ho I.free
  · obtain ⟨v, o, ho, hd⟩ := I.cell x c e
    exact free c o (fun z => (hch c z).2.2.1 x c e rfl) ho (I.freeC x c e)
  · obtain ⟨e, n, ne, nf, d⟩ := I.pin p hp
    have nch : p.1 ∉ ch := fun z => (hch p.1 z).2.2.2 p hp rfl
    exact ⟨keep p.1 p.2 ne nf nch e n, free p.1 p.2 nch e n, ne, nf, d⟩
/-- .. where the frame's own object is kept too -/
theorem Inv.un {t' : Nat} (I : Inv X pins σ H s) (u : Un X.fs [] H H' s.heap h') (hok : HOk X.prog X.w H' h') : Inv X pins σ H' { s with heap := h', toks := t' } := by
  obtain ⟨m, ⟨o, es, ep, ho, r⟩, _⟩ := id I.loc
  obtain ⟨sl, hL⟩ := u.any ho I.free (by simp)
  exact I.step (g' := s.gens) (d' := s.drawn) (ch := []) (fun _ z => nomatch z) (fun b o _ hb _ e n => u.keep b o e n hb (by simp)) (fun b o _ hb _ e n => u.slot b o e n hb (by simp)) (fun b o _ e n => u.free b o e n (by simp)) (fun b o _ e => u.there b o e (by simp)) u.tups u.frzs u.tbls (fun m' hm => by
    obtain ⟨o', es', ep', ho', r'⟩ := hm
    rw [ho] at ho'; cases ho'
    exact ⟨_, es', ep', hL, r'⟩) hok I.bare
/-- behind a call (or a comprehension's block): the slots of this frame may have changed too, the records at ch may have turned -/
theorem Inv.call {g' : Array GenState} {t' : Nat} {d' : Drawn} {ch : List Addr} (I : Inv X pins σ H s) (u : Un (frs X.stack) ch H H' s.heap h') (hok : HOk X.prog X.w H' h') (hg : AllBare g')
    (hch : ∀ b ∈ ch, (b ∈ X.ex ∨ X.s₀.heap.objs.size ≤ b) ∧ b ≠ X.env.locals ∧ (∀ x c, X.env.cells.lookup x = some c → c ≠ b) ∧ ∀ p ∈ X.pn ++ pins, p.1 ≠ b) :
    Inv X pins σ H' { s with heap := h', gens := g', drawn := d', toks := t' } := by
  obtain ⟨m, ⟨o, es, ep, ho, r⟩, _⟩ := id I.loc
  obtain ⟨sl, hL⟩ := u.any ho I.free fun z => (hch _ z).2.1 rfl
  exact I.step (ch := ch) hch (fun b o hL hb hc e n => u.keep b o e n (fun z => (List.mem_cons.mp (I.stkSub b z)).elim hL hb) hc) (fun b o _ _ hc e n => u.any e n hc) (fun b o hc e n => u.free b o e n hc) (fun b o hc e => u.there b o e hc) u.tups u.frzs u.tbls (fun m' hm => by
    obtain ⟨o', es', ep', ho', r'⟩ := hm
    rw [ho] at ho'; cases ho'
    exact ⟨_, es', ep', hL, r'⟩) hok hg
/-- an untracked record of ours (an iterator) has turned -/
theorem Inv.turned {t' : Nat} {it : Addr} (I : Inv X pins σ H s) (k : ∀ b o, b ≠ it → s.heap.get? b = some o → h'.get? b = some o) (hn : H it = none) (hL : it ≠ X.env.locals)
    (h1 : it ∈ X.ex ∨ X.s₀.heap.objs.size ≤ it) (h2 : ∀ x c, X.env.cells.lookup x = some c → c ≠ it) (h3 : ∀ p ∈ X.pn ++ pins, p.1 ≠ it) : Inv X pins σ H { s with heap := h', toks := t' } := by
  have nit : ∀ b u, H b = some u → b ≠ it := fun b u e z => by rw [z, hn] at e; cases e
  refine I.step (g' := s.gens) (d' := s.drawn) (ch := [it]) (fun b hb => ?_) (fun b o _ _ hc e _ => k b o (fun z => hc (by simp [z])) e) (fun b o _ _ hc e _ => ⟨o.slots, k b o (fun z => hc (by simp [z])) e⟩) (fun _ _ _ _ n => n)
    (fun b o hc e => ⟨o, k b o (fun z => hc (by simp [z])) e⟩) (fun _ _ e => e) (fun _ _ _ e => e) (fun b ps e => ⟨#[], by rw [e]; simp⟩) (fun m hm => ?_) (fun b u e => ?_) I.bare
  · have e : b = it := by simpa using hb
    subst e
    exact ⟨h1, hL, h2, h3⟩
  · obtain ⟨o, es, ep, ho, r⟩ := hm
    exact ⟨o, es, ep, k _ o (Ne.symm hL) ho, r⟩
  · refine (I.hok b u e).stay (fun c v hc q => k c v ?_ q) (fun _ q => q) fun _ _ q => q
    rcases hc with z | z
    · rw [z]; exact nit b u e
    · exact nit c _ z
theorem Inv.tok (I : Inv X pins σ H s) (t : Nat) : Inv X pins σ H { s with toks := t } := I.un (h' := s.heap) (t' := t) Un.refl I.hok
/-- all objects kept -/
theorem Inv.kept {t' : Nat} (I : Inv X pins σ H s) (k : ∀ b u, s.heap.get? b = some u → h'.get? b = some u) : Inv X pins σ H { s with heap := h', toks := t' } := I.un (Un.kept k) (I.hok.kept k)
/-- a new object laid and tracked -/
theorem Inv.laid {a : Addr} {o : HO} {t' : Nat} (I : Inv X pins σ H s) (k : ∀ b u, s.heap.get? b = some u → h'.get? b = some u) (hp : s.heap.objs.size ≤ a) (new : ObjOk X.prog X.w (upd H a o) h' a o) :
    Inv X pins σ (upd H a o) { s with heap := h', toks := t' } := I.un (Un.laid k hp (I.hok.fresh hp)) (I.hok.laid k hp new)
/-- an object written -/
theorem Inv.write {x e : Addr} {o : HO} {t' : Nat} (I : Inv X pins σ H s) (mu : Mut (H x)) (he : e = x ∨ H e = some (.own x)) (k : ∀ b u, b ≠ e → s.heap.get? b = some u → h'.get? b = some u) (heo : ∃ u, h'.get? e = some u)
    (new : ObjOk X.prog X.w (upd H x o) h' x o) : Inv X pins σ (upd H x o) { s with heap := h', toks := t' } := I.un (Un.write mu he k heo) (I.hok.write mu he k heo new)
/-- forgetting slots, pins -/
theorem Inv.weak {σ' : List (Option V)} (I : Inv X pins σ H s) (hl : σ'.length = σ.length) (w : ∀ (i : Nat) v, σ'[i]? = some (some v) → σ[i]? = some (some v)) : Inv X pins σ' H s :=
  ⟨I.ok, I.os, I.bare, I.base, let ⟨m, hn, hl'⟩ := I.loc; ⟨m, hn, fun i x v e1 e2 e3 => hl' i x v e1 (w i v e2) e3⟩, I.cell, I.free, I.freeC, I.pin, I.hok, hl.trans I.len⟩
theorem Inv.pins_of {pins' : List (Addr × Obj)} (I : Inv X pins σ H s) (h : ∀ p ∈ pins', s.heap.get? p.1 = some p.2 ∧ H p.1 = none ∧ p.1 ≠ X.env.locals ∧ p.1 ∉ X.fs ∧ ∀ v, p.2.data ≠ .cell v) : Inv X pins' σ H s :=
  ⟨I.ok, I.os, I.bare, I.base, I.loc, I.cell, I.free, I.freeC, fun p hp => (List.mem_append.mp hp).elim (fun z => I.pin p (List.mem_append_left _ z)) (h p), I.hok, I.len⟩

theorem nodup_ix {N : List Str} (hN : N.Nodup) {i j : Nat} {x : Str} (a : N[i]? = some x) (b : N[j]? = some x) : i = j := by
  obtain ⟨h1, e1⟩ := List.getElem?_eq_some_iff.mp a
  obtain ⟨h2, e2⟩ := List.getElem?_eq_some_iff.mp b
  exact (List.getElem_inj hN).mp (e1.trans e2.symm)

/-- a name is stored; what changed -/
theorem store_ok2 {M : Model} {A : Around} {E : Value → Shared → Prop} {i : Nat} {x : Str} {v : V} {u : Value} {Q : Unit → Shared → Prop} (I : Inv X pins σ H s) (hN : X.N.Nodup) (hi : X.N[i]? = some x) (hx : Loc X.env.scope x) (r : RelV v u)
    (h : ∀ s', Inv X pins (σ.set i (some v)) H s' → (∃ a, Heap.SameBut a s.heap s'.heap ∧ (a = X.env.locals ∨ X.env.cells.lookup x = some a)) → Q () s') (hf : X.fn x = true ∨ X.env.scope.names.lookup x = some .local := by first | exact .inl rfl | exact .inr rfl | assumption) : wpAny M A (storeName X.env x u) Q E s := by
  obtain ⟨m, hn, hl⟩ := id I.loc
  have hcls : (X.env.scope.kind == .class || (X.env.scope.kind == .module && X.env.locals != X.env.globals)) = false := by rw [I.ok.kind]; rfl
  have hiσ : i < σ.length := by rw [I.len]; exact (List.getElem?_eq_some_iff.mp hi).1
  have cne := I.cne
  have tracked : ∀ {a : Addr} {h' : Heap}, (∃ o, s.heap.get? a = some o ∧ H a = none) → Heap.SameBut a s.heap h' → HOk X.prog X.w H h' := fun {a h'} ha hs b ob e => by
    obtain ⟨_, _, hfree⟩ := ha
    refine (I.hok b ob e).stay (fun c w' hc q => (hs.2 c ?_).trans q) (fun _ q => q) fun _ _ q => q
    rintro rfl
    rcases hc with rfl | hc
    · rw [hfree] at e; cases e
    · rw [hfree] at hc; cases hc
  rcases hx with hk | hk
  · refine wpAny_storeName_local hk hn (fun h' hn' hs => ?_) hcls
    obtain ⟨oL, _, _, hoL, _⟩ := id hn
    refine h _ ⟨I.ok, I.os, I.bare, ⟨fun b o e n hb hx => ?_, fun b o e n hb hx => ?_, I.base.free, fun b o e hx => ?_, I.base.tups, I.base.frzs, I.base.tbls⟩, ⟨_, hn', fun j y v' e1 e2 e3 => ?_⟩, fun y c e => ?_, I.free, I.freeC, fun p hp => ?_, tracked ⟨oL, hoL, I.free⟩ hs, by simpa using I.len⟩ ⟨_, hs, .inl rfl⟩
    · exact (hs.2 b (Nat.ne_of_lt (Nat.lt_of_lt_of_le (Heap.lt_size e) I.ok.above))).trans (I.base.keep b o e n hb hx)
    · obtain ⟨sl, e1⟩ := I.base.slot b o e n hb hx
      exact ⟨sl, (hs.2 b (Nat.ne_of_lt (Nat.lt_of_lt_of_le (Heap.lt_size e) I.ok.above))).trans e1⟩
    · obtain ⟨o', e1⟩ := I.base.there b o e hx
      exact ⟨o', (hs.2 b (Nat.ne_of_lt (Nat.lt_of_lt_of_le (Heap.lt_size e) I.ok.above))).trans e1⟩
    · by_cases hj : j = i
      · subst hj
        rw [hi] at e1; cases e1
        rw [List.getElem?_set_self hiσ] at e2
        cases e2
        exact ⟨u, r, .inl ⟨hk, by simp⟩⟩
      · rw [List.getElem?_set_ne (Ne.symm hj)] at e2
        obtain ⟨u', r', q⟩ := hl j y v' e1 e2 e3
        refine ⟨u', r', ?_⟩
        rcases q with ⟨k, e⟩ | ⟨k, c, e, z⟩
        · refine .inl ⟨k, ?_⟩
          have : y ≠ x := fun e => hj (nodup_ix hN e1 (e ▸ hi))
          simp [this, e]
        · exact .inr ⟨k, c, e, z.sameBut hs (cne y c e)⟩
    · obtain ⟨w', z⟩ := I.cell y c e
      exact ⟨w', z.sameBut hs (cne y c e)⟩
    · obtain ⟨e, n, ne, nf, d⟩ := I.pin p hp
      exact ⟨(hs.2 p.1 ne).trans e, n, ne, nf, d⟩
  · have hfn : X.fn x = true := by
      rcases hf with z | z
      · exact z
      · rw [z] at hk; cases hk
    obtain ⟨c, hc⟩ := I.ok.has x (.inl hk)
    obtain ⟨w', z⟩ := I.cell x c hc
    refine wpAny_storeName_cell I.ok.kind hk hc z (fun h' hc' hs => ?_)
    obtain ⟨oc, hoc, hocd⟩ := id z
    refine h { s with heap := h' } ⟨I.ok, I.os, I.bare, ⟨fun b o e n hb hx => ?_, fun b o e n hb hx => ?_, I.base.free, fun b o e hx => ?_, I.base.tups, I.base.frzs, I.base.tbls⟩, ⟨m, hn.sameBut hs (Ne.symm (cne x c hc)), fun j y v' e1 e2 e3 => ?_⟩, fun y c' e => ?_, I.free, I.freeC, fun p hp => ?_, tracked ⟨oc, hoc, I.freeC x c hc⟩ hs, by simpa using I.len⟩ ⟨c, hs, .inr hc⟩
    · exact (hs.2 b (Nat.ne_of_lt (Nat.lt_of_lt_of_le (Heap.lt_size e) (I.ok.cab x c hfn hc)))).trans (I.base.keep b o e n hb hx)
    · obtain ⟨sl, e1⟩ := I.base.slot b o e n hb hx
      exact ⟨sl, (hs.2 b (Nat.ne_of_lt (Nat.lt_of_lt_of_le (Heap.lt_size e) (I.ok.cab x c hfn hc)))).trans e1⟩
    · obtain ⟨o', e1⟩ := I.base.there b o e hx
      exact ⟨o', (hs.2 b (Nat.ne_of_lt (Nat.lt_of_lt_of_le (Heap.lt_size e) (I.ok.cab x c hfn hc)))).trans e1⟩
    · by_cases hj : j = i
      · subst hj
        rw [hi] at e1; cases e1
        rw [List.getElem?_set_self hiσ] at e2
        cases e2
        exact ⟨u, r, .inr ⟨.inl hk, c, hc, hc'⟩⟩
      · rw [List.getElem?_set_ne (Ne.symm hj)] at e2
        obtain ⟨u', r', q⟩ := hl j y v' e1 e2 e3
        refine ⟨u', r', ?_⟩
        rcases q with q | ⟨k, c', e, z'⟩
        · exact .inl q
        · refine .inr ⟨k, c', e, z'.sameBut hs ?_⟩
          rintro rfl
          exact hj (nodup_ix hN e1 (I.ok.inj _ _ _ e hc ▸ hi))
    · by_cases hcc : c' = c
      · subst hcc; exact ⟨_, hc'⟩
      · obtain ⟨w2, z2⟩ := I.cell y c' e
        exact ⟨w2, z2.sameBut hs hcc⟩
    · obtain ⟨e, n, ne, nf, d⟩ := I.pin p hp
      refine ⟨(hs.2 p.1 ?_).trans e, n, ne, nf, d⟩
      intro q
      rw [q, hoc] at e
      have q' : oc = p.2 := Option.some.inj e
      exact d w' (by rw [← q']; exact hocd)
theorem store_ok {M : Model} {A : Around} {E : Value → Shared → Prop} {i : Nat} {x : Str} {v : V} {u : Value} {Q : Unit → Shared → Prop} (I : Inv X pins σ H s) (hN : X.N.Nodup) (hi : X.N[i]? = some x) (hx : Loc X.env.scope x) (r : RelV v u)
    (h : ∀ s', Inv X pins (σ.set i (some v)) H s' → Q () s') (hf : X.fn x = true ∨ X.env.scope.names.lookup x = some .local := by first | exact .inl rfl | exact .inr rfl | assumption) : wpAny M A (storeName X.env x u) Q E s :=
  store_ok2 I hN hi hx r (fun s' I' _ => h s' I') hf
/-- behind a call or a block, the state as it is -/
theorem Inv.call' {s' : Shared} {ch : List Addr} (I : Inv X pins σ H s) (ho : s'.os = s.os) (u : Un (frs X.stack) ch H H' s.heap s'.heap) (hok : HOk X.prog X.w H' s'.heap) (hg : AllBare s'.gens)
    (hch : ∀ b ∈ ch, (b ∈ X.ex ∨ X.s₀.heap.objs.size ≤ b) ∧ b ≠ X.env.locals ∧ (∀ x c, X.env.cells.lookup x = some c → c ≠ b) ∧ ∀ p ∈ X.pn ++ pins, p.1 ≠ b) : Inv X pins σ H' s' := by
  obtain ⟨h', g', d', t', o'⟩ := s'
  have e : o' = s.os := ho
  subst e
  exact I.call (g' := g') (t' := t') (d' := d') u hok hg hch
end

/-! ### the judgements -/
/-- an exception: its class, its own dict's address (where it has one), the abstract heap behind it -/
abbrev XK := Value → Option Addr → Hp → Prop
abbrev St := List (Option V)
abbrev VK := V → Hp → Prop
/-- an expression's reading; a test's; an argument list's -/
abbrev TE := St → Hp → VK → Prop
abbrev TT := St → Hp → (Bool → Hp → Prop) → Prop
abbrev TA := St → Hp → (List V → Hp → Prop) → Prop
/-- what is wanted behind a statement -/
structure Ends where
  nx : St → Hp → Prop
  rt : VK
  bk : St → Hp → Prop := fun _ _ => False
  ct : St → Hp → Prop := fun _ _ => False
abbrev TS := Ends → St → Hp → Prop

def EP (X : Cx) (pins : List (Addr × Obj)) (σ : St) (Q : VK) (u : Value) (s' : Shared) : Prop := ∃ v H', Inv X pins σ H' s' ∧ RelV v u ∧ Q v H'
def TP (X : Cx) (pins : List (Addr × Obj)) (σ : St) (Q : Bool → Hp → Prop) (b : Bool) (s' : Shared) : Prop := ∃ H', Inv X pins σ H' s' ∧ Q b H'
def AP (X : Cx) (pins : List (Addr × Obj)) (σ : St) (Q : List V → Hp → Prop) (us : List Value) (s' : Shared) : Prop := ∃ vs H', Inv X pins σ H' s' ∧ Vals vs us ∧ Q vs H'
def SP (X : Cx) (pins : List (Addr × Obj)) (D : Ends) (f : Flow) (s' : Shared) : Prop :=
  match f with
  | .next => ∃ σ' H', Inv X pins σ' H' s' ∧ D.nx σ' H'
  | .brk => ∃ σ' H', Inv X pins σ' H' s' ∧ D.bk σ' H'
  | .cont => ∃ σ' H', Inv X pins σ' H' s' ∧ D.ct σ' H'
  | .ret u => ∃ v σ' H', Inv X pins σ' H' s' ∧ RelV v u ∧ D.rt v H'

def PE (X : Cx) (e : Expr) (t : TE) : Prop :=
  ∀ (pins : List (Addr × Obj)) (s : Shared) (σ : St) (H : Hp) (Q : VK), Inv X pins σ H s → t σ H Q → wpAny (model X.prog X.w) X.A (eval e X.env) (EP X pins σ Q) X.xe s
def PT (X : Cx) (e : Expr) (t : TT) : Prop :=
  ∀ (pins : List (Addr × Obj)) (s : Shared) (σ : St) (H : Hp) (Q : Bool → Hp → Prop), Inv X pins σ H s → t σ H Q → wpAny (model X.prog X.w) X.A (isTrue e X.env (eval e X.env)) (TP X pins σ Q) X.xe s
/-- a test whatever its 'whole' is (and, or) -/
def PW (X : Cx) (e : Expr) (t : TT) : Prop :=
  ∀ (whole : Sem Value) (pins : List (Addr × Obj)) (s : Shared) (σ : St) (H : Hp) (Q : Bool → Hp → Prop), Inv X pins σ H s → t σ H Q → wpAny (model X.prog X.w) X.A (isTrue e X.env whole) (TP X pins σ Q) X.xe s
theorem PW.pt {X : Cx} {e : Expr} {t : TT} (h : PW X e t) : PT X e t := h _
/-- an argument list (no star), from the left -/
def PA (X : Cx) (es : List Expr) (t : TA) : Prop :=
  ∀ (pos : Pos) (pins : List (Addr × Obj)) (s : Shared) (σ : St) (H : Hp) (Q : List V → Hp → Prop), Inv X pins σ H s → t σ H Q → wpAny (model X.prog X.w) X.A (spliced (backTo pos (starEach es X.env))) (AP X pins σ Q) X.xe s
def PS (X : Cx) (st : Stmt) (t : TS) : Prop :=
  ∀ (pins : List (Addr × Obj)) (s : Shared) (σ : St) (H : Hp) (D : Ends), Inv X pins σ H s → t D σ H → wpAny (model X.prog X.w) X.A (exec st X.env) (SP X pins D) X.xe s
def PSs (X : Cx) (st : List Stmt) (t : TS) : Prop :=
  ∀ (pins : List (Addr × Obj)) (s : Shared) (σ : St) (H : Hp) (D : Ends), Inv X pins σ H s → t D σ H → wpAny (model X.prog X.w) X.A (execs st X.env) (SP X pins D) X.xe s
/-- weaken the end -/
theorem thn {α : Type} {t : Sem α} {Q Q' : α → Shared → Prop} {M : Model} {A : Around} {E : Value → Shared → Prop} {s : Shared} (h : wpAny M A t Q E s) (hQ : ∀ a s, Q a s → Q' a s) : wpAny M A t Q' E s := wpAny_mono h hQ fun _ _ x => x
end L2

namespace L2
open PySem PySem.Spec PyProof.Rows
section
variable {X : Cx}

/-! ### names and constants -/
def tVar (i : Nat) : TE := fun σ H Q => ∃ v, σ[i]? = some (some v) ∧ Q v H
def tC (v : V) : TE := fun _ H Q => Q v H
theorem pe_var {i : Nat} {x : Str} {pos : Pos} (hN : X.N[i]? = some x) (hv : Vis X.env.scope x) (hd : (x == ("__debug__" : Str)) = false := by decide) (hcd : (x == ("__classdict__" : Str)) = false := by decide) : PE X (.Name x pos) (tVar i) := by
  intro pins s σ H Q I h
  obtain ⟨v, e, h⟩ := h
  obtain ⟨m, hn, hl⟩ := I.loc
  obtain ⟨u, r, l⟩ := hl i x v hN e hv
  have fin : EP X pins σ Q u s := ⟨v, H, I, r, h⟩
  rcases l with ⟨hk, hm⟩ | ⟨hk, c, hc, hcell⟩
  · exact wpAny_Name (wpAny_loadName_local I.ok.kind hk hn hm fin) hd
  · rcases hk with hk | hk
    · exact wpAny_Name (wpAny_loadName_cell I.ok.kind hk hc hcell fin) hd
    · exact wpAny_Name (wpAny_loadName_free I.ok.kind hk hc hcell fin hcd) hd
theorem pe_int {i j pos} : PE X (.Constant (.int i) j pos) (tC (.int i)) := fun _ _ _ H _ I h => wpAny_Constant_int ⟨.int i, H, I.tok _, ⟨_, rfl⟩, h⟩
theorem pe_bl {b j pos} : PE X (.Constant (.bool b) j pos) (tC (.bl b)) := fun _ _ _ H _ I h => Constant_bool ⟨.bl b, H, I, rfl, h⟩
theorem pe_non {j pos} : PE X (.Constant .none j pos) (tC .non) := fun _ _ _ H _ I h => Constant_none ⟨.non, H, I, rfl, h⟩
theorem pe_str {x j pos} : PE X (.Constant (.str x) j pos) (tC (.str x)) := fun _ _ _ H _ I h => Calls.Constant_str ⟨.str x, H, I.tok _, ⟨_, rfl⟩, h⟩

/-- a global name of the def -/
def Gl (X : Cx) (x : Str) : Prop := X.env.kindOf x = some .globalImplicit
theorem ld_glob {E : Value → Shared → Prop} {pins : List (Addr × Obj)} {s : Shared} {σ : St} {H : Hp} {x : Str} {u : Value} {pos : Pos} {Q : Value → Shared → Prop} (I : Inv X pins σ H s) (hg : Gl X x) (hm : X.mg x = some u) (h : Q u s)
    (hd : (x == ("__debug__" : Str)) = false := by decide) : wpAny (model X.prog X.w) X.A (eval (.Name x pos) X.env) Q E s :=
  Calls.Name_function_global I.ok.kind hg (Calls.loadGlobal_global (by rw [I.ok.glob]; exact I.mod.glob.keeps I.bk) hm h) hd
theorem ld_blt {E : Value → Shared → Prop} {pins : List (Addr × Obj)} {s : Shared} {σ : St} {H : Hp} {x : Str} {u : Value} {pos : Pos} {Q : Value → Shared → Prop} (I : Inv X pins σ H s) (hg : Gl X x) (hm : X.mg x = none) (hv : bootBuiltins x = some u) (h : Q u s)
    (hn : x ≠ "__name__" := by decide) (hd : (x == ("__debug__" : Str)) = false := by decide) : wpAny (model X.prog X.w) X.A (eval (.Name x pos) X.env) Q E s := by
  obtain ⟨mb, h1, h2⟩ := I.mod.blt
  exact Calls.Name_function_global I.ok.kind hg (Calls.loadGlobal_builtin (by rw [I.ok.glob]; exact I.mod.glob.keeps I.bk) hm (by rw [I.ok.blt]; exact h1.keeps I.bk) ((h2 x hn).trans hv) h) hd
/-- a module's constant, a class, a function, as a value -/
theorem pe_glob {x : Str} {v : V} {u : Value} {pos : Pos} (hg : Gl X x) (hm : X.mg x = some u) (r : RelV v u) (hd : (x == ("__debug__" : Str)) = false := by decide) : PE X (.Name x pos) (tC v) :=
  fun _ _ _ H _ I h => ld_glob I hg hm ⟨v, H, I, r, h⟩ hd
theorem pe_bltn {x : Str} {v : V} {u : Value} {pos : Pos} (hg : Gl X x) (hm : X.mg x = none) (hv : bootBuiltins x = some u) (r : RelV v u) (hn : x ≠ "__name__" := by decide) (hd : (x == ("__debug__" : Str)) = false := by decide) : PE X (.Name x pos) (tC v) :=
  fun _ _ _ H _ I h => ld_blt I hg hm hv ⟨v, H, I, r, h⟩ hn hd

/-! ### arithmetic -/
variable {a b : Expr} {ta tb : TE} {pos : Pos}
/-! ### comparisons -/
def PC (X : Cx) (op : CmpOp) (a b : Expr) (t : TE) : Prop :=
  ∀ (pins : List (Addr × Obj)) (s : Shared) (σ : St) (H : Hp) (Q : VK), Inv X pins σ H s → t σ H Q →
    wpAny (model X.prog X.w) X.A (eval a X.env) (fun v s₁ => wpAny (model X.prog X.w) X.A (eval b X.env) (fun u s₂ => wpAny (model X.prog X.w) X.A (compareOp op v u) (EP X pins σ Q) X.xe s₂) X.xe s₁) X.xe s
/-- a comparison as a value, as a test -/
def tB (t : TE) : TT := fun σ H Q => t σ H fun x H1 => ∃ c, x = .bl c ∧ Q c H1
theorem pe_cmp {op : CmpOp} {t : TE} (h : PC X op a b t) (h1 : behindInMarks op b = false := by first | exact nobehind _ (by decide) (by decide) | rfl) : PE X (.Compare a [op] [b] pos) t := fun pins s σ H Q I hw => wpAny_Compare1 (h pins s σ H Q I hw) h1
theorem pt_cmp {op : CmpOp} {t : TE} (h : PC X op a b t) (h1 : behindInMarks op b = false := by first | exact nobehind _ (by decide) (by decide) | rfl) : PT X (.Compare a [op] [b] pos) (tB t) := by
  intro pins s σ H Q I hw
  refine wpAny_isTrue_Compare1 (thn (h pins s σ H _ I hw) fun v s1 h1 => thn h1 fun u s2 h2 => thn h2 fun c s3 ⟨x, H1, I1, r1, q1⟩ => ?_) h1
  obtain ⟨d, rfl, q⟩ := q1
  cases r1
  exact wpAny_truthy_bool ⟨H1, I1, q⟩
/-- an expression whose value is a bool, as a test -/
theorem pt_val {e : Expr} {t : TE} (h : PE X e t) (he : ∀ whole, isTrue e X.env whole = (do let v ← whole; standAt e.pos; holding [v] (truthy v)) := by intro _; rfl) : PT X e (tB t) := by
  intro pins s σ H Q I hw
  refine isTrue_plain (thn (h pins s σ H _ I hw) fun v s1 ⟨x, H1, I1, r1, q1⟩ => ?_) (he _)
  obtain ⟨d, rfl, q⟩ := q1
  cases r1
  exact wpAny_truthy_bool ⟨H1, I1, q⟩

/-! ### and, or, not -/
variable {tA tB' : TT} {rest : List Expr}
def tAnd (t u : TT) : TT := fun σ H Q => t σ H fun c H1 => if c = true then u σ H1 Q else Q false H1
def tOr (t u : TT) : TT := fun σ H Q => t σ H fun c H1 => if c = true then Q true H1 else u σ H1 Q
def tNot (t : TT) : TT := fun σ H Q => t σ H fun c H1 => Q (!c) H1
theorem pw_and1 (ha : PT X a tA) : PW X (.BoolOp .And [a] pos) tA := by
  intro wh pins s σ H Q I h
  refine isTrue_and (thn (ha pins s σ H Q I h) fun c s1 e => ?_)
  cases c with
  | true => exact isTrue_and_nil e
  | false => exact e
theorem pw_or1 (ha : PT X a tA) : PW X (.BoolOp .Or [a] pos) tA := by
  intro wh pins s σ H Q I h
  refine isTrue_or (thn (ha pins s σ H Q I h) fun c s1 e => ?_)
  cases c with
  | false => exact isTrue_or_nil e
  | true => exact e
theorem pw_and (ha : PT X a tA) (hb : PW X (.BoolOp .And (b :: rest) pos) tB') : PW X (.BoolOp .And (a :: b :: rest) pos) (tAnd tA tB') := by
  intro wh pins s σ H Q I h
  refine isTrue_and (thn (ha pins s σ H _ I h) fun c s1 ⟨H1, I1, q1⟩ => ?_)
  cases c with
  | true => exact hb wh pins s1 σ H1 Q I1 q1
  | false => exact ⟨H1, I1, q1⟩
theorem pw_or (ha : PT X a tA) (hb : PW X (.BoolOp .Or (b :: rest) pos) tB') : PW X (.BoolOp .Or (a :: b :: rest) pos) (tOr tA tB') := by
  intro wh pins s σ H Q I h
  refine isTrue_or (thn (ha pins s σ H _ I h) fun c s1 ⟨H1, I1, q1⟩ => ?_)
  cases c with
  | true => exact ⟨H1, I1, q1⟩
  | false => exact hb wh pins s1 σ H1 Q I1 q1
theorem pt_not (ha : PT X a tA) : PT X (.UnaryOp .Not a pos) (tNot tA) := by
  intro pins s σ H Q I h
  exact isTrue_not (ha pins s σ H (fun c H1 => Q (!c) H1) I h)
/-- .. as values (bools) -/
def tAndV (ta tb : TE) : TE := fun σ H Q => ta σ H fun x H1 => ∃ c, x = .bl c ∧ if c = true then tb σ H1 Q else Q (.bl false) H1
def tOrV (ta tb : TE) : TE := fun σ H Q => ta σ H fun x H1 => ∃ c, x = .bl c ∧ if c = true then Q (.bl true) H1 else tb σ H1 Q
def tNotV (ta : TE) : TE := fun σ H Q => ta σ H fun x H1 => ∃ c, x = .bl c ∧ Q (.bl (!c)) H1
theorem pe_one {op} {t : TE} (h : PE X a t) : PE X (.BoolOp op [a] pos) t := fun pins s σ H Q I hw => BoolOp_one (h pins s σ H Q I hw)
theorem pe_and (ha : PE X a ta) (hb : PE X (.BoolOp .And (b :: rest) pos) tb) : PE X (.BoolOp .And (a :: b :: rest) pos) (tAndV ta tb) := by
  intro pins s σ H Q I h
  refine BoolOp_and (thn (ha pins s σ H _ I h) fun v s1 ⟨x, H1, I1, r1, q1⟩ => ?_)
  obtain ⟨c, rfl, q1⟩ := q1
  cases r1
  refine wpAny_truthy_bool ?_
  cases c with
  | true => exact hb pins s1 σ H1 Q I1 q1
  | false => exact ⟨.bl false, H1, I1, rfl, q1⟩
theorem pe_or (ha : PE X a ta) (hb : PE X (.BoolOp .Or (b :: rest) pos) tb) : PE X (.BoolOp .Or (a :: b :: rest) pos) (tOrV ta tb) := by
  intro pins s σ H Q I h
  refine BoolOp_or (thn (ha pins s σ H _ I h) fun v s1 ⟨x, H1, I1, r1, q1⟩ => ?_)
  obtain ⟨c, rfl, q1⟩ := q1
  cases r1
  refine wpAny_truthy_bool ?_
  cases c with
  | false => exact hb pins s1 σ H1 Q I1 q1
  | true => exact ⟨.bl true, H1, I1, rfl, q1⟩
theorem pe_not (ha : PE X a ta) : PE X (.UnaryOp .Not a pos) (tNotV ta) := by
  intro pins s σ H Q I h
  refine UnaryOp_ (thn (ha pins s σ H _ I h) fun v s1 ⟨x, H1, I1, r1, q1⟩ => ?_)
  obtain ⟨c, rfl, q1⟩ := q1
  cases r1
  exact not_of (wpAny_truthy_bool ⟨.bl (!c), H1, I1, rfl, q1⟩)
/-- a if t else b -/
def tIf (t : TT) (ta tb : TE) : TE := fun σ H Q => t σ H fun c H1 => if c = true then ta σ H1 Q else tb σ H1 Q
theorem pe_ifExp {c : Expr} (hc : PT X c tA) (ha : PE X a ta) (hb : PE X b tb) : PE X (.IfExp c a b pos) (tIf tA ta tb) := by
  intro pins s σ H Q I h
  refine wpAny_IfExp (thn (hc pins s σ H _ I h) fun d s1 ⟨H1, I1, q1⟩ => ?_)
  cases d with
  | true => exact ha pins s1 σ H1 Q I1 q1
  | false => exact hb pins s1 σ H1 Q I1 q1
end
end L2

namespace L2
open PySem PySem.Spec PyProof.Rows

/-! ### a list, a tuple that is read: tracked, frozen, or an object of the module -/
def SqL (K : PySem.W.Frag) (H : Hp) (a : Addr) (xs : List V) : Prop :=
  Rd H a (.lst xs) ∨
    ∃ (o : Obj) (its : Array Value) (n : Nat), K.lookup a = some o ∧ o.cls = .type "list" ∧ o.dict = none ∧ o.data = .seq its n ∧ its.size ≤ sizeLine ∧ Vals xs its.toList
def SqT (K : PySem.W.Frag) (H : Hp) (a : Addr) (xs : List V) : Prop :=
  Rd H a (.tup xs) ∨
    ∃ (o : Obj) (its : Array Value) (n : Nat), K.lookup a = some o ∧ o.cls = .type "tuple" ∧ o.data = .seq its n ∧ its.size ≤ sizeLine ∧ Vals xs its.toList
def absV : Value → Option V
  | .none => some .non
  | .bool b => some (.bl b)
  | .int i _ => some (.int i)
  | .str x _ => some (.str x)
  | .bytes b _ => some (.byt b)
  | .float b _ => some (.flt b)
  | .ref a => some (.ref a)
  | .type n => some (.ty n)
  | _ => none
theorem RelV.abs {x : V} {u : Value} (r : RelV x u) : absV u = some x := by
  cases x with
  | non => cases r; rfl
  | bl _ => cases r; rfl
  | int _ => obtain ⟨t, rfl⟩ := r; rfl
  | str _ => obtain ⟨t, rfl⟩ := r; rfl
  | byt _ => obtain ⟨t, rfl⟩ := r; rfl
  | flt _ => obtain ⟨t, rfl⟩ := r; rfl
  | ref _ => cases r; rfl
  | ty _ => cases r; rfl
theorem RelV.inj {x y : V} {u : Value} (r : RelV x u) (q : RelV y u) : x = y := Option.some.inj (r.abs.symm.trans q.abs)
theorem Vals.inj : ∀ {xs ys : List V} {us : List Value}, Vals xs us → Vals ys us → xs = ys
  | _, _, _, .nil, .nil => rfl
  | _, _, _, .cons r t, .cons r' t' => by rw [r.inj r', Vals.inj t t']
section
variable {X : Cx} {pins : List (Addr × Obj)} {σ : St} {H : Hp} {s : Shared} {a : Addr} {xs ys : List V}
theorem SqL.of {K : PySem.W.Frag} (h : H a = some (.lst xs)) : SqL K H a xs := .inl (.inl h)
theorem SqT.of {K : PySem.W.Frag} (h : H a = some (.tup xs)) : SqT K H a xs := .inl (.inl h)
theorem Inv.list (I : Inv X pins σ H s) (h : SqL X.K H a xs) : ∃ its : List Value, Vals xs its ∧ PlainL s.heap a its.toArray ∧ xs.length ≤ sizeLine := by
  rcases h with h | ⟨o, its, n, hk, hc, hd, hs, hz, r⟩
  · obtain ⟨z, its, n, r, e⟩ := h.ok I.hok
    exact ⟨its, r, ⟨_, n, e, rfl, rfl, rfl⟩, z⟩
  · refine ⟨its.toList, r, ⟨o, n, I.kIn a o hk, hc, hd, by simpa using hs⟩, ?_⟩
    have e := r.length
    simp only [Array.length_toList] at e
    omega
theorem Inv.tuple (I : Inv X pins σ H s) (h : SqT X.K H a xs) : ∃ its : List Value, Vals xs its ∧ IsTup s.heap a its.toArray ∧ xs.length ≤ sizeLine := by
  rcases h with h | ⟨o, its, n, hk, hc, hs, hz, r⟩
  · obtain ⟨z, its, r, p⟩ := h.ok I.hok
    exact ⟨its, r, p, z⟩
  · refine ⟨its.toList, r, ⟨o, I.kIn a o hk, hc, n, by simpa using hs⟩, ?_⟩
    have e := r.length
    simp only [Array.length_toList] at e
    omega
theorem Inv.list_inj (I : Inv X pins σ H s) (h : SqL X.K H a xs) (h' : SqL X.K H a ys) : xs = ys := by
  obtain ⟨its, r, ⟨o, n, e, _, _, d⟩, _⟩ := I.list h
  obtain ⟨its', r', ⟨o', n', e', _, _, d'⟩, _⟩ := I.list h'
  rw [e] at e'; cases e'
  rw [d] at d'
  injection d' with d1 _
  have : its = its' := by simpa using congrArg Array.toList d1
  subst this
  exact r.inj r'
theorem Inv.tuple_inj (I : Inv X pins σ H s) (h : SqT X.K H a xs) (h' : SqT X.K H a ys) : xs = ys := by
  obtain ⟨its, r, ⟨o, e, _, n, d⟩, _⟩ := I.tuple h
  obtain ⟨its', r', ⟨o', e', _, n', d'⟩, _⟩ := I.tuple h'
  rw [e] at e'; cases e'
  rw [d] at d'
  injection d' with d1 _
  have : its = its' := by simpa using congrArg Array.toList d1
  subst this
  exact r.inj r'
end

/-! ### another wish about exceptions -/
abbrev Cx.wish (X : Cx) (E : Value → Shared → Prop) : Cx := { X with xe := E }
/-- no exception leaves -/
abbrev Cx.nox (X : Cx) : Cx := X.wish fun _ _ => False
theorem Cx.Ok.wish {X : Cx} (ok : X.Ok) (E : Value → Shared → Prop) : (X.wish E).Ok :=
  ⟨ok.mod, ok.kind, ok.glob, ok.blt, ok.above, ok.inj, ok.has, ok.cab, ok.hd, ok.frames, ok.stk, ok.exf, ok.bs, ok.bsz, ok.noex, ok.exfs, ok.funs, ok.frf⟩
theorem Cx.Ok.unwish {X : Cx} {E : Value → Shared → Prop} (ok : (X.wish E).Ok) : X.Ok :=
  ⟨ok.mod, ok.kind, ok.glob, ok.blt, ok.above, ok.inj, ok.has, ok.cab, ok.hd, ok.frames, ok.stk, ok.exf, ok.bs, ok.bsz, ok.noex, ok.exfs, ok.funs, ok.frf⟩
section
variable {X : Cx} {pins : List (Addr × Obj)} {σ : St} {H : Hp} {s : Shared} {E : Value → Shared → Prop}
theorem Inv.wish (I : Inv X pins σ H s) (E : Value → Shared → Prop) : Inv (X.wish E) pins σ H s := ⟨I.ok.wish E, I.os, I.bare, I.base, I.loc, I.cell, I.free, I.freeC, I.pin, I.hok, I.len⟩
theorem Inv.unwish (I : Inv (X.wish E) pins σ H s) : Inv X pins σ H s := ⟨I.ok.unwish, I.os, I.bare, I.base, I.loc, I.cell, I.free, I.freeC, I.pin, I.hok, I.len⟩
theorem SP.unwish {D : Ends} {f : Flow} {s' : Shared} (h : SP (X.wish E) pins D f s') : SP X pins D f s' := by
  cases f with
  | next => obtain ⟨σ', H', I, q⟩ := h; exact ⟨σ', H', I.unwish, q⟩
  | brk => obtain ⟨σ', H', I, q⟩ := h; exact ⟨σ', H', I.unwish, q⟩
  | cont => obtain ⟨σ', H', I, q⟩ := h; exact ⟨σ', H', I.unwish, q⟩
  | ret u => obtain ⟨v, σ', H', I, r, q⟩ := h; exact ⟨v, σ', H', I.unwish, r, q⟩
theorem PSs.nox {st : List Stmt} {t : TS} (h : PSs X.nox st t) : PSs X st t := fun pins s σ H D I hw =>
  wpAny_mono (h pins s σ H D (I.wish _) hw) (fun _ _ q => q.unwish) fun _ _ z => False.elim z
end

/-! ### blocks and small statements -/
section
variable {X : Cx} {st : Stmt} {rest : List Stmt} {t u : TS} {e : Expr} {te : TE} {pos : Pos}
def tNext : TS := fun D σ H => D.nx σ H
def tSeq (t u : TS) : TS := fun D σ H => t { D with nx := u D } σ H
theorem pss_nil : PSs X [] tNext := fun _ _ σ H _ I h => wpAny_execs_nil ⟨σ, H, I, h⟩
theorem pss_cons (h1 : PS X st t) (h2 : PSs X rest u) : PSs X (st :: rest) (tSeq t u) := by
  intro pins s σ H D I h
  refine wpAny_execs_cons (thn (h1 pins s σ H { D with nx := u D } I h) fun f s1 q => ?_)
  cases f with
  | next =>
    obtain ⟨σ', H', I', q⟩ := q
    exact h2 pins s1 σ' H' D I' q
  | ret v => exact q
  | brk => exact q
  | cont => exact q
theorem pss_one (h1 : PS X st t) : PSs X [st] t := by
  intro pins s σ H D I h
  refine wpAny_execs_cons (thn (h1 pins s σ H D I h) fun f s1 q => ?_)
  cases f with
  | next => exact wpAny_execs_nil q
  | ret v => exact q
  | brk => exact q
  | cont => exact q
/-- in a def's body nothing is shown -/
theorem Inv.quiet {pins : List (Addr × Obj)} {σ : St} {H : Hp} {s : Shared} (I : Inv X pins σ H s) : interactive X.env = false := by simp [interactive, I.ok.kind]
/-- an expression whose value is dropped -/
def tDrop (te : TE) : TS := fun D σ H => te σ H fun _ H1 => D.nx σ H1
theorem ps_expr (he : PE X e te) (hs : swapsWith e none pos.line X.env = pure false := by rfl) : PS X (.Expr e pos) (tDrop te) := by
  intro pins s σ H D I h
  exact wpAny_Expr_any (thn (he pins s σ H _ I h) fun v s1 ⟨x, H1, I1, r1, q1⟩ => ⟨σ, H1, I1, q1⟩) I.quiet hs
def tRet (te : TE) : TS := fun D σ H => te σ H D.rt
theorem ps_ret (he : PE X e te) : PS X (.Return (some e) pos) (tRet te) := by
  intro pins s σ H D I h
  exact wpAny_Return_some (thn (he pins s σ H _ I h) fun v s1 ⟨x, H1, I1, r1, q1⟩ => ⟨x, σ, H1, I1, r1, q1⟩)
def tIfS (c : TT) (t u : TS) : TS := fun D σ H => c σ H fun b H1 => if b = true then t D σ H1 else u D σ H1
theorem ps_if {c : Expr} {a b : List Stmt} {tc : TT} (hc : PT X c tc) (ha : PSs X a t) (hb : PSs X b u) : PS X (.If c a b pos) (tIfS tc t u) := by
  intro pins s σ H D I h
  refine wpAny_If (thn (hc pins s σ H _ I h) fun d s1 ⟨H1, I1, q1⟩ => ?_)
  cases d with
  | true => exact ha pins s1 σ H1 D I1 q1
  | false => exact hb pins s1 σ H1 D I1 q1
end

/-! ### targets -/
abbrev TG := V → St → Hp → (St → Hp → Prop) → Prop
abbrev TGs := List V → St → Hp → (St → Hp → Prop) → Prop
def PG (X : Cx) (target : Expr) (t : TG) : Prop :=
  ∀ (pins : List (Addr × Obj)) (s : Shared) (σ : St) (H : Hp) (v : V) (u : Value) (Q : St → Hp → Prop), Inv X pins σ H s → RelV v u → t v σ H Q →
    wpAny (model X.prog X.w) X.A (assign target X.env u) (fun _ s' => ∃ σ' H', Inv X pins σ' H' s' ∧ Q σ' H') X.xe s
/-- several targets, one after another -/
def PGs (X : Cx) (ts : List Expr) (t : TGs) : Prop :=
  ∀ (pins : List (Addr × Obj)) (s : Shared) (σ : St) (H : Hp) (vs : List V) (us : List Value) (Q : St → Hp → Prop), Inv X pins σ H s → Vals vs us → t vs σ H Q →
    wpAny (model X.prog X.w) X.A (assignInOrder ((assignEach ts X.env).map (·.2)) us) (fun _ s' => ∃ σ' H', Inv X pins σ' H' s' ∧ Q σ' H') X.xe s
/-- o[i] = v, by values -/
abbrev TSet := V → V → V → Hp → (Hp → Prop) → Prop
def PSet (X : Cx) (t : TSet) : Prop :=
  ∀ (pins : List (Addr × Obj)) (s : Shared) (σ : St) (H : Hp) (o i v : V) (ov iv u : Value) (Q : Hp → Prop), Inv X pins σ H s → RelV o ov → RelV i iv → RelV v u → t o i v H Q →
    wpAny (model X.prog X.w) X.A (setItem ov iv u) (fun _ s' => ∃ H', Inv X pins σ H' s' ∧ Q H') X.xe s
section
variable {X : Cx} {pos : Pos}
def gName (i : Nat) : TG := fun v σ H Q => Q (σ.set i (some v)) H
theorem pg_name {i : Nat} {x : Str} (hN : X.N.Nodup) (hi : X.N[i]? = some x) (hx : Loc X.env.scope x) (hf : X.fn x = true ∨ X.env.scope.names.lookup x = some .local := by first | exact .inl rfl | exact .inr rfl | assumption) : PG X (.Name x pos) (gName i) := by
  intro pins s σ H v u Q I r h
  exact wpAny_assign_Name (store_ok I hN hi hx r (fun s' I' => ⟨_, H, I', h⟩) hf)
def gNil : TGs := fun vs σ H Q => vs = [] ∧ Q σ H
def gCons (t : TG) (u : TGs) : TGs := fun vs σ H Q => ∃ v r, vs = v :: r ∧ t v σ H fun σ' H' => u r σ' H' Q
theorem pgs_nil : PGs X [] gNil := by
  intro pins s σ H vs us Q I r h
  obtain ⟨e, h⟩ := h
  subst e
  cases r
  exact assignInOrder_nil ⟨σ, H, I, h⟩
theorem pgs_cons {e : Expr} {es : List Expr} {t : TG} {u : TGs} (h1 : PG X e t) (h2 : PGs X es u)
    (hs : (assignEach (e :: es) X.env).map (·.2) = assign e X.env :: (assignEach es X.env).map (·.2) := by rfl) : PGs X (e :: es) (gCons t u) := by
  intro pins s σ H vs us Q I r h
  obtain ⟨v, vr, e1, h⟩ := h
  subst e1
  cases r with
  | cons r rr =>
    rw [hs]
    refine assignInOrder_cons (thn (h1 pins s σ H _ _ _ I r h) fun _ s1 ⟨σ1, H1, I1, q1⟩ => ?_)
    exact h2 pins s1 σ1 H1 _ _ Q I1 rr q1
/-- (a, b, ..) = a tuple of that length -/
def gTup (K : PySem.W.Frag) (n : Nat) (t : TGs) : TG := fun v σ H Q => ∃ a xs, v = .ref a ∧ SqT K H a xs ∧ xs.length = n ∧ t xs σ H Q
theorem pg_tup {es : List Expr} {k : Nat} {t : TGs} {n : Nat} (hc : X.calm = true) (h : PGs X es t)
    (hn : (assignEach es X.env).length = n := by rfl) (hst : (assignEach es X.env).findIdx? (·.1) = none := by rfl) : PG X (.Tuple es k pos) (gTup X.K n t) := by
  intro pins s σ H v u Q I r hw
  obtain ⟨a, xs, e1, hq, hl, hw⟩ := hw
  subst e1
  cases r
  obtain ⟨its, rv, ht, hz⟩ := I.tuple hq
  refine assign_Tuple_tuple (I.ok.hd hc) ht (by simp [hn, ← hl, rv.length]) hst fun h' hx => ?_
  have I1 : Inv X pins σ H { s with heap := h' } := I.kept (t' := s.toks) fun b o e => hx b o (Nat.ne_of_lt (Heap.lt_size e)) e
  exact h pins _ σ H xs _ Q I1 (by simpa using rv) hw
/-- o[i] = .. -/
def gSub (to ti : TE) (t : TSet) : TG := fun v σ H Q => to σ H fun o H1 => ti σ H1 fun i H2 => t o i v H2 fun H3 => Q σ H3
theorem pg_sub {o i : Expr} {to ti : TE} {t : TSet} (ho : PE X o to) (hi : PE X i ti) (hs : PSet X t)
    (ha : ∀ v, assign (.Subscript o i pos) X.env v = (do
      let ov ← holding [v] (eval o X.env)
      let iv ← holding [v, ov] (eval i X.env)
      standAt pos
      holding [v, ov, iv] (setItem ov iv v)
      release [v, ov, iv] []) := by intro _; rfl) : PG X (.Subscript o i pos) (gSub to ti t) := by
  intro pins s σ H v u Q I r h
  rw [ha]
  refine wpAny_bind (wpAny_holding (thn (ho pins s σ H _ I h) fun ov s1 ⟨x, H1, I1, r1, q1⟩ => ?_))
  refine wpAny_bind (wpAny_holding (thn (hi pins s1 σ H1 _ I1 q1) fun iv s2 ⟨y, H2, I2, r2, q2⟩ => ?_))
  refine wpAny_bind (wpAny_standAt (wpAny_bind (wpAny_holding (thn (hs pins s2 σ H2 x y v ov iv u _ I2 r1 r2 r q2) fun _ s3 ⟨H3, I3, q3⟩ => ?_))))
  exact wpAny_release ⟨σ, H3, I3, q3⟩
/-- target = value -/
def tAsg (te : TE) (g : TG) : TS := fun D σ H => te σ H fun x H1 => g x σ H1 D.nx
theorem ps_asg {tg e : Expr} {te : TE} {g : TG} (he : PE X e te) (hg : PG X tg g) (hs : swapsWithSole [tg] e pos.line X.env = pure false := by rfl) (hw : swappedStores [tg] e X.env = pure none := by rfl)
    (h1 : (assignEach [tg] X.env).map (·.2) = [assign tg X.env] := by rfl) : PS X (.Assign [tg] e pos) (tAsg te g) := by
  intro pins s σ H D I h
  refine wpAny_Assign_stores (thn (he pins s σ H _ I h) fun v s1 ⟨x, H1, I1, r1, q1⟩ => ?_) hs hw
  rw [h1]
  exact thn (hg pins s1 σ H1 x v _ I1 r1 q1) fun _ s2 q => q
/-- name = value -/
theorem ps_set {i : Nat} {x : Str} {e : Expr} {te : TE} {pos' : Pos} (hN : X.N.Nodup) (hi : X.N[i]? = some x) (hx : Loc X.env.scope x) (he : PE X e te) (hs : swapsWith e (some (.Name x pos')) pos.line X.env = pure false := by rfl) (hf : X.fn x = true ∨ X.env.scope.names.lookup x = some .local := by first | exact .inl rfl | exact .inr rfl | assumption) :
    PS X (.Assign [.Name x pos'] e pos) (tAsg te (gName i)) := by
  intro pins s σ H D I h
  refine wpAny_Assign_Name (thn (he pins s σ H _ I h) fun v s1 ⟨y, H1, I1, r1, q1⟩ => ?_) hs
  exact store_ok I1 hN hi hx r1 (fun s2 I2 => ⟨_, H1, I2, q1⟩) hf
end

/-! ### while -/
section
variable {X : Cx} {pos : Pos}
/-- the invariant W with its measure -/
def tWhile (c : TT) (tb : TS) : TS := fun D σ H => ∃ W : Nat → St → Hp → Prop, (∃ m, W m σ H) ∧ ∀ m σ H, W m σ H →
  c σ H fun b H1 => if b = true then ∃ N : St → Hp → Prop, (∀ σ' H', N σ' H' → ∃ m', m' < m ∧ W m' σ' H') ∧ tb { D with nx := N, ct := N, bk := D.nx } σ H1 else D.nx σ H1
theorem ps_while {c : Expr} {body : List Stmt} {tc : TT} {tb : TS} (hp : PassesOwn (model X.prog X.w) X.A X.env X.xe) (hc : PT X c tc) (hb : PSs X body tb) : PS X (.While c body [] pos) (tWhile tc tb) := by
  intro pins s σ H D I h
  obtain ⟨W, ⟨m0, w0⟩, turn⟩ := h
  refine wpAny_While (codeAny_whileLoop (fun n s' => ∃ σ' H', Inv X pins σ' H' s' ∧ W n σ' H') ?_ m0 ⟨σ, H, I, w0⟩)
  rintro n s1 ⟨σ1, H1, I1, w1⟩
  refine wpAny_passesOwn hp (thn (hc pins s1 σ1 H1 _ I1 (turn n σ1 H1 w1)) fun b s2 ⟨H2, I2, q2⟩ => ?_)
  cases b with
  | true =>
    obtain ⟨N, hN, q2⟩ := q2
    rw [if_pos rfl]
    refine wpAny_passesOwn hp (thn (hb pins s2 σ1 H2 _ I2 q2) fun f s3 q3 => ?_)
    cases f with
    | next =>
      obtain ⟨σ3, H3, I3, n3⟩ := q3
      obtain ⟨m', hm, w3⟩ := hN σ3 H3 n3
      exact ⟨m', hm, σ3, H3, I3, w3⟩
    | cont =>
      obtain ⟨σ3, H3, I3, n3⟩ := q3
      obtain ⟨m', hm, w3⟩ := hN σ3 H3 n3
      exact ⟨m', hm, σ3, H3, I3, w3⟩
    | brk => exact q3
    | ret v => exact q3
  | false =>
    rw [if_neg Bool.false_ne_true]
    exact wpAny_execs_nil ⟨σ1, H2, I2, q2⟩
end

/-! ### what a loop or a comprehension walks -/
/-- at turn i: it yields x (the heap may grow), or it stops -/
structure It where
  go : Nat → Hp → Prop
  yld : Nat → Hp → V → Hp → Prop
  stop : Nat → Hp → Prop
/-- the iterator's own objects may turn: they are not the frame's, not pinned, younger than the entry (or a comprehension's own) -/
def FpOk (X : Cx) (pins : List (Addr × Obj)) (H : Hp) (b : Addr) : Prop :=
  H b = none ∧ b ≠ X.env.locals ∧ b ∉ X.fs ∧ (b ∈ X.ex ∨ X.s₀.heap.objs.size ≤ b) ∧ (∀ x c, X.env.cells.lookup x = some c → c ≠ b) ∧ ∀ p ∈ X.pn ++ pins, p.1 ≠ b
theorem Inv.fpOk {X : Cx} {pins : List (Addr × Obj)} {σ : St} {H H' : Hp} {s : Shared} {b : Addr} (I : Inv X pins σ H s) (hb : s.heap.objs.size ≤ b) (hn : H' b = none) : FpOk X pins H' b := by
  refine ⟨hn, Nat.ne_of_gt (Nat.lt_of_lt_of_le I.lt hb), I.nofs hb, .inr (Nat.le_trans I.sz hb), fun x c e z => ?_, fun p hp z => ?_⟩
  · obtain ⟨v, q⟩ := I.cell x c e
    exact absurd (Nat.lt_of_lt_of_le q.lt (by rw [z]; exact hb)) (Nat.lt_irrefl _)
  · exact absurd (Nat.lt_of_lt_of_le (Heap.lt_size (I.pin p hp).1) (by rw [z]; exact hb)) (Nat.lt_irrefl _)
structure Turn (P : Program) (w : World) (K : PySem.W.Frag) (tg : Expr) (J : It) (fp : List Addr) (it : Addr) (tn : Nat → Heap → Prop) : Prop where
  mem : it ∈ fp
  obj : ∀ i h, tn i h → ∀ b ∈ fp, ∃ o, h.get? b = some o ∧ ∀ v, o.data ≠ .cell v
  keep : ∀ i h h', tn i h → (∀ b ∈ fp, ∀ o, h.get? b = some o → h'.get? b = some o) → tn i h'
  item : ∀ (X : Cx), X.prog = P → X.w = w → X.K = K → X.calm = true → ∀ (i : Nat) (pins : List (Addr × Obj)) (s : Shared) (σ : St) (H : Hp) (E : Value → Shared → Prop), Inv X pins σ H s → (∀ b ∈ fp, FpOk X pins H b) → tn i s.heap → J.go i H →
    wpAny (model P w) X.A (pyNext (.ref it)) (fun r s1 => ∃ u, r = some u ∧
      wpAny (model P w) X.A (letOwnedTupleGo tg (.ref it) u) (fun _ s2 => ∃ x H', Inv X pins σ H' s2 ∧ RelV x u ∧ J.yld i H x H' ∧ tn (i + 1) s2.heap ∧ ∀ b ∈ fp, H' b = none) E s1) E s
  done : ∀ (X : Cx), X.prog = P → X.w = w → X.K = K → X.calm = true → ∀ (i : Nat) (pins : List (Addr × Obj)) (s : Shared) (σ : St) (H : Hp) (E : Value → Shared → Prop), Inv X pins σ H s → (∀ b ∈ fp, FpOk X pins H b) → tn i s.heap → J.stop i H →
    wpAny (model P w) X.A (pyNext (.ref it)) (fun r s1 => r = none ∧ Inv X pins σ H s1) E s
  self : ∀ (A : Around) (i : Nat) (s : Shared) (Q : Value → Shared → Prop) (E : Value → Shared → Prop), tn i s.heap → Q (.ref it) s → wpAny (model P w) A (pyIter (.ref it)) Q E s
abbrev TI := St → Hp → (It → Hp → Prop) → Prop
/-- an iterator has come -/
def PIE (X : Cx) (pins : List (Addr × Obj)) (σ : St) (tg : Expr) (R : It → Hp → Prop) (itv : Value) (s2 : Shared) : Prop :=
  ∃ (it : Addr) (fp : List Addr) (tn : Nat → Heap → Prop) (J : It) (H' : Hp), itv = .ref it ∧ Inv X pins σ H' s2 ∧ Turn X.prog X.w X.K tg J fp it tn ∧ tn 0 s2.heap ∧ (∀ b ∈ fp, FpOk X pins H' b) ∧ R J H'
def PI (X : Cx) (tg iter : Expr) (wi : TI) : Prop :=
  ∀ (pins : List (Addr × Obj)) (s : Shared) (σ : St) (H : Hp) (R : It → Hp → Prop), Inv X pins σ H s → wi σ H R →
    wpAny (model X.prog X.w) X.A (eval iter X.env) (fun v s1 => wpAny (model X.prog X.w) X.A (pyIter v) (PIE X pins σ tg R) X.xe s1) X.xe s

/-- the step ahead of the store is nothing for an iterator that keeps no tuple -/
theorem go_of {M : Model} {A : Around} {E : Value → Shared → Prop} {s : Shared} {tg : Expr} {it : Addr} {u : Value} {o : Obj} {n : String} {vs : Array Value} {Q : Unit → Shared → Prop} (ho : s.heap.get? it = some o) (hc : o.cls = .type n) (hd : o.data = .fields vs)
    (hn : ["enumerate", "zip", "dict_itemiterator", "dict_reverseitemiterator", "odict_iterator", "itertools.zip_longest", "itertools.pairwise"].contains n = false) (hQ : Q () s) : wpAny M A (letOwnedTupleGo tg (.ref it) u) Q E s := by
  unfold letOwnedTupleGo
  cases tg <;> first
    | exact wpAny_pure hQ
    | (cases u <;> first
        | exact wpAny_pure hQ
        | (refine wpAny_bind (wpAny_load ho ?_)
           rw [hc, hd]
           show wpAny M A (if (["enumerate", "zip", "dict_itemiterator", "dict_reverseitemiterator", "odict_iterator", "itertools.zip_longest", "itertools.pairwise"].contains n && vs[0]? == some (rawInt _)) = true then _ else _) Q E s
           rw [if_neg (by intro h; rw [hn, Bool.false_and] at h; cases h)]
           exact wpAny_pure hQ))

/-- the list at a, as it stands at each turn (a loop may append to it) -/
def Itl (K : PySem.W.Frag) (a : Addr) : It :=
  ⟨fun i H => ∃ xs x, SqL K H a xs ∧ xs[i]? = some x, fun i H x H' => H' = H ∧ ∀ xs, SqL K H a xs → xs[i]? = some x, fun i H => ∃ xs, SqL K H a xs ∧ xs.length ≤ i⟩
def Itt (K : PySem.W.Frag) (a : Addr) : It :=
  ⟨fun i H => ∃ xs x, SqT K H a xs ∧ xs[i]? = some x, fun i H x H' => H' = H ∧ ∀ xs, SqT K H a xs → xs[i]? = some x, fun i H => ∃ xs, SqT K H a xs ∧ xs.length ≤ i⟩
/-- lo, lo + 1, .. (n of them) -/
def Itr (lo : Int) (n : Nat) : It := ⟨fun i _ => i < n, fun i H x H' => H' = H ∧ x = .int (lo + i), fun i _ => n ≤ i⟩
theorem turn_list {P : Program} {w : World} {K : PySem.W.Frag} {tg : Expr} (a it : Addr) : Turn P w K tg (Itl K a) [it] it (fun i h => h.IsListIter it a i) where
  mem := by simp
  obj := fun i h st b hb => by
    have e : b = it := by simpa using hb
    subst e
    obtain ⟨o, e, c, d⟩ := st
    exact ⟨o, e, fun v z => by rw [d] at z; cases z⟩
  keep := fun i h h' st k => st.at fun o e => k it (by simp) o e
  item := by
    intro X hP hw hK hc i pins s σ H E I hf st hg
    subst hP hw hK
    obtain ⟨xs, x, hq, hx⟩ := hg
    obtain ⟨its, rv, p, hz⟩ := I.list hq
    obtain ⟨u, hu, ru⟩ := rv.get hx
    obtain ⟨f0, f1, f2, f3, f4, f5⟩ := hf it (by simp)
    refine wpAny_pyNext_list_item st p.isList (x := u) (by simpa using hu) fun h' st' sb => ?_
    have I1 : Inv X pins σ H { s with heap := h' } := I.turned (t' := s.toks) (fun b o hb e => (sb.2 b hb).trans e) f0 f1 f3 f4 f5
    obtain ⟨o, e, c, d⟩ := id st'
    exact ⟨u, rfl, go_of (s := { s with heap := h' }) e c d (by decide) ⟨x, H, I1, ru, ⟨rfl, fun ys hy => by rw [I.list_inj hy hq]; exact hx⟩, st', fun b hb => (hf b hb).1⟩⟩
  done := by
    intro X hP hw hK hc i pins s σ H E I hf st hg
    subst hP hw hK
    obtain ⟨xs, hq, hx⟩ := hg
    obtain ⟨its, rv, p, hz⟩ := I.list hq
    obtain ⟨f0, f1, f2, f3, f4, f5⟩ := hf it (by simp)
    have hl := rv.length
    exact wpAny_pyNext_list_end (I.ok.hd hc) st p.isList (by simp; omega) fun h' eb => ⟨rfl, I.turned (t' := s.toks) (fun b o hb e => eb b o hb e) f0 f1 f3 f4 f5⟩
  self := fun _ _ _ _ _ st h => wpAny_pyIter_listiter st h
theorem turn_tuple {P : Program} {w : World} {K : PySem.W.Frag} {tg : Expr} (a it : Addr) : Turn P w K tg (Itt K a) [it] it (fun i h => h.IsTupleIter it a i) where
  mem := by simp
  obj := fun i h st b hb => by
    have e : b = it := by simpa using hb
    subst e
    obtain ⟨o, e, c, d⟩ := st
    exact ⟨o, e, fun v z => by rw [d] at z; cases z⟩
  keep := fun i h h' st k => st.at fun o e => k it (by simp) o e
  item := by
    intro X hP hw hK hc i pins s σ H E I hf st hg
    subst hP hw hK
    obtain ⟨xs, x, hq, hx⟩ := hg
    obtain ⟨its, rv, p, hz⟩ := I.tuple hq
    obtain ⟨u, hu, ru⟩ := rv.get hx
    obtain ⟨f0, f1, f2, f3, f4, f5⟩ := hf it (by simp)
    refine wpAny_pyNext_tuple_item st (show s.heap.IsTuple a its.toArray from p) (x := u) (by simpa using hu) fun h' st' sb => ?_
    have I1 : Inv X pins σ H { s with heap := h' } := I.turned (t' := s.toks) (fun b o hb e => (sb.2 b hb).trans e) f0 f1 f3 f4 f5
    obtain ⟨o, e, c, d⟩ := id st'
    exact ⟨u, rfl, go_of (s := { s with heap := h' }) e c d (by decide) ⟨x, H, I1, ru, ⟨rfl, fun ys hy => by rw [I.tuple_inj hy hq]; exact hx⟩, st', fun b hb => (hf b hb).1⟩⟩
  done := by
    intro X hP hw hK hc i pins s σ H E I hf st hg
    subst hP hw hK
    obtain ⟨xs, hq, hx⟩ := hg
    obtain ⟨its, rv, p, hz⟩ := I.tuple hq
    obtain ⟨f0, f1, f2, f3, f4, f5⟩ := hf it (by simp)
    have hl := rv.length
    exact wpAny_pyNext_tuple_end (I.ok.hd hc) st (show s.heap.IsTuple a its.toArray from p) (by simp; omega) fun h' eb => ⟨rfl, I.turned (t' := s.toks) (fun b o hb e => eb b o hb e) f0 f1 f3 f4 f5⟩
  self := fun _ _ _ _ _ st h => wpAny_pyIter_tupleiter st h
theorem turn_range {P : Program} {w : World} {K : PySem.W.Frag} {tg : Expr} (it : Addr) (lo : Int) (n : Nat) : Turn P w K tg (Itr lo n) [it] it (fun i h => IsRangeIter h it (lo + (i : Nat) * 1) ((n : Int) - (i : Nat)) 1) where
  mem := by simp
  obj := fun i h st b hb => by
    have e : b = it := by simpa using hb
    subst e
    exact ⟨_, st, fun v z => by
      have z' : Data.fields _ = Data.cell v := z
      cases z'⟩
  keep := fun i h h' st k => k it (by simp) _ st
  item := by
    intro X hP hw hK hc i pins s σ H E I hf st hg
    subst hP hw hK
    obtain ⟨f0, f1, f2, f3, f4, f5⟩ := hf it (by simp)
    have W := Walks.range (prog := X.prog) (w := X.w) (I.ok.hd hc) it lo 1 n
    refine W.item i s _ _ hg st fun v h' tk hv st' kk => ?_
    obtain ⟨t, rfl⟩ := hv
    have I1 : Inv X pins σ H { s with heap := h', toks := tk } := I.turned (fun b o hb e => kk b o (by simpa using hb) e) f0 f1 f3 f4 f5
    refine ⟨_, rfl, go_of (s := { s with heap := h', toks := tk }) (n := "range_iterator") st' rfl rfl (by decide) ⟨.int (lo + i), H, I1, ⟨t, ?_⟩, ⟨rfl, rfl⟩, st', fun b hb => (hf b hb).1⟩⟩
    rw [Int.mul_one]
  done := by
    intro X hP hw hK hc i pins s σ H E I hf st hg
    subst hP hw hK
    obtain ⟨f0, f1, f2, f3, f4, f5⟩ := hf it (by simp)
    exact wpAny_pyNext_range_end (I.ok.hd hc) st (by have : n ≤ i := hg; omega) fun h' eb => ⟨rfl, I.turned (t' := s.toks) (fun b o hb e => eb b o hb e) f0 f1 f3 f4 f5⟩
  self := fun _ _ _ _ _ st h => wpAny_pyIter_rangeiter st h
end L2

namespace L2
open PySem PySem.Spec PyProof.Rows
section
variable {X : Cx} {tg : Expr}
def iList (K : PySem.W.Frag) (tl : TE) : TI := fun σ H R => tl σ H fun x H1 => ∃ a, x = .ref a ∧ (∃ xs, SqL K H1 a xs) ∧ R (Itl K a) H1
def iTup (K : PySem.W.Frag) (tl : TE) : TI := fun σ H R => tl σ H fun x H1 => ∃ a, x = .ref a ∧ (∃ xs, SqT K H1 a xs) ∧ R (Itt K a) H1
theorem pi_list {l : Expr} {tl : TE} (hl : PE X l tl) : PI X tg l (iList X.K tl) := by
  intro pins s σ H R I h
  refine thn (hl pins s σ H _ I h) fun v s1 ⟨x, H1, I1, r1, q1⟩ => ?_
  obtain ⟨a, e, ⟨xs, hq⟩, q⟩ := q1
  subst e
  cases r1
  obtain ⟨its, rv, p, hz⟩ := I1.list hq
  refine wpAny_pyIter_list p.isList ?_
  refine ⟨s1.heap.objs.size, [s1.heap.objs.size], _, _, H1, rfl, I1.kept (t' := s1.toks) fun b o e => Heap.get?_push_of_some _ e, turn_list a _, ⟨_, Heap.get?_push_size _ rfl, rfl, rfl⟩, fun b hb => ?_, q⟩
  have e : b = s1.heap.objs.size := by simpa using hb
  subst e
  exact I1.fpOk (Nat.le_refl _) (I1.hok.fresh (Nat.le_refl _))
theorem pi_tup {l : Expr} {tl : TE} (hl : PE X l tl) : PI X tg l (iTup X.K tl) := by
  intro pins s σ H R I h
  refine thn (hl pins s σ H _ I h) fun v s1 ⟨x, H1, I1, r1, q1⟩ => ?_
  obtain ⟨a, e, ⟨xs, hq⟩, q⟩ := q1
  subst e
  cases r1
  obtain ⟨its, rv, p, hz⟩ := I1.tuple hq
  refine wpAny_pyIter_tuple (show s1.heap.IsTuple a its.toArray from p) ?_
  refine ⟨s1.heap.objs.size, [s1.heap.objs.size], _, _, H1, rfl, I1.kept (t' := s1.toks) fun b o e => Heap.get?_push_of_some _ e, turn_tuple a _, ⟨_, Heap.get?_push_size _ rfl, rfl, rfl⟩, fun b hb => ?_, q⟩
  have e : b = s1.heap.objs.size := by simpa using hb
  subst e
  exact I1.fpOk (Nat.le_refl _) (I1.hok.fresh (Nat.le_refl _))
/-- a range object just made, walked -/
theorem range_it {pins : List (Addr × Obj)} {σ : St} {H : Hp} {s : Shared} {R : It → Hp → Prop} {E : Value → Shared → Prop} {lo hi : Int} {t u v : Tok} {tk : Nat} (I : Inv X pins σ H s) (h1 : -(2 ^ 62) ≤ lo) (h2 : lo < 2 ^ 62) (h3 : -(2 ^ 62) ≤ hi) (h4 : hi < 2 ^ 62)
    (q : R (Itr lo (hi - lo).toNat) H) : wpAny (model X.prog X.w) X.A (pyIter (.ref s.heap.objs.size)) (PIE X pins σ tg R) E { s with heap := s.heap.push { cls := .type "range", data := .fields #[.int lo t, .int hi u, .int 1 v] }, toks := tk } := by
  refine wpAny_pyIter_range (IsRange.new ..) (small_one h1 h2 h3 h4) ?_
  have I1 : Inv X pins σ H { s with heap := s.heap.push { cls := .type "range", data := .fields #[.int lo t, .int hi u, .int 1 v] }, toks := tk } := I.kept fun b o e => Heap.get?_push_of_some _ e
  refine ⟨(s.heap.push { cls := .type "range", data := .fields #[.int lo t, .int hi u, .int 1 v] }).objs.size, [(s.heap.push { cls := .type "range", data := .fields #[.int lo t, .int hi u, .int 1 v] }).objs.size], _, _, H, rfl,
    I1.kept (t' := tk) fun b o e => Heap.get?_push_of_some _ e, turn_range _ lo (hi - lo).toNat, ?_, fun b hb => ?_, q⟩
  · have e1 : lo + ((0 : Nat) : Int) * 1 = lo := by simp
    have e2 : (((hi - lo).toNat : Nat) : Int) - ((0 : Nat) : Int) = Builtin.Range.rangeSize lo hi 1 := by rw [rangeSize_one]; split <;> omega
    show IsRangeIter _ _ (lo + ((0 : Nat) : Int) * 1) ((((hi - lo).toNat : Nat) : Int) - ((0 : Nat) : Int)) 1
    rw [e1, e2]
    exact Heap.get?_push_size _ rfl
  · have e : b = (s.heap.push { cls := .type "range", data := .fields #[.int lo t, .int hi u, .int 1 v] }).objs.size := by simpa using hb
    subst e
    exact I1.fpOk (Nat.le_refl _) (I1.hok.fresh (Nat.le_refl _))
def iRng1 (ta : TA) : TI := fun σ H R => ta σ H fun vs H1 => ∃ j : Int, vs = [.int j] ∧ -(2 ^ 62) ≤ j ∧ j < 2 ^ 62 ∧ R (Itr 0 j.toNat) H1
theorem pi_range1 {a : Expr} {ta : TA} {p pos : Pos} (hg : Gl X "range") (hm : X.mg "range" = none) (ha : PA X [a] ta) (hs : starEach [a] X.env = [(false, eval a X.env)] := by rfl) : PI X tg (.Call (.Name "range" p) [a] [] pos) (iRng1 ta) := by
  intro pins s σ H R I h
  refine Call_ (ld_blt I hg hm boot_range (PyProof.Rows.callWith_type1 (thn (ha pos pins s σ H _ I h) fun us s1 ⟨vs, H1, I1, r1, q1⟩ => ?_) hs rfl))
  obtain ⟨j, e, q1, q2, q⟩ := q1
  subst e
  cases r1 with
  | cons r rr =>
    cases rr
    obtain ⟨t, rfl⟩ := r
    exact call_range_1 (range_it I1 (by omega) (by omega) q1 q2 (by simpa using q))
/-! ### for -/
/-- W: the invariant by the turn and a measure; N: what the body is to reach -/
def tFor (wi : TI) (g : TG) (tb : TS) : TS := fun D σ H => wi σ H fun J H1 => ∃ W : Nat → Nat → St → Hp → Prop, (∃ m, W 0 m σ H1) ∧ ∀ i m σ H, W i m σ H →
  (J.stop i H ∧ D.nx σ H) ∨ (J.go i H ∧ ∃ N : St → Hp → Prop, (∀ σ' H', N σ' H' → ∃ m', m' < m ∧ W (i + 1) m' σ' H') ∧ ∀ x H', J.yld i H x H' → g x σ H' fun σ2 H2 => tb { D with nx := N, ct := N, bk := D.nx } σ2 H2)
/-- the records at fp as they stand -/
def pinsAt (fp : List Addr) (h : Heap) : List (Addr × Obj) := fp.filterMap fun b => (h.get? b).map fun o => (b, o)
theorem mem_pinsAt {fp : List Addr} {h : Heap} {b : Addr} {o : Obj} (hb : b ∈ fp) (e : h.get? b = some o) : (b, o) ∈ pinsAt fp h := List.mem_filterMap.mpr ⟨b, hb, by rw [e]; rfl⟩
theorem of_pinsAt {fp : List Addr} {h : Heap} {p : Addr × Obj} (hp : p ∈ pinsAt fp h) : p.1 ∈ fp ∧ h.get? p.1 = some p.2 := by
  obtain ⟨b, hb, e⟩ := List.mem_filterMap.mp hp
  cases q : h.get? b with
  | none => rw [q] at e; cases e
  | some o =>
    rw [q] at e
    have e' : (b, o) = p := Option.some.inj e
    subst e'
    exact ⟨hb, q⟩
theorem Inv.pinned {pins : List (Addr × Obj)} {σ : St} {H : Hp} {s : Shared} {fp : List Addr} (I : Inv X pins σ H s) (hf : ∀ b ∈ fp, FpOk X pins H b) (ho : ∀ b ∈ fp, ∃ o, s.heap.get? b = some o ∧ ∀ v, o.data ≠ .cell v) : Inv X (pins ++ pinsAt fp s.heap) σ H s :=
  I.pins_of fun p hp => (List.mem_append.mp hp).elim (fun z => I.pin p (List.mem_append_right _ z)) fun z => by
    obtain ⟨hb, e⟩ := of_pinsAt z
    obtain ⟨f0, f1, f2, _⟩ := hf p.1 hb
    obtain ⟨o, e', d⟩ := ho p.1 hb
    rw [e] at e'; cases e'
    exact ⟨e, f0, f1, f2, d⟩
theorem Inv.unpinned {pins pl : List (Addr × Obj)} {σ : St} {H : Hp} {s : Shared} (I : Inv X (pins ++ pl) σ H s) : Inv X pins σ H s := I.pins_of fun p hp => I.pin p (List.mem_append_right _ (List.mem_append_left _ hp))
theorem ps_for {iter : Expr} {body : List Stmt} {wi : TI} {g : TG} {tb : TS} {pos : Pos} (hp : PassesOwn (model X.prog X.w) X.A X.env X.xe) (hc : X.calm = true) (hi : PI X tg iter wi) (hg : PG X tg g) (hb : PSs X body tb)
    (hs : ∀ x, foldedSetIterable iter X.env x = pure x := by intro _; rfl) : PS X (.For tg iter body [] pos) (tFor wi g tb) := by
  intro pins s σ H D I h
  refine wpAny_For (thn (hi pins s σ H _ I h) fun v s1 h1 => thn h1 fun itv s2 h2 => ?_) hs
  obtain ⟨it, fp, tn, J, H2, e, I2, T, st2, f2, W, ⟨m0, w0⟩, turn⟩ := h2
  subst e
  -- what stays true of the iterator's objects through the loop
  have stat : ∀ {H' : Hp}, (∀ b ∈ fp, H' b = none) → ∀ b ∈ fp, FpOk X pins H' b := fun hn b hb => ⟨hn b hb, (f2 b hb).2⟩
  refine codeAny_forLoop_any (fun n s' => ∃ i σ' H', Inv X pins σ' H' s' ∧ tn i s'.heap ∧ (∀ b ∈ fp, H' b = none) ∧ W i n σ' H') ?_ m0 ⟨0, σ, H2, I2, st2, fun b hb => (f2 b hb).1, w0⟩
  rintro n s3 ⟨i, σ3, H3, I3, st3, fr3, w3⟩
  rcases turn i n σ3 H3 w3 with ⟨stop, qn⟩ | ⟨go, N, hN, step⟩
  · refine wpAny_passesOwn hp (thn (T.done X rfl rfl rfl hc i pins s3 σ3 H3 X.xe I3 (stat fr3) st3 stop) fun r s4 ⟨hr, I4⟩ => ?_)
    subst hr
    exact wpAny_execs_nil ⟨σ3, H3, I4, qn⟩
  · refine wpAny_passesOwn hp (thn (T.item X rfl rfl rfl hc i pins s3 σ3 H3 X.xe I3 (stat fr3) st3 go) fun r s4 ⟨u, hr, h4⟩ => ?_)
    subst hr
    refine wpAny_passesOwn hp (thn h4 fun _ s5 ⟨x, H5, I5, r5, y5, st5, fr5⟩ => ?_)
    have I5' := I5.pinned (stat fr5) (T.obj _ _ st5)
    refine wpAny_passesOwn hp (thn (hg _ s5 σ3 H5 x u _ I5' r5 (step x H5 y5)) fun _ s6 ⟨σ6, H6, I6, q6⟩ => ?_)
    refine wpAny_passesOwn hp (thn (hb _ s6 σ6 H6 _ I6 q6) fun f s7 q7 => ?_)
    have again : ∀ {σ7 : St} {H7 : Hp}, Inv X (pins ++ pinsAt fp s5.heap) σ7 H7 s7 → N σ7 H7 → ∃ m, m < n ∧ ∃ i σ' H', Inv X pins σ' H' s7 ∧ tn i s7.heap ∧ (∀ b ∈ fp, H' b = none) ∧ W i m σ' H' := fun {σ7 H7} I7 n7 => by
      obtain ⟨m', hm, w7⟩ := hN σ7 H7 n7
      refine ⟨m', hm, i + 1, σ7, H7, I7.unpinned, T.keep _ _ _ st5 fun b hb o e => (I7.pin (b, o) (List.mem_append_right _ (List.mem_append_right _ (mem_pinsAt hb e)))).1, fun b hb => ?_, w7⟩
      obtain ⟨o, e, d⟩ := T.obj _ _ st5 b hb
      exact (I7.pin (b, o) (List.mem_append_right _ (List.mem_append_right _ (mem_pinsAt hb e)))).2.1
    cases f with
    | next => obtain ⟨σ7, H7, I7, n7⟩ := q7; exact again I7 n7
    | cont => obtain ⟨σ7, H7, I7, n7⟩ := q7; exact again I7 n7
    | brk => obtain ⟨σ7, H7, I7, q7⟩ := q7; exact ⟨σ7, H7, I7.unpinned, q7⟩
    | ret v => obtain ⟨x7, σ7, H7, I7, r7, q7⟩ := q7; exact ⟨x7, σ7, H7, I7.unpinned, r7, q7⟩
end

/-! ### the forms one uses -/
/-- over a list that the body leaves as it is -/
theorem for_list {K : PySem.W.Frag} {a : Addr} {xs : List V} {g : TG} {tb : TS} {D : Ends} {σ : St} {H : Hp} (Pv : Nat → St → Hp → Prop) (h0 : Pv 0 σ H) (hl : ∀ i σ H, i ≤ xs.length → Pv i σ H → SqL K H a xs)
    (hs : ∀ i x σ H, xs[i]? = some x → Pv i σ H → g x σ H fun σ2 H2 => tb { D with nx := Pv (i + 1), ct := Pv (i + 1), bk := D.nx } σ2 H2) (hd : ∀ σ H, Pv xs.length σ H → D.nx σ H) :
    ∃ W : Nat → Nat → St → Hp → Prop, (∃ m, W 0 m σ H) ∧ ∀ i m σ H, W i m σ H →
      ((Itl K a).stop i H ∧ D.nx σ H) ∨ ((Itl K a).go i H ∧ ∃ N : St → Hp → Prop, (∀ σ' H', N σ' H' → ∃ m', m' < m ∧ W (i + 1) m' σ' H') ∧ ∀ x H', (Itl K a).yld i H x H' → g x σ H' fun σ2 H2 => tb { D with nx := N, ct := N, bk := D.nx } σ2 H2) := by
  refine ⟨fun i m σ H => m = xs.length - i ∧ i ≤ xs.length ∧ Pv i σ H, ⟨xs.length, by simp, Nat.zero_le _, h0⟩, ?_⟩
  rintro i m σ H ⟨rfl, hi, p⟩
  have q := hl i σ H hi p
  by_cases hlt : i < xs.length
  · refine .inr ⟨⟨xs, xs[i], q, by simp [hlt]⟩, Pv (i + 1), fun σ' H' p' => ⟨xs.length - (i + 1), by omega, rfl, hlt, p'⟩, fun x H' y => ?_⟩
    obtain ⟨e, y⟩ := y
    subst e
    exact hs i x σ _ (y xs q) p
  · have e : i = xs.length := by omega
    subst e
    exact .inl ⟨⟨xs, q, Nat.le_refl _⟩, hd σ H p⟩
theorem for_tup {K : PySem.W.Frag} {a : Addr} {xs : List V} {g : TG} {tb : TS} {D : Ends} {σ : St} {H : Hp} (Pv : Nat → St → Hp → Prop) (h0 : Pv 0 σ H) (hl : ∀ i σ H, i ≤ xs.length → Pv i σ H → SqT K H a xs)
    (hs : ∀ i x σ H, xs[i]? = some x → Pv i σ H → g x σ H fun σ2 H2 => tb { D with nx := Pv (i + 1), ct := Pv (i + 1), bk := D.nx } σ2 H2) (hd : ∀ σ H, Pv xs.length σ H → D.nx σ H) :
    ∃ W : Nat → Nat → St → Hp → Prop, (∃ m, W 0 m σ H) ∧ ∀ i m σ H, W i m σ H →
      ((Itt K a).stop i H ∧ D.nx σ H) ∨ ((Itt K a).go i H ∧ ∃ N : St → Hp → Prop, (∀ σ' H', N σ' H' → ∃ m', m' < m ∧ W (i + 1) m' σ' H') ∧ ∀ x H', (Itt K a).yld i H x H' → g x σ H' fun σ2 H2 => tb { D with nx := N, ct := N, bk := D.nx } σ2 H2) := by
  refine ⟨fun i m σ H => m = xs.length - i ∧ i ≤ xs.length ∧ Pv i σ H, ⟨xs.length, by simp, Nat.zero_le _, h0⟩, ?_⟩
  rintro i m σ H ⟨rfl, hi, p⟩
  have q := hl i σ H hi p
  by_cases hlt : i < xs.length
  · refine .inr ⟨⟨xs, xs[i], q, by simp [hlt]⟩, Pv (i + 1), fun σ' H' p' => ⟨xs.length - (i + 1), by omega, rfl, hlt, p'⟩, fun x H' y => ?_⟩
    obtain ⟨e, y⟩ := y
    subst e
    exact hs i x σ _ (y xs q) p
  · have e : i = xs.length := by omega
    subst e
    exact .inl ⟨⟨xs, q, Nat.le_refl _⟩, hd σ H p⟩
theorem for_range {lo : Int} {n : Nat} {g : TG} {tb : TS} {D : Ends} {σ : St} {H : Hp} (Pv : Nat → St → Hp → Prop) (h0 : Pv 0 σ H)
    (hs : ∀ i σ H, i < n → Pv i σ H → g (.int (lo + i)) σ H fun σ2 H2 => tb { D with nx := Pv (i + 1), ct := Pv (i + 1), bk := D.nx } σ2 H2) (hd : ∀ σ H, Pv n σ H → D.nx σ H) :
    ∃ W : Nat → Nat → St → Hp → Prop, (∃ m, W 0 m σ H) ∧ ∀ i m σ H, W i m σ H →
      ((Itr lo n).stop i H ∧ D.nx σ H) ∨ ((Itr lo n).go i H ∧ ∃ N : St → Hp → Prop, (∀ σ' H', N σ' H' → ∃ m', m' < m ∧ W (i + 1) m' σ' H') ∧ ∀ x H', (Itr lo n).yld i H x H' → g x σ H' fun σ2 H2 => tb { D with nx := N, ct := N, bk := D.nx } σ2 H2) := by
  refine ⟨fun i m σ H => m = n - i ∧ i ≤ n ∧ Pv i σ H, ⟨n, by simp, Nat.zero_le _, h0⟩, ?_⟩
  rintro i m σ H ⟨rfl, hi, p⟩
  by_cases hlt : i < n
  · refine .inr ⟨hlt, Pv (i + 1), fun σ' H' p' => ⟨n - (i + 1), by omega, rfl, hlt, p'⟩, fun x H' y => ?_⟩
    obtain ⟨e, y⟩ := y
    subst e y
    exact hs i σ _ hlt p
  · have e : i = n := by omega
    subst e
    exact .inl ⟨Nat.le_refl _, hd σ H p⟩
/-- while, by a word and a measure of the state -/
theorem while_by {c : TT} {tb : TS} {D : Ends} {σ : St} {H : Hp} (Pv : St → Hp → Prop) (μ : St → Hp → Nat) (h0 : Pv σ H)
    (hs : ∀ σ H, Pv σ H → c σ H fun b H1 => if b = true then tb { D with nx := fun σ' H' => Pv σ' H' ∧ μ σ' H' < μ σ H, ct := fun σ' H' => Pv σ' H' ∧ μ σ' H' < μ σ H, bk := D.nx } σ H1 else D.nx σ H1)
    (mono : ∀ σ H Q Q', (∀ b H1, Q b H1 → Q' b H1) → c σ H Q → c σ H Q') : tWhile c tb D σ H := by
  refine ⟨fun m σ H => m = μ σ H ∧ Pv σ H, ⟨_, rfl, h0⟩, ?_⟩
  rintro m σ H ⟨rfl, p⟩
  refine mono σ H _ _ (fun b H1 q => ?_) (hs σ H p)
  cases b with
  | true => exact ⟨_, fun σ' H' ⟨p', l⟩ => ⟨_, l, rfl, p'⟩, q⟩
  | false => exact q
end L2

namespace L2
open PySem PySem.Spec PyProof.Rows

abbrev R2 := V → V → Hp → VK → Prop
/-- a two-place operation on values: f is binaryOp op, inplaceOp op or compareOp op -/
def OpR (X : Cx) (f : Value → Value → Sem Value) (r : R2) : Prop :=
  ∀ (pins : List (Addr × Obj)) (s : Shared) (σ : St) (H : Hp) (x y : V) (v u : Value) (Q : VK), Inv X pins σ H s → RelV x v → RelV y u → r x y H Q →
    wpAny (model X.prog X.w) X.A (f v u) (EP X pins σ Q) X.xe s
/-- a call of a value that is known (a builtin, a type) with values -/
def CallR (X : Cx) (f : Value) (r : List V → Hp → VK → Prop) : Prop :=
  ∀ (pins : List (Addr × Obj)) (s : Shared) (σ : St) (H : Hp) (xs : List V) (us : List Value) (Q : VK), Inv X pins σ H s → Vals xs us → r xs H Q →
    wpAny (model X.prog X.w) X.A (call f us) (EP X pins σ Q) X.xe s
/-- a value's truth -/
def TruR (X : Cx) (r : V → Hp → (Bool → Hp → Prop) → Prop) : Prop :=
  ∀ (pins : List (Addr × Obj)) (s : Shared) (σ : St) (H : Hp) (x : V) (v : Value) (Q : Bool → Hp → Prop), Inv X pins σ H s → RelV x v → r x H Q →
    wpAny (model X.prog X.w) X.A (truthy v) (TP X pins σ Q) X.xe s

def tOp (r : R2) (ta tb : TE) : TE := fun σ H Q => ta σ H fun x H1 => tb σ H1 fun y H2 => r x y H2 Q
/-- ints in, under C, and a value out -/
def rI (C : Int → Int → Prop) (g : Int → Int → V) : R2 := fun x y H Q => ∃ i j, x = .int i ∧ y = .int j ∧ C i j ∧ Q (g i j) H
def rI0 (g : Int → Int → V) : R2 := fun x y H Q => ∃ i j, x = .int i ∧ y = .int j ∧ Q (g i j) H
section
variable {X : Cx} {a b c : Expr} {ta tb tc : TE} {pos : Pos}

theorem binT (ha : PE X a ta) (hb : PE X b tb) {pins : List (Addr × Obj)} {s : Shared} {σ : St} {H : Hp} {R : V → V → Hp → Prop} (I : Inv X pins σ H s)
    (h : ta σ H fun x H1 => tb σ H1 fun y H2 => R x y H2) {Q : Value → Shared → Prop} {f : Value → Value → Sem Value}
    (hf : ∀ v u s2 x y H2, Inv X pins σ H2 s2 → RelV x v → RelV y u → R x y H2 → wpAny (model X.prog X.w) X.A (f v u) Q X.xe s2) :
    wpAny (model X.prog X.w) X.A (eval a X.env) (fun v s₁ => wpAny (model X.prog X.w) X.A (eval b X.env) (fun u s₂ => wpAny (model X.prog X.w) X.A (f v u) Q X.xe s₂) X.xe s₁) X.xe s := by
  refine thn (ha pins s σ H _ I h) fun v s1 ⟨x, H1, I1, r1, q1⟩ => ?_
  refine thn (hb pins s1 σ H1 _ I1 q1) fun u s2 ⟨y, H2, I2, r2, q2⟩ => ?_
  exact hf v u s2 x y H2 I2 r1 r2 q2

theorem pe_op {op : Operator} {r : R2} (ho : OpR X (binaryOp op) r) (ha : PE X a ta) (hb : PE X b tb) : PE X (.BinOp a op b pos) (tOp r ta tb) := by
  intro pins s σ H Q I h
  exact wpAny_BinOp (binT ha hb I h fun v u s2 x y H2 I2 rx ry q => ho pins s2 σ H2 x y v u Q I2 rx ry q)
/-! ### ints -/
theorem opI {f : Value → Value → Sem Value} {C : Int → Int → Prop} {g : Int → Int → Int}
    (rule : ∀ (i j : Int) (t u : Tok) (s : Shared) (Q : Value → Shared → Prop) (E : Value → Shared → Prop), C i j → Q (.int (g i j) s.toks) { s with toks := s.toks + 1 } → wpAny (model X.prog X.w) X.A (f (.int i t) (.int j u)) Q E s) :
    OpR X f (rI C fun i j => .int (g i j)) := by
  intro pins s σ H x y v u Q I rx ry h
  obtain ⟨i, j, rfl, rfl, hc, q⟩ := h
  obtain ⟨t, rfl⟩ := rx
  obtain ⟨t', rfl⟩ := ry
  exact rule i j t t' s _ _ hc ⟨.int (g i j), H, I.tok _, ⟨_, rfl⟩, q⟩
theorem opI0 {f : Value → Value → Sem Value} {g : Int → Int → Int}
    (rule : ∀ (i j : Int) (t u : Tok) (s : Shared) (Q : Value → Shared → Prop) (E : Value → Shared → Prop), Q (.int (g i j) s.toks) { s with toks := s.toks + 1 } → wpAny (model X.prog X.w) X.A (f (.int i t) (.int j u)) Q E s) :
    OpR X f (rI0 fun i j => .int (g i j)) := by
  intro pins s σ H x y v u Q I rx ry h
  obtain ⟨i, j, rfl, rfl, q⟩ := h
  obtain ⟨t, rfl⟩ := rx
  obtain ⟨t', rfl⟩ := ry
  exact rule i j t t' s _ _ ⟨.int (g i j), H, I.tok _, ⟨_, rfl⟩, q⟩
theorem opB0 {f : Value → Value → Sem Value} {g : Int → Int → Bool}
    (rule : ∀ (i j : Int) (t u : Tok) (s : Shared) (Q : Value → Shared → Prop) (E : Value → Shared → Prop), Q (.bool (g i j)) s → wpAny (model X.prog X.w) X.A (f (.int i t) (.int j u)) Q E s) :
    OpR X f (rI0 fun i j => .bl (g i j)) := by
  intro pins s σ H x y v u Q I rx ry h
  obtain ⟨i, j, rfl, rfl, q⟩ := h
  obtain ⟨t, rfl⟩ := rx
  obtain ⟨t', rfl⟩ := ry
  exact rule i j t t' s _ _ ⟨.bl (g i j), H, I, rfl, q⟩

def CDiv (i j : Int) : Prop := 0 < j ∧ j < 1073741824
def CPow (i j : Int) : Prop := 0 ≤ j ∧ j ≤ 1000000 ∧ i.natAbs < 2 ^ 64
def CMul (i j : Int) : Prop := (-(2 ^ 64) < i ∧ i < 2 ^ 64) ∨ (-(2 ^ 64) < j ∧ j < 2 ^ 64)
theorem CMul.ok {i j : Int} (h : CMul i j) : IntMulOk i j := by
  rcases h with ⟨h1, h2⟩ | ⟨h1, h2⟩
  · exact .of_left (intBits_le_64 h1 h2)
  · exact .of_right (intBits_le_64 h1 h2)
theorem op_add : OpR X (binaryOp .Add) (rI0 fun i j => .int (i + j)) := opI0 fun _ _ _ _ _ _ _ q => add_int q
theorem op_sub : OpR X (binaryOp .Sub) (rI0 fun i j => .int (i - j)) := opI0 fun _ _ _ _ _ _ _ q => sub_int q
theorem op_mul : OpR X (binaryOp .Mult) (rI CMul fun i j => .int (i * j)) := opI fun _ _ _ _ _ _ _ hc q => mul_int q hc.ok
/-- // by a positive divisor -/
theorem op_fdiv : OpR X (binaryOp .FloorDiv) (rI CDiv fun i j => .int (i / j)) := opI fun i j _ _ _ _ _ hc q => by
  have h1 : (0 : Int) < j := hc.1
  have h2 : j < 1073741824 := hc.2
  exact floordiv_int (by omega) (by rw [Int.fdiv_eq_ediv_of_nonneg i (by omega)]; exact q) (.inl (PyProof.noPylong_small (by omega)))
/-- % by a positive divisor of any size -/
theorem op_mod : OpR X (binaryOp .Mod) (rI (fun _ j => 0 < j) fun i j => .int (i % j)) := opI fun i j _ _ _ _ _ hc q => by
  have h1 : (0 : Int) < j := hc
  exact mod_int' (by omega) (by rw [Int.fmod_eq_emod_of_nonneg i (by omega)]; exact q)
theorem op_shl : OpR X (binaryOp .LShift) (rI CPow fun i j => .int (i * 2 ^ j.toNat)) := opI fun _ _ _ _ _ _ _ hc q => lshift_int_small hc.1 hc.2.1 hc.2.2 q
/-! ### bools among ints: n += (a < b) -/
end

/-! ### comparisons -/
/-- the scalars that == tells apart as data does -/
def scal : V → V → Bool
  | .non, .non => true | .non, .int _ => true | .int _, .non => true | .non, .bl _ => true | .bl _, .non => true | .non, .str _ => true | .str _, .non => true
  | .int _, .int _ => true | .bl _, .bl _ => true | .str _, .str _ => true | .byt _, .byt _ => true
  | .int _, .str _ => true | .str _, .int _ => true | .bl _, .str _ => true | .str _, .bl _ => true
  | _, _ => false
def rEq : R2 := fun x y H Q => scal x y = true ∧ Q (.bl (decide (x = y))) H
def rNe : R2 := fun x y H Q => scal x y = true ∧ Q (.bl (!decide (x = y))) H

theorem dec_int {i j : Int} : decide (V.int i = V.int j) = (i == j) := by
  rw [Bool.eq_iff_iff]
  simp
theorem dec_bl {i j : Bool} : decide (V.bl i = V.bl j) = (i == j) := by
  rw [Bool.eq_iff_iff]
  simp
theorem dec_str {i j : Str} : decide (V.str i = V.str j) = (i == j) := by
  rw [Bool.eq_iff_iff]
  simp
theorem dec_byt {i j : Array UInt8} : decide (V.byt i = V.byt j) = (i.toList == j.toList) := by
  rw [Bool.eq_iff_iff]
  cases i
  cases j
  simp

section
variable {X : Cx} {a b c : Expr} {ta tb tc : TE} {pos : Pos}
theorem fin_bl {pins : List (Addr × Obj)} {σ : St} {H : Hp} {s : Shared} {Q : VK} {k k' : Bool} (I : Inv X pins σ H s) (q : Q (.bl k) H) (e : k = k') : EP X pins σ Q (.bool k') s := by
  subst e
  exact ⟨.bl k, H, I, rfl, q⟩
theorem op_eq : OpR X (compareOp .Eq) rEq := by
  intro pins s σ H x y v u Q I rx ry h
  obtain ⟨hs, q⟩ := h
  cases x with
  | non =>
    cases rx
    cases y with
    | non => cases ry; exact PySem.EqNone.eq_none_none (fin_bl I q (by simp))
    | bl j => cases ry; exact PySem.EqNone.eq_none_bool (fin_bl I q (by simp))
    | int j => obtain ⟨t', rfl⟩ := ry; exact PySem.EqNone.eq_none_int (fin_bl I q (by simp))
    | str j => obtain ⟨t', rfl⟩ := ry; exact PySem.EqNone.eq_none_str (fin_bl I q (by simp))
    | _ => exact absurd (show false = true from hs) Bool.false_ne_true
  | bl i =>
    cases rx
    cases y with
    | non => cases ry; exact PySem.EqNone.eq_bool_none (fin_bl I q (by simp))
    | bl j => cases ry; exact eq_bool (fin_bl I q dec_bl)
    | str j => obtain ⟨t', rfl⟩ := ry; exact PySem.EqMixed.eq_bool_str (fin_bl I q (by simp))
    | _ => exact absurd (show false = true from hs) Bool.false_ne_true
  | int i =>
    obtain ⟨t, rfl⟩ := rx
    cases y with
    | non => cases ry; exact PySem.EqNone.eq_int_none (fin_bl I q (by simp))
    | int j => obtain ⟨t', rfl⟩ := ry; exact eq_int (fin_bl I q dec_int)
    | str j => obtain ⟨t', rfl⟩ := ry; exact PySem.EqMixed.eq_int_str (fin_bl I q (by simp))
    | _ => exact absurd (show false = true from hs) Bool.false_ne_true
  | str i =>
    obtain ⟨t, rfl⟩ := rx
    cases y with
    | non => cases ry; exact PySem.EqNone.eq_str_none (fin_bl I q (by simp))
    | bl j => cases ry; exact PySem.EqMixed.eq_str_bool (fin_bl I q (by simp))
    | int j => obtain ⟨t', rfl⟩ := ry; exact PySem.EqMixed.eq_str_int (fin_bl I q (by simp))
    | str j => obtain ⟨t', rfl⟩ := ry; exact eq_str (fin_bl I q dec_str)
    | _ => exact absurd (show false = true from hs) Bool.false_ne_true
  | byt i =>
    obtain ⟨t, rfl⟩ := rx
    cases y with
    | byt j => obtain ⟨t', rfl⟩ := ry; exact PySem.W.eq_bytes (fin_bl I q dec_byt)
    | _ => exact absurd (show false = true from hs) Bool.false_ne_true
  | _ => cases y <;> exact absurd (show false = true from hs) Bool.false_ne_true
theorem op_ne : OpR X (compareOp .NotEq) rNe := by
  intro pins s σ H x y v u Q I rx ry h
  obtain ⟨hs, q⟩ := h
  cases x with
  | non =>
    cases rx
    cases y with
    | non => cases ry; exact PySem.EqNone.ne_none_none (fin_bl I q (by simp))
    | bl j => cases ry; exact PySem.EqNone.ne_none_bool (fin_bl I q (by simp))
    | int j => obtain ⟨t', rfl⟩ := ry; exact PySem.EqNone.ne_none_int (fin_bl I q (by simp))
    | str j => obtain ⟨t', rfl⟩ := ry; exact PySem.EqNone.ne_none_str (fin_bl I q (by simp))
    | _ => exact absurd (show false = true from hs) Bool.false_ne_true
  | bl i =>
    cases rx
    cases y with
    | non => cases ry; exact PySem.EqNone.ne_bool_none (fin_bl I q (by simp))
    | bl j => cases ry; exact ne_bool (fin_bl I q (congrArg not dec_bl))
    | str j => obtain ⟨t', rfl⟩ := ry; exact PySem.EqMixed.ne_bool_str (fin_bl I q (by simp))
    | _ => exact absurd (show false = true from hs) Bool.false_ne_true
  | int i =>
    obtain ⟨t, rfl⟩ := rx
    cases y with
    | non => cases ry; exact PySem.EqNone.ne_int_none (fin_bl I q (by simp))
    | int j => obtain ⟨t', rfl⟩ := ry; exact ne_int (fin_bl I q (congrArg not dec_int))
    | str j => obtain ⟨t', rfl⟩ := ry; exact PySem.EqMixed.ne_int_str (fin_bl I q (by simp))
    | _ => exact absurd (show false = true from hs) Bool.false_ne_true
  | str i =>
    obtain ⟨t, rfl⟩ := rx
    cases y with
    | non => cases ry; exact PySem.EqNone.ne_str_none (fin_bl I q (by simp))
    | bl j => cases ry; exact PySem.EqMixed.ne_str_bool (fin_bl I q (by simp))
    | int j => obtain ⟨t', rfl⟩ := ry; exact PySem.EqMixed.ne_str_int (fin_bl I q (by simp))
    | str j => obtain ⟨t', rfl⟩ := ry; exact ne_str (fin_bl I q (congrArg not dec_str))
    | _ => exact absurd (show false = true from hs) Bool.false_ne_true
  | byt i =>
    obtain ⟨t, rfl⟩ := rx
    cases y with
    | byt j => obtain ⟨t', rfl⟩ := ry; exact PySem.W.ne_bytes (fin_bl I q (congrArg not dec_byt))
    | _ => exact absurd (show false = true from hs) Bool.false_ne_true
  | _ => cases y <;> exact absurd (show false = true from hs) Bool.false_ne_true

theorem op_lt : OpR X (compareOp .Lt) (rI0 fun i j => .bl (decide (i < j))) := opB0 fun _ _ _ _ _ _ _ q => lt_int q
theorem op_le : OpR X (compareOp .LtE) (rI0 fun i j => .bl (decide (i ≤ j))) := opB0 fun _ _ _ _ _ _ _ q => le_int q
/-- is None, is not None: the right side a value none -/
theorem op_isN : OpR X (compareOp .Is) (fun x y H Q => y = .non ∧ Q (.bl (decide (x = .non))) H) := by
  intro pins s σ H x y v u Q I rx ry h
  obtain ⟨rfl, q⟩ := h
  cases ry
  refine is_none_gen (fin_bl I q ?_)
  cases x <;> first
    | (cases rx; rfl)
    | (obtain ⟨t, rfl⟩ := rx; rfl)
theorem op_notN : OpR X (compareOp .IsNot) (fun x y H Q => y = .non ∧ Q (.bl (!decide (x = .non))) H) := by
  intro pins s σ H x y v u Q I rx ry h
  obtain ⟨rfl, q⟩ := h
  cases ry
  refine isnot_none_gen (fin_bl I q ?_)
  cases x <;> first
    | (cases rx; rfl)
    | (obtain ⟨t, rfl⟩ := rx; rfl)

theorem nomark (b : Expr) {op : CmpOp} (h : op ≠ .In := by decide) (h2 : op ≠ .NotIn := by decide) : behindInMarks op b = false := by
  have e1 : (op == CmpOp.In) = false := by cases op <;> first | rfl | exact absurd rfl h
  have e2 : (op == CmpOp.NotIn) = false := by cases op <;> first | rfl | exact absurd rfl h2
  cases b <;> simp [behindInMarks, e1, e2]
/-- a comparison as a value; hm: nomark b, or (for in, not in) by with_unfolding_all rfl -/
theorem pe_cmpR {op : CmpOp} {r : R2} (ho : OpR X (compareOp op) r) (ha : PE X a ta) (hb : PE X b tb) (hm : behindInMarks op b = false) : PE X (.Compare a [op] [b] pos) (tOp r ta tb) := by
  intro pins s σ H Q I h
  exact wpAny_Compare1 (binT ha hb I h fun v u s2 x y H2 I2 rx ry q => ho pins s2 σ H2 x y v u Q I2 rx ry q) hm
/-- a reading of a value as a test -/
def tTest (t : TE) : TT := fun σ H Q => t σ H fun x H' => ∃ k, x = .bl k ∧ Q k H'
theorem pt_cmpR {op : CmpOp} {r : R2} (ho : OpR X (compareOp op) r) (ha : PE X a ta) (hb : PE X b tb) (hm : behindInMarks op b = false) : PT X (.Compare a [op] [b] pos) (tTest (tOp r ta tb)) := by
  intro pins s σ H Q I h
  refine wpAny_isTrue_Compare1 (thn (ha pins s σ H _ I h) fun v s1 ⟨x, H1, I1, r1, q1⟩ => thn (hb pins s1 σ H1 _ I1 q1) fun u s2 ⟨y, H2, I2, r2, q2⟩ =>
    thn (ho pins s2 σ H2 x y v u _ I2 r1 r2 q2) fun c s3 ⟨z, H3, I3, r3, k, e, q3⟩ => ?_) hm
  subst e
  cases r3
  exact wpAny_truthy_bool ⟨H3, I3, q3⟩
/-- a op1 b op2 c -/
def tChain (r r' : R2) (ta tb tc : TE) : TE := fun σ H Q => ta σ H fun x H1 => tb σ H1 fun y H2 => r x y H2 fun z H3 => ∃ k, z = .bl k ∧
  (if k = true then tc σ H3 fun w' H4 => r' y w' H4 Q else Q (.bl false) H3)
theorem pt_chain {op op' : CmpOp} {r r' : R2} (ho : OpR X (compareOp op) r) (ho' : OpR X (compareOp op') r') (ha : PE X a ta) (hb : PE X b tb) (hc : PE X c tc)
    (hm : lastMarks [op, op'] [b, c] = false := by with_unfolding_all rfl) : PT X (.Compare a [op, op'] [b, c] pos) (tTest (tChain r r' ta tb tc)) := by
  intro pins s σ H Q I h
  refine isTrue_chain (thn (ha pins s σ H _ I h) fun v s1 ⟨x, H1, I1, r1, q1⟩ => test_link (thn (hb pins s1 σ H1 _ I1 q1) fun u s2 ⟨y, H2, I2, r2, q2⟩ =>
    thn (ho pins s2 σ H2 x y v u _ I2 r1 r2 q2) fun d s3 ⟨z, H3, I3, r3, k, e, q3⟩ => ?_)) hm
  subst e
  cases r3
  refine wpAny_truthy_bool ?_
  cases k with
  | false =>
    obtain ⟨k', e', q'⟩ := q3
    cases e'
    exact ite_ff ⟨H3, I3, q'⟩
  | true =>
    refine ite_tt (test_last (thn (hc pins s3 σ H3 _ I3 q3) fun w' s4 ⟨z', H4, I4, r4, q4⟩ => thn (ho' pins s4 σ H4 y z' u w' _ I4 r2 r4 q4) fun d' s5 ⟨z2, H5, I5, r5, k2, e2, q5⟩ => ?_))
    subst e2
    cases r5
    exact wpAny_truthy_bool ⟨H5, I5, q5⟩

/-! ### truth -/
/-- a value's truth by the abstract heap -/
def TruV (K : PySem.W.Frag) (x : V) (H : Hp) (k : Bool) : Prop :=
  match x with
  | .non => k = false
  | .bl b => k = b
  | .int i => k = (i != 0)
  | .str y => y.length ≤ sizeLine ∧ k = ((y.length : Int) != 0)
  | .byt y => y.size ≤ sizeLine ∧ k = ((y.size : Int) != 0)
  | .ref p => (∃ xs, SqL K H p xs ∧ k = !xs.isEmpty) ∨ (∃ xs, SqT K H p xs ∧ k = !xs.isEmpty) ∨ ∃ kvs, H p = some (.dK kvs) ∧ k = !kvs.isEmpty
  | _ => False
theorem isEmpty_kv {κ : Type} {kvs : List (κ × V)} {vs : List (κ × Value)} (r : KV kvs vs) : (!vs.isEmpty) = !kvs.isEmpty := by
  cases r <;> rfl
theorem isEmpty_of {xs : List V} {its : List Value} (r : Vals xs its) : (!its.toArray.isEmpty) = !xs.isEmpty := by
  cases r <;> simp
theorem line63 : (sizeLine : Nat) < 2 ^ 63 := by rw [sizeLine_eq]; decide
theorem tru_ok : TruR X (fun x H Q => ∃ k, TruV X.K x H k ∧ Q k H) := by
  intro pins s σ H x v Q I rx h
  obtain ⟨k, e, q⟩ := h
  have hl := line63
  have hs : sizeLine = 16777216 := sizeLine_eq
  cases x with
  | non =>
    cases rx
    have e' : k = false := e
    subst e'
    exact truthy_none ⟨H, I, q⟩
  | bl b =>
    cases rx
    have e' : k = b := e
    subst e'
    exact wpAny_truthy_bool ⟨H, I, q⟩
  | int i =>
    obtain ⟨t, rfl⟩ := rx
    have e' : k = (i != 0) := e
    subst e'
    exact PySem.P.truthy_int ⟨H, I, q⟩
  | str y =>
    obtain ⟨t, rfl⟩ := rx
    obtain ⟨hy, e'⟩ : y.length ≤ sizeLine ∧ k = ((y.length : Int) != 0) := e
    subst e'
    exact PySem.P.truthy_str (by omega) ⟨H, I.tok _, q⟩
  | byt y =>
    obtain ⟨t, rfl⟩ := rx
    obtain ⟨hy, e'⟩ : y.size ≤ sizeLine ∧ k = ((y.size : Int) != 0) := e
    subst e'
    exact PySem.W.truthy_bytes (by omega) ⟨H, I.tok _, q⟩
  | ref p =>
    cases rx
    have e' : (∃ xs, SqL X.K H p xs ∧ k = !xs.isEmpty) ∨ (∃ xs, SqT X.K H p xs ∧ k = !xs.isEmpty) ∨ ∃ kvs, H p = some (.dK kvs) ∧ k = !kvs.isEmpty := e
    rcases e' with ⟨xs, hx, e'⟩ | ⟨xs, hx, e'⟩ | ⟨kvs, hx, e'⟩
    · subst e'
      obtain ⟨its, r, pl, hz⟩ := I.list hx
      have hlen := r.length
      exact wpAny_truthy_list pl.isList (by simp only [List.size_toArray]; omega) ⟨H, I.tok _, by rw [isEmpty_of r]; exact q⟩
    · subst e'
      obtain ⟨its, r, pl, hz⟩ := I.tuple hx
      have hlen := r.length
      exact truthy_tuple pl (by simp only [List.size_toArray]; omega) ⟨H, I.tok _, by rw [isEmpty_of r]; exact q⟩
    · subst e'
      obtain ⟨hz, hS, vs, r, m⟩ : kvs.length ≤ sizeLine ∧ (p == sysModules) = false ∧ ∃ vs, KV kvs vs ∧ s.heap.DictOf (mixKind X.prog X.w) p vs := I.hok p _ hx
      have hlen : kvs.length = vs.length := Paired.length r
      exact wpAny_truthy_dict hS m (by omega) ⟨H, I.tok _, by rw [isEmpty_kv r]; exact q⟩
  | _ => exact (show False from e).elim
/-- any expression whose test is its value's truth (a name, a call, a subscript, a field ..: he by fun _ => rfl) -/
theorem pt_truth (ha : PE X a ta) (he : ∀ whole, isTrue a X.env whole = (do let v ← whole; standAt a.pos; holding [v] (truthy v))) :
    PT X a (fun σ H Q => ta σ H fun x H' => ∃ k, TruV X.K x H' k ∧ Q k H') := by
  intro pins s σ H Q I h
  exact isTrue_plain (thn (ha pins s σ H _ I h) fun v s1 ⟨x, H1, I1, r1, q1⟩ => tru_ok pins s1 σ H1 x v Q I1 r1 q1) (he _)

/-! ### strs and bytes -/
/-! ### scalar builtins, by CallR -/
theorem vals1 {x : V} {us : List Value} (r : Vals [x] us) : ∃ u, us = [u] ∧ RelV x u := by
  cases r with
  | cons r1 r2 => cases r2; exact ⟨_, rfl, r1⟩
theorem vals2 {x y : V} {us : List Value} (r : Vals [x, y] us) : ∃ u w', us = [u, w'] ∧ RelV x u ∧ RelV y w' := by
  cases r with
  | cons r1 r2 =>
    cases r2 with
    | cons r3 r4 => cases r4; exact ⟨_, _, rfl, r1, r3⟩
theorem call_max2 (hc : X.calm = true) : CallR X (.builtin "max") (fun xs H Q => ∃ i j, xs = [.int i, .int j] ∧ Q (.int (if j > i then j else i)) H) := by
  intro pins s σ H xs us Q I r h
  obtain ⟨i, j, rfl, q⟩ := h
  obtain ⟨u, w', rfl, ⟨t, rfl⟩, ⟨t', rfl⟩⟩ := vals2 r
  refine max_two_ints (I.ok.hd hc) fun h' tk k => ⟨_, H, I.kept k, ?_, q⟩
  by_cases hj : j > i
  · rw [if_pos hj, if_pos hj]; exact ⟨_, rfl⟩
  · rw [if_neg hj, if_neg hj]; exact ⟨_, rfl⟩
theorem call_min2 (hc : X.calm = true) : CallR X (.builtin "min") (fun xs H Q => ∃ i j, xs = [.int i, .int j] ∧ Q (.int (if j < i then j else i)) H) := by
  intro pins s σ H xs us Q I r h
  obtain ⟨i, j, rfl, q⟩ := h
  obtain ⟨u, w', rfl, ⟨t, rfl⟩, ⟨t', rfl⟩⟩ := vals2 r
  refine min_two_ints (I.ok.hd hc) fun h' tk k => ⟨_, H, I.kept k, ?_, q⟩
  by_cases hj : j < i
  · rw [if_pos hj, if_pos hj]; exact ⟨_, rfl⟩
  · rw [if_neg hj, if_neg hj]; exact ⟨_, rfl⟩
theorem call_int1 : CallR X (.type "int") (fun xs H Q => (∃ i, xs = [.int i] ∧ Q (.int i) H) ∨ ∃ k, xs = [.bl k] ∧ Q (.int (if k then 1 else 0)) H) := by
  intro pins s σ H xs us Q I r h
  rcases h with ⟨i, rfl, q⟩ | ⟨k, rfl, q⟩
  · obtain ⟨u, rfl, t, rfl⟩ := vals1 r
    exact call_int_int ⟨.int i, H, I, ⟨_, rfl⟩, q⟩
  · obtain ⟨u, rfl, r1⟩ := vals1 r
    cases r1
    exact call_int_bool ⟨.int (if k then 1 else 0), H, I.tok _, ⟨_, rfl⟩, q⟩
end
end L2

namespace L2
open PySem PySem.Spec PyProof.Rows

/-! ### an instance, its attributes a map -/
structure ObjM (h : Heap) (x dx C : Addr) (mA : Str → Option Value) : Prop where
  obj : h.get? x = some (PySem.W.instObj C dx)
  ns : h.Ns1 dx mA
  ne : dx ≠ x

theorem lookIn_ns {h : Heap} {dx : Addr} {mA : Str → Option Value} (n : h.Ns1 dx mA) : ∃ od, h.get? dx = some od ∧ ∀ name, PySem.W.lookIn name od = some (mA name) := by
  obtain ⟨o, es, ep, ho, hd, hk, _, hm⟩ := n
  refine ⟨o, ho, fun name => ?_⟩
  have e := hm name
  unfold nsFind findBy at e
  rw [← Array.find?_toList] at e
  unfold PySem.W.lookIn
  rw [hd]
  dsimp only
  split
  · rename_i y q
    rw [q] at e
    exact congrArg some e
  · rename_i q
    rw [q] at e
    have a : es.toList.any (·.refKey) = false := by
      rw [List.any_eq_false]
      intro y hy
      obtain ⟨z, t, hkey⟩ := hk y (Array.mem_toList_iff.mp hy)
      simp [DictEntry.refKey, hkey]
    have a' : ¬ es.toList.any (·.refKey) = true := by rw [a]; exact Bool.false_ne_true
    rw [if_neg a']
    exact congrArg some e

theorem ObjM.look {h : Heap} {x dx C : Addr} {mA : Str → Option Value} (I : ObjM h x dx C mA) : ∃ od, PySem.W.InstAt h x (PySem.W.instObj C dx) C (some od) ∧ ∀ name, PySem.W.lookIn name od = some (mA name) :=
  let ⟨od, ho, hl⟩ := lookIn_ns I.ns
  ⟨od, ⟨I.obj, rfl, rfl, ho⟩, hl⟩

section
variable {prog : Program} {w : World} {A : Around} {E : Value → Shared → Prop} {s : Shared} {K : PySem.W.Frag} {x dx C f : Addr} {mA : Str → Option Value} {name : Str} {v : Value}

theorem get_map {expr : Bool} {Q : Value → Shared → Prop} (X : K.In s.heap) (I : ObjM s.heap x dx C mA) (hg : PySem.W.plainGet K C name = true) (hh : PySem.W.hasDictIn K C = true)
    (ha : PySem.W.findIn K (.ref C) name = some none) (hv : mA name = some v) (hv' : PySem.W.handedIn v = true) (h : Q v { s with toks := s.toks + 1 }) :
    wpAny (model prog w) A (getAttr (.ref x) name expr) Q E s := by
  obtain ⟨od, J, hl⟩ := I.look
  exact PySem.W.get_value X J (PySem.W.plainGet_of hg).1 (PySem.W.findObj_own hh ha rfl (by rw [hl, hv])) hv' h

theorem get_meth {pl : Sem Bool} {Q : Value × List Value → Shared → Prop} (X : K.In s.heap) (I : ObjM s.heap x dx C mA) (hg : PySem.W.plainGet K C name = true)
    (hf : PySem.W.findIn K (.ref C) name = some (some (.ref f))) (ht : PySem.W.isFn K (.ref f) = true) (hv : mA name = none) (h : Q (.ref f, [.ref x]) s) :
    wpAny (model prog w) A (getMethod (.ref x) name pl) Q E s := by
  obtain ⟨od, J, hl⟩ := I.look
  exact PySem.W.method_fn X J (PySem.W.plainGet_of hg).1 (PySem.W.plainGet_of hg).2 hf (beq_iff_eq.mp ht) (by show (PySem.W.lookIn name od).map (·.isSome) = some false; rw [hl, hv]; rfl) h

theorem set_map {ns : List Str} {Q : Unit → Shared → Prop} (X : K.In s.heap) (I : ObjM s.heap x dx C mA)
    (hs : PySem.W.findIn K (.ref C) "__setattr__" = some (some (.builtin "object.__setattr__"))) (hp : PySem.W.plainOver K C = true) (ht : PySem.W.takerIn K C name = some none) (hh : PySem.W.hasDictIn K C = true)
    (hw : PySem.Within mA ns) (hsz : ns.length ≤ sizeLine)
    (h : ∀ h', ObjM h' x dx C (fun y => if y = name then some v else mA y) → Heap.SameBut dx s.heap h' → Q () { s with heap := h', toks := s.toks + 2 }) :
    wpAny (model prog w) A (setAttr (.ref x) name v) Q E s := by
  obtain ⟨od, J, hl⟩ := I.look
  refine PySem.W.set_plain X J hs (PySem.W.osa_open (s := { s with toks := s.toks + 1 }) (r := none) X J hp ht fun b => ?_)
  obtain ⟨cd, hc, hd'⟩ := PySem.W.any_some hh
  have hx : s.heap.get? x = some ⟨.ref C, some dx, .plain, #[]⟩ := I.obj
  refine wpAny_bind (wpAny_pure (wpAny_bind (wpAny_bind (wpAny_loadPart hx (wpAny_bind (PySem.W.Looks.here (s := { s with toks := s.toks + 1 }) (PySem.W.looks_clsIn X hc) ?_))))))
  rw [hd']
  refine wpAny_pure (a := some dx) (wpAny_bind (wpAny_pure (wpAny_bind ?_)))
  refine wpAny_nsSet1 (s := { s with toks := s.toks + 1 }) I.ns fun h' hn2 hs2 => ?_
  obtain ⟨oD, esD, epD, hoD, hdD, hcD⟩ := hn2.count (PySem.Within.cons name v hw)
  refine wpAny_bind (wpAny_lookBehind hoD (by rw [hdD]; exact pastItsLine_dict (Nat.le_trans hcD (by rw [List.length_cons]; omega))) ?_)
  exact wpAny_pure (h _ ⟨(hs2.2 _ (Ne.symm I.ne)).trans I.obj, hn2, I.ne⟩ hs2)

/-- C(..): the dict at the heap's end, the instance behind it; then its __init__ -/
theorem make_map {R : Result → Shared → Prop} {vs : List Value} {kw : List (Str × Value)} (X : K.In s.heap) (hm : PySem.W.makesIn K C = true)
    (hi : PySem.W.findIn K (.ref C) "__init__" = some (some (.ref f))) (hf : PySem.W.typeIn K (.ref f) = some (.type "function"))
    (h : codeAny (model prog w) (A.under (.builtin "type.__call__" ⟨.ref C :: vs, kw⟩)) (.call (.ref f) ⟨.ref (s.heap.objs.size + 1) :: vs, kw⟩) (PySem.W.InitBack (s.heap.objs.size + 1) R)
      { s with heap := (s.heap.push PySem.W.emptyDict).push (PySem.W.instObj C s.heap.objs.size) }) :
    codeAny (model prog w) A (.call (.ref C) ⟨vs, kw⟩) R s := by
  obtain ⟨hh, g, d, t, os⟩ := s
  exact PySem.W.make_core (PySem.W.makes_of X hm) (PySem.W.looks_findIn X hi) (fun self => PySem.W.bind_fn X self hf) (.inl rfl) h
end

/-! ### the attributes as a list of pairs -/
def putF (f : Str) (v : V) : List (Str × V) → List (Str × V)
  | [] => [(f, v)]
  | (g, x) :: r => if g = f then (g, v) :: r else (g, x) :: putF f v r
theorem lookup_putF (f g : Str) (v : V) : ∀ fs : List (Str × V), (putF f v fs).lookup g = if g = f then some v else fs.lookup g
  | [] => by
    show List.lookup g [(f, v)] = _
    by_cases h : g = f
    · have hb : (g == f) = true := beq_iff_eq.mpr h
      simp only [List.lookup, hb, if_pos h]
    · have hb : (g == f) = false := beq_eq_false_iff_ne.mpr h
      simp only [List.lookup, hb, if_neg h]
  | (k, x) :: r => by
    have ih := lookup_putF f g v r
    rw [show putF f v ((k, x) :: r) = (if k = f then (k, v) :: r else (k, x) :: putF f v r) from rfl]
    by_cases hk : k = f
    · rw [if_pos hk]
      by_cases h : g = k
      · have hb : (g == k) = true := beq_iff_eq.mpr h
        simp only [List.lookup, hb, if_pos (h.trans hk)]
      · have hb : (g == k) = false := beq_eq_false_iff_ne.mpr h
        simp only [List.lookup, hb, if_neg (fun e : g = f => h (e.trans hk.symm))]
    · rw [if_neg hk]
      by_cases h : g = k
      · have hb : (g == k) = true := beq_iff_eq.mpr h
        simp only [List.lookup, hb, if_neg (fun e : g = f => hk (h.symm.trans e))]
      · have hb : (g == k) = false := beq_eq_false_iff_ne.mpr h
        simp only [List.lookup, hb]
        exact ih
theorem keys_putF (f : Str) (v : V) : ∀ fs : List (Str × V), f ∈ (putF f v fs).map (·.1) ∧ ∀ g, g ∈ fs.map (·.1) → g ∈ (putF f v fs).map (·.1)
  | [] => ⟨by simp [putF], fun g h => by simp at h⟩
  | (k, x) :: r => by
    obtain ⟨i1, i2⟩ := keys_putF f v r
    rw [show putF f v ((k, x) :: r) = (if k = f then (k, v) :: r else (k, x) :: putF f v r) from rfl]
    by_cases hk : k = f
    · rw [if_pos hk]
      subst hk
      exact ⟨by simp, fun g h => by simpa using h⟩
    · rw [if_neg hk]
      refine ⟨?_, fun g h => ?_⟩
      · rw [List.map_cons]
        exact List.mem_cons_of_mem _ i1
      · rw [List.map_cons] at h ⊢
        rcases List.mem_cons.mp h with e | e
        · exact List.mem_cons.mpr (.inl e)
        · exact List.mem_cons_of_mem _ (i2 g e)
theorem length_putF (f : Str) (v : V) : ∀ fs : List (Str × V), (putF f v fs).length ≤ fs.length + 1
  | [] => by simp [putF]
  | (k, x) :: r => by
    have ih := length_putF f v r
    rw [show putF f v ((k, x) :: r) = (if k = f then (k, v) :: r else (k, x) :: putF f v r) from rfl]
    by_cases hk : k = f
    · rw [if_pos hk, List.length_cons, List.length_cons]; omega
    · rw [if_neg hk, List.length_cons, List.length_cons]; omega

theorem RelO.some_of {v : V} {o : Option Value} (r : RelO (some v) o) : ∃ u, o = some u ∧ RelV v u := by
  cases o with
  | none => exact (show False from r).elim
  | some u => exact ⟨u, rfl, r⟩
theorem RelO.none_of {o : Option Value} (r : RelO none o) : o = none := by
  cases o with
  | none => rfl
  | some u => exact (show False from r).elim
theorem handed_of {v : V} {u : Value} (r : RelV v u) : PySem.W.handedIn u = true := by
  cases v with
  | non => cases (show u = Value.none from r); rfl
  | bl b => cases (show u = Value.bool b from r); rfl
  | int i => obtain ⟨t, e⟩ := (show ∃ t, u = Value.int i t from r); cases e; rfl
  | str x => obtain ⟨t, e⟩ := (show ∃ t, u = Value.str x t from r); cases e; rfl
  | byt b => obtain ⟨t, e⟩ := (show ∃ t, u = Value.bytes b t from r); cases e; rfl
  | flt b => obtain ⟨t, e⟩ := (show ∃ t, u = Value.float b t from r); cases e; rfl
  | ref a => cases (show u = Value.ref a from r); rfl
  | ty n => cases (show u = Value.type n from r); rfl

section
variable {P : Program} {w : World} {H H' : Hp} {h h' : Heap} {a C dx : Addr} {fs fs' : List (Str × V)}
theorem ins_get (hok : HOk P w H h) (e : H a = some (.ins C dx fs)) : ∃ mA, ObjM h a dx C mA ∧ (∀ f, RelO (fs.lookup f) (mA f)) ∧ PySem.Within mA (fs.map (·.1)) ∧ fs.length ≤ 1000 ∧ H dx = some (.own a) := by
  obtain ⟨d, z, ne, ob, mA, n, r, q⟩ := (show ObjOk P w H h a (.ins C dx fs) from hok a _ e)
  exact ⟨mA, ⟨ob, n, ne⟩, r, q, z, d⟩
end

/-! ### what of the text a class must have -/
structure Cls (K : PySem.W.Frag) (C : Addr) : Prop where
  pg : PySem.W.plainGet K C Str.empty = true
  hd : PySem.W.hasDictIn K C = true
  po : PySem.W.plainOver K C = true
  sa : PySem.W.findIn K (.ref C) "__setattr__" = some (some (.builtin "object.__setattr__"))
theorem Cls.get {K : PySem.W.Frag} {C : Addr} (c : Cls K C) (f : Str) : PySem.W.plainGet K C f = true := c.pg
/-- no class of it has the name -/
def NoAttr (K : PySem.W.Frag) (C : Addr) (f : Str) : Prop := PySem.W.findIn K (.ref C) f = some none
theorem NoAttr.taker {K : PySem.W.Frag} {C : Addr} {f : Str} (n : NoAttr K C f) : PySem.W.takerIn K C f = some none := by
  unfold PySem.W.takerIn
  rw [show PySem.W.findIn K (.ref C) f = some none from n]
  rfl
/-- a method: a plain def of the class or of one above it -/
structure Meth (K : PySem.W.Frag) (C : Addr) (m : Str) (f : Addr) : Prop where
  at_ : PySem.W.findIn K (.ref C) m = some (some (.ref f))
  fn : PySem.W.isFn K (.ref f) = true
  kp : PySem.W.keepIn K (.ref f) = true

section
variable {X : Cx} {pins : List (Addr × Obj)} {σ : St} {H : Hp} {s : Shared} {a C dx : Addr} {fs : List (Str × V)} {f : Str} {v : V} {A : Around} {E : Value → Shared → Prop}

theorem getattr_ok {b : Bool} {Q : Value → Shared → Prop} (I : Inv X pins σ H s) (e : H a = some (.ins C dx fs)) (c : Cls X.K C) (n : NoAttr X.K C f) (l : fs.lookup f = some v)
    (h : ∀ u s', Inv X pins σ H s' → RelV v u → Q u s') : wpAny (model X.prog X.w) A (getAttr (.ref a) f b) Q E s := by
  obtain ⟨mA, O, r, _, _, _⟩ := ins_get I.hok e
  obtain ⟨u, hu, ru⟩ := RelO.some_of (v := v) (o := mA f) (by rw [← l]; exact r f)
  exact get_map I.kIn O (c.get f) c.hd n hu (handed_of ru) (h u _ (I.tok _) ru)

theorem getmeth_ok {m : Str} {g : Addr} {pl : Sem Bool} {Q : Value × List Value → Shared → Prop} (I : Inv X pins σ H s) (e : H a = some (.ins C dx fs)) (c : Cls X.K C) (k : Meth X.K C m g) (l : fs.lookup m = none)
    (h : Q (.ref g, [.ref a]) s) : wpAny (model X.prog X.w) A (getMethod (.ref a) m pl) Q E s := by
  obtain ⟨mA, O, r, _, _, _⟩ := ins_get I.hok e
  have hn : mA m = none := RelO.none_of (by rw [← l]; exact r m)
  exact get_meth I.kIn O (c.get m) k.at_ k.fn hn h

theorem setattr_ok {y : V} {u : Value} {Q : Unit → Shared → Prop} (I : Inv X pins σ H s) (e : H a = some (.ins C dx fs)) (c : Cls X.K C) (n : NoAttr X.K C f) (hl : fs.length < 1000) (ry : RelV y u)
    (h : ∀ s', Inv X pins σ (upd H a (.ins C dx (putF f y fs))) s' → Q () s') : wpAny (model X.prog X.w) A (setAttr (.ref a) f u) Q E s := by
  obtain ⟨mA, O, r, wi, _, ho⟩ := ins_get I.hok e
  have hz : (fs.map (·.1)).length ≤ sizeLine := by rw [List.length_map, sizeLine_eq]; omega
  refine set_map I.kIn O c.sa c.po n.taker c.hd wi hz fun h' O' sb => h _ ?_
  have hd : ∃ o, h'.get? dx = some o := let ⟨o, _, _, e', _⟩ := O'.ns; ⟨o, e'⟩
  refine I.write (x := a) (e := dx) (by rw [e]; exact True.intro) (.inr ho) (fun b q hb z => (sb.2 b hb).trans z) hd ?_
  refine ⟨by rw [upd_ne O.ne]; exact ho, ?_, O.ne, O'.obj, _, O'.ns, fun g => ?_, fun g hg => ?_⟩
  · have := length_putF f y fs; omega
  · show RelO ((putF f y fs).lookup g) (if g = f then some u else mA g)
    rw [lookup_putF]
    by_cases q : g = f
    · rw [if_pos q, if_pos q]; exact ry
    · rw [if_neg q, if_neg q]; exact r g
  · by_cases q : g = f
    · rw [q]; exact (keys_putF f y fs).1
    · refine (keys_putF f y fs).2 g (wi g fun z => hg ?_)
      show (if g = f then some u else mA g) = none
      rw [if_neg q]; exact z

/-- a new instance, tracked, without attributes -/
theorem Inv.made (I : Inv X pins σ H s) : Inv X pins σ (upd (upd H s.heap.objs.size (.own (s.heap.objs.size + 1))) (s.heap.objs.size + 1) (.ins C s.heap.objs.size []))
    { s with heap := (s.heap.push PySem.W.emptyDict).push (PySem.W.instObj C s.heap.objs.size) } := by
  have e1 : (s.heap.push PySem.W.emptyDict).get? s.heap.objs.size = some PySem.W.emptyDict := Heap.get?_push_size s.heap rfl
  have e2 : ((s.heap.push PySem.W.emptyDict).push (PySem.W.instObj C s.heap.objs.size)).get? (s.heap.objs.size + 1) = some (PySem.W.instObj C s.heap.objs.size) := by
    have := Heap.get?_push_size (s.heap.push PySem.W.emptyDict) (o := PySem.W.instObj C s.heap.objs.size) rfl
    rwa [Heap.size_push] at this
  have e3 : (s.heap.push PySem.W.emptyDict).Ns s.heap.objs.size (fun _ => none) := ⟨PySem.W.emptyDict, #[], _, e1, rfl, (fun e he => absurd he (by simp)), fun _ => rfl⟩
  have I1 := I.laid (a := s.heap.objs.size) (o := .own (s.heap.objs.size + 1)) (h' := s.heap.push PySem.W.emptyDict) (t' := s.toks) (fun b u q => Heap.get?_push_of_some _ q) (Nat.le_refl _) ⟨_, e1⟩
  refine I1.laid (a := s.heap.objs.size + 1) (o := .ins C s.heap.objs.size []) (t' := s.toks) (fun b u q => Heap.get?_push_of_some _ q) (Nat.le_of_eq (Heap.size_push _ _)) ?_
  have ne : s.heap.objs.size ≠ s.heap.objs.size + 1 := Nat.ne_of_lt (Nat.lt_succ_self _)
  refine ⟨by rw [upd_ne ne, upd_same], Nat.zero_le _, ne, e2, fun _ => none, (Heap.Ns1.of_empty e3).at fun o q => Heap.get?_push_of_some _ q, fun _ => True.intro, fun y hy => absurd rfl hy⟩

/-- e.f where nothing but the object is asked: through attributeBase (super) and the last hold -/
theorem attr_of {prog : Program} {w : World} {env : Env} {e : Expr} {f : Str} {pos : Pos} {s : Shared} {Q : Value → Shared → Prop} (hb : attributeBase e f env (eval e env) = eval e env)
    (h : wpAny (model prog w) A (eval e env) (fun o s₁ => wpAny (model prog w) A (getAttr o f true) Q E s₁) E s) : wpAny (model prog w) A (eval (.Attribute e f pos) env) Q E s :=
  Attribute_any_ h (by rw [arm_eval_Attribute, hb])
end

/-! ### readings and rules -/
/-- e.f, an attribute of the instance -/
def tFld (K : PySem.W.Frag) (ta : TE) (f : Str) : TE := fun σ H Q => ta σ H fun x H1 => ∃ a C dx fs v, x = .ref a ∧ H1 a = some (.ins C dx fs) ∧ Cls K C ∧ NoAttr K C f ∧ fs.lookup f = some v ∧ Q v H1
/-- e.f = value -/
def sFld (K : PySem.W.Frag) (ta tv : TE) (f : Str) : TS := fun D σ H => tv σ H fun y H1 => ta σ H1 fun x H2 => ∃ a C dx fs, x = .ref a ∧ H2 a = some (.ins C dx fs) ∧ Cls K C ∧ NoAttr K C f ∧ fs.length < 1000 ∧
  D.nx σ (upd H2 a (.ins C dx (putF f y fs)))
section
variable {X : Cx} {o e value : Expr} {f : Str} {pos pos' tpos : Pos} {ta tv : TE}
theorem pe_fld (he : PE X e ta) (hb : attributeBase e f X.env (eval e X.env) = eval e X.env) : PE X (.Attribute e f pos) (tFld X.K ta f) := by
  intro pins s σ H Q I h
  refine attr_of hb (thn (he pins s σ H _ I h) fun u s1 ⟨x, H1, I1, rx, a, C, dx, fs, v, ex, ea, c, n, l, q⟩ => ?_)
  subst ex
  obtain rfl : u = Value.ref a := rx
  exact getattr_ok I1 ea c n l fun u' s2 I2 ru => ⟨v, H1, I2, ru, q⟩
theorem ps_fld (ha : PE X o ta) (hv : PE X value tv) (hs : swapsWith value (some (.Attribute o f pos')) pos.line X.env = pure false) : PS X (.Assign [.Attribute o f pos'] value pos) (sFld X.K ta tv f) := by
  intro pins s σ H D I h
  refine plainObj_wpAny_Assign_Attribute (thn (hv pins s σ H _ I h) fun u s1 ⟨y, H1, I1, ry, q⟩ => thn (ha pins s1 σ H1 _ I1 q) fun ov s2 ⟨x, H2, I2, rx, a, C, dx, fs, ex, ea, c, n, l, q2⟩ => ?_) hs
  subst ex
  obtain rfl : ov = Value.ref a := rx
  exact setattr_ok I2 ea c n l ry fun s3 I3 => ⟨σ, _, I3, q2⟩
end

/-! ### isinstance -/
section
variable {X : Cx} {pins : List (Addr × Obj)} {σ : St} {H : Hp} {s : Shared} {A : Around} {E : Value → Shared → Prop} {Q : Value → Shared → Prop} {c : Value} {b : Bool}
/-- the type of a value, as the fragment's deciders take it; for an instance its class -/
inductive TyOf (K : PySem.W.Frag) (H : Hp) : V → Value → Prop where
  | non : TyOf K H .non (.type "NoneType")
  | bl (x : Bool) : TyOf K H (.bl x) (.type "bool")
  | int (i : Int) : TyOf K H (.int i) (.type "int")
  | str (x : Str) : TyOf K H (.str x) (.type "str")
  | flt (x : UInt64) : TyOf K H (.flt x) (.type "float")
  | lst {a : Addr} {xs : List V} (e : H a = some (.lst xs)) : TyOf K H (.ref a) (.type "list")
  | frz {a : Addr} {o : Obj} {xs : List V} (e : H a = some (.frz o (.lst xs))) : TyOf K H (.ref a) (.type "list")
  | tup {a : Addr} {xs : List V} (e : H a = some (.tup xs)) : TyOf K H (.ref a) (.type "tuple")
  | dK {a : Addr} {kvs : List (Key × V)} (e : H a = some (.dK kvs)) : TyOf K H (.ref a) (.type "dict")
  | dT {a : Addr} {kvs : List (List Key × V)} (e : H a = some (.dT kvs)) : TyOf K H (.ref a) (.type "dict")
  | ins {a C dx : Addr} {fs : List (Str × V)} (e : H a = some (.ins C dx fs)) (cl : Cls K C) (ha : PySem.W.findIn K (.ref C) "__class__" = some (some (.builtin "object.__class__")))
      (hn : PySem.W.specialIn K (.builtin "object.__class__") "__get__" = some (some (.builtin "getset_descriptor.__get__"))) (htk : PySem.W.takesIn K (.builtin "object.__class__") = some true)
      (hm : PySem.W.mroIn K C (.type "object") = some true) : TyOf K H (.ref a) (.ref C)
/-- isinstance(x, c) for one class c, a built-in or an own one: kitOne's answer -/
theorem isinst_ok {x : V} {u t : Value} (I : Inv X pins σ H s) (rx : RelV x u) (ty : TyOf X.K H x t) (e : PySem.W.kitOne X.K t c = some b) (h : ∀ tk, Q (.bool b) { s with toks := tk }) :
    wpAny (model X.prog X.w) A (call (.builtin "isinstance") [u, c]) Q E s := by
  cases ty with
  | non => cases (show u = Value.none from rx); exact PySem.W.kia_one PySem.W.kitx_none I.kIn True.intro e (fun z => nomatch z) h
  | bl y => cases (show u = Value.bool y from rx); exact PySem.W.kia_one PySem.W.kitx_bool I.kIn True.intro e (fun z => nomatch z) h
  | int i => obtain ⟨t, q⟩ := (show ∃ t, u = Value.int i t from rx); cases q; exact PySem.W.kia_one PySem.W.kitx_int I.kIn True.intro e (fun z => nomatch z) h
  | str y => obtain ⟨t, q⟩ := (show ∃ t, u = Value.str y t from rx); cases q; exact PySem.W.kia_one PySem.W.kitx_str I.kIn True.intro e (fun z => nomatch z) h
  | flt y => obtain ⟨t, q⟩ := (show ∃ t, u = Value.float y t from rx); cases q; exact PySem.W.kia_one PySem.W.kitx_float I.kIn True.intro e (fun z => nomatch z) h
  | @lst a xs ea =>
    cases (show u = Value.ref a from rx)
    obtain ⟨_, _, n, _, h1⟩ := (show ObjOk X.prog X.w H s.heap a (.lst xs) from I.hok a _ ea)
    exact PySem.W.kia_one PySem.W.kitx_list I.kIn ⟨_, h1, rfl⟩ e (fun z => nomatch z) h
  | @frz a ob xs ea =>
    cases (show u = Value.ref a from rx)
    obtain ⟨_, _, _, n, _, h1⟩ := (show ObjOk X.prog X.w H s.heap a (.frz ob (.lst xs)) from I.hok a _ ea)
    exact PySem.W.kia_one PySem.W.kitx_list I.kIn ⟨_, h1, rfl⟩ e (fun z => nomatch z) h
  | @tup a xs ea =>
    cases (show u = Value.ref a from rx)
    obtain ⟨_, _, _, p⟩ := (show ObjOk X.prog X.w H s.heap a (.tup xs) from I.hok a _ ea)
    obtain ⟨o, h1, h2, _⟩ := p
    exact PySem.W.kia_one PySem.W.kitx_tuple I.kIn ⟨o, h1, h2⟩ e (fun z => nomatch z) h
  | @dK a kvs ea =>
    cases (show u = Value.ref a from rx)
    obtain ⟨_, _, vs, _, p⟩ := (show ObjOk X.prog X.w H s.heap a (.dK kvs) from I.hok a _ ea)
    obtain ⟨o, es, ep, h1, h2, _⟩ := p
    exact PySem.W.kia_one PySem.W.kitx_dict I.kIn ⟨o, h1, h2.1⟩ e (fun z => nomatch z) h
  | @dT a kvs ea =>
    cases (show u = Value.ref a from rx)
    obtain ⟨_, _, xs, _, o, es, ep, h1, h2, _⟩ := (show ObjOk X.prog X.w H s.heap a (.dT kvs) from I.hok a _ ea)
    exact PySem.W.kia_one PySem.W.kitx_dict I.kIn ⟨o, h1, h2.1⟩ e (fun z => nomatch z) h
  | @ins a C dx fs ea cl ha hn htk hm =>
    cases (show u = Value.ref a from rx)
    obtain ⟨mA, O, _⟩ := ins_get I.hok ea
    obtain ⟨od, J, _⟩ := O.look
    exact PySem.W.kia_one (PySem.W.kitx_own (cl.get _) cl.hd ha hn htk hm) I.kIn J e (fun z => nomatch z) h
end
end L2

namespace L2
open PySem PySem.Spec PyProof.Rows

/-! ### room -/
structure Room (k : Nat) (A : Around) : Prop where
  hd : A.handled = none
  dp : A.depth + 3 * k + 5 < recursionLimit
  un : A.units + 16 * k + 200 < cLine
theorem Room.mono {j k : Nat} {A : Around} (r : Room k A) (h : j ≤ k) : Room j A := ⟨r.hd, by have := r.dp; omega, by have := r.un; omega⟩
theorem Room.deeper {k : Nat} {A : Around} (r : Room (k + 1) A) (env : Env) : Room k (A.deeper env) :=
  ⟨r.hd, by have := r.dp; show A.depth + 1 + 3 * k + 5 < _; omega, by have := r.un; show A.units + 3 + 16 * k + 200 < _; omega⟩
theorem make_depth {A : Around} {C : Addr} {us : List Value} {kw : List (Str × Value)} : (A.under (.builtin "type.__call__" ⟨.ref C :: us, kw⟩)).depth = A.depth + 1 := by
  first | rfl | simp [Around.under, Code.weight, Code.isCreation, Code.isGuard, Code.isCaller, Code.frames, Code.isFrame, guardIds]
theorem make_units {A : Around} {C : Addr} {us : List Value} {kw : List (Str × Value)} : (A.under (.builtin "type.__call__" ⟨.ref C :: us, kw⟩)).units = A.units + 1 := by
  first | rfl | simp [Around.under, Code.cUnits, Code.frames, Code.isFrame]
theorem Room.make {k : Nat} {A : Around} (r : Room (k + 1) A) (C : Addr) (us : List Value) (kw : List (Str × Value)) : Room k (A.under (.builtin "type.__call__" ⟨.ref C :: us, kw⟩)) :=
  ⟨r.hd, by have := r.dp; rw [make_depth]; omega, by have := r.un; rw [make_units]; omega⟩
theorem Room.depth {k : Nat} {A : Around} (r : Room k A) : A.depth < recursionLimit := by have := r.dp; omega
theorem Room.units {k : Nat} {A : Around} (r : Room k A) : A.units + 64 < cLine := by have := r.un; omega
/-! ### argument lists and displays -/
def tNil : TA := fun _ H Q => Q [] H
def tCons (ta : TE) (tr : TA) : TA := fun σ H Q => ta σ H fun x H1 => tr σ H1 fun xs H2 => Q (x :: xs) H2
section
variable {X : Cx} {e : Expr} {es : List Expr} {te : TE} {t : TA} {pos : Pos}
theorem pa_nil : PA X [] tNil := fun _ _ _ _ H Q I h => Calls.spliced_nil ⟨[], H, I, .nil, h⟩
theorem pa_cons (ha : PE X e te) (hr : PA X es t) (hs : starEach (e :: es) X.env = (false, eval e X.env) :: starEach es X.env := by rfl) : PA X (e :: es) (tCons te t) := by
  intro pos pins s σ H Q I h
  rw [hs]
  show wpAny _ _ (spliced ((false, eval e X.env) :: backTo pos (starEach es X.env))) _ _ s
  refine Calls.spliced_cons (thn (ha pins s σ H _ I h) fun u s1 ⟨x, H1, I1, r1, q1⟩ => ?_)
  exact thn (hr pos pins s1 σ H1 _ I1 q1) fun us s2 ⟨xs, H2, I2, r2, q2⟩ => ⟨x :: xs, H2, I2, .cons r1 r2, q2⟩

/-- a tuple, a list of written items -/
def tTup (t : TA) : TE := fun σ H Q => t σ H fun xs H1 => xs.length ≤ sizeLine ∧ ∀ p, H1 p = none → Q (.ref p) (upd H1 p (.tup xs))
def tLst (t : TA) : TE := fun σ H Q => t σ H fun xs H1 => xs.length ≤ sizeLine ∧ ∀ p, H1 p = none → Q (.ref p) (upd H1 p (.lst xs))
theorem pe_tup {x1} (h : PA X es t) : PE X (.Tuple es x1 pos) (tTup t) := by
  intro pins s σ H Q I hq
  refine wpAny_Tuple_spliced (thn (h pos pins s σ H _ I hq) fun us s1 ⟨xs, H1, I1, r, z, q⟩ => ⟨by rw [← r.length]; exact z, ?_⟩)
  have hf : H1 s1.heap.objs.size = none := I1.hok.fresh (Nat.le_refl _)
  refine ⟨.ref s1.heap.objs.size, upd H1 s1.heap.objs.size (.tup xs), I1.laid (t' := s1.toks) (fun b u e => Heap.get?_push_of_some _ e) (Nat.le_refl _) ?_, rfl, q _ hf⟩
  exact ⟨z, us, r, ⟨_, Heap.get?_push_size _ rfl, rfl, _, rfl⟩⟩
theorem pe_lst (h : PA X es t) : PE X (.List es pos) (tLst t) := by
  intro pins s σ H Q I hq
  refine wpAny_List_spliced (thn (h pos pins s σ H _ I hq) fun us s1 ⟨xs, H1, I1, r, z, q⟩ => ⟨by rw [← r.length]; exact z, ?_⟩)
  have hf : H1 s1.heap.objs.size = none := I1.hok.fresh (Nat.le_refl _)
  refine ⟨.ref s1.heap.objs.size, upd H1 s1.heap.objs.size (.lst xs), I1.laid (t' := s1.toks) (fun b u e => Heap.get?_push_of_some _ e) (Nat.le_refl _) ?_, rfl, q _ hf⟩
  exact ⟨z, us, 0, r, Heap.get?_push_size _ rfl⟩
end

/-! ### what a def promises -/
/-- a def's promise: the bound arguments in the parameters' order, the heap, the wanted end, the wanted exception -/
abbrev Sp := List V → Hp → VK → XK → Prop
/-- how an exception lies behind a call (file 08 gives it): the callers' frames, abstract heap and state ahead of the call, the wish, the exception, the state -/
abbrev CXT := List Env → Hp → Shared → XK → Value → Shared → Prop

/-- the state at a call -/
structure Env0 (P : Program) (w : World) (K : PySem.W.Frag) (mg : Str → Option Value) (base : Heap) (A : Around) (outer : List Env) (s : Shared) (H : Hp) : Prop where
  frames : A.frames = some outer
  mod : Mod K mg base
  bs : ∀ b o, base.get? b = some o → s.heap.get? b = some o ∧ H b = none
  bsz : base.objs.size ≤ s.heap.objs.size
  funs : s.heap.FunFrames base outer
  frf : ∀ b ∈ frs outer, H b = none
  hok : HOk P w H s.heap
  bare : AllBare s.gens
/-- a call's end -/
def CE (outer : List Env) (P : Program) (w : World) (H : Hp) (s : Shared) (Q : VK) (u : Value) (s' : Shared) : Prop :=
  ∃ v H', s'.os = s.os ∧ AllBare s'.gens ∧ Un (frs outer) [] H H' s.heap s'.heap ∧ HOk P w H' s'.heap ∧ RelV v u ∧ Q v H'
def CR (CX : CXT) (outer : List Env) (P : Program) (w : World) (H : Hp) (s : Shared) (Q : VK) (E : XK) (r : Result) (s' : Shared) : Prop :=
  match r with
  | .ok (.ret u) => CE outer P w H s Q u s'
  | .ok _ => False
  | .error e => CX outer H s E e s'
structure FnOk (P : Program) (w : World) (K : PySem.W.Frag) (mg : Str → Option Value) (base : Heap) (CX : CXT) (k : Nat) (f : Addr) (fd : FuncData) (ps : List Str) (sp : Sp) : Prop where
  len : ∀ vs H Q E, sp vs H Q E → vs.length = ps.length
  run : ∀ (A : Around) (outer : List Env) (s : Shared) (H : Hp) (args : Args) (us : List Value) (vs : List V) (Q : VK) (E : XK), Room k A → Env0 P w K mg base A outer s H → BindsTo s fd args (ps.zip us) → Vals vs us → sp vs H Q E →
    codeAny (model P w) A (.call (.ref f) args) (CR CX outer P w H s Q E) s
theorem FnOk.mono {P : Program} {w : World} {K : PySem.W.Frag} {mg : Str → Option Value} {base : Heap} {CX : CXT} {j k : Nat} {f : Addr} {fd : FuncData} {ps : List Str} {sp : Sp} (F : FnOk P w K mg base CX j f fd ps sp) (h : j ≤ k) :
    FnOk P w K mg base CX k f fd ps sp := ⟨F.len, fun A outer s H args us vs Q E hr => F.run A outer s H args us vs Q E (hr.mono h)⟩
theorem Env0.make {P : Program} {w : World} {K : PySem.W.Frag} {mg : Str → Option Value} {base : Heap} {A : Around} {outer : List Env} {s : Shared} {H : Hp} (e : Env0 P w K mg base A outer s H) (C : Addr) (us : List Value) (kw : List (Str × Value)) :
    Env0 P w K mg base (A.under (.builtin "type.__call__" ⟨.ref C :: us, kw⟩)) outer s H := ⟨by first | exact e.frames | (simpa [Around.under, Code.envs, Code.isFrame, pushEnvs] using e.frames), e.mod, e.bs, e.bsz, e.funs, e.frf, e.hok, e.bare⟩
section
variable {X : Cx} {pins : List (Addr × Obj)} {σ : St} {H : Hp} {s s' : Shared}
/-- from a body: what a callee wants -/
theorem Inv.env0 (I : Inv X pins σ H s) : Env0 X.prog X.w X.K X.mg X.base X.A X.stack s H :=
  ⟨I.ok.frames, I.ok.mod, I.bs, Nat.le_trans I.ok.bsz I.sz, I.stack, I.stkFree, I.hok, I.bare⟩
/-- behind a call -/
theorem Inv.after {Q : VK} {u : Value} (I : Inv X pins σ H s) (h : CE X.stack X.prog X.w H s Q u s') : EP X pins σ Q u s' := by
  obtain ⟨v, H', os, bare, un, hok, r, q⟩ := h
  obtain ⟨hh, g, d, t, os'⟩ := s'
  obtain rfl : os' = s.os := os
  exact ⟨v, H', I.call (h' := hh) (g' := g) (d' := d) (t' := t) (ch := []) un hok bare (fun b z => absurd z (by simp)), r, q⟩
end

/-! ### calls -/
/-- f(..): the written arguments, then the defaults dvs; E: what is wanted of an exception -/
def tCall (sp : Sp) (dvs : List V) (E : XK) (t : TA) : TE := fun σ H Q => t σ H fun vs H1 => sp (vs ++ dvs) H1 Q E
/-- o.m(..) of an instance of the class at C -/
def tMeth (C : Addr) (m : Str) (sp : Sp) (dvs : List V) (E : XK) (ta : TE) (t : TA) : TE := fun σ H Q => ta σ H fun x H1 => ∃ a dx fs, x = .ref a ∧ H1 a = some (.ins C dx fs) ∧ fs.lookup m = none ∧
  t σ H1 fun vs H2 => sp (x :: (vs ++ dvs)) H2 Q E
/-- C(..): a new instance and its dict, then __init__ -/
def tMake (C : Addr) (sp : Sp) (dvs : List V) (E : XK) (t : TA) : TE := fun σ H Q => t σ H fun vs H1 => ∀ x dx, H1 x = none → H1 dx = none → dx ≠ x →
  sp (.ref x :: (vs ++ dvs)) (upd (upd H1 dx (.own x)) x (.ins C dx [])) (fun v H2 => v = .non ∧ Q (.ref x) H2) E

/-- how the parameters are bound: us the positional arguments, kw the keywords' values by name, ds the defaults that fill up -/
def Binds (K : PySem.W.Frag) (fd : FuncData) (ps : List Str) (ds : List Value) : Prop :=
  ∀ (s : Shared) (us : List Value), K.In s.heap → (us ++ ds).length = ps.length → BindsTo s fd ⟨us, []⟩ (ps.zip (us ++ ds))
/-- every parameter is given -/
theorem Binds.all {K : PySem.W.Frag} {fd : FuncData} {ps : List Str} (h : ∀ us : List Value, us.length = ps.length → bindArgs fd ⟨us, []⟩ = pure (ps.zip us)) : Binds K fd ps [] := fun s us _ hl => by
  rw [List.append_nil] at hl ⊢
  exact .of_eq (h us hl)

/-- an exception of a callee reaches what this body wants of exceptions -/
def Passes (CX : CXT) (X : Cx) (E : XK) : Prop := ∀ (pins : List (Addr × Obj)) (σ : St) (H : Hp) (s : Shared) (e : Value) (s' : Shared), Inv X pins σ H s → CX X.stack H s E e s' → X.xe e s'

section
variable {X : Cx} {CX : CXT} {k : Nat} {f C : Addr} {fd : FuncData} {ps : List Str} {sp : Sp} {dvs : List V} {ds : List Value} {E : XK} {x m : Str} {p pos apos : Pos} {e o : Expr} {es : List Expr} {ta : TE} {t : TA}

/-- the callee runs -/
theorem run_fn {pins : List (Addr × Obj)} {σ : St} {H : Hp} {s : Shared} {Q : VK} {us : List Value} {vs : List V} (F : FnOk X.prog X.w X.K X.mg X.base CX k f fd ps sp) (hr : Room k X.A) (hb : Binds X.K fd ps ds) (hd : Vals dvs ds) (hx : Passes CX X E)
    (I : Inv X pins σ H s) (r : Vals vs us) (h : sp (vs ++ dvs) H Q E) : wpAny (model X.prog X.w) X.A (call (.ref f) us) (EP X pins σ Q) X.xe s := by
  have r2 : Vals (vs ++ dvs) (us ++ ds) := r.append hd
  have hl : (us ++ ds).length = ps.length := by rw [← r2.length]; exact F.len _ _ _ _ h
  refine wpAny_call (codeAny_mono (F.run X.A X.stack s H ⟨us, []⟩ (us ++ ds) (vs ++ dvs) Q E hr I.env0 (hb s us I.kIn hl) r2 h) fun r s' hq => ?_)
  cases r with
  | error e => exact hx pins σ H s e s' I hq
  | ok fl =>
    cases fl with
    | ret u => exact I.after hq
    | next => exact False.elim hq
    | brk => exact False.elim hq
    | cont => exact False.elim hq

theorem pe_call (F : FnOk X.prog X.w X.K X.mg X.base CX k f fd ps sp) (hr : Room k X.A) (hg : Gl X x) (hm : X.mg x = some (.ref f)) (hk : PySem.W.keepIn X.K (.ref f) = true) (hb : Binds X.K fd ps ds) (hd : Vals dvs ds) (hx : Passes CX X E)
    (ha : PA X (e :: es) t) (hdb : (x == ("__debug__" : Str)) = false := by decide) (he : starEach (e :: es) X.env = (false, eval e X.env) :: starEach es X.env := by rfl) (hpl : (backTo pos (starEach es X.env)).any (·.1) = false := by rfl) :
    PE X (.Call (.Name x p) (e :: es) [] pos) (tCall sp dvs E t) := by
  intro pins s σ H Q I h
  refine wpAny_Call_Name_kw (ld_glob I hg hm ?_ hdb)
  refine PySem.W.callWith_K (h₀ := X.base) I.ok.mod.kin hk (thn (ha pos pins s σ H _ I h) fun us s1 ⟨vs, H1, I1, r, q⟩ => ⟨I1.kIn, ?_⟩) he hpl
  exact run_fn F hr hb hd hx I1 r q
/-- o.m(e, ..) -/
theorem pe_meth {pl : Sem Bool} (he : PE X o ta) (c : Cls X.K C) (hm : Meth X.K C m f) (F : FnOk X.prog X.w X.K X.mg X.base CX k f fd ps sp) (hr : Room k X.A) (hb : Binds X.K fd ps ds) (hd : Vals dvs ds) (hx : Passes CX X E) (ha : PA X (e :: es) t)
    (hst : starEach (e :: es) X.env = (false, eval e X.env) :: starEach es X.env := by rfl) (hpl : (backTo pos (starEach es X.env)).any (·.1) = false := by rfl)
    (ht : eval (.Call (.Attribute o m apos) (e :: es) [] pos) X.env = (do
      let ov ← eval o X.env
      standAt apos.atName
      let (f, first) ← holding [ov] (getMethod ov m pl)
      callWith pos f first (backTo pos (starEach (e :: es) X.env)) (backToKw pos (keywordEach [] X.env))) := by rfl) :
    PE X (.Call (.Attribute o m apos) (e :: es) [] pos) (tMeth C m sp dvs E ta t) := by
  intro pins s σ H Q I h
  refine PySem.W.methodCall_KW (pl := pl) (thn (he pins s σ H _ I h) fun u s1 ⟨x, H1, I1, rx, a, dx, fs, ex, ea, l, q⟩ => ?_) ht
  subst ex
  obtain rfl : u = Value.ref a := rx
  refine getmeth_ok I1 ea c hm l ?_
  refine PySem.W.callWith_K (first := [.ref a]) (h₀ := X.base) I.ok.mod.kin hm.kp (thn (ha pos pins s1 σ H1 _ I1 q) fun us s2 ⟨vs, H2, I2, r, q2⟩ => ⟨I2.kIn, ?_⟩) hst hpl
  exact run_fn (us := .ref a :: us) (vs := .ref a :: vs) F hr hb hd hx I2 (.cons rfl r) q2
/-- what a class must have to be made -/
structure Mk (K : PySem.W.Frag) (C f : Addr) : Prop where
  makes : PySem.W.makesIn K C = true
  init : PySem.W.findIn K (.ref C) "__init__" = some (some (.ref f))
  fn : PySem.W.isFn K (.ref f) = true
  kp : PySem.W.keepIn K (.ref C) = true

theorem run_make {pins : List (Addr × Obj)} {σ : St} {H : Hp} {s : Shared} {Q : VK} {us : List Value} {vs : List V} (M : Mk X.K C f) (F : FnOk X.prog X.w X.K X.mg X.base CX k f fd ps sp) (hr : Room (k + 1) X.A) (hb : Binds X.K fd ps ds) (hd : Vals dvs ds)
    (hx : Passes CX X E) (I : Inv X pins σ H s) (r : Vals vs us)
    (h : ∀ x dx, H x = none → H dx = none → dx ≠ x → sp (.ref x :: (vs ++ dvs)) (upd (upd H dx (.own x)) x (.ins C dx [])) (fun v H2 => v = .non ∧ Q (.ref x) H2) E) :
    wpAny (model X.prog X.w) X.A (call (.ref C) us) (EP X pins σ Q) X.xe s := by
  have hq := h (s.heap.objs.size + 1) s.heap.objs.size (I.hok.fresh (Nat.le_succ _)) (I.hok.fresh (Nat.le_refl _)) (Nat.ne_of_lt (Nat.lt_succ_self _))
  have I2 := Inv.made (C := C) I
  have r2 : Vals (V.ref (s.heap.objs.size + 1) :: (vs ++ dvs)) (Value.ref (s.heap.objs.size + 1) :: (us ++ ds)) := .cons rfl (r.append hd)
  have hl : (Value.ref (s.heap.objs.size + 1) :: us ++ ds).length = ps.length := by
    have e := r2.length
    rw [F.len _ _ _ _ hq] at e
    exact e.symm
  refine wpAny_call (make_map (f := f) I.kIn M.makes M.init (beq_iff_eq.mp M.fn) (codeAny_mono (F.run _ X.stack _ _ ⟨Value.ref (s.heap.objs.size + 1) :: us, []⟩ (Value.ref (s.heap.objs.size + 1) :: (us ++ ds)) _ _ E (hr.make C us [])
    (I2.env0.make C us []) (hb _ (Value.ref (s.heap.objs.size + 1) :: us) I2.kIn hl) r2 hq) fun r s' hq' => ?_))
  cases r with
  | error e => exact hx pins σ _ _ e s' I2 hq'
  | ok fl =>
    cases fl with
    | ret u =>
      obtain ⟨v, H', I3, rv, ev, q3⟩ := I2.after hq'
      subst ev
      exact ⟨rv, ⟨V.ref (s.heap.objs.size + 1), H', I3, rfl, q3⟩⟩
    | next => exact False.elim hq'
    | brk => exact False.elim hq'
    | cont => exact False.elim hq'
theorem pe_make (M : Mk X.K C f) (F : FnOk X.prog X.w X.K X.mg X.base CX k f fd ps sp) (hr : Room (k + 1) X.A) (hg : Gl X x) (hm : X.mg x = some (.ref C)) (hb : Binds X.K fd ps ds) (hd : Vals dvs ds) (hx : Passes CX X E)
    (ha : PA X (e :: es) t) (hdb : (x == ("__debug__" : Str)) = false := by decide) (he : starEach (e :: es) X.env = (false, eval e X.env) :: starEach es X.env := by rfl) (hpl : (backTo pos (starEach es X.env)).any (·.1) = false := by rfl) :
    PE X (.Call (.Name x p) (e :: es) [] pos) (tMake C sp dvs E t) := by
  intro pins s σ H Q I h
  refine wpAny_Call_Name_kw (ld_glob I hg hm ?_ hdb)
  refine PySem.W.callWith_K (h₀ := X.base) I.ok.mod.kin M.kp (thn (ha pos pins s σ H _ I h) fun us s1 ⟨vs, H1, I1, r, q⟩ => ⟨I1.kIn, ?_⟩) he hpl
  exact run_make M F hr hb hd hx I1 r q
end

/-! ### keywords -/
section
variable {X : Cx} {CX : CXT} {k : Nat} {f C : Addr} {fd : FuncData} {ps ks : List Str} {sp : Sp} {E : XK} {x m : Str} {p pos apos kpos : Pos} {e o : Expr} {es : List Expr} {kws : List Keyword} {te ta : TE} {t tk : TA} {nm : Option Str}
variable {g : List Value → List Value → List Value} {gV : List V → List V → List V}
end

/-! ### a def's body keeps its promise -/
/-- names: the parameters first -/
structure FnScope (N P : List Str) (sc : Scope) : Prop where
  kind : sc.kind = .function
  co : sc.isCoroutine = false
  gen : sc.isGenerator = false
  nd : N.Nodup
  pre : N.take P.length = P
  par : ∀ x ∈ P, sc.names.lookup x = some .local ∨ sc.names.lookup x = some .cell
  nofree : ∀ y ∈ sc.names, y.2 ≠ .free

theorem bindL_out {kindOf : Str → Option NameKind} {x : Str} : ∀ {binds : List (Str × Value)} {m : Str → Option Value}, (∀ v, (x, v) ∉ binds) → bindL kindOf binds m x = m x
  | [], _, _ => rfl
  | (n, v) :: r, m, h => by
    unfold bindL
    rw [bindL_out fun w hw => h w (List.mem_cons_of_mem _ hw)]
    split
    · have : x ≠ n := by rintro rfl; exact h v List.mem_cons_self
      simp [this]
    · rfl
theorem bindC_out {kindOf : Str → Option NameKind} {x : Str} : ∀ {binds : List (Str × Value)} {m : Str → Option Value}, (∀ v, (x, v) ∉ binds) → bindC kindOf binds m x = m x
  | [], _, _ => rfl
  | (n, v) :: r, m, h => by
    unfold bindC
    rw [bindC_out fun w hw => h w (List.mem_cons_of_mem _ hw)]
    split
    · rfl
    · have : x ≠ n := by rintro rfl; exact h v List.mem_cons_self
      simp [this]
theorem bindL_get {kindOf : Str → Option NameKind} {x : Str} {v : Value} : ∀ {P : List Str} {vs : List Value} {i : Nat} {m : Str → Option Value}, P.Nodup → P[i]? = some x → vs[i]? = some v → kindOf x = some .local →
    bindL kindOf (P.zip vs) m x = some v
  | [], _, _, _, _, h, _, _ => by simp at h
  | _ :: _, [], _, _, _, _, h, _ => by simp at h
  | p :: P, w :: vs, 0, m, nd, h1, h2, hk => by
    simp at h1 h2; subst h1; subst h2
    show bindL kindOf ((p, w) :: P.zip vs) m p = _
    unfold bindL
    rw [bindL_out fun v hv => (List.nodup_cons.mp nd).1 (List.of_mem_zip hv).1, if_pos hk]
    simp
  | p :: P, w :: vs, i + 1, m, nd, h1, h2, hk => by
    show bindL kindOf ((p, w) :: P.zip vs) m x = _
    unfold bindL
    exact bindL_get (i := i) (List.nodup_cons.mp nd).2 (by simpa using h1) (by simpa using h2) hk
theorem bindC_get {kindOf : Str → Option NameKind} {x : Str} {v : Value} : ∀ {P : List Str} {vs : List Value} {i : Nat} {m : Str → Option Value}, P.Nodup → P[i]? = some x → vs[i]? = some v → kindOf x ≠ some .local →
    bindC kindOf (P.zip vs) m x = some v
  | [], _, _, _, _, h, _, _ => by simp at h
  | _ :: _, [], _, _, _, _, h, _ => by simp at h
  | p :: P, w :: vs, 0, m, nd, h1, h2, hk => by
    simp at h1 h2; subst h1; subst h2
    show bindC kindOf ((p, w) :: P.zip vs) m p = _
    unfold bindC
    rw [bindC_out fun v hv => (List.nodup_cons.mp nd).1 (List.of_mem_zip hv).1, if_neg hk]
    simp
  | p :: P, w :: vs, i + 1, m, nd, h1, h2, hk => by
    show bindC kindOf ((p, w) :: P.zip vs) m x = _
    unfold bindC
    exact bindC_get (i := i) (List.nodup_cons.mp nd).2 (by simpa using h1) (by simpa using h2) hk

/-- the names' values at the entry -/
def start (N : List Str) (vs : List V) : St := vs.map some ++ List.replicate (N.length - vs.length) none

/-- the context of a def's body, at its entry; an exception leaves the frame, then lies as CX says -/
def cxOf (CX : CXT) (P : Program) (w : World) (K : PySem.W.Frag) (mg : Str → Option Value) (base : Heap) (N : List Str) (qual : Str) (scope : Scope) (f : Addr) (cd : Value) (A : Around) (outer : List Env) (s : Shared) (H : Hp) (E : XK) : Cx where
  prog := P
  w := w
  K := K
  mg := mg
  base := base
  A := A.deeper (envOfC qual scope s.heap.objs.size f cd)
  N := N
  s₀ := s
  H₀ := H
  env := envOfC qual scope s.heap.objs.size f cd
  outer := outer
  stack := envOfC qual scope s.heap.objs.size f cd :: outer
  ex := []
  calm := true
  fn := fun _ => true
  pn := []
  xe := fun e s' => wpAny (model P w) (A.deeper (envOfC qual scope s.heap.objs.size f cd)) (leaving (envOfC qual scope s.heap.objs.size f cd) e) (fun _ s'' => CX outer H s E e s'') (fun e' s'' => CX outer H s E e' s'') s'

theorem cell_has {sc : Scope} {n : Nat} {x : Str} (h : sc.names.lookup x = some .cell) : ∃ c, (cellsFrom n sc.names []).lookup x = some c := by
  have q := PySem.W.cellsFrom_some sc.names n [] (.inl h)
  exact Option.isSome_iff_exists.mp q

theorem inv_start {CX : CXT} {P : Program} {w : World} {K : PySem.W.Frag} {mg : Str → Option Value} {base : Heap} {N ps : List Str} {qual : Str} {scope : Scope} {f : Addr} {cd : Value} {A : Around} {outer : List Env} {s s1 : Shared} {H : Hp} {E : XK} {us : List Value} {vs : List V}
    (S : FnScope N ps scope) (hd : A.handled = none) (e0 : Env0 P w K mg base A outer s H) (hl : vs.length = ps.length) (r : Vals vs us)
    (x : InCallC s s.heap.objs.size (bindL (envOfC qual scope s.heap.objs.size f cd).kindOf (ps.zip us) fun _ => none) (cellsFrom (s.heap.objs.size + 1) scope.names []) (bindC (envOfC qual scope s.heap.objs.size f cd).kindOf (ps.zip us) fun _ => none) s1) :
    Inv (cxOf CX P w K mg base N qual scope f cd A outer s H E) [] (start N vs) H s1 := by
  have hpl : ps.length ≤ N.length := by have := congrArg List.length S.pre; rw [List.length_take] at this; omega
  obtain ⟨h1, tk, rfl, hk⟩ := x.done
  have noA : ∀ b : Addr, b ∉ (cxOf CX P w K mg base N qual scope f cd A outer s H E).ex := fun b z => absurd (show b ∈ ([] : List Addr) from z) (by simp)
  refine ⟨⟨e0.mod, S.kind, rfl, rfl, Nat.le_refl _, fun y z c h1 h2 => ?_, fun y hy => ?_, fun y c _ h => ?_, fun _ => hd, Around.frames_deeper e0.frames, .inr ⟨rfl, rfl⟩, fun b z => absurd z (noA b), e0.bs, e0.bsz, fun b _ _ => noA b, fun b z => absurd z (noA b), e0.funs, e0.frf⟩,
    rfl, e0.bare, Un.kept hk, ⟨_, x.toInCall.ns, fun i y v h1 h2 h3 => ?_⟩, fun y c h => ⟨_, x.cell y c h⟩, e0.hok.fresh (Nat.le_refl _), fun y c h => ?_, fun p hp => absurd (show p ∈ ([] : List (Addr × Obj)) from hp) (by simp), e0.hok.kept hk, ?_⟩
  · exact name_of_addr x.apart (PySem.mem_of_lookup h1) (PySem.mem_of_lookup h2)
  · have hy : scope.names.lookup y = some .cell ∨ scope.names.lookup y = some .free := hy
    rcases hy with hy | hy
    · exact cell_has hy
    · exact absurd rfl (S.nofree _ (PySem.mem_of_lookup hy))
  · exact Nat.le_of_lt (x.above y c (PySem.mem_of_lookup h))
  · have hi : i < vs.length := by
      unfold start at h2
      by_cases hi : i < vs.length
      · exact hi
      · rw [List.getElem?_append_right (by simpa using hi)] at h2
        rw [List.getElem?_replicate] at h2
        split at h2 <;> cases h2
    have ha : vs[i]? = some v := by
      unfold start at h2
      rw [List.getElem?_append_left (by simpa using hi), List.getElem?_map] at h2
      cases e : vs[i]? with
      | none => rw [e] at h2; cases h2
      | some a => rw [e] at h2; cases h2; rfl
    obtain ⟨u, hu, rv⟩ := r.get ha
    have hp : ps[i]? = some y := by
      rw [← S.pre, List.getElem?_take_of_lt (by omega)]; exact h1
    have ndP : ps.Nodup := by rw [← S.pre]; exact S.nd.sublist (List.take_sublist _ _)
    refine ⟨u, rv, ?_⟩
    rcases S.par y (List.mem_of_getElem? hp) with k | k
    · exact .inl ⟨k, bindL_get ndP hp hu k⟩
    · obtain ⟨c, e⟩ := cell_has (n := s.heap.objs.size + 1) k
      refine .inr ⟨.inl k, c, e, ?_⟩
      have q := x.cell y c e
      rw [bindC_get ndP hp hu (by show scope.names.lookup y ≠ _; rw [k]; decide)] at q
      exact q
  · exact e0.hok.fresh (Nat.le_of_lt (x.above y c (PySem.mem_of_lookup h)))
  · unfold start
    show _ = N.length
    rw [List.length_append, List.length_map, List.length_replicate]
    omega

/-- THE RULE: a def (or a method) of the text, by its body. The body's reading t is chosen for each entry; it is run at the parameters' values -/
theorem fn_of {CX : CXT} {P : Program} {w : World} {K : PySem.W.Frag} {mg : Str → Option Value} {base : Heap} {k : Nat} {f : Addr} {name qual : Str} {params : Arguments} {body : List Stmt} {scope : Scope} {dV kV doc pm cdv ct oc : Value} {an od : Option Addr}
    {osl : Array (Option Value)} {N ps : List Str} {sp : Sp} (lk : K.lookup f = some ⟨oc, od, .func (PySem.W.fnOf name qual params body scope dV kV doc pm an cdv ct), osl⟩) (hcd : PySem.W.codeIn K cdv qual = true) (S : FnScope N ps scope)
    (len : ∀ vs H Q E, sp vs H Q E → vs.length = ps.length)
    (hbody : ∀ (A : Around) (outer : List Env) (s : Shared) (H : Hp) (vs : List V) (Q : VK) (E : XK), Room k (A.deeper (envOfC qual scope s.heap.objs.size f cdv)) → sp vs H Q E →
      ∃ t, PSs (cxOf CX P w K mg base N qual scope f cdv A outer s H E) body t ∧ t { nx := fun _ H' => Q .non H', rt := Q } (start N vs) H) :
    FnOk P w K mg base CX (k + 1) f (PySem.W.fnOf name qual params body scope dV kV doc pm an cdv ct) ps sp := by
  refine ⟨len, fun A outer s H args us vs Q E hr e0 hb r hsp => ?_⟩
  have hl := len _ _ _ _ hsp
  have KX : K.In s.heap := e0.mod.kin.keeps fun b o e => (e0.bs b o e).1
  have lim : s.heap.NoLimit := e0.mod.nolimit.keeps fun b o e => (e0.bs b o e).1
  have hkind : ∀ y ∈ ps.zip us, scope.names.lookup y.1 = some .local ∨ (scope.names.lookup y.1 = some .cell ∧ ((cellsFrom (s.heap.objs.size + 1) scope.names []).lookup y.1).isSome = true) := fun ⟨n, v⟩ hy => by
    rcases S.par n (List.of_mem_zip hy).1 with q | q
    · exact .inl q
    · exact .inr ⟨q, PySem.W.cellsFrom_some _ _ _ (.inl q)⟩
  refine codeAny_call_function hr.depth (KX _ _ lk) rfl S.co S.gen rfl (PySem.W.codeRec_of KX hcd) (hb _ _ _ _ ?_)
  refine wpAny_newFunctionEnv_cells S.kind hkind fun env he s1 x => ?_
  subst he
  refine ⟨lim.keeps x.toInCall.keep, codeAny_func ?_⟩
  obtain ⟨t, ht, hq⟩ := hbody A outer s H vs Q E (hr.deeper _) hsp
  have I : Inv (cxOf CX P w K mg base N qual scope f cdv A outer s H E) [] (start N vs) H s1 := inv_start S hr.hd e0 hl r x
  refine wpAny_mono (ht [] s1 (start N vs) H _ I hq) (fun fl s' hs => ?_) fun e s' hs => hs
  have fin : ∀ {σ' : St} {H' : Hp} {v : V} {u : Value}, Inv (cxOf CX P w K mg base N qual scope f cdv A outer s H E) [] σ' H' s' → RelV v u → Q v H' → CE outer P w H s Q u s' :=
    fun {σ' H' v u} J rv q => ⟨v, H', J.os, J.bare, J.base, J.hok, rv, q⟩
  cases fl with
  | ret u =>
    obtain ⟨v, σ', H', J, rv, q⟩ := hs
    exact fin J rv q
  | next =>
    obtain ⟨σ', H', J, q⟩ := hs
    exact fin (v := V.non) (u := Value.none) J rfl q
  | brk =>
    obtain ⟨_, _, _, q⟩ := hs
    exact False.elim q
  | cont =>
    obtain ⟨_, _, _, q⟩ := hs
    exact False.elim q
end L2

namespace L2
open PySem PySem.Spec PyProof.Rows
section
variable {X : Cx} {x : Str} {p pos : Pos} {e : Expr} {es : List Expr} {t : TA} {id T : String} {r : List V → Hp → VK → Prop}

def tCB (r : List V → Hp → VK → Prop) (t : TA) : TE := fun σ H Q => t σ H fun vs H1 => r vs H1 Q
/-- f(e, ..), f a built-in function -/
theorem pe_callB (hc : CallR X (.builtin id) r) (hg : Gl X x) (hm : X.mg x = none) (hv : bootBuiltins x = some (.builtin id)) (ha : PA X (e :: es) t) (hn : x ≠ "__name__" := by decide) (hdb : (x == ("__debug__" : Str)) = false := by decide)
    (he : starEach (e :: es) X.env = (false, eval e X.env) :: starEach es X.env := by rfl) (hpl : (backTo pos (starEach es X.env)).any (·.1) = false := by rfl) : PE X (.Call (.Name x p) (e :: es) [] pos) (tCB r t) := by
  intro pins s σ H Q I h
  refine wpAny_Call_Name_kw (ld_blt I hg hm hv ?_ hn hdb)
  exact PyProof.Rows.callWith_builtin1 (thn (ha pos pins s σ H _ I h) fun us s1 ⟨vs, H1, I1, r1, q1⟩ => hc pins s1 σ H1 vs us Q I1 r1 q1) he hpl
/-- T(e, ..), T a built-in type -/
theorem pe_callTy (hc : CallR X (.type T) r) (hg : Gl X x) (hm : X.mg x = none) (hv : bootBuiltins x = some (.type T)) (ha : PA X (e :: es) t) (hn : x ≠ "__name__" := by decide) (hdb : (x == ("__debug__" : Str)) = false := by decide)
    (he : starEach (e :: es) X.env = (false, eval e X.env) :: starEach es X.env := by rfl) (hpl : (backTo pos (starEach es X.env)).any (·.1) = false := by rfl) : PE X (.Call (.Name x p) (e :: es) [] pos) (tCB r t) := by
  intro pins s σ H Q I h
  refine wpAny_Call_Name_kw (ld_blt I hg hm hv ?_ hn hdb)
  exact PyProof.Rows.callWith_type1 (thn (ha pos pins s σ H _ I h) fun us s1 ⟨vs, H1, I1, r1, q1⟩ => hc pins s1 σ H1 vs us Q I1 r1 q1) he hpl
end
end L2

namespace HT
open PySem PyProof.Rows

section
open PySem.SeqAt
open PySem.AutoSeq1 (wpAny_loadPart')
open PySem.MeetsSeq PySem.MeetsSeq2 PySem.MeetsSeq3

end

section
variable {prog : Program} {w : World} {A : Around} {E : Value → Shared → Prop} {s : Shared}

/-! ### t[a:b], not the whole -/
/-- a slice's bound as a place among n (d where it is left out) -/
def sIx (n d : Nat) : Option Int → Nat
  | none => d
  | some v => if v < 0 then (v + (n : Int)).toNat else min v.toNat n
theorem sIx_none (n d : Nat) : sIx n d none = d := rfl
theorem sIx_nat (n d k : Nat) : sIx n d (some (k : Int)) = min k n := by
  show (if (k : Int) < 0 then ((k : Int) + (n : Int)).toNat else min (k : Int).toNat n) = min k n
  rw [if_neg (by omega), Int.toNat_natCast]
end
end HT

namespace L2
open PySem PySem.Spec PyProof.Rows

/-! ### the parts of a slice -/
abbrev TO := St → Hp → (Option Int → Hp → Prop) → Prop
/-- a slice's part (left out, or an int) -/
def PO (X : Cx) (e : Option Expr) (t : TO) : Prop :=
  ∀ (pins : List (Addr × Obj)) (s : Shared) (σ : St) (H : Hp) (Q : Option Int → Hp → Prop), Inv X pins σ H s → t σ H Q →
    wpAny (model X.prog X.w) X.A (evalPart e X.env) (fun u s' => ∃ o H', Inv X pins σ H' s' ∧ IsPart u o ∧ Q o H') X.xe s
def tNoPart : TO := fun _ H Q => Q none H
def tPart (t : TE) : TO := fun σ H Q => t σ H fun x H1 => ∃ i, x = .int i ∧ Q (some i) H1

theorem intsAre_of {ns : List Int} : ∀ {us : List Value}, Vals (ns.map V.int) us → IntsAre us ns := by
  induction ns with
  | nil => intro us r; rw [List.map_nil] at r; cases r; exact .nil
  | cons n ns ih =>
    intro us r
    rw [List.map_cons] at r
    cases r with
    | cons r1 r2 =>
      obtain ⟨t, e⟩ := r1
      subst e
      exact .cons n t (ih r2)

section
variable {X : Cx} {e : Expr} {te : TE} {lo hi : Option Expr} {tl th : TO} {pos p2 : Pos}

theorem po_none : PO X none tNoPart := by
  intro pins s σ H Q I h
  rw [evalPart_none]
  exact wpAny_pure ⟨none, H, I, .none, h⟩
theorem po_some (h : PE X e te) : PO X (some e) (tPart te) := by
  intro pins s σ H Q I hw
  rw [evalPart_some]
  refine thn (h pins s σ H _ I hw) fun u s1 ⟨x, H1, I1, r1, q1⟩ => ?_
  obtain ⟨i, rfl, q⟩ := q1
  obtain ⟨t, rfl⟩ := r1
  exact ⟨some i, H1, I1, .int i t, q⟩

/-- what a slice of a value is, by values: the slice object stands at sl -/
def SlR (X : Cx) (r : V → Option Int → Option Int → Hp → VK → Prop) : Prop :=
  ∀ (pins : List (Addr × Obj)) (s : Shared) (σ : St) (H : Hp) (x : V) (v vl vu : Value) (lo hi : Option Int) (sl : Addr) (Q : VK), Inv X pins σ H s → RelV x v → s.heap.IsSliceOf sl vl vu .none → IsPart vl lo → IsPart vu hi → r x lo hi H Q →
    ∃ T id, typeLookup (.type T) "__getitem__" = pure (some (.builtin id)) ∧ s.TypeIs v T ∧ wpAny (model X.prog X.w) X.A (getItem v (.ref sl)) (EP X pins σ Q) X.xe s
def tSl (r : V → Option Int → Option Int → Hp → VK → Prop) (te : TE) (tl th : TO) : TE := fun σ H Q => te σ H fun x H1 => tl σ H1 fun l H2 => th σ H2 fun u H3 => r x l u H3 Q
/-- a[lo:hi], any a -/
theorem pe_slice {r : V → Option Int → Option Int → Hp → VK → Prop} (hr : SlR X r) (he : PE X e te) (hl : PO X lo tl) (hu : PO X hi th) : PE X (.Subscript e (.Slice lo hi none p2) pos) (tSl r te tl th) := by
  intro pins s σ H Q I h
  refine Subscript_ (thn (he pins s σ H _ I h) fun v s1 ⟨x, H1, I1, r1, q1⟩ => ?_)
  refine wpAny_Slice (thn (hl pins s1 σ H1 _ I1 q1) fun vl s2 ⟨l, H2, I2, pl, q2⟩ => thn (hu pins s2 σ H2 _ I2 q2) fun vu s3 ⟨u, H3, I3, pu, q3⟩ => ?_)
  rw [evalPart_none]
  refine wpAny_pure ?_
  have I4 : Inv X pins σ H3 { s3 with heap := s3.heap.push { cls := .type "slice", data := .fields #[vl, vu, .none] } } := I3.kept (t' := s3.toks) fun b ob q => Heap.get?_push_of_some _ q
  obtain ⟨T, id, hT, ht, hg⟩ := hr pins { s3 with heap := s3.heap.push { cls := .type "slice", data := .fields #[vl, vu, .none] } } σ H3 x v vl vu l u s3.heap.objs.size Q I4 r1 (Heap.IsSliceOf.new ..) pl pu q3
  show wpAny (model X.prog X.w) X.A (subscriptTail e (.Slice lo hi none p2) v (.ref s3.heap.objs.size)) (EP X pins σ Q) X.xe { s3 with heap := s3.heap.push { cls := .type "slice", data := .fields #[vl, vu, .none] } }
  exact tail_any (ops := [.ref s3.heap.objs.size, v]) ht hT hg (by with_unfolding_all rfl)

/-- the items of xs[lo:hi] -/
def cutV (xs : List V) (lo hi : Option Int) : List V := (xs.drop (HT.sIx xs.length 0 lo)).take (HT.sIx xs.length xs.length hi - HT.sIx xs.length 0 lo)
theorem cutV_length (xs : List V) (lo hi : Option Int) : (cutV xs lo hi).length ≤ xs.length := by
  unfold cutV
  rw [List.length_take, List.length_drop]
  omega
/-! ### t < u, t + u -/
end
end L2

namespace L2
open PySem PySem.Spec PyProof.Rows

/-! ### places -/
/-- the place that an index of any sign means -/
def ixN (n : Nat) (i : Int) : Option Nat := if 0 ≤ i then (if i < n then some i.toNat else none) else if -(n : Int) ≤ i then some (i + n).toNat else none
def atI {α : Type} (xs : List α) (i : Int) : Option α := (ixN xs.length i).bind fun j => xs[j]?
theorem ixN_seq {n : Nat} {i : Int} {j : Nat} (h : ixN n i = some j) : seqIndex? i n = some j ∧ j < n ∧ -(n : Int) ≤ i ∧ i < n := by
  unfold ixN at h
  by_cases h0 : 0 ≤ i
  · rw [if_pos h0] at h
    by_cases h1 : i < n
    · rw [if_pos h1] at h
      have e : i.toNat = j := Option.some.inj h
      exact ⟨by rw [seqIndex_of h0 h1, e], by omega, by omega, h1⟩
    · rw [if_neg h1] at h; cases h
  · rw [if_neg h0] at h
    by_cases h1 : -(n : Int) ≤ i
    · rw [if_pos h1] at h
      have e : (i + n).toNat = j := Option.some.inj h
      exact ⟨by rw [seqIndex_neg (by omega) h1, e], by omega, h1, by omega⟩
    · rw [if_neg h1] at h; cases h
theorem atI_get {α : Type} {xs : List α} {i : Int} {v : α} (h : atI xs i = some v) : ∃ j, seqIndex? i xs.length = some j ∧ xs[j]? = some v ∧ j < xs.length ∧ -(xs.length : Int) ≤ i ∧ i < xs.length := by
  unfold atI at h
  cases e : ixN xs.length i with
  | none => rw [e] at h; cases h
  | some j =>
    rw [e] at h
    obtain ⟨h1, h2, h3, h4⟩ := ixN_seq e
    exact ⟨j, h1, h, h2, h3, h4⟩
theorem atI_nat {α : Type} {xs : List α} {j : Nat} {v : α} (h : xs[j]? = some v) : atI xs (j : Int) = some v := by
  have hj : j < xs.length := (List.getElem?_eq_some_iff.mp h).1
  have e : ixN xs.length (j : Int) = some j := by
    unfold ixN
    rw [if_pos (by omega), if_pos (by omega)]; simp
  unfold atI; rw [e]; exact h
/-! ### what may be subscripted -/
/-- what stands as an index of a plain subscript -/
def PlainIx (b : Expr) : Prop := ∀ o i, subscripted b false o i = operate [o, i] (getItem o i)
/-- a subscript by values -/
def IxR (X : Cx) (r : R2) : Prop :=
  ∀ (value slice : Expr) (pins : List (Addr × Obj)) (s : Shared) (σ : St) (H : Hp) (x y : V) (v u : Value) (Q : VK), Inv X pins σ H s → RelV x v → RelV y u → r x y H Q →
    subscripted slice false v u = operate [v, u] (getItem v u) → wpAny (model X.prog X.w) X.A (subscriptTail value slice v u) (EP X pins σ Q) X.xe s
/-- a call of a builtin's method by values: the receiver, the arguments -/
def MtR (X : Cx) (id : String) (r : V → List V → Hp → VK → Prop) : Prop :=
  ∀ (pins : List (Addr × Obj)) (s : Shared) (σ : St) (H : Hp) (x : V) (xs : List V) (v : Value) (us : List Value) (Q : VK), Inv X pins σ H s → RelV x v → Vals xs us → r x xs H Q →
    wpAny (model X.prog X.w) X.A (call (.builtin id) (v :: us)) (EP X pins σ Q) X.xe s
section
variable {X : Cx} {a b : Expr} {ta tb : TE} {pos : Pos}
/-- a[b] -/
theorem pe_ix {r : R2} (hr : IxR X r) (ha : PE X a ta) (hb : PE X b tb) (hs : PlainIx b) : PE X (.Subscript a b pos) (tOp r ta tb) := by
  intro pins s σ H Q I h
  exact Subscript_ (binT ha hb I h fun v u s2 x y H2 I2 rx ry q => hr a b pins s2 σ H2 x y v u Q I2 rx ry q (hs _ _))

def rIxL (K : PySem.W.Frag) : R2 := fun x y H Q => ∃ p xs i v, x = .ref p ∧ y = .int i ∧ SqL K H p xs ∧ atI xs i = some v ∧ Q v H
def rIxT (K : PySem.W.Frag) : R2 := fun x y H Q => ∃ p xs i v, x = .ref p ∧ y = .int i ∧ SqT K H p xs ∧ atI xs i = some v ∧ Q v H
theorem ix_list : IxR X (rIxL X.K) := by
  intro value slice pins s σ H x y v u Q I rx ry h hs
  obtain ⟨p, xs, i, z, rfl, rfl, hq, he, q⟩ := h
  cases rx
  obtain ⟨t, rfl⟩ := ry
  obtain ⟨its, r, pl, hz⟩ := I.list hq
  obtain ⟨j, h1, h2, h3, h4, h5⟩ := atI_get he
  obtain ⟨w, ew, rw'⟩ := r.get h2
  have hl := r.length
  have hn := line63
  have fin : EP X pins σ Q w s := ⟨z, H, I, rw', q⟩
  by_cases h0 : 0 ≤ i
  · have hj : i.toNat = j := by
      rw [seqIndex_of h0 h5] at h1
      exact Option.some.inj h1
    exact item_listR pl.isList h0 (by omega) (by rw [hj]; simpa using ew) fin hs
  · have hj : (i + (its.toArray.size : Int)).toNat = j := by
      rw [seqIndex_neg (by omega) h4] at h1
      rw [List.size_toArray, ← hl]
      exact Option.some.inj h1
    exact subscriptTail_builtinR (x := w) pl.isList.typeIs slot_list_getitem.lookup
      (wpAny_getItem_list_neg (Q := fun r s' => r = w ∧ EP X pins σ Q r s') pl.isList (by omega) (by rw [List.size_toArray] <;> omega) (by omega) (by rw [hj]; simpa using ew) ⟨rfl, fin⟩) hs
theorem ix_tup : IxR X (rIxT X.K) := by
  intro value slice pins s σ H x y v u Q I rx ry h hs
  obtain ⟨p, xs, i, z, rfl, rfl, hq, he, q⟩ := h
  cases rx
  obtain ⟨t, rfl⟩ := ry
  obtain ⟨its, r, pl, hz⟩ := I.tuple hq
  obtain ⟨j, h1, h2, h3, h4, h5⟩ := atI_get he
  obtain ⟨w, ew, rw'⟩ := r.get h2
  have hl := r.length
  have hn := line63
  have fin : EP X pins σ Q w s := ⟨z, H, I, rw', q⟩
  exact subscriptTail_builtinR (x := w) pl.typeIs slot_tuple_getitem.lookup
    (getItem_tuple (j := j) (Q := fun r s' => r = w ∧ EP X pins σ Q r s') pl (by omega) (by omega) (by rw [List.size_toArray, ← hl]; exact h1) (by simpa using ew) ⟨rfl, fin⟩) hs
/-! ### xs[i] = v, any sign -/
/-- the list's object behind a store -/
theorem mapSeq_set (its : List Value) (n j : Nat) (u : Value) : Obj.mapSeq (·.setIfInBounds j u) { cls := .type "list", data := .seq its.toArray n } = { cls := .type "list", data := .seq (its.set j u).toArray n } := by
  simp [Obj.mapSeq]
theorem Inv.lst {pins : List (Addr × Obj)} {σ : St} {H : Hp} {s : Shared} {p : Addr} {xs : List V} (I : Inv X pins σ H s) (h : H p = some (.lst xs)) :
    ∃ (its : List Value) (n : Nat), Vals xs its ∧ s.heap.get? p = some { cls := .type "list", data := .seq its.toArray n } ∧ xs.length ≤ sizeLine := by
  obtain ⟨z, its, n, r, e⟩ := I.hok p _ h
  exact ⟨its, n, r, e, z⟩
/-- the list at p is written by an update of its object -/
theorem Inv.lstUpd {pins : List (Addr × Obj)} {σ : St} {H : Hp} {s : Shared} {p : Addr} {xs ys : List V} {its its' : List Value} {n n' : Nat} {f : Obj → Obj} (I : Inv X pins σ H s) (h : H p = some (.lst xs))
    (ho : s.heap.get? p = some { cls := .type "list", data := .seq its.toArray n }) (hf : f { cls := .type "list", data := .seq its.toArray n } = { cls := .type "list", data := .seq its'.toArray n' }) (r : Vals ys its') (hz : ys.length ≤ sizeLine) (t : Nat) :
    Inv X pins σ (upd H p (.lst ys)) { s with heap := s.heap.update p f, toks := t } := by
  have e : (s.heap.update p f).get? p = some { cls := .type "list", data := .seq its'.toArray n' } := by
    rw [Heap.get?_update_self f ho (by rw [hf] <;> rfl), hf]
  refine I.write (x := p) (e := p) (by rw [h]; trivial) (.inl rfl) (fun b u hb q => (Heap.get?_update_other _ _ (Ne.symm hb)).trans q) ⟨_, e⟩ ?_
  exact ⟨hz, its', n', r, e⟩
def rSetL : V → V → V → Hp → (Hp → Prop) → Prop := fun o i v H Q => ∃ p xs k j, o = .ref p ∧ i = .int k ∧ H p = some (.lst xs) ∧ ixN xs.length k = some j ∧ Q (upd H p (.lst (xs.set j v)))
theorem set_list : PSet X rSetL := by
  intro pins s σ H o i v ov iv u Q I ro ri rv h
  obtain ⟨p, xs, k, j, rfl, rfl, hp, hj, q⟩ := h
  cases ro
  obtain ⟨t, rfl⟩ := ri
  obtain ⟨its, n, r, ho, hz⟩ := I.lst hp
  obtain ⟨h1, h2, h3, h4⟩ := ixN_seq hj
  have hl := r.length
  have hn := line63
  have I' : Inv X pins σ (upd H p (.lst (xs.set j v))) { s with heap := s.heap.update p (Obj.mapSeq (·.setIfInBounds j u)) } :=
    I.lstUpd hp ho (mapSeq_set its n j u) (r.set rv j) (by rw [List.length_set]; exact hz) s.toks
  by_cases h0 : 0 ≤ k
  · have hk : k.toNat = j := by
      rw [seqIndex_of h0 h4] at h1
      exact Option.some.inj h1
    exact PySem.W.ki_setAt ho h0 (by omega) (by rw [List.size_toArray, ← hl]; exact h4) (by rw [hk]; exact ⟨_, I', q⟩)
  · have hk : (k + (its.toArray.size : Int)).toNat = j := by
      rw [seqIndex_neg (by omega) h3] at h1
      rw [List.size_toArray, ← hl]
      exact Option.some.inj h1
    exact PySem.W.ki_setBack ho (by omega) (by rw [List.size_toArray, ← hl]; exact h3) (by omega) (by rw [hk]; exact ⟨_, I', q⟩)

/-! ### slices -/
theorem slice_bounds (lo hi : Option Int) (n : Nat) : (sliceBounds lo hi none n).1 = ((HT.sIx n 0 lo : Nat) : Int) ∧ (sliceBounds lo hi none n).2.1 = ((HT.sIx n n hi : Nat) : Int) ∧ (sliceBounds lo hi none n).2.2 = 1 := by
  refine ⟨?_, ?_, rfl⟩
  · cases lo with
    | none => simp [sliceBounds, HT.sIx]
    | some i =>
      simp only [sliceBounds, HT.sIx, Option.getD_none, show (1 : Int) > 0 by decide, if_true]
      by_cases h : i < 0
      · simp only [h, if_true] <;> omega
      · simp only [h, if_false] <;> omega
  · cases hi with
    | none => simp [sliceBounds, HT.sIx]
    | some i =>
      simp only [sliceBounds, HT.sIx, Option.getD_none, show (1 : Int) > 0 by decide, if_true]
      by_cases h : i < 0
      · simp only [h, if_true] <;> omega
      · simp only [h, if_false] <;> omega
theorem slicePick_cut (its : List Value) (lo hi : Option Int) : slicePick its.toArray lo hi none = ((its.drop (HT.sIx its.length 0 lo)).take (HT.sIx its.length its.length hi - HT.sIx its.length 0 lo)).toArray := by
  obtain ⟨h1, h2, h3⟩ := slice_bounds lo hi its.toArray.size
  unfold slicePick
  rw [h1, h2, h3]
  simp only [sliceRange_one, pick_run, List.size_toArray] <;> rfl
/-- xs[lo:hi] of a list: a new list -/
def rSlL (K : PySem.W.Frag) : V → Option Int → Option Int → Hp → VK → Prop := fun x lo hi H Q => ∃ a xs, x = .ref a ∧ SqL K H a xs ∧ ∀ p, H p = none → Q (.ref p) (upd H p (.lst (cutV xs lo hi)))
theorem sl_list : SlR X (rSlL X.K) := by
  intro pins s σ H x v vl vu lo hi sl Q I rx hs pl pu h
  obtain ⟨a, xs, rfl, hx, q⟩ := h
  cases rx
  obtain ⟨its, r, ht, hz⟩ := I.list hx
  have hlen := r.length
  refine ⟨"list", _, slot_list_getitem.lookup, ht.isList.typeIs, ?_⟩
  refine wpAny_getItem_list_slice ht.isList hs pl pu .none (by simp) ?_ (by rw [List.size_toArray] <;> omega)
  rw [slicePick_cut, ← hlen]
  refine ⟨.ref s.heap.objs.size, _, I.laid (t' := s.toks) (o := .lst (cutV xs lo hi)) (fun b ob q => Heap.get?_push_of_some _ q) (Nat.le_refl _) ?_, rfl, q _ (I.hok.fresh (Nat.le_refl _))⟩
  exact ⟨Nat.le_trans (cutV_length xs lo hi) hz, _, 0, (r.drop (HT.sIx xs.length 0 lo)).take (HT.sIx xs.length xs.length hi - HT.sIx xs.length 0 lo), Heap.get?_push_size _ rfl⟩

/-! ### in, not in: flat items -/
def flatV : V → Bool
  | .non => true
  | .bl _ => true
  | .int _ => true
  | .str _ => true
  | _ => false
/-- == of flat values -/
def eqV : V → V → Bool
  | .non, .non => true
  | .bl a, .bl b => a == b
  | .bl a, .int b => (if a then 1 else 0) == b
  | .int a, .bl b => a == (if b then 1 else 0)
  | .int a, .int b => a == b
  | .str a, .str b => a == b
  | _, _ => false
theorem eqAt_V {A : Around} {s : Shared} {y x : V} {u v : Value} (ry : RelV y u) (rx : RelV x v) (fy : flatV y = true) (fx : flatV x = true) : SeqAt.EqAt A s u v (eqV y x) := by
  cases y with
  | non =>
    cases ry
    cases x with
    | non => cases rx; exact SeqAt.EqAt.same _
    | bl b => cases rx; exact SeqAt.EqAt.none_bool b
    | int b => obtain ⟨t, rfl⟩ := rx; exact SeqAt.EqAt.none_int b t
    | str b => obtain ⟨t, rfl⟩ := rx; exact SeqAt.EqAt.none_str b t
    | _ => exact absurd (show false = true from fx) Bool.false_ne_true
  | bl a =>
    cases ry
    cases x with
    | non => cases rx; exact SeqAt.EqAt.bool_none a
    | bl b => cases rx; exact SeqAt.EqAt.bool_bool a b
    | int b => obtain ⟨t, rfl⟩ := rx; exact SeqAt.EqAt.bool_int a b t
    | str b => obtain ⟨t, rfl⟩ := rx; exact SeqAt.EqAt.bool_str a b t
    | _ => exact absurd (show false = true from fx) Bool.false_ne_true
  | int a =>
    obtain ⟨t', rfl⟩ := ry
    cases x with
    | non => cases rx; exact SeqAt.EqAt.int_none a t'
    | bl b => cases rx; exact SeqAt.EqAt.int_bool a t' b
    | int b => obtain ⟨t, rfl⟩ := rx; exact SeqAt.EqAt.int_int a t' b t
    | str b => obtain ⟨t, rfl⟩ := rx; exact SeqAt.EqAt.int_str a t' b t
    | _ => exact absurd (show false = true from fx) Bool.false_ne_true
  | str a =>
    obtain ⟨t', rfl⟩ := ry
    cases x with
    | non => cases rx; exact SeqAt.EqAt.str_none a t'
    | bl b => cases rx; exact SeqAt.EqAt.str_bool a t' b
    | int b => obtain ⟨t, rfl⟩ := rx; exact SeqAt.EqAt.str_int a t' b t
    | str b => obtain ⟨t, rfl⟩ := rx; exact SeqAt.EqAt.str_str a t' b t
    | _ => exact absurd (show false = true from fx) Bool.false_ne_true
  | _ => exact absurd (show false = true from fy) Bool.false_ne_true
/-- the items' answers, read off the values (a value's own answer does not lean on its token) -/
def eqU (x : V) (u : Value) : Bool := match u with
  | .none => eqV .non x
  | .bool b => eqV (.bl b) x
  | .int i _ => eqV (.int i) x
  | .str z _ => eqV (.str z) x
  | _ => false
theorem eqU_of {x y : V} {u : Value} (r : RelV y u) (f : flatV y = true) : eqU x u = eqV y x := by
  cases y with
  | non => cases r; rfl
  | bl b => cases r; rfl
  | int i => obtain ⟨t, rfl⟩ := r; rfl
  | str z => obtain ⟨t, rfl⟩ := r; rfl
  | _ => exact absurd (show false = true from f) Bool.false_ne_true
theorem any_eqU {x : V} : ∀ {xs : List V} {us : List Value}, Vals xs us → xs.all flatV = true → us.any (eqU x) = xs.any fun y => eqV y x
  | _, _, .nil, _ => rfl
  | y :: xs, u :: us, .cons r t, f => by
    rw [List.all_cons, Bool.and_eq_true] at f
    rw [List.any_cons, List.any_cons, eqU_of r f.1, any_eqU t f.2]
theorem mem_eqAt {A : Around} {s : Shared} {x : V} {v : Value} (rx : RelV x v) (fx : flatV x = true) : ∀ {xs : List V} {us : List Value}, Vals xs us → xs.all flatV = true → ∀ u ∈ us, SeqAt.EqAt A s u v (eqU x u)
  | _, _, .nil, _ => fun u hu => by cases hu
  | y :: xs, u :: us, .cons r t, f => fun u' hu => by
    rw [List.all_cons, Bool.and_eq_true] at f
    rcases List.mem_cons.mp hu with rfl | hu
    · rw [eqU_of r f.1]; exact eqAt_V r rx f.1 fx
    · exact mem_eqAt rx fx t f.2 u' hu
def inV (x : V) (xs : List V) : Bool := xs.any fun y => eqV y x
/-- x in a list or tuple of flat items -/
def rIn (K : PySem.W.Frag) (neg : Bool) : R2 := fun x y H Q => ∃ p xs, y = .ref p ∧ (SqL K H p xs ∨ SqT K H p xs) ∧ flatV x = true ∧ xs.all flatV = true ∧ Q (.bl (if neg then !inV x xs else inV x xs)) H
theorem op_in_seq : OpR X (compareOp .In) (rIn X.K false) := by
  intro pins s σ H x y v u Q I rx ry h
  obtain ⟨p, xs, rfl, hq, fx, fs, q⟩ := h
  cases ry
  rcases hq with hq | hq
  · obtain ⟨its, r, pl, hz⟩ := I.list hq
    refine SeqAt.in_listAt (eqU x) pl.isList (fun w hw => mem_eqAt rx fx r fs w (by simpa using hw)) ⟨.bl _, H, I, rfl, ?_⟩
    rw [show its.toArray.any (eqU x) = its.any (eqU x) by simp, any_eqU r fs]
    exact q
  · obtain ⟨its, r, pl, hz⟩ := I.tuple hq
    refine SeqAt.in_tupleAt (eqU x) pl (fun w hw => mem_eqAt rx fx r fs w (by simpa using hw)) ⟨.bl _, H, I, rfl, ?_⟩
    rw [show its.toArray.any (eqU x) = its.any (eqU x) by simp, any_eqU r fs]
    exact q
theorem op_notIn_seq : OpR X (compareOp .NotIn) (rIn X.K true) := by
  intro pins s σ H x y v u Q I rx ry h
  obtain ⟨p, xs, rfl, hq, fx, fs, q⟩ := h
  cases ry
  rcases hq with hq | hq
  · obtain ⟨its, r, pl, hz⟩ := I.list hq
    refine SeqAt.notIn_listAt (eqU x) pl.isList (fun w hw => mem_eqAt rx fx r fs w (by simpa using hw)) ⟨.bl _, H, I, rfl, ?_⟩
    rw [show its.toArray.any (eqU x) = its.any (eqU x) by simp, any_eqU r fs]
    exact q
  · obtain ⟨its, r, pl, hz⟩ := I.tuple hq
    refine SeqAt.notIn_tupleAt (eqU x) pl (fun w hw => mem_eqAt rx fx r fs w (by simpa using hw)) ⟨.bl _, H, I, rfl, ?_⟩
    rw [show its.toArray.any (eqU x) = its.any (eqU x) by simp, any_eqU r fs]
    exact q
/-! ### len, list(x), tuple(x) of any list or tuple that is read -/
theorem call_len_seq : CallR X (.builtin "len") (fun xs H Q => ∃ p ys, xs = [.ref p] ∧ (SqL X.K H p ys ∨ SqT X.K H p ys) ∧ Q (.int ys.length) H) := by
  intro pins s σ H xs us Q I r h
  obtain ⟨p, ys, rfl, hq, q⟩ := h
  obtain ⟨u, rfl, rx⟩ := vals1 r
  cases rx
  have hn := line63
  rcases hq with hq | hq
  · obtain ⟨its, r', pl, hz⟩ := I.list hq
    have hlen := r'.length
    exact Calls.call_len_list pl.isList (by simp only [List.size_toArray] <;> omega) ⟨.int ys.length, H, I.tok _, ⟨s.toks + 1, by rw [List.size_toArray, hlen]⟩, q⟩
  · obtain ⟨its, r', pl, hz⟩ := I.tuple hq
    have hlen := r'.length
    exact len_tuple pl (by simp only [List.size_toArray] <;> omega) ⟨.int ys.length, H, I.tok _, ⟨s.toks + 1, by rw [List.size_toArray, hlen]⟩, q⟩
theorem call_list_of : CallR X (.type "list") (fun xs H Q => ∃ p ys, xs = [.ref p] ∧ (SqL X.K H p ys ∨ SqT X.K H p ys) ∧ ∀ l, H l = none → Q (.ref l) (upd H l (.lst ys))) := by
  intro pins s σ H xs us Q I r h
  obtain ⟨p, ys, rfl, hq, q⟩ := h
  obtain ⟨u, rfl, rx⟩ := vals1 r
  cases rx
  have fin : ∀ (its : List Value), Vals ys its → ys.length ≤ sizeLine → ∀ (h' : Heap) (c' : Nat), (∀ b o', s.heap.get? b = some o' → h'.get? b = some o') →
      h'.get? s.heap.objs.size = some { cls := .type "list", dict := none, data := .seq its.toArray c', slots := #[] } → EP X pins σ Q (.ref s.heap.objs.size) { s with heap := h' } := fun its r' hz h' c' kp e =>
    ⟨.ref s.heap.objs.size, _, I.laid (t' := s.toks) kp (Nat.le_refl _) (show ObjOk X.prog X.w _ h' _ (.lst ys) from ⟨hz, its, c', r', e⟩), rfl, q _ (I.hok.fresh (Nat.le_refl _))⟩
  rcases hq with hq | hq
  · obtain ⟨its, r', pl, hz⟩ := I.list hq
    have hlen := r'.length
    obtain ⟨o, ho, hc, n, hd⟩ := pl.isList
    exact call_list_seq p (.inl rfl) ho hc hd (fun h' c' kp e => fin its r' hz h' c' kp e) (by simp only [List.size_toArray] <;> omega)
  · obtain ⟨its, r', pl, hz⟩ := I.tuple hq
    have hlen := r'.length
    obtain ⟨o, ho, hc, n, hd⟩ := pl
    exact call_list_seq p (.inr rfl) ho hc hd (fun h' c' kp e => fin its r' hz h' c' kp e) (by simp only [List.size_toArray] <;> omega)
theorem call_tuple_of : CallR X (.type "tuple") (fun xs H Q => ∃ p ys, xs = [.ref p] ∧ ((SqL X.K H p ys ∧ ∀ l, H l = none → Q (.ref l) (upd H l (.tup ys))) ∨ (SqT X.K H p ys ∧ Q (.ref p) H))) := by
  intro pins s σ H xs us Q I r h
  obtain ⟨p, ys, rfl, h⟩ := h
  obtain ⟨u, rfl, rx⟩ := vals1 r
  cases rx
  rcases h with ⟨hq, q⟩ | ⟨hq, q⟩
  · obtain ⟨its, r', pl, hz⟩ := I.list hq
    have hlen := r'.length
    refine call_tuple_list pl.isList (fun h' kp => ?_) (by simp only [List.size_toArray] <;> omega)
    have I1 : Inv X pins σ H { s with heap := h' } := I.kept (t' := s.toks) kp
    have I2 : Inv X pins σ (upd H h'.objs.size (.tup ys)) { s with heap := h'.push { cls := .type "tuple", data := .seq its.toArray } } :=
      I1.laid (t' := s.toks) (fun b o e => Heap.get?_push_of_some _ e) (Nat.le_refl _) (show ObjOk X.prog X.w _ _ _ (.tup ys) from ⟨hz, its, r', IsTup.new _ _⟩)
    exact ⟨.ref h'.objs.size, _, I2, rfl, q _ (I1.hok.fresh (Nat.le_refl _))⟩
  · obtain ⟨its, r', pl, hz⟩ := I.tuple hq
    exact call_tuple_same pl ⟨.ref p, H, I, rfl, q⟩

/-! ### the call of a builtin's method: o.m(..) -/
/-- the value is of that builtin type -/
def tyV (K : PySem.W.Frag) (T : String) (x : V) (H : Hp) : Prop := match x with
  | .str _ => T = "str"
  | .int _ => T = "int"
  | .ref p => (T = "list" ∧ ∃ xs, SqL K H p xs) ∨ (T = "tuple" ∧ ∃ o, K.lookup p = some o ∧ o.cls = .type "tuple" ∧ o.dict = none) ∨
      (T = "dict" ∧ ((∃ kvs, H p = some (.dK kvs)) ∨ ∃ kvs, H p = some (.dT kvs))) ∨ (T = "set" ∧ ∃ S n, H p = some (.set S n))
  | _ => False
theorem tyV_is {pins : List (Addr × Obj)} {σ : St} {H : Hp} {s : Shared} {T : String} {x : V} {v : Value} (I : Inv X pins σ H s) (r : RelV x v) (ty : tyV X.K T x H) :
    s.TypeIs v T ∧ ∀ a, v = .ref a → ∃ ob, s.heap.get? a = some ob ∧ ob.dict = none := by
  cases x with
  | str z =>
    obtain ⟨t, rfl⟩ := r
    cases (show T = "str" from ty)
    exact ⟨typeIs_str s z t, fun _ e => nomatch e⟩
  | int i =>
    obtain ⟨t, rfl⟩ := r
    cases (show T = "int" from ty)
    exact ⟨typeIs_int s i t, fun _ e => nomatch e⟩
  | ref p =>
    cases r
    rcases ty with ⟨rfl, xs, hq⟩ | ⟨rfl, o, hk, hc, hd⟩ | ⟨rfl, hk⟩ | ⟨rfl, S, n, hk⟩
    · obtain ⟨its, _, pl, _⟩ := I.list hq
      refine ⟨pl.isList.typeIs, fun a e => ?_⟩
      cases e
      obtain ⟨o, n, e, c, hd, _⟩ := pl
      exact ⟨o, e, hd⟩
    · refine ⟨⟨o, I.kIn p o hk, hc⟩, fun a e => ?_⟩
      cases e
      exact ⟨o, I.kIn _ o hk, hd⟩
    · have z : ∃ o, s.heap.get? p = some o ∧ o.ExactDict := by
        rcases hk with ⟨kvs, hk⟩ | ⟨kvs, hk⟩
        · obtain ⟨_, _, _, _, o, _, _, e, ex, _⟩ := I.hok p _ hk
          exact ⟨o, e, ex⟩
        · obtain ⟨_, _, _, _, o, _, _, e, ex, _⟩ := I.hok p _ hk
          exact ⟨o, e, ex⟩
      obtain ⟨o, e, ex⟩ := z
      refine ⟨⟨o, e, ex.1⟩, fun a e2 => ?_⟩
      cases e2
      exact ⟨o, e, ex.2.1⟩
    · obtain ⟨o, _, _, _, e, ex, _⟩ := I.hok p _ hk
      refine ⟨⟨o, e, ex.1⟩, fun a e2 => ?_⟩
      cases e2
      exact ⟨o, e, ex.2.1⟩
  | _ => exact False.elim ty
def tBM (K : PySem.W.Frag) (T : String) (r : V → List V → Hp → VK → Prop) (to : TE) (t : TA) : TE := fun σ H Q => to σ H fun x H1 => tyV K T x H1 ∧ t σ H1 fun xs H2 => r x xs H2 Q
variable {o e : Expr} {es : List Expr} {to : TE} {t : TA} {name : Str} {apos cpos : Pos} {T id : String} {r : V → List V → Hp → VK → Prop}
theorem pe_bm (pa : PlainAttrs T) (slot : Slot T name id) (hty : typeOf (.builtin id) = pure (.type "method_descriptor")) (hm : MtR X id r) (ho : PE X o to) (ha : PA X (e :: es) t)
    (hbase : attributeBase o name X.env (eval o X.env) = eval o X.env := by rfl)
    (hfew : ((backTo cpos (starEach (e :: es) X.env)).all (fun x => !x.1) && (backToKw cpos (keywordEach [] X.env)).all (fun x => x.1.isSome)
      && decide ((e :: es).length + ([] : List Keyword).length + (if ([] : List Keyword).isEmpty then 0 else 1) < 30)) = true := by rfl)
    (hline : (apos.endLine == cpos.line) = true := by rfl) (hs : starEach (e :: es) X.env = (false, eval e X.env) :: starEach es X.env := by rfl) (hplain : (backTo cpos (starEach es X.env)).any (·.1) = false := by rfl) :
    PE X (.Call (.Attribute o name apos) (e :: es) [] cpos) (tBM X.K T r to t) := by
  intro pins s σ H Q I h
  refine wpAny_Call_method_late hbase hfew hline rfl (thn (ho pins s σ H _ I h) fun v s1 ⟨x, H1, I1, r1, ty, q1⟩ => ?_)
  obtain ⟨h1, h2⟩ := tyV_is I1 r1 ty
  refine ⟨T, id, pa, slot, hty, h1, h2, ?_⟩
  have hA := ha cpos pins s1 σ H1 _ I1 q1
  rw [hs] at hA ⊢
  refine Calls.callWith_builtin (by show (false || (backTo cpos (starEach es X.env)).any (·.1)) = false; rw [hplain] <;> rfl) (Calls.evalArgs_plain ?_)
  exact thn hA fun us s2 ⟨vs, H2, I2, r2, q2⟩ => hm pins s2 σ H2 x vs v us Q I2 r1 r2 q2
/- xs.append(e), list.index on a module's tuple .. are MtR facts of 06m -/
end
end L2

namespace L2
open PySem PySem.Spec PyProof.Rows

def MtM (X : Cx) (id : String) (r : V → List V → Hp → VK → Prop) : Prop :=
  ∀ (pins : List (Addr × Obj)) (s : Shared) (σ : St) (H : Hp) (x : V) (xs : List V) (v : Value) (us : List Value) (Q : VK), Inv X pins σ H s → RelV x v → Vals xs us → r x xs H Q →
    wpAny (model X.prog X.w) X.A (call (.builtin id) (v :: us)) (EP X pins σ Q) X.xe s

/-! ### lists of values -/
theorem Vals.one : ∀ {x : V} {us : List Value}, Vals [x] us → ∃ u, us = [u] ∧ RelV x u
  | _, _, .cons r .nil => ⟨_, rfl, r⟩
theorem Vals.two : ∀ {x y : V} {us : List Value}, Vals [x, y] us → ∃ u v, us = [u, v] ∧ RelV x u ∧ RelV y v
  | _, _, _, .cons r (.cons q .nil) => ⟨_, _, rfl, r, q⟩
theorem Vals.rep {xs : List V} {us : List Value} (h : Vals xs us) : ∀ k : Nat, Vals (List.replicate k xs).flatten (List.replicate k us).flatten
  | 0 => .nil
  | k + 1 => by
    rw [List.replicate_succ, List.replicate_succ, List.flatten_cons, List.flatten_cons]
    exact Vals.append h (Vals.rep h k)
theorem foldl_rep (its : List Value) : ∀ (k : Nat) (acc : List Value),
    List.foldl (fun x1 x2 => x1 ++ x2) acc.toArray (List.replicate k its.toArray) = (acc ++ (List.replicate k its).flatten).toArray
  | 0, acc => by simp
  | k + 1, acc => by
    have e : acc.toArray ++ its.toArray = (acc ++ its).toArray := by simp
    have e2 : (acc ++ its) ++ (List.replicate k its).flatten = acc ++ (List.replicate (k + 1) its).flatten := by
      rw [List.replicate_succ, List.flatten_cons, List.append_assoc]
    rw [← e2, ← foldl_rep its k (acc ++ its), ← e, List.replicate_succ, List.foldl_cons]

section
variable {X : Cx} {pins : List (Addr × Obj)} {σ : St} {H : Hp} {s : Shared} {l b : Addr} {xs ys zs : List V}

/-! ### the two steps: a tracked list is rewritten, a new list is laid -/
theorem Inv.lset {its its' : List Value} {n : Nat} {f : Array Value → Array Value} {t' : Nat} (I : Inv X pins σ H s) (hH : H l = some (.lst xs))
    (e : s.heap.get? l = some { cls := .type "list", data := .seq its.toArray n }) (hf : f its.toArray = its'.toArray) (hv : Vals ys its') (hz : ys.length ≤ sizeLine) :
    Inv X pins σ (upd H l (.lst ys)) { s with heap := s.heap.update l (Obj.mapSeq f), toks := t' } := by
  have q := PySem.IsL.update e f
  rw [hf] at q
  refine I.write (x := l) (e := l) (by rw [hH]; exact trivial) (.inl rfl) (fun b' u hb hu => (Heap.get?_update_other s.heap (Obj.mapSeq f) (Ne.symm hb)).trans hu) ⟨_, q⟩ ?_
  exact ⟨hz, its', _, hv, q⟩
theorem Inv.lnew {its : List Value} {t' : Nat} (I : Inv X pins σ H s) (hv : Vals ys its) (hz : ys.length ≤ sizeLine) :
    Inv X pins σ (upd H s.heap.objs.size (.lst ys)) { s with heap := s.heap.push { cls := .type "list", data := .seq its.toArray }, toks := t' } :=
  I.laid (fun _ _ q => Heap.get?_push_of_some _ q) (Nat.le_refl _) ⟨hz, its, 0, hv, Heap.get?_push_size _ rfl⟩
theorem Inv.fresh (I : Inv X pins σ H s) : H s.heap.objs.size = none := I.hok.fresh (Nat.le_refl _)
theorem Inv.lstM (I : Inv X pins σ H s) (hH : H l = some (.lst xs)) : xs.length ≤ sizeLine ∧ ∃ (its : List Value) (n : Nat), Vals xs its ∧ xs.length = its.length ∧ s.heap.get? l = some { cls := .type "list", data := .seq its.toArray n } := by
  obtain ⟨z, its, n, r, e⟩ := I.hok l _ hH
  exact ⟨z, its, n, r, r.length, e⟩

theorem notLongL {n : Nat} (h : n ≤ sizeLine) : Builtin.List.listTooLong n = false := by
  unfold Builtin.List.listTooLong
  exact decide_eq_false (by omega)
end

section
variable {X : Cx}

/-! ### methods -/
def rAppend : V → List V → Hp → VK → Prop := fun x vs H Q => ∃ l xs y, x = .ref l ∧ vs = [y] ∧ H l = some (.lst xs) ∧ xs.length < sizeLine ∧ Q .non (upd H l (.lst (xs ++ [y])))
theorem mt_append : MtM X "list.append" rAppend := by
  intro pins s σ H x vs v us Q I rx rv h
  obtain ⟨l, xs, y, rfl, rfl, hH, hz, q⟩ := h
  cases rx
  obtain ⟨u, rfl, ru⟩ := rv.one
  obtain ⟨z, its, n, r, hl, e⟩ := I.lstM hH
  refine call_meets F.slot_list_append ⟨_, e, rfl⟩ F.entry_list_append (F.args_list_append_2 _ _) (PySem.list_append l its.toArray n u (by rw [List.size_toArray]; omega)) ⟨e, ?_⟩
  refine ⟨.non, _, I.lset (its' := its ++ [u]) hH e (by simp) (r.append (.cons ru .nil)) ?_, rfl, q⟩
  rw [List.length_append, List.length_singleton]
  omega

/-! ### list + list, list += list, list * int -/
/-- a list times an int (a negative one is nothing) -/
def rRep : R2 := fun x y H Q => ∃ l k xs, x = .ref l ∧ y = .int k ∧ H l = some (.lst xs) ∧ -(2 ^ 63) ≤ k ∧ k < 2 ^ 63 ∧ xs.length * k.toNat ≤ sizeLine ∧
  ∀ p, H p = none → Q (.ref p) (upd H p (.lst (List.replicate k.toNat xs).flatten))
theorem len_rep {α : Type} (xs : List α) (k : Nat) : (List.replicate k xs).flatten.length = k * xs.length := by
  induction k with
  | zero => simp
  | succ k ih => rw [List.replicate_succ, List.flatten_cons, List.length_append, ih, Nat.succ_mul, Nat.add_comm]
theorem op_rep : OpR X (binaryOp .Mult) rRep := by
  intro pins s σ H x y v u Q I rx ry h
  obtain ⟨l, k, xs, rfl, rfl, hH, h1, h2, hz, q⟩ := h
  cases rx
  obtain ⟨t, rfl⟩ := ry
  obtain ⟨z, its, n, r, hl, e⟩ := I.lstM hH
  have hlen : its.toArray.size * k.toNat ≤ sizeLine := by rw [List.size_toArray, ← hl]; exact hz
  have hcap : ¬ its.toArray.size * k.toNat > (2 ^ 63 - 1) / 8 := by
    have : (sizeLine : Nat) ≤ (2 ^ 63 - 1) / 8 := by decide
    omega
  have hfit : ¬ (!Builtin.List.listFitsIndex k) = true := by
    rw [fitsIndex_both h1 h2]
    exact Bool.false_ne_true
  have hlong : ¬ Builtin.List.listTooLong (its.toArray.size * k.toNat) = true := by
    rw [notLongL hlen]
    exact Bool.false_ne_true
  have hnew : List.foldl (fun x1 x2 => x1 ++ x2) #[] (List.replicate (if its.toArray.isEmpty = true then 0 else k.toNat) its.toArray) = (List.replicate k.toNat its).flatten.toArray := by
    have f0 : ∀ m : Nat, List.foldl (fun x1 x2 => x1 ++ x2) #[] (List.replicate m its.toArray) = (List.replicate m its).flatten.toArray := fun m => by
      have := foldl_rep its m []
      rw [List.nil_append] at this
      exact this
    rw [f0]
    cases its with
    | nil => simp
    | cons a r' => rw [if_neg (by simp)]
  refine wpAny_binaryOp_repeat_ref (T := "list") (U := "int") (by decide) ⟨_, e, rfl⟩ (fun s' => typeIs_int s' k t) noFill_list_mul F.fills_int_mul F.slot_int_rmul repeat_list F.slot_int_index.lookup
    (call_meets F.slot_int_rmul (typeIs_int s k t) F.entry_int_rmul (F.args_int_rmul_2 _ _) (int___rmul___int_list k t l its.toArray n)
      ⟨e, rfl, ⟨_, e, rfl⟩, call_meets F.slot_list_mul ⟨_, e, rfl⟩ F.entry_list_mul (F.args_list_mul_2 _ _) (AutoListH.list___mul___list_int_3 l its.toArray n k t hfit hcap hlong) ⟨e, ?_⟩⟩)
  rw [hnew]
  exact ⟨.ref _, _, I.lnew (t' := s.toks) (r.rep k.toNat) (by rw [len_rep, Nat.mul_comm]; exact hz), rfl, q _ I.fresh⟩

/-! ### del xs[i] -/
end

/-! ### xs[a:b] = ys -/
section
variable {prog : Program} {w : World} {A : Around} {E : Value → Shared → Prop} {s : Shared}
end

section
variable {X : Cx}
end
end L2

namespace Att
open PySem PySem.W PySem.Calls PyProof.Rows

/-! ### the script -/
theorem ints_of_wellAll {P : Params} {h : Heap} : ∀ (ns : List Int) (vs : List Value), WellAll P h vs (ns.map WData.int) → IntsAre vs ns := by
  intro ns
  induction ns with
  | nil =>
    intro vs w
    rw [List.map_nil] at w
    cases w
    exact .nil
  | cons n ns ih =>
    intro vs w
    rw [List.map_cons] at w
    cases w with
    | cons a b =>
      cases a
      exact .cons _ _ (ih _ b)

theorem script_of {l : OpenLaw} {n : Nat} (hn : l.most = some n) {P : Params} {h : Heap} {args : List WData} {vals : List Value}
    (hpre : l.row.toRowW.claim.pre args = true) (hwl : WellAll P h vals args) :
    ∃ a vs ns, vals = [Value.ref a] ∧ args = [WData.list (ns.map WData.int)] ∧ h.get? a = some { cls := .type "list", data := .seq vs.toArray } ∧ IntsAre vs ns ∧ ns.length ≤ n := by
  have hsh : WShape.hasAll [] args [.list .int] = true := (pre_splitW hpre).1
  have hc : l.pre.holds [] { args := args } = true := (pre_splitW hpre).2
  obtain ⟨d, r, rfl, h1, h2⟩ := hasAllW_cons hsh
  obtain rfl := hasAllW_nil h2
  obtain ⟨xs, rfl, h3⟩ := hasW_list h1
  obtain ⟨ns, rfl⟩ := items_int h3
  have hlen : ns.length ≤ n := by
    unfold OpenLaw.pre at hc
    have h4 : (WTm.not (.lt (.lit (.int (n : Int))) (.len (.arg 0)))).holds [] { args := [.list (ns.map .int)] } = true := by
      have h4 := (holds_andW hc).1
      rw [hn] at h4
      exact h4
    have h5 := condW_of h4 (w_not (w_lt w_lit (w_len_list (w_arg rfl))))
    rw [List.length_map] at h5
    refine Nat.le_of_not_lt fun q => ?_
    have q' : (n : Int) < ((ns.length : Nat) : Int) := by omega
    first
      | (rw [decide_eq_true q'] at h5; exact absurd h5 (by decide))
      | (simp at h5; omega)
  cases hwl with
  | cons w1 w2 =>
    cases w2
    cases w1 with
    | list ho hall => exact ⟨_, _, ns, rfl, rfl, ho, ints_of_wellAll ns _ hall, hlen⟩

theorem post_true (l : OpenLaw) (args : List WData) : l.row.toRowW.claim.post args (.bool true) args = true :=
  postW_of (r := l.row.toRowW) (X := (true == true))
    (show WShape.has [] (.bool true) .bool = true by first | rfl | decide | simp [WShape.has, WShape.arms, WShape.armsAll])
    (show (WTm.eq .res (.lit (.bool true))).value [] { args := args, res := some (.bool true), after := args } = some (.bool (true == true)) from w_eq_bool (w_res rfl) w_lit) rfl

/-! ### the attachment: holds_open's last premise (the goal 'hc' behind k_head) from a wpAny of the law's body -/
/-- the same from a codeAny of the CALL (for a layer whose function contracts speak of calls) -/
theorem attach_call {l : OpenLaw} {n : Nat} {q : Program} {loose : List Str} {XP : (Str → Option Value) → Heap → Prop} {YP : World → Heap → Prop} {d : DefRec}
    (hn : l.most = some n) (hdf : d.params.defaults = [])
    (call : ∀ (w : World) (s₀ s₁ : Shared) (mg mb : Str → Option Value) (fa : Addr) (o : Obj) (pm cd doc : Value) (a : Addr) (vs : List Value) (ns : List Int),
      Ground q loose [] XP w s₀ mg mb s₁.heap → YP w s₁.heap →
      s₁.heap.get? fa = some o → o.data = .func (docDef d.name d.params d.body d.scope pm cd doc) → s₁.heap.CodeRec cd d.name → mg d.name = some (.ref fa) →
      s₁.heap.get? a = some { cls := .type "list", data := .seq vs.toArray } → IntsAre vs ns → ns.length ≤ n → s₁.gens = #[] →
      codeAny (model l.prog w) callerA (.call (.ref fa) ⟨[.ref a], []⟩) (fun r s' => r = .ok (.ret (.bool true)) ∧ OldK s₁.heap s'.heap ∧ s'.os = s₁.os ∧ AllBare s'.gens) s₁) :
    WalkO q loose XP YP l.row.toRowW d [] (fun f vs => PySem.call f vs) := by
  intro w s₀ s₁ mg mb G Y fa o pm cd doc dV kV ho hd hcd hD hmg hg args vals as hpre hlay hrd hwl hlo
  obtain rfl : dV = .none := Dflts.none hD hdf
  obtain rfl : kV = .none := Dflts.noKw hD
  obtain ⟨a, vs, ns, rfl, rfl, hobj, hints, hlen⟩ := script_of hn hpre hwl
  refine enter_call (codeAny_mono (call w s₀ s₁ mg mb fa o pm cd doc a vs ns G Y ho (fd_plain hd) hcd hmg hobj hints hlen hg) fun r s' hq => ?_)
  obtain ⟨rfl, h2, h3, h4⟩ := hq
  exact ⟨.inl ⟨.bool true, .bool true, [], rfl, fun _ => rfl, .bool true, post_true l _, fun _ => ⟨List.Pairwise.nil, fun _ hm => (nomatch hm)⟩⟩, h2, h3, h4⟩

/-! ### rules over ANY heap (no ledger) from facts about the written part K: the library's own take a ledger (News) for what they write -/
section
variable {prog : Program} {w : World} {A : Around} {E : Value → Shared → Prop} {s : Shared} {K : Frag}

/-! the whole heap as the ledger: makes every rule that writes through a ledger a rule over any heap -/
def ledger (h : Heap) (L d : Addr) : List (Addr × Obj) := (List.range h.objs.size).filterMap fun a => if a = L ∨ a = d then none else (h.get? a).map fun o => (a, o)
end
end Att

namespace L2
open PySem PySem.Spec PyProof.Rows

theorem vals_ints : ∀ {vs : List Value} {ns : List Int}, IntsAre vs ns → Vals (ns.map V.int) vs
  | _, _, .nil => .nil
  | _, _, .cons n t h => .cons ⟨t, rfl⟩ (vals_ints h)

/-- nothing is tracked but the script, known to the object (or it is an object of the module) -/
def Only (H : Hp) : Prop := ∀ b, H b = none ∨ ∃ o xs, H b = some (.frz o (.lst xs))

/-- THE HEAD: the law's promise, at the heap behind the top. F, the promise of the law's def, may use that base is part of the heap (so K.In base, base.Ns mainGlobals mg stand in Mod) -/
theorem law_call {P : Program} {w : World} {K : PySem.W.Frag} {mg mb : Str → Option Value} {CX : CXT} {k : Nat} {fa a : Addr} {fd : FuncData} {x : Str} {sp : Sp} {s₁ : Shared} {vs : List Value} {ns : List Int}
    (KX : K.In s₁.heap) (hns : s₁.heap.Ns mainGlobals mg) (hb : s₁.heap.Ns builtinsNs mb) (hbb : ∀ x : Str, x ≠ "__name__" → mb x = bootBuiltins x) (hlim : s₁.heap.NoLimit) (hg : s₁.gens = #[])
    (ha : s₁.heap.get? a = some { cls := .type "list", data := .seq vs.toArray }) (hi : IntsAre vs ns) (hl : ns.length ≤ sizeLine) (hr : Room k callerA)
    (F : ∀ base : Heap, K.In base → base.Ns mainGlobals mg → FnOk P w K mg base CX k fa fd [x] sp) (hbind : ∀ (s : Shared) (u : Value), BindsTo s fd ⟨[u], []⟩ [(x, u)])
    (hsp : ∀ H : Hp, Only H → SqL K H a (ns.map V.int) → sp [.ref a] H (fun v _ => v = .bl true) fun _ _ _ => False)
    (hCX : ∀ H e s', CX [] H s₁ (fun _ _ _ => False) e s' → False) :
    codeAny (model P w) callerA (.call (.ref fa) ⟨[.ref a], []⟩) (fun r s' => r = .ok (.ret (.bool true)) ∧ OldK s₁.heap s'.heap ∧ s'.os = s₁.os ∧ AllBare s'.gens) s₁ := by
  have rv := vals_ints hi
  have lenV := hi.length
  -- from an abstract heap in which nothing but the script may be tracked
  have core : ∀ H : Hp, Only H → SqL K H a (ns.map V.int) → HOk P w H s₁.heap → (∀ b, H b ≠ none → b = a) → (H a ≠ none → K.lookup a = none) →
      codeAny (model P w) callerA (.call (.ref fa) ⟨[.ref a], []⟩) (fun r s' => r = .ok (.ret (.bool true)) ∧ OldK s₁.heap s'.heap ∧ s'.os = s₁.os ∧ AllBare s'.gens) s₁ := by
    intro H hO hS hok hA hK
    have base_of : ∀ {b : Addr} {o : Obj}, s₁.heap.get? b = some o → H b = none → (hidT s₁.heap H).get? b = some o := fun e n => hidT_get e n
    have noA : ∀ {b : Addr} {o : Obj} {es : Array DictEntry} {ep : Nat}, s₁.heap.get? b = some o → o.data = .dict es ep → H b = none := fun {b o es ep} e d => by
      cases q : H b with
      | none => rfl
      | some u =>
        have e' : b = a := hA b (by rw [q]; simp)
        subst e'
        rw [ha] at e; cases e
        have d' : Data.seq vs.toArray _ = Data.dict es ep := d
        cases d'
    have nsK : ∀ {b : Addr} {m : Str → Option Value}, s₁.heap.Ns b m → (hidT s₁.heap H).Ns b m := fun {b m} ⟨o, es, ep, e, d, r⟩ => ⟨o, es, ep, base_of e (noA e d), d, r⟩
    have hKb : K.In (hidT s₁.heap H) := fun b o e => base_of (KX b o e) (by
      cases q : H b with
      | none => rfl
      | some u =>
        have e' : b = a := hA b (by rw [q]; simp)
        subst e'
        rw [hK (by rw [q]; simp)] at e; cases e)
    have hM : Mod K mg (hidT s₁.heap H) := ⟨hKb, nsK hns, ⟨mb, nsK hb, hbb⟩, let ⟨mc, h1, h2⟩ := hlim; ⟨mc, nsK h1, h2⟩⟩
    have e0 : Env0 P w K mg (hidT s₁.heap H) callerA [] s₁ H := ⟨rfl, hM, fun b o e => of_hidT e, Nat.le_of_eq (hidT_size _ _), trivial, fun b hb => absurd (show b ∈ ([] : List Addr) from hb) (by simp), hok, .of_eq hg⟩
    refine codeAny_mono ((F _ hKb (nsK hns)).run callerA [] s₁ H ⟨[.ref a], []⟩ [.ref a] [.ref a] _ _ hr e0 (hbind s₁ (.ref a)) (.cons rfl .nil) (hsp H hO hS)) fun r s' h => ?_
    cases r with
    | error e => exact (hCX H e s' h).elim
    | ok fl =>
      cases fl with
      | next => exact False.elim h
      | brk => exact False.elim h
      | cont => exact False.elim h
      | ret u =>
        obtain ⟨v, H', os, bare, un, hok', r', q⟩ := h
        have q' : v = .bl true := q
        subst q'
        obtain rfl : u = Value.bool true := r'
        refine ⟨rfl, OldK.of_keep fun b o e => ?_, os, bare⟩
        cases q : H b with
        | none => exact un.keep b o e q (by intro z; exact absurd (show b ∈ ([] : List Addr) from z) (by simp)) (by simp)
        | some u =>
          rcases hO b with z | ⟨ob, xs, z⟩
          · rw [q] at z; cases z
          · have z2 := un.frzs b ob _ z
            obtain ⟨e1, _⟩ := hok b _ z
            obtain ⟨e2, _⟩ := hok' b _ z2
            rw [e] at e1; cases e1
            exact e2
  cases hk : K.lookup a with
  | some o =>
    -- the script is one of the module's own objects
    have e := KX a o hk
    rw [ha] at e
    cases e
    refine core (fun _ => none) (fun _ => .inl rfl) (.inr ⟨_, vs.toArray, _, hk, rfl, rfl, rfl, by rw [List.size_toArray, lenV]; exact hl, by simpa using rv⟩) (fun b u z => by have z' : (none : Option HO) = some u := z; cases z') (fun b z => absurd rfl z) fun z => absurd rfl z
  | none =>
    refine core (fun b => if b = a then some (.frz { cls := .type "list", data := .seq vs.toArray } (.lst (ns.map V.int))) else none) (fun b => ?_) (.inl (.inr ⟨{ cls := .type "list", data := .seq vs.toArray }, if_pos rfl⟩)) (fun b u z => ?_) (fun b z => ?_) fun _ => hk
    · by_cases hb : b = a
      · exact .inr ⟨_, _, if_pos hb⟩
      · exact .inl (if_neg hb)
    · by_cases hb : b = a
      · have z' := (if_pos hb).symm.trans z
        cases z'
        subst hb
        exact ⟨ha, by rw [List.length_map]; exact hl, vs, _, rv, ha⟩
      · have z' := (if_neg hb).symm.trans z
        cases z'
    · by_cases hb : b = a
      · exact hb
      · exact absurd (if_neg hb) z
end L2

namespace L2
open PySem PySem.Spec PyProof.Rows

abbrev KOf {K : PySem.W.Frag} {h : Heap} (_ : K.In h) : PySem.W.Frag := K

/-- the goal that k_head leaves (case hc), from the law's promise. F gives the function object fd (K's own) once, then the promise over every base -/
theorem walk_of {l : PySem.W.OpenLaw} {n k : Nat} {q : Program} {loose : List Str} {XP : (Str → Option Value) → Heap → Prop} {YP : World → Heap → Prop} {d : DefRec} {K : Params → PySem.W.Frag} {CX : World → CXT} {sp : World → Sp} {x : Str}
    (hn : l.most = some n) (hn2 : n ≤ sizeLine) (hdf : d.params.defaults = []) (hr : Room k callerA)
    (hY : ∀ (w : World) (h : Heap), YP w h → (K w.params).In h)
    (F : ∀ (w : World) (mg : Str → Option Value) (fa : Addr) (h : Heap), (K w.params).In h → h.Ns mainGlobals mg → mg d.name = some (.ref fa) →
      ∃ fd : FuncData, (∀ (s : Shared) (u : Value), BindsTo s fd ⟨[u], []⟩ [(x, u)]) ∧
        ∀ base : Heap, (K w.params).In base → base.Ns mainGlobals mg → FnOk l.prog w (K w.params) mg base (CX w) k fa fd [x] (sp w))
    (hsp : ∀ (w : World) (H : Hp) (a : Addr) (ns : List Int), ns.length ≤ n → Only H → SqL (K w.params) H a (ns.map V.int) → sp w [.ref a] H (fun v _ => v = .bl true) fun _ _ _ => False)
    (hCX : ∀ (w : World) (H : Hp) (s : Shared) (e : Value) (s' : Shared), CX w [] H s (fun _ _ _ => False) e s' → False) :
    PySem.W.WalkO q loose XP YP l.row.toRowW d [] (fun f vs => PySem.call f vs) := by
  refine Att.attach_call hn hdf fun w s₀ s₁ mg mb fa o pm cd doc a vs ns G Y ho hd hcd hmg hobj hints hlen hg => ?_
  have KX := hY w _ Y
  obtain ⟨fd, hb, hF⟩ := F w mg fa _ KX G.T.g hmg
  exact law_call KX G.T.g G.T.b G.T.builtins G.T.nolimit hg hobj hints (Nat.le_trans hlen hn2) hr hF hb (fun H hO hS => hsp w H a ns hlen hO hS) fun H e s' => hCX w H s₁ e s'
end L2

/- THE LAST THEOREM (shape; LID, My.* are yours):
   My.Adr: a structure of the addresses that your layer names (classes, functions); My.Txt K t: a structure (Prop) of the equations over K;
   My.txt_mk : {K} {implicit addresses ..} (e1 : nsIn K mainGlobals "law" = some (some (.ref f))) (e2 : K.lookup f = some ⟨oc, od, .func (fnOf "law" "law" params body scope dV kV doc pm an cdv ct), sl⟩) (e3 : codeIn K cdv "law" = true) .. : ∃ t, My.Txt K t

set_option maxRecDepth 100000 in
set_option maxHeartbeats 0 in
theorem PySem.Challenge.cw_LID_holds : PySem.Challenge.rw_LID.Holds := by
  w_on; o_law; k_head; (case hw => w_witness2)
  k_fill
  refine L2.walk_of (l := PySem.Challenge.rw_LID) (n := 63) (k := 40) (x := "script") (CX := fun w => ..) (sp := fun _ => My.sp_law) rfl (by decide) rfl ⟨rfl, by decide, by decide⟩ (fun w h Y => PySem.W.kIn_of Y) ?F ?S ?C
  case F =>
    intro w mg fa h KX G hmg
    have T : ∃ t, My.Txt (L2.KOf KX) t := by
      dsimp only [L2.KOf]                          -- K must stand as «<heap const> w.params» for k_is
      refine' My.txt_mk ?e1 ?e2 ?e3 ..
      (case e1 => PySem.W.k_is)                    -- in the order: a name -> its address -> its object -> its parts
      (case e2 => PySem.W.k_is)
      ..
    obtain ⟨t, T⟩ := T
    have e0 := hmg.symm.trans (PySem.W.mg_of KX G T.law)
    cases e0                                       -- fa is the law's own address
    exact ⟨_, fun s u => .of_eq rfl, fun base kb nb => My.law_fn T kb nb⟩     -- if «.of_eq rfl» comes too early: refine' ⟨_, ?b, fun base kb nb => My.law_fn T kb nb⟩; exact fun s u => .of_eq rfl
  case S => exact fun w H a ns hl hO hS => ..
  case C => exact ..
(the tactic k_is has no namespace: write k_is) -/

/-! SHORT WORDS over the layer: a def of the text, its body, what a loop and a test want. -/
namespace L2
open PySem PySem.Spec PyProof.Rows

/-! ### the text by places -/
/-- the j-th statement of a class's body -/
def inClass (s : Stmt) (j : Nat) : Stmt := match s with
  | .ClassDef _ _ _ body _ _ _ _ _ _ _ => body.getD j (.Pass ⟨0, 0, 0, 0⟩)
  | _ => .Pass ⟨0, 0, 0, 0⟩
def defArgs (s : Stmt) : Arguments := match s with
  | .FunctionDef _ a _ _ _ _ _ _ _ _ => a
  | _ => { posonlyargs := [], args := [], vararg := none, kwonlyargs := [], kw_defaults := [], kwarg := none, defaults := [] }
def defBody (s : Stmt) : List Stmt := match s with
  | .FunctionDef _ _ b _ _ _ _ _ _ _ => b
  | _ => []
def defScope (s : Stmt) : Scope := match s with
  | .FunctionDef _ _ _ _ _ _ sc _ _ _ => sc
  | _ => { kind := .function, names := [], isGenerator := false, isCoroutine := false }

/-! ### no exception leaves a def -/
abbrev CX0 : CXT := fun _ _ _ _ _ _ => False
abbrev E0 : XK := fun _ _ _ => False
theorem pass0 {X : Cx} : Passes CX0 X E0 := fun _ _ _ _ _ _ _ h => h.elim

/-! ### a def (or method) of the text as it stands behind the top -/
structure Fun (K : PySem.W.Frag) (x qual : Str) (st : Stmt) (f : Addr) (fd : FuncData) : Prop where
  ex : ∃ (oc : Value) (od : Option Addr) (kV doc pm : Value) (an : Option Addr) (cdv ct : Value) (osl : Array (Option Value)),
    fd = PySem.W.fnOf x qual (defArgs st) (defBody st) (defScope st) .none kV doc pm an cdv ct ∧ K.lookup f = some ⟨oc, od, .func fd, osl⟩ ∧ PySem.W.codeIn K cdv qual = true
  kp : PySem.W.keepIn K (.ref f) = true
section
variable {P : Program} {w : World} {K : PySem.W.Frag} {mg : Str → Option Value} {base : Heap}
/-- THE RULE for a def: its body as a term of rules, and the reading of that term -/
theorem Fun.ok {x qual : Str} {st : Stmt} {f : Addr} {fd : FuncData} {N ps : List Str} {k : Nat} {sp : Sp} (F : Fun K x qual st f fd) (S : FnScope N ps (defScope st)) (len : ∀ vs H Q E, sp vs H Q E → vs.length = ps.length)
    (hbody : ∀ (cdv : Value) (A : Around) (outer : List Env) (s : Shared) (H : Hp) (vs : List V) (Q : VK) (E : XK), Room k (A.deeper (envOfC qual (defScope st) s.heap.objs.size f cdv)) → sp vs H Q E →
      ∃ t, PSs (cxOf CX0 P w K mg base N qual (defScope st) f cdv A outer s H E).nox (defBody st) t ∧ t { nx := fun _ H' => Q .non H', rt := Q } (start N vs) H) : FnOk P w K mg base CX0 (k + 1) f fd ps sp := by
  obtain ⟨oc, od, kV, doc, pm, an, cdv, ct, osl, rfl, lk, hcd⟩ := F.ex
  refine fn_of lk hcd S len fun A outer s H vs Q E hr hsp => ?_
  obtain ⟨t, h, q⟩ := hbody cdv A outer s H vs Q E hr hsp
  exact ⟨t, h.nox, q⟩
/-- how its arguments bind (no defaults): h is «fun _ _ _ _ _ _ us hl => match us, hl with | [_, _], _ => rfl», one _ a parameter -/
theorem Fun.binds {x qual : Str} {st : Stmt} {f : Addr} {fd : FuncData} {ps : List Str} (F : Fun K x qual st f fd)
    (h : ∀ (kV doc pm : Value) (an : Option Addr) (cdv ct : Value) (us : List Value), us.length = ps.length → bindArgs (PySem.W.fnOf x qual (defArgs st) (defBody st) (defScope st) .none kV doc pm an cdv ct) ⟨us, []⟩ = pure (ps.zip us)) : Binds K fd ps [] := by
  obtain ⟨oc, od, kV, doc, pm, an, cdv, ct, osl, rfl, lk, hcd⟩ := F.ex
  exact .all (h kV doc pm an cdv ct)
theorem fun_mk {x qual : Str} {st : Stmt} {f : Addr} {oc : Value} {od an : Option Addr} {osl : Array (Option Value)} {kV doc pm cdv ct : Value} (l : K.lookup f = some ⟨oc, od, .func (PySem.W.fnOf x qual (defArgs st) (defBody st) (defScope st) .none kV doc pm an cdv ct), osl⟩)
    (c : PySem.W.codeIn K cdv qual = true) (k : PySem.W.keepIn K (.ref f) = true) : Fun K x qual st f (PySem.W.fnOf x qual (defArgs st) (defBody st) (defScope st) .none kV doc pm an cdv ct) := ⟨⟨oc, od, kV, doc, pm, an, cdv, ct, osl, rfl, l, c⟩, k⟩
end
theorem hu_of {A : Around} {k : Nat} (hr : Room k A) : A.units + 1 < cLine := Nat.lt_of_le_of_lt (Nat.add_le_add_left (by decide : 1 ≤ 64) _) hr.units
theorem small1000 {n : Nat} (h : n ≤ 1000) : n < sizeLine := Nat.lt_of_le_of_lt h (by decide)

/-! ### expressions in short: the name that stands in the i-th slot -/
section
variable {X : Cx}
theorem pv (i : Nat) {x : Str} {pos : Pos} (hN : X.N[i]? = some x := by rfl) (hv : Vis X.env.scope x := by first | exact Or.inl rfl | exact Or.inr (Or.inl rfl) | exact Or.inr (Or.inr rfl)) (hd : (x == ("__debug__" : Str)) = false := by decide)
    (hcd : (x == ("__classdict__" : Str)) = false := by decide) : PE X (.Name x pos) (tVar i) := pe_var hN hv hd hcd
end

/-! ### tests -/
theorem iteF {A B : Prop} (h : B) : if false = true then A else B := by
  rw [if_neg Bool.false_ne_true]
  exact h
theorem iteT {A B : Prop} (h : A) : if true = true then A else B := by
  rw [if_pos rfl]
  exact h
theorem ite2 {c A B : Prop} [Decidable c] (h1 : c → A) (h2 : ¬ c → B) : if c then A else B := by
  by_cases h : c
  · rw [if_pos h]
    exact h1 h
  · rw [if_neg h]
    exact h2 h
/-! ### heaps -/
/-- all that was tracked is as it was -/
def Same (H H' : Hp) : Prop := ∀ b o, H b = some o → H' b = some o
theorem Same.refl (H : Hp) : Same H H := fun _ _ h => h
theorem Same.trans {H H1 H2 : Hp} (a : Same H H1) (b : Same H1 H2) : Same H H2 := fun c o h => b c o (a c o h)
theorem Same.free {H H' : Hp} (e : Same H H') {l : Addr} (h : H' l = Option.none) : H l = Option.none := by
  cases q : H l with
  | none => rfl
  | some o =>
    rw [e l o q] at h
    cases h
theorem Same.seq {K : PySem.W.Frag} {H H' : Hp} {a : Addr} {xs : List V} (e : Same H H') (h : SqL K H a xs) : SqL K H' a xs := by
  rcases h with (h | ⟨o, h⟩) | h
  · exact .inl (.inl (e _ _ h))
  · exact .inl (.inr ⟨o, e _ _ h⟩)
  · exact .inr h

end L2

section
set_option Elab.async false
set_option linter.all false
set_option maxRecDepth 100000
set_option maxHeartbeats 4000000
namespace L2
open PySem PySem.Spec PyProof.Rows

/-! ### list comprehensions -/
theorem compLoopG {prog : Program} {w : World} {A : Around} {R : Result → Shared → Prop} {s : Shared} {elt target iter : Expr} {ifs : List Expr} {scope : Scope} {pos : Pos} {it acc : Value} {env : Env} (I : Nat → Shared → Prop)
    (turn : ∀ n s, I n s → wpAny (model prog w) A (pyNext it) (fun r s₁ => match r with
      | none => R (.ok .next) s₁
      | some v => wpAny (model prog w) A (letOwnedTupleGo target it v) (fun _ s₀ => wpAny (model prog w) A (assign target env v) (fun _ s₂ =>
          wpAny (model prog w) A (forIn ifs true fun c r => if r = true then do let ok ← isTrue c env (eval c env); pure (ForInStep.yield ok) else pure (ForInStep.yield r)) (fun ok s₃ =>
            if ok = true then wpAny (model prog w) A (eval elt env) (fun x s₄ =>
              wpAny (model prog w) A (call (.builtin "list.append") [acc, x]) (fun _ s₅ => ∃ m, m < n ∧ I m s₅) (fun _ _ => False) s₄) (fun _ _ => False) s₃
            else ∃ m, m < n ∧ I m s₃) (fun _ _ => False) s₂) (fun _ _ => False) s₀) (fun _ _ => False) s₁) (fun _ _ => False) s)
    (n : Nat) (h : I n s) :
    codeAny (model prog w) A (.compLoop (.ListComp elt [⟨target, iter, ifs, 0⟩] scope pos) 0 it acc env) R s := by
  refine codeAny_loop rfl I (fun n s hI => ?_) n h
  show wpAny _ A ((compTurn (.ListComp elt [⟨target, iter, ifs, 0⟩] scope pos) 0 it acc env).onRaise (fun x => do noteFrame x env; theTreesLotGoes x)) _ _ s
  refine wpAny_noted ?_
  rw [compTurn_list]
  refine wpAny_bind (wpAny_standAt (wpAny_bind (wpAny_mono (turn n s hI) (fun r s₁ h₁ => ?_) fun _ _ h' => h'.elim)))
  cases r with
  | none => exact wpAny_pure h₁
  | some v =>
    refine wpAny_bind (wpAny_mono h₁ (fun _ s₀ h₀ => ?_) fun _ _ h' => h'.elim)
    refine wpAny_bind (wpAny_mono h₀ (fun _ s₂ h₂ => wpAny_bind (wpAny_mono h₂ (fun ok s₃ h₃ => ?_) fun _ _ h' => h'.elim)) fun _ _ h' => h'.elim)
    cases ok with
    | false => exact wpAny_pure ⟨rfl, h₃⟩
    | true =>
      exact wpAny_bind (wpAny_bind (wpAny_mono h₃ (fun x s₄ h₄ => wpAny_bind (wpAny_mono h₄ (fun _ s₅ h₅ => wpAny_pure (wpAny_pure ⟨rfl, h₅⟩)) fun _ _ h' => h'.elim)) fun _ _ h' => h'.elim))

/-- the cells that a block's free names take along -/
theorem closure_ex {scope : Scope} {env : Env} (hf : ∀ y ∈ scope.names, y.2 = .free → ∃ c, env.cells.lookup y.1 = some c) :
    ∃ cl, closureFor scope env = pure cl ∧ (∀ x c, cl.lookup x = some c → env.cells.lookup x = some c) ∧ ∀ x, (x, NameKind.free) ∈ scope.names → ∃ c, cl.lookup x = some c := by
  have go : ∀ (l : List (Str × NameKind)) (acc : List (Str × Addr)), (∀ y ∈ l, y.2 = .free → ∃ c, env.cells.lookup y.1 = some c) → (∀ x c, acc.lookup x = some c → env.cells.lookup x = some c) →
      ∃ cl : List (Str × Addr), (forIn l acc (fun x (r : List (Str × Addr)) => match x with | (name, kind) => if (kind == NameKind.free) = true then do let a ← cellOf env name; pure (ForInStep.yield ((name, a) :: r)) else pure (ForInStep.yield r)) : Sem (List (Str × Addr))) = pure cl ∧
        (∀ x c, cl.lookup x = some c → env.cells.lookup x = some c) ∧ (∀ x, (x, NameKind.free) ∈ l → ∃ c, cl.lookup x = some c) ∧ ∀ x c, acc.lookup x = some c → ∃ c', cl.lookup x = some c' := by
    intro l
    induction l with
    | nil => intro acc _ ha; exact ⟨acc, rfl, ha, fun x h => absurd h (by simp), fun x c h => ⟨c, h⟩⟩
    | cons y r ih =>
      intro acc hl ha
      obtain ⟨name, kind⟩ := y
      by_cases hk : kind = .free
      · subst hk
        obtain ⟨c, hc⟩ := hl (name, .free) List.mem_cons_self rfl
        have ha' : ∀ x c', ((name, c) :: acc).lookup x = some c' → env.cells.lookup x = some c' := fun x c' h => by
          rw [List.lookup_cons] at h
          cases e : x == name with
          | true => rw [e] at h; cases h; rw [eq_of_beq e]; exact hc
          | false => rw [e] at h; exact ha x c' h
        obtain ⟨cl, e, h1, h2, h3⟩ := ih ((name, c) :: acc) (fun y hy => hl y (List.mem_cons_of_mem _ hy)) ha'
        refine ⟨cl, ?_, h1, fun x hx => ?_, fun x c' h => ?_⟩
        · rw [List.forIn_cons, ← e]
          have ec : cellOf env name = pure c := by unfold cellOf; rw [hc]
          show (if (NameKind.free == NameKind.free) = true then _ else _) >>= _ = _
          rw [if_pos (by rfl), ec]
          rfl
        · rcases List.mem_cons.mp hx with z | z
          · cases z
            exact h3 name c (by rw [List.lookup_cons]; simp)
          · exact h2 x z
        · cases e : x == name with
          | true => exact h3 x c (by rw [List.lookup_cons, e])
          | false => exact h3 x c' (by rw [List.lookup_cons, e]; exact h)
      · have hb : (kind == NameKind.free) = false := by simpa using hk
        obtain ⟨cl, e, h1, h2, h3⟩ := ih acc (fun y hy => hl y (List.mem_cons_of_mem _ hy)) ha
        refine ⟨cl, ?_, h1, fun x hx => ?_, h3⟩
        · rw [List.forIn_cons, ← e]
          show (if (kind == NameKind.free) = true then _ else _) >>= _ = _
          rw [if_neg (by rw [hb]; decide)]
          rfl
        · rcases List.mem_cons.mp hx with z | z
          · cases z; exact absurd rfl hk
          · exact h2 x z
  obtain ⟨cl, e, h1, h2, _⟩ := go scope.names [] hf (fun x c h => by simp at h)
  refine ⟨cl, ?_, h1, h2⟩
  unfold closureFor
  show (forIn scope.names [] _ >>= fun cs => pure cs) = _
  refine Eq.trans (congrArg (fun t => t >>= fun cs => pure cs) e) ?_
  rfl

theorem relabel_lookup {env : Env} : ∀ {names : List (Str × NameKind)} {x : Str} {k' : NameKind},
    (names.map fun (n, k) => if (k == NameKind.free && env.scope.kind == .function && env.kindOf n == some .cell) then (n, NameKind.cell) else (n, k)).lookup x = some k' →
    ∃ k, names.lookup x = some k ∧ (k' = k ∨ (k = .free ∧ k' = .cell))
  | [], _, _, h => by simp at h
  | (n, k) :: r, x, k', h => by
    have ih := @relabel_lookup env r x k'
    have h : List.lookup x ((if (k == NameKind.free && env.scope.kind == .function && env.kindOf n == some .cell) = true then (n, NameKind.cell) else (n, k)) :: r.map fun (n, k) => if (k == NameKind.free && env.scope.kind == .function && env.kindOf n == some .cell) then (n, NameKind.cell) else (n, k)) = some k' := h
    by_cases hc : (k == NameKind.free && env.scope.kind == .function && env.kindOf n == some .cell) = true
    · rw [if_pos hc, List.lookup_cons] at h
      rw [List.lookup_cons]
      cases e : x == n with
      | true =>
        rw [e] at h
        cases h
        refine ⟨k, rfl, .inr ⟨?_, rfl⟩⟩
        simp only [Bool.and_eq_true, beq_iff_eq] at hc
        exact hc.1.1
      | false => rw [e] at h; exact ih h
    · rw [if_neg hc, List.lookup_cons] at h
      rw [List.lookup_cons]
      cases e : x == n with
      | true => rw [e] at h; cases h; exact ⟨k, rfl, .inl rfl⟩
      | false => rw [e] at h; exact ih h

/-- a comprehension's block: its own frame of names at C, the names of the function round it by their cells -/
def cxComp (X : Cx) (s2 : Shared) (H2 : Hp) (fp : List Addr) (N : List Str) (scope : Scope) (cl : List (Str × Addr)) (C : Addr) : Cx where
  prog := X.prog
  w := X.w
  K := X.K
  mg := X.mg
  base := X.base
  A := X.A
  N := N
  s₀ := s2
  H₀ := H2
  env := compEnvC scope cl C X.env
  outer := X.stack
  stack := X.stack
  ex := fp
  fn := fun _ => false
  calm := X.calm
  pn := []
  xe := fun _ _ => False

/-- a target that stores into the first k names alone -/
def GKeep (k : Nat) (g : TG) : Prop := ∀ x σ H Q, g x σ H Q → g x σ H fun σ2 H2 => (∀ i, k ≤ i → σ2[i]? = σ[i]?) ∧ Q σ2 H2
theorem gkeep_name {k i : Nat} (h : i < k) : GKeep k (gName i) := fun x σ H Q q => ⟨fun j hj => by rw [List.getElem?_set_ne (by omega)], q⟩
/-- the tests of a clause -/
def PIfs (X : Cx) (ifs : List Expr) (t : TT) : Prop :=
  ∀ (pins : List (Addr × Obj)) (s : Shared) (σ : St) (H : Hp) (Q : Bool → Hp → Prop), Inv X pins σ H s → t σ H Q →
    wpAny (model X.prog X.w) X.A (forIn ifs true fun c r => if r = true then do let ok ← isTrue c X.env (eval c X.env); pure (ForInStep.yield ok) else pure (ForInStep.yield r)) (TP X pins σ Q) X.xe s
def tAlways : TT := fun _ H Q => Q true H
theorem pif_nil {X : Cx} : PIfs X [] tAlways := fun pins s σ H Q I h => wpAny_tests_nil ⟨H, I, h⟩
theorem pif_one {X : Cx} {c : Expr} {t : TT} (h : PT X c t) : PIfs X [c] t := fun pins s σ H Q I q => wpAny_tests_one (h pins s σ H Q I q)

/-- the names' values in a comprehension's block: its own none, then those of the function's names at js -/
def compSt (k : Nat) (js : List Nat) (σ : St) : St := List.replicate k none ++ js.map fun j => (σ[j]?).join
def tComp (k : Nat) (js : List Nat) (wi : TI) (g : TG) (tc : TT) (te : TE) : TE := fun σ H Q => wi σ H fun J H1 => ∃ W : Nat → Nat → List V → Hp → Prop, (∃ m, W 0 m [] H1) ∧ ∀ i m ys H, W i m ys H →
  (J.stop i H ∧ ∀ D, H D = none → Q (.ref D) (upd H D (.lst ys))) ∨
  (J.go i H ∧ ys.length < sizeLine ∧ ∀ x H', J.yld i H x H' → g x (compSt k js σ) H' fun σ2 H2 => tc σ2 H2 fun b H3 => if b = true then te σ2 H3 fun y H4 => ∃ m', m' < m ∧ W (i + 1) m' (ys ++ [y]) H4 else ∃ m', m' < m ∧ W (i + 1) m' ys H3)

theorem Un.later {P : Program} {w : World} {fs ex : List Addr} {H H1 H2 : Hp} {h h1 h2 : Heap} (u : Un fs ex H H1 h h1) (ok : HOk P w H h) (ag : ∀ b, b < h.objs.size → H2 b = H1 b) (k : ∀ b o, b < h.objs.size → h1.get? b = some o → h2.get? b = some o) : Un fs ex H H2 h h2 where
  keep := fun b o e n hb hx => k b o (Heap.lt_size e) (u.keep b o e n hb hx)
  slot := fun b o e n hb hx => let ⟨sl, q⟩ := u.slot b o e n hb hx; ⟨sl, k b _ (Heap.lt_size e) q⟩
  free := fun b o e n hx => by rw [ag b (Heap.lt_size e)]; exact u.free b o e n hx
  there := fun b o e hx => let ⟨o', q⟩ := u.there b o e hx; ⟨o', k b _ (Heap.lt_size e) q⟩
  tups := fun b xs e => by rw [ag b (ok.lt e)]; exact u.tups b xs e
  frzs := fun b o x e => by rw [ag b (ok.lt e)]; exact u.frzs b o x e
  tbls := fun b ps e => by rw [ag b (ok.lt e)]; exact u.tbls b ps e

section
variable {X : Cx} {elt tg iter : Expr} {ifs : List Expr} {scope : Scope} {pos : Pos} {wi : TI} {g : TG} {tc : TT} {te : TE}

/-- what a comprehension asks of its scope. own: its own names that are read; fr: the names of the function round it, with their slots there -/
structure CompOk (X : Cx) (scope : Scope) (own : List Str) (fr : List (Str × Nat)) : Prop where
  kind : scope.kind = .function
  cell : ∀ y ∈ scope.names, y.2 ≠ .cell
  loc : ∀ y ∈ scope.names, y.2 = .local → scope.names.lookup y.1 = some .local
  free : ∀ y ∈ scope.names, y.2 = .free → X.env.kindOf y.1 = some .cell
  fr : ∀ p ∈ fr, scope.names.lookup p.1 = some .free ∧ X.N[p.2]? = some p.1

def compChk (sc scope : Scope) (N : List Str) (fr : List (Str × Nat)) : Bool :=
  (decide (scope.kind = .function) && scope.names.all (fun y => decide (y.2 ≠ .cell)) && scope.names.all (fun y => decide (y.2 = .local → scope.names.lookup y.1 = some .local)) &&
    scope.names.all (fun y => decide (y.2 = .free → sc.names.lookup y.1 = some .cell)) && fr.all fun p => decide (scope.names.lookup p.1 = some .free) && decide (N[p.2]? = some p.1))
theorem compOk {own : List Str} {fr : List (Str × Nat)} (sc : Scope) (N : List Str) (h : compChk sc scope N fr = true) (hs : X.env.scope = sc := by rfl) (hN : X.N = N := by rfl) : CompOk X scope own fr := by
  subst hs hN
  unfold compChk at h
  simp only [Bool.and_eq_true, List.all_eq_true, decide_eq_true_eq] at h
  obtain ⟨⟨⟨⟨h1, h2⟩, h3⟩, h4⟩, h5⟩ := h
  exact ⟨h1, h2, h3, h4, h5⟩
theorem comp_core {own : List Str} {fr : List (Str × Nat)} {pins : List (Addr × Obj)} {s2 : Shared} {σ : St} {H2 : Hp} {it : Addr} {fp : List Addr} {tn : Nat → Heap → Prop} {J : It} {cl : List (Str × Addr)} {E : Value → Shared → Prop}
    {W : Nat → Nat → List V → Hp → Prop} {m0 : Nat} {RR : Value → Addr → Result → Shared → Prop} {Fin : Addr → List V → Hp → Prop}
    (hc : X.calm = true) (S : CompOk X scope own fr) (cl1 : ∀ x c, cl.lookup x = some c → X.env.cells.lookup x = some c) (cl2 : ∀ x, (x, NameKind.free) ∈ scope.names → ∃ c, cl.lookup x = some c)
    (hg : ∀ s2 H2 fp cl C, PG (cxComp X s2 H2 fp (own ++ fr.map (·.1)) scope cl C) tg g) (hk : GKeep own.length g)
    (hi : ∀ s2 H2 fp cl C, PIfs (cxComp X s2 H2 fp (own ++ fr.map (·.1)) scope cl C) ifs tc) (he : ∀ s2 H2 fp cl C, PE (cxComp X s2 H2 fp (own ++ fr.map (·.1)) scope cl C) elt te)
    (I2 : Inv X pins σ H2 s2) (T : Turn X.prog X.w X.K tg J fp it tn) (st2 : tn 0 s2.heap) (f2 : ∀ b ∈ fp, FpOk X pins H2 b) (w0 : W 0 m0 [] H2)
    (turn : ∀ i m ys H, W i m ys H →
      (J.stop i H ∧ ∀ D, H D = none → Fin D ys H) ∨
      (J.go i H ∧ ys.length < sizeLine ∧ ∀ x H', J.yld i H x H' → g x (compSt own.length (fr.map (·.2)) σ) H' fun σ2 H2 => tc σ2 H2 fun b H3 => if b = true then te σ2 H3 fun y H4 => ∃ m', m' < m ∧ W (i + 1) m' (ys ++ [y]) H4 else ∃ m', m' < m ∧ W (i + 1) m' ys H3))
    (hRR : ∀ D C oC mC s4 H4 ys, Fin D ys H4 → Inv X (pins ++ [(C, oC)]) σ (upd H4 D (.lst ys)) s4 → s4.heap.Ns C mC → FpOk X pins (upd H4 D (.lst ys)) C → RR (.ref D) C (.ok .next) s4) :
    wpAny (model X.prog X.w) X.A (newList []) (fun acc s₃ => wpAny (model X.prog X.w) X.A (newFunctionEnv scope X.env.globals cl [] X.env.qual none .none (some X.env)) (fun cenv s₄ =>
      codeAny (model X.prog X.w) X.A (.compStart (.ListComp elt [⟨tg, iter, ifs, 0⟩] scope pos) 0 (.ref it) acc { cenv with scope := relabel scope X.env }) (RR acc cenv.locals) s₄) E s₃) E s2 := by
  refine wpAny_newObj_type (wpAny_newFunctionEnv S.cell (by intro y hy; simp at hy) (fun h₁ hns₁ hsb₁ => ?_) S.kind)
  dsimp only at hns₁ hsb₁ ⊢
  generalize hH2 : s2.heap.push { cls := .type "list", dict := none, data := .seq ([] : List Value).toArray } = Hh at hns₁ hsb₁ ⊢
  have hC : Hh.objs.size = s2.heap.objs.size + 1 := by rw [← hH2, Heap.size_push]
  have hDC : s2.heap.objs.size ≠ Hh.objs.size := by rw [hC]; exact Nat.ne_of_lt (Nat.lt_succ_self _)
  have hCle : s2.heap.objs.size ≤ Hh.objs.size := by rw [hC]; exact Nat.le_succ _
  have old : ∀ b o, s2.heap.get? b = some o → h₁.get? b = some o := fun b o e => hsb₁.extBut b o (Nat.ne_of_lt (Nat.lt_of_lt_of_le (Heap.lt_size e) hCle)) (Heap.get?_push_of_some _ (hH2 ▸ Heap.get?_push_of_some _ e))
  have hacc : h₁.get? s2.heap.objs.size = some (LCg.lst []) := hsb₁.extBut _ _ hDC (Heap.get?_push_of_some _ (hH2 ▸ Heap.get?_push_size _ rfl))
  -- the block's context
  let Y : Cx := cxComp X s2 H2 fp (own ++ fr.map (·.1)) scope cl Hh.objs.size
  let D := s2.heap.objs.size
  let σY : St := compSt own.length (fr.map (·.2)) σ
  have fpl : ∀ b ∈ fp, b < s2.heap.objs.size := fun b hb => let ⟨o, e, _⟩ := T.obj 0 _ st2 b hb; Heap.lt_size e
  have nfs : ∀ b, s2.heap.objs.size ≤ b → b ∉ Y.fs := fun b hb z => by
    rcases List.mem_cons.mp (I2.stkSub b z) with e | e
    · rw [e] at hb; exact absurd I2.lt (Nat.not_lt.mpr hb)
    · exact I2.nofs hb e
  have hkY : ∀ x, (Y.env.kindOf x = some .cell ∨ Y.env.kindOf x = some .free) → scope.names.lookup x = some .free := fun x hx => by
    have q : ∃ k', (relabel scope X.env).names.lookup x = some k' ∧ (k' = .cell ∨ k' = .free) := by
      rcases hx with z | z
      · exact ⟨_, z, .inl rfl⟩
      · exact ⟨_, z, .inr rfl⟩
    obtain ⟨k', e, hk'⟩ := q
    obtain ⟨k, e', h'⟩ := relabel_lookup e
    have nc : k ≠ .cell := S.cell (x, k) (PySem.mem_of_lookup e')
    rcases h' with z | ⟨z, _⟩
    · subst z
      rcases hk' with z | z
      · exact absurd z nc
      · rw [z] at e'; exact e'
    · rw [z] at e'; exact e'
  have okY : Y.Ok := by
    refine ⟨I2.ok.mod, S.kind, I2.ok.glob, I2.ok.blt, hCle, fun x y c h1 h2 => I2.ok.inj x y c (cl1 x c h1) (cl1 y c h2), fun x hx => cl2 x (PySem.mem_of_lookup (hkY x hx)), (fun x c z _ => nomatch z), I2.ok.hd, I2.ok.frames, .inl rfl, fun b hb => ⟨?_, fun x c e => (f2 b hb).2.2.2.2.1 x c (cl1 x c e)⟩,
      fun b o e => I2.bs b o e, Nat.le_trans I2.ok.bsz I2.sz, fun b o e hb => ?_, fun b hb z => ?_, I2.stack, I2.stkFree⟩
    · exact Nat.ne_of_lt (Nat.lt_of_lt_of_le (fpl b hb) hCle)
    · rcases (f2 b hb).2.2.2.1 with z | z
      · exact I2.ok.noex b o e z
      · exact absurd (Nat.lt_of_lt_of_le (Heap.lt_size e) (Nat.le_trans I2.ok.bsz z)) (Nat.lt_irrefl _)
    · rcases List.mem_cons.mp (I2.stkSub b z) with e | e
      · exact (f2 b hb).2.1 e
      · exact (f2 b hb).2.2.1 e
  have σYl : σY.length = Y.N.length := by
    show (compSt own.length (fr.map (·.2)) σ).length = (own ++ fr.map (·.1)).length
    unfold compSt
    rw [List.length_append, List.length_append, List.length_replicate, List.length_map, List.length_map, List.length_map]
  have lookY : ∀ (h : Heap) (m : Str → Option Value), (∀ c v, (∃ x, X.env.cells.lookup x = some c) → s2.heap.IsCell c v → h.IsCell c v) → ∀ (i : Nat) (x : Str) (v : V), Y.N[i]? = some x → σY[i]? = some (some v) → Vis Y.env.scope x → ∃ u, RelV v u ∧ Look Y.env h m x u := by
    intro h m hcells i x v hN hσ hv
    have hN : (own ++ fr.map (·.1))[i]? = some x := hN
    have hσ : (List.replicate own.length none ++ (fr.map (·.2)).map fun j => (σ[j]?).join)[i]? = some (some v) := hσ
    by_cases hio : i < own.length
    · rw [List.getElem?_append_left (by simpa using hio), List.getElem?_replicate, if_pos hio] at hσ
      cases hσ
    · rw [List.getElem?_append_right (by simpa using hio)] at hσ
      rw [List.getElem?_append_right (by simpa using hio)] at hN
      rw [List.length_replicate] at hσ
      rw [List.getElem?_map] at hN
      rw [List.getElem?_map, List.getElem?_map] at hσ
      cases ep : fr[i - own.length]? with
      | none => rw [ep] at hN; cases hN
      | some p =>
        rw [ep] at hN hσ
        cases hN
        have hσ : (σ[p.2]?).join = some v := Option.some.inj hσ
        obtain ⟨hfree, hXN⟩ := S.fr p (List.mem_of_getElem? ep)
        have hXk : X.env.kindOf p.1 = some .cell := S.free (p.1, .free) (PySem.mem_of_lookup hfree) rfl
        obtain ⟨m', hn', hl'⟩ := I2.loc
        have hσ' : σ[p.2]? = some (some v) := by
          cases e : σ[p.2]? with
          | none => rw [e] at hσ; cases hσ
          | some o => rw [e] at hσ; cases o with
            | none => cases hσ
            | some v' => cases hσ; rfl
        obtain ⟨u, r, l⟩ := hl' p.2 p.1 v hXN hσ' (.inr (.inl hXk))
        refine ⟨u, r, ?_⟩
        rcases l with ⟨l, _⟩ | ⟨_, c, hcl, hcell⟩
        · rw [hXk] at l; cases l
        · obtain ⟨c', hc'⟩ := cl2 p.1 (PySem.mem_of_lookup hfree)
          have e2 := cl1 _ _ hc'
          rw [hcl] at e2
          cases e2
          refine .inr ⟨?_, c, hc', hcells c _ ⟨_, hcl⟩ hcell⟩
          rcases hv with z | z | z
          · obtain ⟨k, e1, e3⟩ := relabel_lookup z
            rw [hfree] at e1
            cases e1
            rcases e3 with e3 | ⟨_, e3⟩
            · exact .inr (by cases e3)
            · exact .inr (by cases e3)
          · exact .inl z
          · exact .inr z
  have IY : Inv Y [(D, LCg.lst [])] σY H2 { s2 with heap := h₁, toks := s2.toks + ([] : List (Str × Value)).length } := by
    refine ⟨okY, rfl, I2.bare, Un.kept old, ⟨_, hns₁, lookY _ _ fun c v _ ⟨o, e, d⟩ => ⟨o, old c o e, d⟩⟩, fun x c e => ?_, I2.hok.fresh hCle, fun x c e => I2.freeC x c (cl1 x c e), fun p hp => ?_, I2.hok.kept old, σYl⟩
    · obtain ⟨v, o, e1, d⟩ := I2.cell x c (cl1 x c e)
      exact ⟨v, o, old c o e1, d⟩
    · have hp : p ∈ [(D, LCg.lst [])] := by simpa [Y, cxComp] using hp
      rw [List.mem_singleton.mp hp]
      exact ⟨hacc, I2.hok.fresh (Nat.le_refl _), hDC, nfs _ (Nat.le_refl _), fun v z => nomatch z⟩
  have stat : ∀ {us : List Value} {H' : Hp}, (∀ b ∈ fp, H' b = none) → ∀ b ∈ fp, FpOk Y [(D, LCg.lst us)] H' b := fun {us H'} hn b hb => by
    refine ⟨hn b hb, Nat.ne_of_lt (Nat.lt_of_lt_of_le (fpl b hb) hCle), fun z => ?_, .inl hb, fun x c e => (f2 b hb).2.2.2.2.1 x c (cl1 x c e), fun p hp => ?_⟩
    · exact okY.exfs b hb z
    · have hp : p ∈ [(D, LCg.lst us)] := by simpa [Y, cxComp] using hp
      rw [List.mem_singleton.mp hp]
      exact fun z => absurd (fpl b hb) (by rw [← z]; exact Nat.lt_irrefl _)
  have loop : ∀ s₃ : Shared, s₃ = { s2 with heap := h₁, toks := s2.toks + ([] : List (Str × Value)).length } →
      codeAny (model X.prog X.w) X.A (.compLoop (.ListComp elt [⟨tg, iter, ifs, 0⟩] scope pos) 0 (.ref it) (.ref s2.heap.objs.size) (compEnvC scope cl Hh.objs.size X.env))
        (RR (.ref s2.heap.objs.size) Hh.objs.size) s₃ := by
    rintro s₃ rfl
    refine compLoopG (fun n s' => ∃ i ys us H', Inv Y [(D, LCg.lst us)] σY H' s' ∧ Vals ys us ∧ ys.length ≤ sizeLine ∧ tn i s'.heap ∧ (∀ b ∈ fp, H' b = none) ∧ W i n ys H') ?_ m0
      ⟨0, [], [], H2, IY, .nil, Nat.zero_le _, T.keep _ _ _ st2 fun b _ o e => old b o e, fun b hb => (f2 b hb).1, w0⟩
    rintro n s3 ⟨i, ys, us, H3, I3, rv, hsz, st3, fr3, w3⟩
    rcases turn i n ys H3 w3 with ⟨stop, qn⟩ | ⟨go, hlt, step⟩
    · refine thn (T.done Y rfl rfl rfl hc i _ s3 σY H3 _ I3 (stat fr3) st3 stop) fun r s4 ⟨hr, I4⟩ => ?_
      subst hr
      have pinD := I4.pin (D, LCg.lst us) (List.mem_append_right _ (List.mem_singleton.mpr rfl))
      obtain ⟨mC, hnC, _⟩ := I4.loc
      obtain ⟨oC, esC, epC, hoC, hdC, hxC⟩ := id hnC
      have hDn : H3 D = none := pinD.2.1
      have ag : ∀ b, b < s2.heap.objs.size → (upd H3 D (.lst ys)) b = H3 b := fun b hb => upd_ne (Nat.ne_of_lt hb)
      have hokU : HOk X.prog X.w (upd H3 D (.lst ys)) s4.heap := fun a o e => by
        by_cases ha : a = D
        · subst ha
          rw [upd_same] at e
          cases e
          exact ⟨hsz, us, _, rv, pinD.1⟩
        · rw [upd_ne ha] at e
          refine (I4.hok a o e).stay (fun _ _ _ q => q) (fun b q => ?_) (fun b xs q => ?_)
          · rw [upd_ne (ne_of_none q hDn)]; exact q
          · rw [upd_ne (ne_of_none q hDn)]; exact q
      have IX : Inv X pins σ (upd H3 D (.lst ys)) s4 := I2.call' (ch := fp) I4.os (I4.base.later I2.hok ag fun b o _ e => e) hokU I4.bare fun b hb => ⟨(f2 b hb).2.2.2.1, (f2 b hb).2.1, (f2 b hb).2.2.2.2.1, (f2 b hb).2.2.2.2.2⟩
      have hCn : (upd H3 D (.lst ys)) Hh.objs.size = none := by rw [upd_ne (Ne.symm hDC)]; exact I4.free
      have fC : FpOk X pins (upd H3 D (.lst ys)) Hh.objs.size := I2.fpOk hCle hCn
      refine hRR D Hh.objs.size oC mC s4 H3 ys (qn D hDn) (IX.pins_of fun p hp => ?_) hnC fC
      rcases List.mem_append.mp hp with z | z
      · exact IX.pin p (List.mem_append_right _ z)
      · rw [List.mem_singleton.mp z]
        exact ⟨hoC, hCn, fC.2.1, fC.2.2.1, fun v z => by rw [hdC] at z; cases z⟩
    · refine thn (T.item Y rfl rfl rfl hc i _ s3 σY H3 _ I3 (stat fr3) st3 go) fun r s4 ⟨u, hr, h4⟩ => ?_
      subst hr
      refine thn h4 fun _ s5 ⟨x, H5, I5, r5, y5, st5, fr5⟩ => ?_
      have I5' := I5.pinned (stat fr5) (T.obj _ _ st5)
      refine thn (hg _ _ _ _ _ _ s5 σY H5 x u _ I5' r5 (hk _ _ _ _ (step x H5 y5))) fun _ s6 ⟨σ6, H6, I6, hext, q6⟩ => ?_
      refine thn (hi _ _ _ _ _ _ s6 σ6 H6 _ I6 q6) fun b s7 ⟨H7, I7, q7⟩ => ?_
      have back : ∀ {s8 : Shared} {H8 : Hp} {us8 : List Value}, Inv Y ([(D, LCg.lst us8)] ++ pinsAt fp s5.heap) σ6 H8 s8 → Inv Y [(D, LCg.lst us8)] σY H8 s8 ∧ tn (i + 1) s8.heap ∧ ∀ b ∈ fp, H8 b = none := fun {s8 H8 us8} I8 => by
        refine ⟨I8.unpinned.weak (σYl.trans I8.len.symm) fun j v hj => ?_, T.keep _ _ _ st5 fun b hb o e => (I8.pin (b, o) (List.mem_append_right _ (List.mem_append_right _ (mem_pinsAt hb e)))).1, fun b hb => ?_⟩
        · have hjo : own.length ≤ j := by
            rcases Nat.lt_or_ge j own.length with z | z
            · have hj : (List.replicate own.length none ++ (fr.map (·.2)).map fun j => (σ[j]?).join)[j]? = some (some v) := hj
              rw [List.getElem?_append_left (by simpa using z), List.getElem?_replicate, if_pos z] at hj
              cases hj
            · exact z
          rw [hext j hjo]
          exact hj
        · obtain ⟨o, e, d⟩ := T.obj _ _ st5 b hb
          exact (I8.pin (b, o) (List.mem_append_right _ (List.mem_append_right _ (mem_pinsAt hb e)))).2.1
      cases b with
      | false =>
        rw [if_neg Bool.false_ne_true] at q7 ⊢
        obtain ⟨m', hm, w7⟩ := q7
        obtain ⟨I8, t8, f8⟩ := back I7
        exact ⟨m', hm, i + 1, ys, us, H7, I8, rv, hsz, t8, f8, w7⟩
      | true =>
        rw [if_pos rfl] at q7 ⊢
        refine thn (he _ _ _ _ _ _ s7 σ6 H7 _ I7 q7) fun vy s8 ⟨y, H8, I8, ry, m', hm, w8⟩ => ?_
        have pinD := I8.pin (D, LCg.lst us) (List.mem_append_right _ (List.mem_append_left _ (List.mem_singleton.mpr rfl)))
        refine append_at (hsz := by rw [List.size_toArray, ← rv.length]; exact hsz) pinD.1 fun h₅ hs₅ hD₅ => ?_
        have hD₅' : h₅.get? D = some (LCg.lst (us ++ [vy])) := hD₅.trans (congrArg some (LCg.lst_snoc us vy))
        have Ia : Inv Y (pinsAt fp s5.heap) σ6 H8 s8 := I8.pins_of fun p hp => I8.pin p (List.mem_append_right _ (List.mem_append_right _ hp))
        have Ib : Inv Y (pinsAt fp s5.heap) σ6 H8 { s8 with heap := h₅ } := Ia.turned (it := D) (t' := s8.toks) (fun b o hb e => hs₅.extBut b o hb e) pinD.2.1 hDC (.inr (Nat.le_refl _))
          (fun x c e z => by
            obtain ⟨v, q⟩ := I2.cell x c (cl1 x c e)
            exact absurd q.lt (by rw [z]; exact Nat.lt_irrefl _))
          (fun p hp => by
            have hp : p ∈ pinsAt fp s5.heap := by simpa [Y, cxComp] using hp
            exact fun z => absurd (fpl p.1 (of_pinsAt hp).1) (by rw [z]; exact Nat.lt_irrefl _))
        have Ic : Inv Y ([(D, LCg.lst (us ++ [vy]))] ++ pinsAt fp s5.heap) σ6 H8 { s8 with heap := h₅ } := Ib.pins_of fun p hp => by
          rcases List.mem_append.mp hp with z | z
          · rw [List.mem_singleton.mp z]
            exact ⟨hD₅', pinD.2.1, hDC, nfs _ (Nat.le_refl _), fun v z => nomatch z⟩
          · exact Ib.pin p (List.mem_append_right _ z)
        obtain ⟨I9, t9, f9⟩ := back Ic
        exact ⟨m', hm, i + 1, ys ++ [y], us ++ [vy], H8, I9, rv.append (.cons ry .nil), by rw [List.length_append, List.length_singleton]; omega, t9, f9, w8⟩
  exact codeAny_compStart_list (loop _ rfl) (T.self X.A 0 _ _ _ (T.keep _ _ _ st2 fun b _ o e => old b o e) (loop _ rfl))

theorem comp_cells {own : List Str} {fr : List (Str × Nat)} {pins : List (Addr × Obj)} {s : Shared} {σ : St} {H : Hp} (S : CompOk X scope own fr) (I : Inv X pins σ H s) : ∀ y ∈ scope.names, y.2 = .free → ∃ c, X.env.cells.lookup y.1 = some c :=
  fun y hy e => I.ok.has y.1 (.inl (S.free y hy e))

/-- [e for x in it if c]: as a value -/
theorem pe_comp (own : List Str) (fr : List (Str × Nat)) (hc : X.calm = true) (S : CompOk X scope own fr) (hit : PI X tg iter wi)
    (hg : ∀ s2 H2 fp cl C, PG (cxComp X s2 H2 fp (own ++ fr.map (·.1)) scope cl C) tg g) (hk : GKeep own.length g)
    (hi : ∀ s2 H2 fp cl C, PIfs (cxComp X s2 H2 fp (own ++ fr.map (·.1)) scope cl C) ifs tc) (he : ∀ s2 H2 fp cl C, PE (cxComp X s2 H2 fp (own ++ fr.map (·.1)) scope cl C) elt te)
    (hs : ∀ x, foldedSetIterable iter X.env x = pure x := by intro _; rfl) :
    PE X (.ListComp elt [⟨tg, iter, ifs, 0⟩] scope pos) (tComp own.length (fr.map (·.2)) wi g tc te) := by
  intro pins s σ H Q I h
  obtain ⟨cl, hclos, cl1, cl2⟩ := closure_ex (comp_cells S I)
  rw [eval_ListComp]
  refine wpAny_comprehension_free (use := none) rfl hs hclos S.kind S.loc (thn (hit pins s σ H _ I h) fun v s1 h1 => thn h1 fun itv s2 h2 => ?_)
  obtain ⟨it, fp, tn, J, H2, e, I2, T, st2, f2, W, ⟨m0, w0⟩, turn⟩ := h2
  subst e
  refine comp_core (RR := fun acc C => compPost (model X.prog X.w) X.A X.xe none (EP X pins σ Q) acc C) (Fin := fun D ys H => Q (.ref D) (upd H D (.lst ys))) hc S cl1 cl2 hg hk hi he I2 T st2 f2 w0 turn ?_
  intro D C oC mC s4 H4 ys fin IC hn fC
  refine ⟨mC, hn, fun h' hs' => ⟨.ref D, _, ?_, rfl, fin⟩⟩
  exact IC.unpinned.turned (t' := s4.toks) (fun b o hb e => hs'.extBut b o hb e) fC.1 fC.2.1 fC.2.2.2.1 fC.2.2.2.2.1 fC.2.2.2.2.2

/-- x = [e for .. in it if c] -/
def tSetComp (j k : Nat) (js : List Nat) (wi : TI) (g : TG) (tc : TT) (te : TE) : TS := fun D σ H => tComp k js wi g tc te σ H fun v H' => D.nx (σ.set j (some v)) H'
theorem ps_setComp {j : Nat} {y : Str} {py spos : Pos} (own : List Str) (fr : List (Str × Nat)) (hN : X.N.Nodup) (hj : X.N[j]? = some y) (hy : Loc X.env.scope y) (hc : X.calm = true) (S : CompOk X scope own fr) (hit : PI X tg iter wi)
    (hg : ∀ s2 H2 fp cl C, PG (cxComp X s2 H2 fp (own ++ fr.map (·.1)) scope cl C) tg g) (hk : GKeep own.length g)
    (hi : ∀ s2 H2 fp cl C, PIfs (cxComp X s2 H2 fp (own ++ fr.map (·.1)) scope cl C) ifs tc) (he : ∀ s2 H2 fp cl C, PE (cxComp X s2 H2 fp (own ++ fr.map (·.1)) scope cl C) elt te)
    (hsw : swapsWith (.ListComp elt [⟨tg, iter, ifs, 0⟩] scope pos) (some (.Name y py)) spos.line X.env = pure true := by rfl)
    (hs : ∀ x, foldedSetIterable iter X.env x = pure x := by intro _; rfl)
    (hf : X.fn y = true ∨ X.env.scope.names.lookup y = some .local := by first | exact .inl rfl | exact .inr rfl | assumption) :
    PS X (.Assign [.Name y py] (.ListComp elt [⟨tg, iter, ifs, 0⟩] scope pos) spos) (tSetComp j own.length (fr.map (·.2)) wi g tc te) := by
  intro pins s σ H Dn I h
  obtain ⟨cl, hclos, cl1, cl2⟩ := closure_ex (comp_cells S I)
  rw [exec_Assign_Name_used _ _ _ _ hsw]
  refine wpAny_bind (wpAny_standAt (wpAny_bind ?_))
  show wpAny _ X.A (do let _ ← comprehension (.ListComp elt [⟨tg, iter, ifs, 0⟩] scope pos) scope X.env _ (newList []) false (eval iter X.env) (some (assign (.Name y py) X.env))) _ _ s
  refine wpAny_bind (wpAny_mono (wpAny_comprehension_free (use := some (assign (.Name y py) X.env)) (Q := fun _ s' => SP X pins Dn .next s') rfl hs hclos S.kind S.loc
    (thn (hit pins s σ H _ I h) fun v s1 h1 => thn h1 fun itv s2 h2 => ?_)) (fun _ s' hq => wpAny_pure (wpAny_pure hq)) fun _ _ e => e)
  obtain ⟨it, fp, tn, J, H2, e, I2, T, st2, f2, W, ⟨m0, w0⟩, turn⟩ := h2
  subst e
  refine comp_core (RR := fun acc C => compPost (model X.prog X.w) X.A X.xe (some (assign (.Name y py) X.env)) (fun _ s' => SP X pins Dn .next s') acc C) (Fin := fun D ys H => Dn.nx (σ.set j (some (.ref D))) (upd H D (.lst ys))) hc S cl1 cl2 hg hk hi he I2 T st2 f2 w0 turn ?_
  intro D C oC mC s4 H4 ys fin IC hn fC
  show wpAny _ X.A (assign (.Name y py) X.env (.ref D)) _ _ _
  refine wpAny_assign_Name (store_ok (v := .ref D) IC hN hj hy rfl (fun s5 I5 => ?_) hf)
  have pC := I5.pin (C, oC) (List.mem_append_right _ (List.mem_append_right _ (List.mem_singleton.mpr rfl)))
  have pC4 := IC.pin (C, oC) (List.mem_append_right _ (List.mem_append_right _ (List.mem_singleton.mpr rfl)))
  refine ⟨mC, hn.at' fun o e => ?_, fun h' hs' => ⟨_, _, ?_, fin⟩⟩
  · have e' := pC4.1
    rw [e] at e'
    cases e'
    exact pC.1
  · exact I5.unpinned.turned (t' := s5.toks) (fun b o hb e => hs'.extBut b o hb e) fC.1 fC.2.1 fC.2.2.2.1 fC.2.2.2.2.1 fC.2.2.2.2.2
end

end L2
end

section
set_option Elab.async false
set_option linter.all false
set_option maxRecDepth 100000
set_option maxHeartbeats 4000000
namespace L2
open PySem PySem.Spec PyProof.Rows
section
variable {X : Cx} {pins : List (Addr × Obj)} {σ : St} {H H' : Hp} {s : Shared} {h' : Heap}
/-- several untracked records of ours have turned, new objects may have come and be tracked -/
theorem Inv.turnedL {its : List Addr} {t' : Nat} (I : Inv X pins σ H s) (hf : ∀ b ∈ its, FpOk X pins H b) (k : ∀ b o, b ∉ its → s.heap.get? b = some o → h'.get? b = some o)
    (ag : ∀ b, b < s.heap.objs.size → H' b = H b) (hok : HOk X.prog X.w H' h') : Inv X pins σ H' { s with heap := h', toks := t' } := by
  refine I.step (g' := s.gens) (d' := s.drawn) (ch := its) (fun b hb => ⟨(hf b hb).2.2.2.1, (hf b hb).2.1, (hf b hb).2.2.2.2.1, (hf b hb).2.2.2.2.2⟩) (fun b o _ _ hc e _ => k b o hc e) (fun b o _ _ hc e _ => ⟨o.slots, k b o hc e⟩)
    (fun b o _ e n => by rw [ag b (Heap.lt_size e)]; exact n) (fun b o hc e => ⟨o, k b o hc e⟩) (fun b xs e => by rw [ag b (I.hok.lt e)]; exact e) (fun b o u e => by rw [ag b (I.hok.lt e)]; exact e)
    (fun b ps e => ⟨#[], by rw [ag b (I.hok.lt e), e]; simp⟩) (fun m hm => ?_) hok I.bare
  obtain ⟨o, es, ep, ho, r⟩ := hm
  exact ⟨o, es, ep, k _ o (fun z => (hf _ z).2.1 rfl) ho, r⟩
theorem HOk.turned {its : List Addr} (ok : HOk X.prog X.w H s.heap) (hf : ∀ b ∈ its, H b = none) (k : ∀ b o, b ∉ its → s.heap.get? b = some o → h'.get? b = some o) : HOk X.prog X.w H h' := fun b u e => by
  refine (ok b u e).stay (fun c v hc q => k c v (fun z => ?_) q) (fun _ q => q) fun _ _ q => q
  rcases hc with y | y
  · rw [← y, hf c z] at e; cases e
  · rw [hf c z] at y; cases y
theorem HOk.turnedNew {its : List Addr} {T : Addr} {o : HO} (ok : HOk X.prog X.w H s.heap) (hf : ∀ b ∈ its, H b = none) (k : ∀ b o, b ∉ its → s.heap.get? b = some o → h'.get? b = some o) (hT : s.heap.objs.size ≤ T)
    (new : ObjOk X.prog X.w (upd H T o) h' T o) : HOk X.prog X.w (upd H T o) h' := fun b u e => by
  by_cases hb : b = T
  · subst hb
    rw [upd_same] at e
    cases e
    exact new
  · rw [upd_ne hb] at e
    have hn : H T = none := ok.fresh hT
    refine (HOk.turned (s := s) ok hf k b u e).stay (fun _ _ _ q => q) (fun c q => ?_) fun c xs q => ?_
    · rw [upd_ne (ne_of_none q hn)]; exact q
    · rw [upd_ne (ne_of_none q hn)]; exact q
end

/-! ### zip of two lists, enumerate of a list, into two names -/
def Ite (K : PySem.W.Frag) (l : Addr) : It :=
  ⟨fun i H => ∃ xs x, SqL K H l xs ∧ xs[i]? = some x,
   fun i H v H' => ∃ T x, v = .ref T ∧ H T = none ∧ H' = upd H T (.tup [.int i, x]) ∧ ∀ xs, SqL K H l xs → xs[i]? = some x,
   fun i H => ∃ xs, SqL K H l xs ∧ xs.length ≤ i⟩
theorem turn_enum {P : Program} {w : World} {K : PySem.W.Frag} {elts : List Expr} {x1} {tp : Pos} {e it l : Addr} (hei : e ≠ it) :
    Turn P w K (.Tuple elts x1 tp) (Ite K l) [e, it] e (fun i h => (∃ old, IsEnum h e it i old) ∧ h.IsListIter it l i) where
  mem := by simp
  obj := fun i h ⟨⟨old, h1⟩, h4⟩ c hc => by
    simp only [List.mem_cons, List.mem_nil_iff, or_false] at hc
    rcases hc with rfl | rfl
    · exact ⟨_, h1, fun v z => nomatch z⟩
    · obtain ⟨o, e, c, d⟩ := h4
      exact ⟨o, e, fun v z => by rw [d] at z; cases z⟩
  keep := fun i h h' ⟨⟨old, h1⟩, h4⟩ k => ⟨⟨old, k _ (by simp) _ h1⟩, h4.at fun o e => k _ (by simp) o e⟩
  item := by
    intro X hP hw hK hc i pins s σ H E I hf st hg
    subst hP hw hK
    obtain ⟨⟨old, h1⟩, h4⟩ := st
    obtain ⟨xs, x, q1, e1⟩ := hg
    obtain ⟨its1, rv1, p1, hz1⟩ := I.list q1
    obtain ⟨u, hu, ru⟩ := rv1.get e1
    refine wpAny_pyNext_enum_item h1 h4 p1.isList (x := u) (by simpa using hu) hei fun h' a1 a3 a5 a6 a7 => ?_
    refine ⟨_, rfl, wpAny_letOwnedTupleGo_enum (s := { s with heap := h', toks := s.toks + 1 }) a1 fun h'' b1 b2 => ?_⟩
    have b2 : Heap.SameBut e h' h'' := b2
    have zl : e < s.heap.objs.size := Heap.lt_size h1
    have Tz : s.heap.objs.size ≠ e := Nat.ne_of_gt zl
    have k : ∀ b o, b ∉ [e, it] → s.heap.get? b = some o → h''.get? b = some o := fun b o hb q => by
      simp only [List.mem_cons, List.mem_nil_iff, or_false, not_or] at hb
      exact b2.extBut b o hb.1 (a7 b o hb.1 hb.2 q)
    have pT : h''.get? s.heap.objs.size = some { cls := .type "tuple", data := .seq #[.int i s.toks, u] } := b2.extBut _ _ Tz a5
    have hn : H s.heap.objs.size = none := I.hok.fresh (Nat.le_refl _)
    have fpl : ∀ b ∈ [e, it], s.heap.objs.size ≠ b := fun b hb => by
      simp only [List.mem_cons, List.mem_nil_iff, or_false] at hb
      rcases hb with rfl | rfl
      · exact Tz
      · obtain ⟨o, q, _⟩ := h4; exact Nat.ne_of_gt (Heap.lt_size q)
    have hok : HOk X.prog X.w (upd H s.heap.objs.size (.tup [.int i, x])) h'' := HOk.turnedNew (s := s) I.hok (fun b hb => (hf b hb).1) k (Nat.le_refl _) ⟨(by show 2 ≤ sizeLine; decide), [.int i s.toks, u], .cons ⟨_, rfl⟩ (.cons ru .nil), _, pT, rfl, _, rfl⟩
    have I1 : Inv X pins σ (upd H s.heap.objs.size (.tup [.int i, x])) { s with heap := h'', toks := s.toks + 1 } := I.turnedL (t' := s.toks + 1) hf k (fun b hb => upd_ne (Nat.ne_of_lt hb)) hok
    refine ⟨.ref s.heap.objs.size, _, I1, rfl, ⟨_, x, rfl, hn, rfl, fun zs hz => by rw [I.list_inj hz q1]; exact e1⟩, ?_, fun b hb => by rw [upd_ne (Ne.symm (fpl b hb))]; exact (hf b hb).1⟩
    exact ⟨⟨_, b1⟩, a3.extBut b2.extBut hei.symm⟩
  done := by
    intro X hP hw hK hc i pins s σ H E I hf st hg
    subst hP hw hK
    obtain ⟨⟨old, h1⟩, h4⟩ := st
    obtain ⟨xs, q1, hx⟩ := hg
    obtain ⟨its1, rv1, p1, hz1⟩ := I.list q1
    have l1 := rv1.length
    refine wpAny_pyNext_enum_end (I.ok.hd hc) h1 h4 p1.isList (by simp; omega) fun h' a7 => ?_
    have k : ∀ b o, b ∉ [e, it] → s.heap.get? b = some o → h'.get? b = some o := fun b o hb q => by
      simp only [List.mem_cons, List.mem_nil_iff, or_false, not_or] at hb
      exact a7 b o hb.2 q
    exact ⟨rfl, I.turnedL (t' := s.toks) hf k (fun _ _ => rfl) (HOk.turned (s := s) I.hok (fun b hb => (hf b hb).1) k)⟩
  self := fun _ _ _ _ _ st h => by
    obtain ⟨⟨old, h1⟩, _⟩ := st
    refine wpAny_pyIter_slot (T := "enumerate") ⟨_, h1, rfl⟩ F.slot_enumerate_iter (wpAny_call_entry F.slot_enumerate_iter ⟨_, h1, rfl⟩ F.entry_enumerate_iter ?_ (F.args_enumerate_iter_1 _))
    show wpAny _ _ (ret (.ref _)) _ _ _
    exact wpAny_pure ⟨_, rfl, "enumerate", _, ⟨_, h1, rfl⟩, F.slot_enumerate_next.lookup, h⟩
section
variable {X : Cx}
def iEnum (K : PySem.W.Frag) (ta : TA) : TI := fun σ H R => ta σ H fun vs H1 => ∃ l, vs = [.ref l] ∧ (∃ xs, SqL K H1 l xs) ∧ R (Ite K l) H1
theorem pi_enum {elts : List Expr} {x1} {tp : Pos} {a : Expr} {ta : TA} {p pos : Pos} (hg : Gl X "enumerate") (hm : X.mg "enumerate" = none) (ha : PA X [a] ta) (hs : starEach [a] X.env = [(false, eval a X.env)] := by rfl) :
    PI X (.Tuple elts x1 tp) (.Call (.Name "enumerate" p) [a] [] pos) (iEnum X.K ta) := by
  intro pins s σ H R I h
  refine Call_ (ld_blt I hg hm boot_enumerate (PyProof.Rows.callWith_type1 (thn (ha pos pins s σ H _ I h) fun us s1 ⟨vs, H1, I1, r1, q1⟩ => ?_) hs rfl))
  obtain ⟨l, e, ⟨xs, hx⟩, q⟩ := q1
  subst e
  obtain ⟨u, rfl, ru⟩ := r1.one
  cases ru
  obtain ⟨its1, rv1, p1, hz1⟩ := I1.list hx
  refine call_enumerate_list p1.isList fun h' a1 a4 a6 a7 => ?_
  have I2 : Inv X pins σ H1 { s1 with heap := h' } := I1.kept (t' := s1.toks) a7
  have T := turn_enum (P := X.prog) (w := X.w) (K := X.K) (elts := elts) (x1 := x1) (tp := tp) (e := s1.heap.objs.size + 1) (it := s1.heap.objs.size) (l := l) (Nat.ne_of_gt (Nat.lt_succ_self _))
  refine T.self X.A 0 { s1 with heap := h' } _ _ ⟨⟨_, a1⟩, a4⟩ ?_
  refine ⟨_, _, _, _, H1, rfl, I2, T, ⟨⟨_, a1⟩, a4⟩, fun b hb => ?_, q⟩
  have hb : s1.heap.objs.size ≤ b := by
    simp only [List.mem_cons, List.mem_nil_iff, or_false] at hb
    rcases hb with rfl | rfl
    · exact Nat.le_add_right _ 1
    · exact Nat.le_refl _
  exact I1.fpOk hb (I1.hok.fresh hb)
end
theorem for_enum {K : PySem.W.Frag} {l : Addr} {xs : List V} {g : TG} {tb : TS} {D : Ends} {σ : St} {H : Hp} (Pv : Nat → St → Hp → Prop) (h0 : Pv 0 σ H) (hl : ∀ i σ H, i ≤ xs.length → Pv i σ H → SqL K H l xs)
    (hs : ∀ i x T σ H, xs[i]? = some x → Pv i σ H → H T = none → g (.ref T) σ (upd H T (.tup [.int i, x])) fun σ2 H2 => tb { D with nx := Pv (i + 1), ct := Pv (i + 1), bk := D.nx } σ2 H2) (hd : ∀ σ H, Pv xs.length σ H → D.nx σ H) :
    ∃ W : Nat → Nat → St → Hp → Prop, (∃ m, W 0 m σ H) ∧ ∀ i m σ H, W i m σ H →
      ((Ite K l).stop i H ∧ D.nx σ H) ∨ ((Ite K l).go i H ∧ ∃ N : St → Hp → Prop, (∀ σ' H', N σ' H' → ∃ m', m' < m ∧ W (i + 1) m' σ' H') ∧ ∀ x H', (Ite K l).yld i H x H' → g x σ H' fun σ2 H2 => tb { D with nx := N, ct := N, bk := D.nx } σ2 H2) := by
  refine ⟨fun i m σ H => m = xs.length - i ∧ i ≤ xs.length ∧ Pv i σ H, ⟨xs.length, by simp, Nat.zero_le _, h0⟩, ?_⟩
  rintro i m σ H ⟨rfl, hi, p⟩
  have q1 := hl i σ H hi p
  by_cases hlt : i < xs.length
  · refine .inr ⟨⟨xs, xs[i], q1, by simp [hlt]⟩, Pv (i + 1), fun σ' H' p' => ⟨xs.length - (i + 1), by omega, rfl, hlt, p'⟩, fun x H' y => ?_⟩
    obtain ⟨T, a, rfl, hT, rfl, y1⟩ := y
    exact hs i a T σ H (y1 xs q1) p hT
  · have e : i = xs.length := by omega
    subst e
    exact .inl ⟨⟨xs, q1, Nat.le_refl _⟩, hd σ H p⟩
end L2
end

section
set_option Elab.async false
set_option linter.all false
set_option maxRecDepth 100000
set_option maxHeartbeats 4000000
namespace L2
open PySem PySem.Spec PyProof.Rows
/-! ### data of texts, ints and tuples, and how an abstract heap bears it -/
inductive Nd where
  | s (x : Str)
  | i (n : Int)
  | t (xs : List Nd)
mutual
def At (H : Hp) : Nd → V → Prop
  | .s x, v => v = .str x
  | .i n, v => v = .int n
  | .t xs, v => ∃ a vs, v = .ref a ∧ H a = some (.tup vs) ∧ AtL H xs vs
def AtL (H : Hp) : List Nd → List V → Prop
  | [], vs => vs = []
  | x :: xs, vs => ∃ v r, vs = v :: r ∧ At H x v ∧ AtL H xs r
end
/-- tuples stay -/
def Tp (H H' : Hp) : Prop := ∀ b xs, H b = some (.tup xs) → H' b = some (.tup xs)
theorem same_new {H : Hp} {p : Addr} (h : H p = none) (o : HO) : Same H (upd H p o) := fun b u q => by rw [upd_ne (ne_of_none q h)]; exact q
/-- what stood ahead stays, though a younger one is rewritten -/
theorem Same.young {H H1 : Hp} {p : Addr} (g : Same H H1) (h : H p = none) (o : HO) : Same H (upd H1 p o) := fun b u q => by rw [upd_ne (ne_of_none q h)]; exact g b u q
mutual
theorem At.mono {H H' : Hp} (T : Tp H H') : ∀ {n : Nd} {v : V}, At H n v → At H' n v
  | .s x, v, h => h
  | .i n, v, h => h
  | .t xs, v, h => by
    obtain ⟨a, vs, e, q, r⟩ := h
    exact ⟨a, vs, e, T a vs q, AtL.mono T r⟩
theorem AtL.mono {H H' : Hp} (T : Tp H H') : ∀ {xs : List Nd} {vs : List V}, AtL H xs vs → AtL H' xs vs
  | [], vs, h => h
  | x :: xs, vs, h => by
    obtain ⟨v, r, e, q, l⟩ := h
    exact ⟨v, r, e, At.mono T q, AtL.mono T l⟩
end
/-! ### the tuples of a datum -/
mutual
/-- its tuples as every_part tells them: itself, then those of its last item, .. -/
def pre : Nd → List Nd
  | .t xs => .t xs :: preL xs
  | .s _ => []
  | .i _ => []
def preL : List Nd → List Nd
  | [] => []
  | x :: r => preL r ++ pre x
end
def cnt (n : Nd) : Nat := (pre n).length
theorem small {n : Nat} (h : n ≤ 1000) : n ≤ sizeLine := Nat.le_of_lt (small1000 h)
/-- an index from the end -/
theorem atI_neg1 {α : Type} {xs : List α} {v : α} (h : xs[xs.length - 1]? = some v) : atI xs (-1) = some v := by
  have hl : 0 < xs.length := by
    rcases Nat.eq_zero_or_pos xs.length with z | z
    · rw [List.length_eq_zero_iff.mp z] at h; simp at h
    · exact z
  unfold atI ixN
  rw [if_neg (by omega), if_pos (by omega)]
  show xs[((-1 : Int) + xs.length).toNat]? = some v
  rw [show ((-1 : Int) + (xs.length : Int)).toNat = xs.length - 1 by omega]
  exact h
/-! ### items of written tables, chains of new objects -/
theorem new2 {H : Hp} {p q : Addr} {a b : HO} (h : H p = none) (h2 : (upd H p a) q = none) : Same H (upd (upd H p a) q b) ∧ (upd (upd H p a) q b) p = some a ∧ (upd (upd H p a) q b) q = some b :=
  ⟨(same_new h a).trans (same_new h2 b), same_new h2 b _ _ upd_same, upd_same⟩
end L2
end

section
set_option Elab.async false
set_option linter.all false
set_option maxRecDepth 100000
set_option maxHeartbeats 4000000
namespace L2
open PySem PySem.Spec PyProof.Rows
/-! ### defs of the text by name -/
def FunM (K : PySem.W.Frag) (mg : Str → Option Value) (x : Str) (ps : List Str) (st : Stmt) : Prop := ∃ f fd, Fun K x x st f fd ∧ mg x = some (.ref f) ∧ Binds K fd ps []
def Callee (P : Program) (w : World) (K : PySem.W.Frag) (mg : Str → Option Value) (base : Heap) (k : Nat) (x : Str) (ps : List Str) (sp : Sp) : Prop :=
  ∃ f fd, FnOk P w K mg base CX0 k f fd ps sp ∧ Binds K fd ps [] ∧ PySem.W.keepIn K (.ref f) = true ∧ mg x = some (.ref f)
section
variable {P : Program} {w : World} {K : PySem.W.Frag} {mg : Str → Option Value} {base : Heap}
theorem FunM.ok {x : Str} {st : Stmt} {N ps : List Str} {k : Nat} {sp : Sp} (F : FunM K mg x ps st) (S : FnScope N ps (defScope st)) (len : ∀ vs H Q E, sp vs H Q E → vs.length = ps.length)
    (hbody : ∀ (f : Addr) (cdv : Value) (A : Around) (outer : List Env) (s : Shared) (H : Hp) (vs : List V) (Q : VK) (E : XK), Room k (A.deeper (envOfC x (defScope st) s.heap.objs.size f cdv)) → sp vs H Q E →
      ∃ t, PSs (cxOf CX0 P w K mg base N x (defScope st) f cdv A outer s H E).nox (defBody st) t ∧ t { nx := fun _ H' => Q .non H', rt := Q } (start N vs) H) : Callee P w K mg base (k + 1) x ps sp := by
  obtain ⟨f, fd, F, m, b⟩ := F
  exact ⟨f, fd, F.ok S len (hbody f), b, F.kp, m⟩
end
section
variable {X : Cx} {x : Str} {p pos : Pos} {e : Expr} {es : List Expr} {t : TA} {k j : Nat} {ps : List Str} {sp : Sp} {E : XK}
theorem pe_callC (C : Callee X.prog X.w X.K X.mg X.base j x ps sp) (hr : Room k X.A) (hg : Gl X x) (hx : Passes CX0 X E) (ha : PA X (e :: es) t) (hj : j ≤ k := by first | decide | omega)
    (hdb : (x == ("__debug__" : Str)) = false := by decide) (he : starEach (e :: es) X.env = (false, eval e X.env) :: starEach es X.env := by rfl) (hpl : (backTo pos (starEach es X.env)).any (·.1) = false := by rfl) :
    PE X (.Call (.Name x p) (e :: es) [] pos) (tCall sp [] E t) := by
  obtain ⟨f, fd, F, b, kp, m⟩ := C
  exact pe_call (F.mono hj) hr hg m kp b .nil hx ha hdb he hpl
end
end L2
end

section
set_option Elab.async false
set_option linter.all false
set_option maxRecDepth 100000
set_option maxHeartbeats 4000000
namespace L2
open PySem PySem.Spec PyProof.Rows
section
variable {X : Cx}
def rLen (K : PySem.W.Frag) : List V → Hp → VK → Prop := fun xs H Q => ∃ p ys, xs = [.ref p] ∧ (SqL K H p ys ∨ SqT K H p ys) ∧ Q (.int ys.length) H
theorem call_lenK : CallR X (.builtin "len") (rLen X.K) := call_len_seq
def rInt1 : List V → Hp → VK → Prop := fun xs H Q => (∃ i, xs = [.int i] ∧ Q (.int i) H) ∨ ∃ k, xs = [.bl k] ∧ Q (.int (if k then 1 else 0)) H
theorem call_intK : CallR X (.type "int") rInt1 := call_int1
/-! ### sorted, any, all; lists of ints compared -/
theorem inV_ints {n : Int} {ns : List Int} : inV (.int n) (ns.map V.int) = decide (n ∈ ns) := by
  unfold inV
  rw [List.any_map]
  by_cases e : n ∈ ns
  · rw [decide_eq_true e, List.any_eq_true]
    exact ⟨n, e, by show (n == n) = true; simp⟩
  · rw [decide_eq_false e]
    refine Bool.eq_false_iff.mpr fun z => e ?_
    rw [List.any_eq_true] at z
    obtain ⟨m, hm, h⟩ := z
    have : (m == n) = true := h
    rw [← eq_of_beq this]
    exact hm
theorem flat_ints (ns : List Int) : (ns.map V.int).all flatV = true := by
  rw [List.all_eq_true]
  intro x hx
  obtain ⟨n, _, rfl⟩ := List.mem_map.mp hx
  rfl
end

/-! ### comprehensions, in the forms one uses -/
/-- what a comprehension's loop asks (J the iterator, k the items' number) -/
abbrev CompW (J : It) (g : TG) (tc : TT) (te : TE) (σY : St) (F : Addr → List V → Hp → Prop) (H : Hp) : Prop :=
  ∃ W : Nat → Nat → List V → Hp → Prop, (∃ m, W 0 m [] H) ∧ ∀ i m ys H, W i m ys H →
      (J.stop i H ∧ ∀ D, H D = none → F D ys H) ∨
      (J.go i H ∧ ys.length < sizeLine ∧ ∀ x H', J.yld i H x H' → g x σY H' fun σ2 H2 => tc σ2 H2 fun b H3 => if b = true then te σ2 H3 fun y H4 => ∃ m', m' < m ∧ W (i + 1) m' (ys ++ [y]) H4 else ∃ m', m' < m ∧ W (i + 1) m' ys H3)
theorem comp_gen {J : It} {k : Nat} {g : TG} {tc : TT} {te : TE} {σY : St} {H : Hp} {F : Addr → List V → Hp → Prop} (Pv : Nat → List V → Hp → Prop) (h0 : Pv 0 [] H) (hz : k ≤ sizeLine)
    (hgo : ∀ i ys H, i < k → Pv i ys H → J.go i H) (hst : ∀ ys H, Pv k ys H → J.stop k H)
    (hs : ∀ i x ys H H' (N : List V → Hp → Prop), i < k → Pv i ys H → J.yld i H x H' → ys.length ≤ i → (∀ ys' H', ys'.length ≤ i + 1 → Pv (i + 1) ys' H' → N ys' H') → g x σY H' fun σ2 H2 => tc σ2 H2 fun b H3 => if b = true then te σ2 H3 fun y H4 => N (ys ++ [y]) H4 else N ys H3)
    (hd : ∀ ys H, ys.length ≤ k → Pv k ys H → ∀ D, H D = none → F D ys H) : CompW J g tc te σY F H := by
  refine ⟨fun i m ys H => m = k - i ∧ i ≤ k ∧ ys.length ≤ i ∧ Pv i ys H, ⟨k, by simp, Nat.zero_le _, Nat.le_refl _, h0⟩, ?_⟩
  rintro i m ys H ⟨rfl, hi, hyl, p⟩
  by_cases hlt : i < k
  · refine .inr ⟨hgo i ys H hlt p, by omega, fun x H' y => ?_⟩
    exact hs i x ys H H' (fun ys' H4 => ∃ m', m' < k - i ∧ m' = k - (i + 1) ∧ i + 1 ≤ k ∧ ys'.length ≤ i + 1 ∧ Pv (i + 1) ys' H4) hlt p y hyl fun ys' H4 l q => ⟨k - (i + 1), by omega, rfl, hlt, l, q⟩
  · have e : i = k := by omega
    subst e
    exact .inl ⟨hst ys H p, hd ys H hyl p⟩
theorem comp_list {K : PySem.W.Frag} {a : Addr} {xs : List V} {g : TG} {tc : TT} {te : TE} {σY : St} {H : Hp} {F : Addr → List V → Hp → Prop} (Pv : Nat → List V → Hp → Prop) (h0 : Pv 0 [] H) (hz : xs.length ≤ sizeLine) (hl : ∀ i ys H, Pv i ys H → SqL K H a xs)
    (hs : ∀ i x ys H (N : List V → Hp → Prop), xs[i]? = some x → Pv i ys H → (∀ ys' H', ys'.length ≤ i + 1 → Pv (i + 1) ys' H' → N ys' H') → ys.length ≤ i → g x σY H fun σ2 H2 => tc σ2 H2 fun b H3 => if b = true then te σ2 H3 fun y H4 => N (ys ++ [y]) H4 else N ys H3)
    (hd : ∀ ys H, ys.length ≤ xs.length → Pv xs.length ys H → ∀ D, H D = none → F D ys H) : CompW (Itl K a) g tc te σY F H :=
  comp_gen Pv h0 hz (fun i ys H hi p => ⟨xs, xs[i], hl i ys H p, by simp [hi]⟩) (fun ys H p => ⟨xs, hl _ ys H p, Nat.le_refl _⟩)
    (fun i x ys H H' N hi p ⟨e, y⟩ hyl k => by subst e; exact hs i x ys _ N (y xs (hl i ys _ p)) p k hyl) hd
theorem comp_tup {K : PySem.W.Frag} {a : Addr} {xs : List V} {g : TG} {tc : TT} {te : TE} {σY : St} {H : Hp} {F : Addr → List V → Hp → Prop} (Pv : Nat → List V → Hp → Prop) (h0 : Pv 0 [] H) (hz : xs.length ≤ sizeLine) (hl : ∀ i ys H, Pv i ys H → SqT K H a xs)
    (hs : ∀ i x ys H (N : List V → Hp → Prop), xs[i]? = some x → Pv i ys H → (∀ ys' H', ys'.length ≤ i + 1 → Pv (i + 1) ys' H' → N ys' H') → ys.length ≤ i → g x σY H fun σ2 H2 => tc σ2 H2 fun b H3 => if b = true then te σ2 H3 fun y H4 => N (ys ++ [y]) H4 else N ys H3)
    (hd : ∀ ys H, ys.length ≤ xs.length → Pv xs.length ys H → ∀ D, H D = none → F D ys H) : CompW (Itt K a) g tc te σY F H :=
  comp_gen Pv h0 hz (fun i ys H hi p => ⟨xs, xs[i], hl i ys H p, by simp [hi]⟩) (fun ys H p => ⟨xs, hl _ ys H p, Nat.le_refl _⟩)
    (fun i x ys H H' N hi p ⟨e, y⟩ hyl k => by subst e; exact hs i x ys _ N (y xs (hl i ys _ p)) p k hyl) hd
theorem comp_range {lo : Int} {n : Nat} {g : TG} {tc : TT} {te : TE} {σY : St} {H : Hp} {F : Addr → List V → Hp → Prop} (Pv : Nat → List V → Hp → Prop) (h0 : Pv 0 [] H) (hz : n ≤ sizeLine)
    (hs : ∀ i ys H (N : List V → Hp → Prop), i < n → Pv i ys H → (∀ ys' H', ys'.length ≤ i + 1 → Pv (i + 1) ys' H' → N ys' H') → ys.length ≤ i → g (.int (lo + i)) σY H fun σ2 H2 => tc σ2 H2 fun b H3 => if b = true then te σ2 H3 fun y H4 => N (ys ++ [y]) H4 else N ys H3)
    (hd : ∀ ys H, ys.length ≤ n → Pv n ys H → ∀ D, H D = none → F D ys H) : CompW (Itr lo n) g tc te σY F H :=
  comp_gen Pv h0 hz (fun i ys H hi p => hi) (fun ys H p => Nat.le_refl _)
    (fun i x ys H H' N hi p ⟨e, y⟩ hyl k => by subst e y; exact hs i ys _ N hi p k hyl) hd
end L2
end

section
set_option Elab.async false
set_option linter.all false
set_option maxRecDepth 100000
namespace L2
open PySem PySem.Spec PyProof.Rows

/-! ### lists of pairs as tables -/
section
variable {κ : Type} [DecidableEq κ]
def valV (kvs : List (κ × V)) (k : κ) : Option V := (kvs.find? fun kv => decide (kv.1 = k)).map (·.2)
/-- in its place, or at the end -/
def putK (kvs : List (κ × V)) (k : κ) (v : V) : List (κ × V) :=
  if (kvs.any fun kv => decide (kv.1 = k)) = true then kvs.map (fun kv => if kv.1 = k then (kv.1, v) else kv) else kvs ++ [(k, v)]
theorem valV_pos {p : κ × V} {r : List (κ × V)} {k : κ} (e : p.1 = k) : valV (p :: r) k = some p.2 := by simp [valV, List.find?_cons, e]
theorem valV_neg {p : κ × V} {r : List (κ × V)} {k : κ} (e : ¬ p.1 = k) : valV (p :: r) k = valV r k := by simp [valV, List.find?_cons, e]
theorem valV_any (k : κ) : ∀ kvs : List (κ × V), (kvs.any fun kv => decide (kv.1 = k)) = (valV kvs k).isSome
  | [] => rfl
  | p :: r => by
    rw [List.any_cons]
    by_cases e : p.1 = k
    · simp only [valV_pos e, decide_eq_true e, Bool.true_or, Option.isSome_some]
    · rw [valV_neg e, decide_eq_false e, Bool.false_or]; exact valV_any k r
theorem valV_map (k j : κ) (y : V) : ∀ kvs : List (κ × V), valV (kvs.map fun kv => if kv.1 = k then (kv.1, y) else kv) j = (valV kvs j).map fun x => if j = k then y else x
  | [] => rfl
  | p :: r => by
    have ih := valV_map k j y r
    rw [List.map_cons]
    by_cases h : p.1 = k
    · rw [if_pos h]
      by_cases e : p.1 = j
      · rw [valV_pos (p := (p.1, y)) e, valV_pos e, Option.map_some, if_pos (e.symm.trans h)]
      · rw [valV_neg (p := (p.1, y)) e, valV_neg e, ih]
    · rw [if_neg h]
      by_cases e : p.1 = j
      · rw [valV_pos (p := p) e, valV_pos e, Option.map_some, if_neg (fun z => h (e.trans z))]
      · rw [valV_neg (p := p) e, valV_neg e, ih]
theorem valV_snoc (k j : κ) (y : V) : ∀ kvs : List (κ × V), valV kvs k = none → valV (kvs ++ [(k, y)]) j = if j = k then some y else valV kvs j
  | [], _ => by
    by_cases e : k = j
    · rw [if_pos e.symm]; exact valV_pos (p := (k, y)) e
    · rw [if_neg (fun z => e z.symm)]; exact valV_neg (p := (k, y)) e
  | p :: r, hn => by
    rw [List.cons_append]
    have hk : ¬ p.1 = k := fun z => by rw [valV_pos z] at hn; cases hn
    rw [valV_neg hk] at hn
    have ih := valV_snoc k j y r hn
    by_cases e : p.1 = j
    · rw [valV_pos e, valV_pos e, if_neg (fun z => hk (e.trans z))]
    · rw [valV_neg e, valV_neg e, ih]
theorem valV_put (kvs : List (κ × V)) (k j : κ) (y : V) : valV (putK kvs k y) j = if j = k then some y else valV kvs j := by
  unfold putK
  by_cases a : (kvs.any fun kv => decide (kv.1 = k)) = true
  · rw [if_pos a, valV_map]
    rw [valV_any] at a
    by_cases e : j = k
    · obtain ⟨x, hx⟩ := Option.isSome_iff_exists.mp a
      rw [if_pos e, e, hx, Option.map_some, if_pos rfl]
    · rw [if_neg e]
      cases valV kvs j with
      | none => rfl
      | some x => rw [Option.map_some, if_neg e]
  · rw [if_neg a]
    refine valV_snoc k j y kvs ?_
    rw [valV_any] at a
    cases q : valV kvs k with
    | none => rfl
    | some x => rw [q] at a; exact (a rfl).elim
theorem length_putK (kvs : List (κ × V)) (k : κ) (v : V) : (putK kvs k v).length ≤ kvs.length + 1 := by
  unfold putK
  split
  · rw [List.length_map]; omega
  · rw [List.length_append, List.length_cons, List.length_nil]; omega
theorem RelO.isSome_eq {o : Option V} {u : Option Value} (r : RelO o u) : o.isSome = u.isSome := by
  cases o with
  | none => cases u with
    | none => rfl
    | some _ => exact (show False from r).elim
  | some _ => cases u with
    | none => exact (show False from r).elim
    | some _ => rfl
/-- raw tables of the same keys -/
theorem KV.val {kvs : List (κ × V)} {vs : List (κ × Value)} (r : KV kvs vs) (k : κ) : RelO (valV kvs k) (valueAt vs k) := by
  unfold KV at r
  induction r with
  | nil => exact True.intro
  | @cons p q ps qs h t ih =>
    obtain ⟨h1, h2⟩ := h
    by_cases e : p.1 = k
    · have e' : q.1 = k := h1.symm.trans e
      have b : valueAt (q :: qs) k = some q.2 := by simp [valueAt, List.find?_cons, e']
      rw [valV_pos e, b]; exact h2
    · have e' : ¬ q.1 = k := fun z => e (h1.trans z)
      have b : valueAt (q :: qs) k = valueAt qs k := by simp [valueAt, List.find?_cons, e']
      rw [valV_neg e, b]; exact ih
theorem KV.any {kvs : List (κ × V)} {vs : List (κ × Value)} (r : KV kvs vs) (k : κ) : (kvs.any fun kv => decide (kv.1 = k)) = vs.any fun kv => decide (kv.1 = k) := by
  unfold KV at r
  induction r with
  | nil => rfl
  | cons h t ih => rw [List.any_cons, List.any_cons, ih, h.1]
theorem KV.repl {kvs : List (κ × V)} {vs : List (κ × Value)} (r : KV kvs vs) (k : κ) {y : V} {u : Value} (ry : RelV y u) :
    KV (kvs.map fun kv => if kv.1 = k then (kv.1, y) else kv) (vs.map fun kv => if kv.1 = k then (kv.1, u) else kv) := by
  unfold KV at r ⊢
  induction r with
  | nil => exact .nil
  | @cons p q ps qs h t ih =>
    rw [List.map_cons, List.map_cons]
    refine .cons ?_ ih
    obtain ⟨h1, h2⟩ := h
    by_cases e : p.1 = k
    · rw [if_pos e, if_pos (h1.symm.trans e)]; exact ⟨h1, ry⟩
    · rw [if_neg e, if_neg (fun z => e (h1.trans z))]; exact ⟨h1, h2⟩
theorem KV.put {kvs : List (κ × V)} {vs : List (κ × Value)} (r : KV kvs vs) (k : κ) {y : V} {u : Value} (ry : RelV y u) : KV (putK kvs k y) (stored vs k u) := by
  unfold putK stored
  rw [r.any k]
  by_cases e : (vs.any fun kv => decide (kv.1 = k)) = true
  · rw [if_pos e, if_pos e]; exact r.repl k ry
  · rw [if_neg e, if_neg e]; exact Paired.snoc r ⟨rfl, ry⟩
theorem KV.length {kvs : List (κ × V)} {vs : List (κ × Value)} (r : KV kvs vs) : kvs.length = vs.length := Paired.length r
end


/-! ### a tracked dict, its keys ints and texts or tuples of these -/
theorem kV_is {P : Program} {w : World} {k : Key} {u : Value} (r : RelV (kV k) u) : (mixKind P w).is k u = true := by
  cases k with
  | inl i => obtain ⟨t, e⟩ := (show ∃ t, u = Value.int i t from r); subst e; exact mixKind_int P w i t
  | inr x => obtain ⟨t, e⟩ := (show ∃ t, u = Value.str x t from r); subst e; exact mixKind_str P w x t
theorem items_are {P : Program} {w : World} : ∀ {ks : List Key} {us : List Value}, Vals (ks.map kV) us → ItemsAre (mixKind P w) ks us
  | [], _, r => by rw [List.map_nil] at r; cases r; exact .nil
  | k :: ks, _, r => by
    rw [List.map_cons] at r
    cases r with
    | cons h t => exact .cons (kV_is h) (items_are t)

/-- raw entries of a dict with tuple keys -/
abbrev KT (H : Hp) : List (List Key × V) → List (List Key × Addr × Value) → Prop := Paired fun p q => p.1 = q.1 ∧ H q.2.1 = some (.tup (p.1.map kV)) ∧ RelV p.2 q.2.2
theorem KT.val {H : Hp} {kvs : List (List Key × V)} {xs : List (List Key × Addr × Value)} (r : KT H kvs xs) (k : List Key) : RelO (valV kvs k) ((atKey xs k).map (·.2)) := by
  induction r with
  | nil => exact True.intro
  | @cons p q ps qs h t ih =>
    obtain ⟨h1, _, h2⟩ := h
    by_cases e : p.1 = k
    · have e' : q.1 = k := h1.symm.trans e
      have b : atKey (q :: qs) k = some q.2 := by simp [atKey, List.find?_cons, e']
      rw [valV_pos e, b]; exact h2
    · have e' : ¬ q.1 = k := fun z => e (h1.trans z)
      have b : atKey (q :: qs) k = atKey qs k := by simp [atKey, List.find?_cons, e']
      rw [valV_neg e, b]; exact ih
theorem KT.repl {H : Hp} {kvs : List (List Key × V)} {xs : List (List Key × Addr × Value)} (r : KT H kvs xs) (k : List Key) {y : V} {u : Value} (ry : RelV y u) :
    KT H (kvs.map fun kv => if kv.1 = k then (kv.1, y) else kv) (xs.map (putAt k u)) := by
  induction r with
  | nil => exact .nil
  | @cons p q ps qs h t ih =>
    rw [List.map_cons, List.map_cons]
    refine .cons ?_ ih
    obtain ⟨h1, h2, h3⟩ := h
    unfold putAt
    by_cases e : p.1 = k
    · rw [if_pos e, if_pos (h1.symm.trans e)]; exact ⟨h1, h2, ry⟩
    · rw [if_neg e, if_neg (fun z => e (h1.trans z))]; exact ⟨h1, h2, h3⟩
theorem KT.put {H : Hp} {kvs : List (List Key × V)} {xs : List (List Key × Addr × Value)} (r : KT H kvs xs) (k : List Key) {b : Addr} {y : V} {u : Value} (hb : H b = some (.tup (k.map kV))) (ry : RelV y u) :
    KT H (putK kvs k y) (storedH xs k b u) := by
  have e : (kvs.any fun kv => decide (kv.1 = k)) = (atKey xs k).isSome := by
    rw [valV_any, (r.val k).isSome_eq, Option.isSome_map]
  unfold putK storedH
  rw [e]
  by_cases q : (atKey xs k).isSome = true
  · rw [if_pos q, if_pos q]; exact r.repl k ry
  · rw [if_neg q, if_neg q]; exact Paired.snoc r ⟨rfl, hb, ry⟩
theorem KT.keeps {H H' : Hp} {kvs : List (List Key × V)} {xs : List (List Key × Addr × Value)} (r : KT H kvs xs) (ht : ∀ b ys, H b = some (.tup ys) → H' b = some (.tup ys)) : KT H' kvs xs :=
  Paired.mapP r fun _ _ z => ⟨z.1, ht _ _ z.2.1, z.2.2⟩

section
variable {P : Program} {w : World} {H : Hp} {h : Heap} {a : Addr}
theorem rd_of {u : HO} (ok : HOk P w H h) (e : Rd H a u) : ObjOk P w H h a u := e.ok ok
theorem dk_rd {kvs : List (Key × V)} (ok : HOk P w H h) (e : Rd H a (.dK kvs)) : kvs.length ≤ sizeLine ∧ (a == sysModules) = false ∧ ∃ vs, KV kvs vs ∧ h.DictOf (mixKind P w) a vs :=
  show ObjOk P w H h a (.dK kvs) from rd_of ok e
theorem dk_of {kvs : List (Key × V)} (ok : HOk P w H h) (e : H a = some (.dK kvs)) : kvs.length ≤ sizeLine ∧ (a == sysModules) = false ∧ ∃ vs, KV kvs vs ∧ h.DictOf (mixKind P w) a vs := dk_rd ok (.inl e)
/-- a tracked tuple of ints and texts is a key -/
theorem key_of {ks : List Key} (ok : HOk P w H h) (e : H a = some (.tup (ks.map kV))) : (tupleKind (mixKind P w)).is h ks a := by
  obtain ⟨_, its, r, o, h1, h2, n, h3⟩ := (show ObjOk P w H h a (.tup (ks.map kV)) from ok a _ e)
  exact ⟨o, its.toArray, n, h1, h2, h3, by simpa using items_are r⟩
theorem dt_rd {kvs : List (List Key × V)} (ok : HOk P w H h) (e : Rd H a (.dT kvs)) : kvs.length ≤ sizeLine ∧ (a == sysModules) = false ∧
    ∃ xs, KT H kvs xs ∧ h.DictOfH (tupleKind (mixKind P w)) a xs := by
  obtain ⟨z, y, xs, r, o, es, ep, h1, h2, h3, h4, h5⟩ := (show ObjOk P w H h a (.dT kvs) from rd_of ok e)
  refine ⟨z, y, xs, r, o, es, ep, h1, h2, h3, h4, fun x hx => ?_, h5⟩
  have all : ∀ {l : List (List Key × V)} {m : List (List Key × Addr × Value)}, KT H l m → ∀ x ∈ m, (tupleKind (mixKind P w)).is h x.1 x.2.1 := by
    intro l m q
    induction q with
    | nil => intro x hx; exact nomatch hx
    | @cons p q ps qs hq t ih =>
      intro x hx
      rcases List.mem_cons.mp hx with e | hx
      · subst e
        exact key_of ok (by rw [← hq.1]; exact hq.2.1)
      · exact ih x hx
  exact all r x hx
theorem dt_of {kvs : List (List Key × V)} (ok : HOk P w H h) (e : H a = some (.dT kvs)) : kvs.length ≤ sizeLine ∧ (a == sysModules) = false ∧
    ∃ xs, KT H kvs xs ∧ h.DictOfH (tupleKind (mixKind P w)) a xs := dt_rd ok (.inl e)
end

/-- what the dict at a holds at the key y -/
def DGet (H : Hp) (a : Addr) (y : V) (r : Option V) : Prop :=
  (∃ kvs k, Rd H a (.dK kvs) ∧ y = kV k ∧ r = valV kvs k) ∨ ∃ kvs k b, Rd H a (.dT kvs) ∧ y = .ref b ∧ H b = some (.tup (k.map kV)) ∧ r = valV kvs k
/-- the heap behind a[y] = v -/
def DPut (H : Hp) (a : Addr) (y v : V) (H' : Hp) : Prop :=
  (∃ kvs k, H a = some (.dK kvs) ∧ y = kV k ∧ kvs.length < sizeLine ∧ H' = upd H a (.dK (putK kvs k v))) ∨
  ∃ kvs k b, H a = some (.dT kvs) ∧ y = .ref b ∧ H b = some (.tup (k.map kV)) ∧ kvs.length < sizeLine ∧ H' = upd H a (.dT (putK kvs k v))
theorem DGet.k {H : Hp} {a : Addr} {kvs : List (Key × V)} {k : Key} (e : H a = some (.dK kvs)) : DGet H a (kV k) (valV kvs k) := .inl ⟨kvs, k, .inl e, rfl, rfl⟩
theorem DPut.k {H : Hp} {a : Addr} {kvs : List (Key × V)} {k : Key} {v : V} (e : H a = some (.dK kvs)) (hl : kvs.length < sizeLine) : DPut H a (kV k) v (upd H a (.dK (putK kvs k v))) := .inl ⟨kvs, k, e, rfl, hl, rfl⟩
section
variable {X : Cx} {pins : List (Addr × Obj)} {σ : St} {H : Hp} {s : Shared} {a : Addr} {y v : V} {u r : Value} {o : Option V} {A : Around} {E : Value → Shared → Prop}

theorem Inv.big (I : Inv X pins σ H s) : sysModules < s.heap.objs.size := by
  have h : mainGlobals < s.heap.objs.size := (I.mod.glob.keeps I.bk).lt
  exact Nat.lt_trans (by decide) h

/-- d[y], there -/
theorem d_getItem {Q : Value → Shared → Prop} (hu : A.units + 1 < cLine) (I : Inv X pins σ H s) (g : DGet H a y (some v)) (ry : RelV y u) (h : ∀ w' s', Inv X pins σ H s' → RelV v w' → Q w' s') :
    wpAny (model X.prog X.w) A (getItem (.ref a) u) Q E s := by
  rcases g with ⟨kvs, k, e, ey, l⟩ | ⟨kvs, k, b, e, ey, eb, l⟩
  · subst ey
    obtain ⟨z, hd, vs, rel, dd⟩ := dk_rd I.hok e
    obtain ⟨w', hw, rw'⟩ := RelO.some_of (v := v) (o := valueAt vs k) (by rw [l]; exact rel.val k)
    exact wpAny_getItem_of (kV_is ry) dd.mapOf hw (h w' _ (I.tok _) rw')
  · subst ey
    cases (show u = Value.ref b from ry)
    obtain ⟨z, hd, xs, rel, dd⟩ := dt_rd I.hok e
    obtain ⟨w', hw, rw'⟩ := RelO.some_of (v := v) (o := (atKey xs k).map (·.2)) (by rw [l]; exact rel.val k)
    obtain ⟨p, hp, hp2⟩ := Option.map_eq_some_iff.mp hw
    refine wpAny_getItem_heap (tupleKind_room_in1 hu) (key_of I.hok eb) dd hp ?_
    rw [hp2]
    exact h w' _ (I.tok _) rw'
/-- y in d -/
theorem d_in {Q : Value → Shared → Prop} (hu : A.units + 1 < cLine) (I : Inv X pins σ H s) (g : DGet H a y o) (ry : RelV y u) (h : ∀ s', Inv X pins σ H s' → Q (.bool o.isSome) s') :
    wpAny (model X.prog X.w) A (compareOp .In u (.ref a)) Q E s := by
  rcases g with ⟨kvs, k, e, ey, l⟩ | ⟨kvs, k, b, e, ey, eb, l⟩
  · subst ey
    obtain ⟨z, hd, vs, rel, dd⟩ := dk_rd I.hok e
    refine wpAny_in_of (kV_is ry) hd dd.mapOf ?_
    rw [← (rel.val k).isSome_eq, ← l]
    exact h _ (I.tok _)
  · subst ey
    cases (show u = Value.ref b from ry)
    obtain ⟨z, hd, xs, rel, dd⟩ := dt_rd I.hok e
    refine wpAny_in_heap (tupleKind_room_in1 hu) (key_of I.hok eb) hd dd ?_
    have q := (rel.val k).isSome_eq
    rw [Option.isSome_map] at q
    rw [← q, ← l]
    exact h _ (I.tok _)
theorem d_notIn {Q : Value → Shared → Prop} (hu : A.units + 1 < cLine) (I : Inv X pins σ H s) (g : DGet H a y o) (ry : RelV y u) (h : ∀ s', Inv X pins σ H s' → Q (.bool (!o.isSome)) s') :
    wpAny (model X.prog X.w) A (compareOp .NotIn u (.ref a)) Q E s := by
  rcases g with ⟨kvs, k, e, ey, l⟩ | ⟨kvs, k, b, e, ey, eb, l⟩
  · subst ey
    obtain ⟨z, hd, vs, rel, dd⟩ := dk_rd I.hok e
    refine wpAny_notIn_of (kV_is ry) hd dd.mapOf ?_
    rw [← (rel.val k).isSome_eq, ← l]
    exact h _ (I.tok _)
  · subst ey
    cases (show u = Value.ref b from ry)
    obtain ⟨z, hd, xs, rel, dd⟩ := dt_rd I.hok e
    refine wpAny_notIn_heap (tupleKind_room_in1 hu) (key_of I.hok eb) hd dd ?_
    have q := (rel.val k).isSome_eq
    rw [Option.isSome_map] at q
    rw [← q, ← l]
    exact h _ (I.tok _)
/-- a dict's object is replaced -/
theorem d_write {h' : Heap} {t' : Nat} {ob : HO} (I : Inv X pins σ H s) (mu : Mut (H a)) (hs : Heap.SameBut a s.heap h') (he : ∃ q, h'.get? a = some q) (new : ObjOk X.prog X.w (upd H a ob) h' a ob) :
    Inv X pins σ (upd H a ob) { s with heap := h', toks := t' } :=
  I.write (x := a) (e := a) mu (.inl rfl) (fun b q hb z => (hs.2 b hb).trans z) he new
theorem dk_new {P : Program} {w : World} {H' : Hp} {h' : Heap} {kvs : List (Key × V)} {vs : List (Key × Value)} (z : kvs.length ≤ sizeLine) (hd : (a == sysModules) = false) (rel : KV kvs vs) (dd : h'.DictOf (mixKind P w) a vs) :
    ObjOk P w H' h' a (.dK kvs) := ⟨z, hd, vs, rel, dd⟩
/-- d[y] = v -/
theorem d_setItem {H' : Hp} {Q : Unit → Shared → Prop} (hu : A.units + 1 < cLine) (I : Inv X pins σ H s) (g : DPut H a y v H') (ry : RelV y u) (rv : RelV v r) (h : ∀ s', Inv X pins σ H' s' → Q () s') :
    wpAny (model X.prog X.w) A (setItem (.ref a) u r) Q E s := by
  rcases g with ⟨kvs, k, e, ey, l, eH⟩ | ⟨kvs, k, b, e, ey, eb, l, eH⟩
  · subst ey eH
    obtain ⟨z, hd, vs, rel, dd⟩ := dk_of I.hok e
    have hz : vs.length ≤ sizeLine := by rw [← rel.length]; exact z
    have hl : (putK kvs k v).length ≤ sizeLine := by have := length_putK kvs k v; omega
    refine wpAny_setItem_pairs (hsz := hz) (kV_is ry) dd fun h' dd' hs => h _ ?_
    have he : ∃ q, h'.get? a = some q := let ⟨q, _, _, hq, _⟩ := dd'; ⟨q, hq⟩
    exact d_write I (by rw [e]; exact True.intro) hs he (dk_new hl hd (rel.put k rv) dd')
  · subst ey eH
    cases (show u = Value.ref b from ry)
    obtain ⟨z, hd, xs, rel, dd⟩ := dt_of I.hok e
    have hz : xs.length ≤ sizeLine := by rw [← Paired.length rel]; exact z
    have hl : (putK kvs k v).length ≤ sizeLine := by have := length_putK kvs k v; omega
    refine wpAny_setItem_heap (hsz := hz) (tupleKind_room_in1 hu) (key_of I.hok eb) dd fun h' dd' hs => h _ ?_
    obtain ⟨q, es, ep, hq, h2, h3, h4, _, h5⟩ := dd'
    refine d_write I (by rw [e]; exact True.intro) hs ⟨q, hq⟩ ⟨hl, hd, _, (rel.put k eb rv).keeps fun c ys ec => ?_, q, es, ep, hq, h2, h3, h4, h5⟩
    rw [upd_ne (ne_of ec e (fun z => nomatch z))]
    exact ec
end

section
variable {X : Cx} {pins : List (Addr × Obj)} {σ : St} {H : Hp} {s : Shared} {a : Addr} {kvs : List (Key × V)} {k : Key} {u : Value} {A : Around} {E : Value → Shared → Prop}
end


/-! ### readings and rules -/
/-- the element of a subscription, not a slice -/
def NoSl (i : Expr) : Prop := ∀ ov iv, subscripted i false ov iv = operate [ov, iv] (getItem ov iv)
theorem subD_of {prog : Program} {w : World} {A : Around} {E : Value → Shared → Prop} {s : Shared} {env : Env} {value slice : Expr} {pos : Pos} {T id : String} {Q : Value → Shared → Prop}
    (hl : typeLookup (.type T) "__getitem__" = pure (some (.builtin id))) (hs : NoSl slice)
    (h : wpAny (model prog w) A (eval value env) (fun o s₁ => wpAny (model prog w) A (eval slice env) (fun i s₂ => s₂.TypeIs o T ∧ wpAny (model prog w) A (getItem o i) Q E s₂) E s₁) E s) :
    wpAny (model prog w) A (eval (.Subscript value slice pos) env) Q E s := by
  refine Subscript_ (wpAny_mono h (fun o s₁ h₁ => wpAny_mono h₁ (fun i s₂ h₂ => ?_) fun _ _ x => x) fun _ _ x => x)
  obtain ⟨hT, h₂⟩ := h₂
  unfold subscriptTail
  refine wpAny_bind ?_
  rw [getitemInPython_of_ne hT.not_modules]
  refine wpAny_bind (wpAny_specialOf hT hl ?_)
  have fin : wpAny (model prog w) A (subscripted slice false o i) (fun r s₃ => wpAny (model prog w) A (letTemporaryGo value o r >>= fun _ => pure r) Q E s₃) E s₂ := by
    rw [hs o i]
    exact wpAny_operating (wpAny_mono h₂ (fun r s₃ h₃ => wpAny_bind (wpAny_letTemporaryGo (wpAny_pure h₃))) fun _ _ x => x)
  first
    | exact wpAny_pure (wpAny_bind fin)
    | exact wpAny_bind (wpAny_pure (wpAny_bind fin))
    | exact wpAny_bind fin

theorem dict_typeIs {X : Cx} {pins : List (Addr × Obj)} {σ : St} {H : Hp} {s : Shared} {a : Addr} {y : V} {o : Option V} (I : Inv X pins σ H s) (g : DGet H a y o) : s.TypeIs (.ref a) "dict" := by
  rcases g with ⟨kvs, k, e, _, _⟩ | ⟨kvs, k, b, e, _, _, _⟩
  · obtain ⟨_, _, vs, _, dd⟩ := dk_rd I.hok e
    exact dd.typeIs
  · obtain ⟨_, _, xs, _, dd⟩ := dt_rd I.hok e
    exact dd.typeIs
/-- d[y] -/
def tDGet (td ty : TE) : TE := fun σ H Q => td σ H fun x H1 => ty σ H1 fun y H2 => ∃ a v, x = .ref a ∧ DGet H2 a y (some v) ∧ Q v H2
/-- y in d, y not in d -/
def tDIn (ty td : TE) : TE := fun σ H Q => ty σ H fun y H1 => td σ H1 fun x H2 => ∃ a o, x = .ref a ∧ DGet H2 a y o ∧ Q (.bl o.isSome) H2
def tDNotIn (ty td : TE) : TE := fun σ H Q => ty σ H fun y H1 => td σ H1 fun x H2 => ∃ a o, x = .ref a ∧ DGet H2 a y o ∧ Q (.bl (!o.isSome)) H2
/-- d[y] = v -/
def sDPut (td ty tv : TE) : TS := fun D σ H => tv σ H fun v H1 => td σ H1 fun x H2 => ty σ H2 fun y H3 => ∃ a H4, x = .ref a ∧ DPut H3 a y v H4 ∧ D.nx σ H4
section
variable {X : Cx} {o i e value : Expr} {pos pos' tpos : Pos} {td ty tv : TE}
theorem pe_dget (hu : X.A.units + 1 < cLine) (ho : PE X o td) (hi : PE X i ty) (hs : NoSl i) : PE X (.Subscript o i pos) (tDGet td ty) := by
  intro pins s σ H Q I h
  refine subD_of PySem.F.slot_dict_getitem.lookup hs (thn (ho pins s σ H _ I h) fun u s1 ⟨x, H1, I1, rx, q1⟩ => thn (hi pins s1 σ H1 _ I1 q1) fun iv s2 ⟨y, H2, I2, ry, a, v, ex, g, q2⟩ => ?_)
  subst ex
  obtain rfl : u = Value.ref a := rx
  exact ⟨dict_typeIs I2 g, d_getItem hu I2 g ry fun w' s3 I3 rw' => ⟨v, H2, I3, rw', q2⟩⟩
theorem pc_din (hu : X.A.units + 1 < cLine) (hi : PE X i ty) (ho : PE X o td) : PC X .In i o (tDIn ty td) := by
  intro pins s σ H Q I h
  refine thn (hi pins s σ H _ I h) fun iv s1 ⟨y, H1, I1, ry, q1⟩ => thn (ho pins s1 σ H1 _ I1 q1) fun u s2 ⟨x, H2, I2, rx, a, ov, ex, g, q2⟩ => ?_
  subst ex
  obtain rfl : u = Value.ref a := rx
  exact d_in hu I2 g ry fun s3 I3 => ⟨.bl ov.isSome, H2, I3, rfl, q2⟩
theorem pc_dnotin (hu : X.A.units + 1 < cLine) (hi : PE X i ty) (ho : PE X o td) : PC X .NotIn i o (tDNotIn ty td) := by
  intro pins s σ H Q I h
  refine thn (hi pins s σ H _ I h) fun iv s1 ⟨y, H1, I1, ry, q1⟩ => thn (ho pins s1 σ H1 _ I1 q1) fun u s2 ⟨x, H2, I2, rx, a, ov, ex, g, q2⟩ => ?_
  subst ex
  obtain rfl : u = Value.ref a := rx
  exact d_notIn hu I2 g ry fun s3 I3 => ⟨.bl (!ov.isSome), H2, I3, rfl, q2⟩
theorem ps_dput (hu : X.A.units + 1 < cLine) (ho : PE X o td) (hi : PE X i ty) (hv : PE X value tv) (hs : swapsWith value (some (.Subscript o i pos')) pos.line X.env = pure false) :
    PS X (.Assign [.Subscript o i pos'] value pos) (sDPut td ty tv) := by
  intro pins s σ H D I h
  refine wpAny_Assign_Subscript (thn (hv pins s σ H _ I h) fun r s1 ⟨v, H1, I1, rv, q1⟩ => thn (ho pins s1 σ H1 _ I1 q1) fun u s2 ⟨x, H2, I2, rx, q2⟩ => thn (hi pins s2 σ H2 _ I2 q2) fun iv s3 ⟨y, H3, I3, ry, a, H4, ex, g, q3⟩ => ?_) hs
  subst ex
  obtain rfl : u = Value.ref a := rx
  exact d_setItem hu I3 g ry rv fun s4 I4 => ⟨σ, H4, I4, q3⟩
end


/-! ### displays -/
theorem dk_empty {P : Program} {w : World} {H : Hp} (h : Heap) (hb : sysModules < h.objs.size) : ObjOk P w H (h.push { cls := .type "dict", data := .dict #[] }) h.objs.size (.dK []) :=
  ⟨Nat.zero_le _, beq_eq_false_iff_ne.mpr (Ne.symm (Nat.ne_of_lt hb)), [], .nil, Heap.DictOf.new h⟩
/-- {}, to be a dict of the kind that is wanted -/
def tDNewK : TE := fun _ H Q => ∀ p, H p = none → Q (.ref p) (upd H p (.dK []))
section
variable {X : Cx} {pos : Pos}
theorem pe_dnewK : PE X (.Dict [] [] pos) tDNewK := fun pins s σ H Q I h =>
  wpAny_Dict_empty ⟨.ref s.heap.objs.size, _, I.laid (a := s.heap.objs.size) (o := .dK []) (t' := s.toks) (fun _ _ q => Heap.get?_push_of_some _ q) (Nat.le_refl _) (dk_empty s.heap I.big), rfl, h _ (I.hok.fresh (Nat.le_refl _))⟩
end

def mergeK (kvs more : List (Key × V)) : List (Key × V) := more.foldl (fun acc kv => putK acc kv.1 kv.2) kvs
theorem KV.merge : ∀ {more : List (Key × V)} {rs : List (Key × Value)} {kvs : List (Key × V)} {vs : List (Key × Value)}, KV more rs → KV kvs vs → KV (mergeK kvs more) (merged vs rs) := by
  intro more rs kvs vs r
  unfold KV at r
  induction r generalizing kvs vs with
  | nil => intro q; exact q
  | @cons p q ps qs h t ih =>
    intro r0
    have e : KV (putK kvs p.1 p.2) (stored vs q.1 q.2) := by
      have := r0.put p.1 h.2
      rw [← h.1]; exact this
    exact ih e
theorem length_mergeK : ∀ (more kvs : List (Key × V)), (mergeK kvs more).length ≤ kvs.length + more.length
  | [], kvs => by show kvs.length ≤ kvs.length + 0; omega
  | p :: r, kvs => by
    have h1 := length_mergeK r (putK kvs p.1 p.2)
    have h2 := length_putK kvs p.1 p.2
    show (mergeK (putK kvs p.1 p.2) r).length ≤ _
    rw [List.length_cons]; omega
/-! ### methods -/
section
variable {X : Cx} {pins : List (Addr × Obj)} {σ : St} {H : Hp} {s : Shared} {a : Addr} {y d : V} {u r : Value} {o : Option V} {A : Around} {E : Value → Shared → Prop}
end

section
variable {X : Cx} {o e f : Expr} {apos cpos : Pos} {td ty tx : TE}
end

/-! ### dict(d): a copy -/
section
variable {X : Cx} {pins : List (Addr × Obj)} {σ : St} {H : Hp} {s : Shared} {a : Addr} {kvs : List (Key × V)} {A : Around} {E : Value → Shared → Prop}
end


section
variable {X : Cx} {pins : List (Addr × Obj)} {σ : St} {H : Hp} {s : Shared} {a : Addr} {y : V} {u : Value} {A : Around} {E : Value → Shared → Prop}
end
end L2

namespace L2
open PySem PySem.Spec PyProof.Rows
section
variable {X : Cx}
end
end L2

namespace L2
open PySem PySem.Spec PyProof.Rows
/-! ### a dict's pairs: keys that differ -/
section
variable {κ : Type} [DecidableEq κ]
theorem nd_snoc : ∀ {l : List κ} {k : κ}, l.Nodup → ¬ k ∈ l → (l ++ [k]).Nodup
  | [], k, _, _ => by simp
  | a :: r, k, h, hk => by
    obtain ⟨h1, h2⟩ := List.nodup_cons.mp h
    show (a :: (r ++ [k])).Nodup
    refine List.nodup_cons.mpr ⟨fun m => ?_, nd_snoc h2 fun m => hk (List.mem_cons.mpr (Or.inr m))⟩
    rcases List.mem_append.mp m with q | q
    · exact h1 q
    · exact hk (List.mem_cons.mpr (Or.inl (List.mem_singleton.mp q).symm))
end
end L2

end

section
set_option Elab.async false
set_option linter.all false
set_option maxRecDepth 100000
set_option maxHeartbeats 4000000
namespace L2
open PySem PySem.Spec PyProof.Rows
/-! ### data, where tuples of the module may be parts too -/
def ModT (K : PySem.W.Frag) (a : Addr) (vs : List V) : Prop := ∃ (o : Obj) (its : Array Value) (n : Nat), K.lookup a = some o ∧ o.cls = .type "tuple" ∧ o.data = .seq its n ∧ its.size ≤ sizeLine ∧ Vals vs its.toList
def TupAt (K : PySem.W.Frag) (H : Hp) (a : Addr) (vs : List V) : Prop := H a = some (.tup vs) ∨ ModT K a vs
theorem TupAt.mono {K : PySem.W.Frag} {H H' : Hp} (T : Tp H H') {a : Addr} {vs : List V} (h : TupAt K H a vs) : TupAt K H' a vs := h.elim (fun z => .inl (T a vs z)) .inr
mutual
def PAt (K : PySem.W.Frag) (H : Hp) : Nd → V → Prop
  | .s x, v => v = .str x
  | .i n, v => v = .int n
  | .t xs, v => ∃ a vs, v = .ref a ∧ TupAt K H a vs ∧ PAtL K H xs vs
def PAtL (K : PySem.W.Frag) (H : Hp) : List Nd → List V → Prop
  | [], vs => vs = []
  | x :: xs, vs => ∃ v r, vs = v :: r ∧ PAt K H x v ∧ PAtL K H xs r
end
mutual
theorem PAt.mono {K : PySem.W.Frag} {H H' : Hp} (T : Tp H H') : ∀ {n : Nd} {v : V}, PAt K H n v → PAt K H' n v
  | .s x, v, h => h
  | .i n, v, h => h
  | .t xs, v, h => by
    obtain ⟨a, vs, e, q, r⟩ := h
    exact ⟨a, vs, e, q.mono T, PAtL.mono T r⟩
theorem PAtL.mono {K : PySem.W.Frag} {H H' : Hp} (T : Tp H H') : ∀ {xs : List Nd} {vs : List V}, PAtL K H xs vs → PAtL K H' xs vs
  | [], vs, h => h
  | x :: xs, vs, h => by
    obtain ⟨v, r, e, q, l⟩ := h
    exact ⟨v, r, e, PAt.mono T q, PAtL.mono T l⟩
end
def TyK (K : PySem.W.Frag) (H : Hp) (x : V) (t : Value) : Prop := TyOf K H x t ∨ ∃ a vs, x = .ref a ∧ ModT K a vs ∧ t = .type "tuple"
def rIsiK (K : PySem.W.Frag) : List V → Hp → VK → Prop := fun xs H Q => ∃ x T t b, xs = [x, .ty T] ∧ TyK K H x t ∧ PySem.W.kitOne K t (.type T) = some b ∧ Q (.bl b) H
section
variable {X : Cx}
theorem call_isinstK : CallR X (.builtin "isinstance") (rIsiK X.K) := by
  intro pins s σ H xs us Q I r h
  obtain ⟨x, T, t, b, rfl, ty, e, q⟩ := h
  obtain ⟨u, v, rfl, ru, rv⟩ := r.two
  cases rv
  rcases ty with ty | ⟨a, vs, rfl, ⟨o, its, n, lk, hc, hd, hz, rr⟩, rfl⟩
  · exact isinst_ok I ru ty e fun tk => ⟨.bl b, H, I.tok _, rfl, q⟩
  · cases ru
    exact PySem.W.kia_one PySem.W.kitx_tuple I.kIn ⟨o, I.kIn _ _ lk, hc⟩ e (fun z => nomatch z) fun tk => ⟨.bl b, H, I.tok _, rfl, q⟩
/-- xs.index(y), flat items, y is there -/
def rIndex : V → List V → Hp → VK → Prop := fun x vs H Q => ∃ l xs y j z, x = .ref l ∧ vs = [y] ∧ H l = some (.lst xs) ∧ flatV y = true ∧ xs.all flatV = true ∧ xs[j]? = some z ∧ eqV z y = true ∧ (∀ m z', m < j → xs[m]? = some z' → eqV z' y = false) ∧ Q (.int (j : Nat)) H
theorem mt_index : MtM X "list.index" rIndex := by
  intro pins s σ H x vs v us Q I rx rv h
  obtain ⟨l, xs, y, j, z, rfl, rfl, hH, fy, fx, hj, hz, hno, q⟩ := h
  cases rx
  obtain ⟨u, rfl, ru⟩ := rv.one
  obtain ⟨hl, its, n, r, hlen, e⟩ := I.lstM hH
  have hjl : j < its.length := by rw [← hlen]; exact (List.getElem?_eq_some_iff.mp hj).1
  have at' : ∀ (m : Nat) (hm : m < its.toArray.size), ∃ z', xs[m]? = some z' ∧ eqU y its.toArray[m] = eqV z' y := by
    intro m hm
    have hm' : m < xs.length := by rw [hlen]; simpa using hm
    refine ⟨xs[m], List.getElem?_eq_getElem hm', ?_⟩
    obtain ⟨w', ew, rw'⟩ := r.get (i := m) (x := xs[m]) (List.getElem?_eq_getElem hm')
    have e2 : its.toArray[m] = w' := by
      have : its[m]? = some its.toArray[m] := by simp
      rw [ew] at this
      exact (Option.some.inj this).symm
    rw [e2]
    exact eqU_of rw' (List.all_eq_true.mp fx _ (List.getElem_mem hm'))
  refine call_meets F.slot_list_index ⟨_, e, rfl⟩ F.entry_list_index (F.args_list_index_2 _ _) (SeqAt.list_indexAt l its.toArray n none #[] u (eqU y) j (by simpa using hjl) ?_ ?_ ?_) ⟨e, ?_, ?_⟩
  · have := line63
    omega
  · obtain ⟨z', e1, e2⟩ := at' j (by simpa using hjl)
    rw [hj] at e1
    cases e1
    rw [e2]
    exact hz
  · intro m hm hlt
    obtain ⟨z', e1, e2⟩ := at' m hm
    rw [e2]
    exact hno m z' hlt e1
  · intro w' hw'
    exact mem_eqAt ru fy r fx w' (by simpa using hw')
  · exact ⟨.int (j : Nat), H, I.tok _, ⟨_, rfl⟩, q⟩
end
/-! ### methods of a class of the text -/
def MethM (P : Program) (w : World) (K : PySem.W.Frag) (mg : Str → Option Value) (base : Heap) (k : Nat) (C : Addr) (m : Str) (ps : List Str) (sp : Sp) : Prop :=
  ∃ f fd, FnOk P w K mg base CX0 k f fd ps sp ∧ Binds K fd ps [] ∧ Meth K C m f ∧ Cls K C
section
variable {X : Cx} {o e : Expr} {es : List Expr} {m : Str} {apos pos : Pos} {k j : Nat} {ps : List Str} {sp : Sp} {E : XK} {C : Addr} {ta : TE} {t : TA}
end
/-! ### one object changes -/
/-- all but the object at r stay -/
def Kp (r : Addr) (H H' : Hp) : Prop := ∀ b o, b ≠ r → H b = some o → H' b = some o
theorem Kp.trans {r : Addr} {H H1 H2 : Hp} (a : Kp r H H1) (b : Kp r H1 H2) : Kp r H H2 := fun c o h e => b c o h (a c o h e)
theorem Same.kp {r : Addr} {H H' : Hp} (g : Same H H') : Kp r H H' := fun b o _ e => g b o e
theorem Kp.upd {r : Addr} {H : Hp} {o : HO} : Kp r H (L2.upd H r o) := fun b u h e => by rw [upd_ne h]; exact e
/-- what a block does to an object that is younger than H -/
theorem Same.byKp {r : Addr} {H H1 H2 : Hp} (g : Same H H1) (h : H r = none) (k : Kp r H1 H2) : Same H H2 := fun b o e => k b o (ne_of_none e h) (g b o e)
theorem iteNe {x y : Str} {A B : Prop} (h : ¬ x = y) (hB : B) : if decide (V.str x = V.str y) = true then A else B := by
  rw [decide_eq_false fun z => h (V.str.inj z), if_neg Bool.false_ne_true]; exact hB
theorem iteEq {x : Str} {A B : Prop} (hA : A) : if decide (V.str x = V.str x) = true then A else B := by
  rw [decide_eq_true rfl, if_pos rfl]; exact hA
end L2
end

section
set_option Elab.async false
set_option linter.all false
set_option maxRecDepth 100000
set_option maxHeartbeats 4000000
namespace L2
open PySem PySem.Spec PyProof.Rows
section
variable {X : Cx}
end
end L2
end

section
set_option Elab.async false
set_option linter.all false
set_option maxRecDepth 100000
set_option maxHeartbeats 4000000
namespace L2
open PySem PySem.Spec PyProof.Rows
section
variable {X : Cx}
/-! ### data that are equal, at a depth -/
end
end L2
end

section
set_option Elab.async false
set_option linter.all false
set_option maxRecDepth 100000
set_option maxHeartbeats 4000000
namespace L2
open PySem PySem.Spec PyProof.Rows
/-! ### tables of sets: places rise, none was given up -/
def Rise (xs : Array Nat) : Prop := xs.toList.Pairwise (· < ·)
structure TabOk (led : Bool) (t : SetTable) : Prop where
  led : t.led = led
  dum : t.dummies = #[]
  rise : Rise t.place
theorem Rise.lt {xs : Array Nat} (h : Rise xs) {i j : Nat} (hj : j < xs.size) (hij : i < j) : xs[i]'(by omega) < xs[j] := by
  have z := List.pairwise_iff_getElem.mp h i j (by simp; omega) (by simpa using hj) hij
  simpa using z
theorem below_go {xs : Array Nat} {j : Nat} (h : Rise xs) : ∀ (fuel lo hi : Nat), lo ≤ hi → hi ≤ xs.size → hi - lo ≤ fuel → (∀ i (q : i < xs.size), i < lo → xs[i] < j) → (∀ i (q : i < xs.size), hi ≤ i → j ≤ xs[i]) →
    SetTable.below.go xs j fuel lo hi ≤ xs.size ∧ (∀ i (q : i < xs.size), i < SetTable.below.go xs j fuel lo hi → xs[i] < j) ∧ (∀ i (q : i < xs.size), SetTable.below.go xs j fuel lo hi ≤ i → j ≤ xs[i]) := by
  intro fuel
  induction fuel with
  | zero =>
    intro lo hi h1 h2 h3 h4 h5
    have e : lo = hi := by omega
    subst e
    unfold SetTable.below.go
    exact ⟨h2, h4, h5⟩
  | succ fuel ih =>
    intro lo hi h1 h2 h3 h4 h5
    unfold SetTable.below.go
    by_cases c : lo < hi
    · rw [if_pos c]
      dsimp only
      have hm : (lo + hi) / 2 < xs.size := by omega
      have eg : xs.getD ((lo + hi) / 2) j = xs[(lo + hi) / 2] := by simp [Array.getD, hm]
      by_cases d : xs.getD ((lo + hi) / 2) j < j
      · rw [if_pos d]
        rw [eg] at d
        refine ih _ _ (by omega) h2 (by omega) (fun i hi' hl => ?_) h5
        rcases Nat.lt_or_ge i ((lo + hi) / 2) with z | z
        · exact Nat.lt_trans (h.lt hm z) d
        · have : i = (lo + hi) / 2 := by omega
          subst this
          exact d
      · rw [if_neg d]
        rw [eg] at d
        refine ih _ _ (by omega) (by omega) (by omega) h4 (fun i hi' hl => ?_)
        rcases Nat.lt_or_ge ((lo + hi) / 2) i with z | z
        · have := h.lt hi' z; omega
        · have : i = (lo + hi) / 2 := by omega
          subst this
          omega
    · rw [if_neg c]
      have e : lo = hi := by omega
      subst e
      exact ⟨h2, h4, h5⟩
theorem below_ok {xs : Array Nat} (h : Rise xs) (j : Nat) : SetTable.below xs j ≤ xs.size ∧ (∀ i (hi : i < xs.size), i < SetTable.below xs j → xs[i] < j) ∧ (∀ i (hi' : i < xs.size), SetTable.below xs j ≤ i → j ≤ xs[i]) :=
  below_go h xs.size 0 xs.size (Nat.zero_le _) (Nat.le_refl _) (by omega) (fun _ _ z => by omega) (fun i hi z => by omega)
theorem rise_range (n : Nat) : Rise (Array.range n) := by
  unfold Rise
  rw [Array.toList_range]
  exact List.pairwise_lt_range
theorem rise_put {xs : Array Nat} {j : Nat} (h : Rise xs) (hn : xs[SetTable.below xs j]? ≠ some j) : Rise (SetTable.insertAt xs (SetTable.below xs j) j) := by
  obtain ⟨h1, h2, h3⟩ := below_ok h j
  unfold Rise
  rw [SetTable.toList_insertAt, List.pairwise_append]
  refine ⟨List.Pairwise.sublist (List.take_sublist _ _) h, ?_, ?_⟩
  · rw [List.pairwise_cons]
    refine ⟨fun y hy => ?_, List.Pairwise.sublist (List.drop_sublist _ _) h⟩
    obtain ⟨i, hi, rfl⟩ := List.mem_iff_getElem.mp hy
    rw [List.length_drop, Array.length_toList] at hi
    rw [List.getElem_drop, Array.getElem_toList]
    have a := h3 (SetTable.below xs j + i) (by omega) (by omega)
    rcases Nat.eq_zero_or_pos i with z | z
    · subst z
      rcases Nat.lt_or_ge j (xs[SetTable.below xs j + 0]'(by omega)) with y | y
      · exact y
      · exact absurd (by rw [Array.getElem?_eq_getElem (by omega)]; congr 1; simp at a y ⊢; omega) hn
    · have b := h3 (SetTable.below xs j) (by omega) (Nat.le_refl _)
      have c := h.lt (i := SetTable.below xs j) (j := SetTable.below xs j + i) (by omega) (by omega)
      omega
  · intro a ha b hb
    obtain ⟨i, hi, rfl⟩ := List.mem_iff_getElem.mp ha
    rw [List.length_take, Array.length_toList] at hi
    rw [List.getElem_take, Array.getElem_toList]
    have q := h2 i (by omega) (by omega)
    rcases List.mem_cons.mp hb with z | z
    · omega
    · obtain ⟨l, hl, rfl⟩ := List.mem_iff_getElem.mp z
      rw [List.length_drop, Array.length_toList] at hl
      rw [List.getElem_drop, Array.getElem_toList]
      have := h3 (SetTable.below xs j + l) (by omega) (by omega)
      omega
theorem has_empty (j : Nat) : SetTable.has #[] j = false := by
  unfold SetTable.has
  simp
theorem probe_ok {t : SetTable} {f : Nat → Int} {h : Int} (hd : t.dummies = #[]) : ∀ (fuel : Nat) (p : SetTable.Probe) (j : Nat) (d : Option Nat), p.dummy = none → SetTable.probe.go t f h fuel p = some (.empty j d) → d = none ∧ t.place[SetTable.below t.place j]? ≠ some j := by
  intro fuel
  induction fuel with
  | zero => intro p j d _ e; unfold SetTable.probe.go at e; cases e
  | succ fuel ih =>
    intro p j d hp e
    unfold SetTable.probe.go at e
    have hs : t.slot p.j = (if t.place[SetTable.below t.place p.j]? == some p.j then SetTable.Slot.live (SetTable.below t.place p.j) else SetTable.Slot.empty) := by
      unfold SetTable.slot
      dsimp only
      rw [hd, has_empty]
      rfl
    rw [hs] at e
    have adv : (t.advance p).dummy = none := by
      unfold SetTable.advance
      split
      · exact hp
      · exact hp
    by_cases c : (t.place[SetTable.below t.place p.j]? == some p.j) = true
    · rw [if_pos c] at e
      dsimp only at e
      split at e
      · cases e
      · exact ih _ _ _ adv e
    · rw [if_neg c] at e
      dsimp only at e
      cases e
      exact ⟨hp, fun z => c (by rw [z]; simp)⟩
theorem free_ok {t : SetTable} {h : Int} {j : Nat} {b : Bool} (hd : t.dummies = #[]) (e : t.freeSlot h = some (j, b)) : t.place[SetTable.below t.place j]? ≠ some j := by
  unfold SetTable.freeSlot SetTable.probe at e
  split at e
  · rename_i j' d hq
    obtain ⟨rfl, z⟩ := probe_ok hd _ _ _ _ rfl hq
    cases e
    exact z
  · cases e
theorem TabOk.standIn {led : Bool} {t : SetTable} (h : TabOk led t) (n : Nat) : TabOk led (t.standIn n) := ⟨h.led, rfl, rise_range n⟩
theorem TabOk.plainOff {led : Bool} {t : SetTable} (h : TabOk led t) : TabOk led { t with plain := false } := ⟨h.led, h.dum, h.rise⟩
theorem TabOk.layNew {led : Bool} {t : SetTable} (h : TabOk led t) (es : Array (Int × Value)) (k : Int) (x : Value) : TabOk led (layNew t es k x).2.1 := by
  unfold PySem.layNew
  split
  · rename_i j b e
    dsimp only
    have z := free_ok h.dum e
    have q : TabOk led (t.put j).1 := by
      unfold SetTable.put
      refine ⟨h.led, ?_, rise_put h.rise z⟩
      dsimp only
      rw [h.dum, has_empty]
      rfl
    unfold SetTable.orStandIn
    split
    · exact q
    · exact q.standIn _
  · exact h.standIn _
theorem rise_live (owner : Array (Option Nat)) (m : Nat) : Rise (((List.range m).filterMap fun j => (owner.getD j none).map (j, ·)).map (·.1)).toArray := by
  unfold Rise
  have e : ((List.range m).filterMap fun j => (owner.getD j none).map (j, ·)).map (·.1) = (List.range m).filter fun j => (owner.getD j none).isSome := by
    induction List.range m with
    | nil => rfl
    | cons a l ih =>
      rw [List.filterMap_cons, List.filter_cons]
      cases q : owner.getD a none with
      | none => simpa [q] using ih
      | some y => simpa [q] using ih
  simp only [e]
  exact List.Pairwise.sublist List.filter_sublist List.pairwise_lt_range
theorem TabOk.relay {led : Bool} {t : SetTable} (h : TabOk led t) (es : Array (Int × Value)) (n : Nat) : TabOk led (relayAll t es n).2.1 := by
  unfold relayAll
  split
  · rename_i t' order e
    dsimp only
    split
    · unfold SetTable.relaid SetTable.laid at e
      simp only [Option.bind_eq_bind, Option.bind_eq_some_iff] at e
      obtain ⟨owner, _, e2⟩ := e
      cases e2
      exact ⟨h.led, rfl, rise_live owner _⟩
    · exact h.standIn _
  · exact h.standIn _
/-! ### orders -/
end L2
end

section
set_option Elab.async false
set_option linter.all false
set_option maxRecDepth 100000
set_option maxHeartbeats 4000000
namespace L2
open PySem PySem.Spec PyProof.Rows
theorem paired_perm {α β : Type} {F : α → β → Prop} {l l' : List α} (p : List.Perm l' l) : ∀ {ms : List β}, PySem.Paired F l ms → ∃ ms', List.Perm ms' ms ∧ PySem.Paired F l' ms' := by
  replace p := p.symm
  induction p with
  | nil => intro ms h; exact ⟨ms, .refl _, h⟩
  | cons x _ ih =>
    intro ms h
    cases h with
    | cons f t =>
      obtain ⟨ms', q, r⟩ := ih t
      exact ⟨_ :: ms', q.cons _, .cons f r⟩
  | swap x y l =>
    intro ms h
    cases h with
    | cons f t =>
      cases t with
      | cons g u => exact ⟨_, List.Perm.swap _ _ _, .cons g (.cons f u)⟩
  | trans _ _ ih1 ih2 =>
    intro ms h
    obtain ⟨m1, p1, r1⟩ := ih1 h
    obtain ⟨m2, p2, r2⟩ := ih2 r1
    exact ⟨m2, p2.trans p1, r2⟩
theorem nodup_len {κ : Type} [DecidableEq κ] : ∀ {l l' : List κ}, l.Nodup → (∀ x ∈ l, x ∈ l') → l.length ≤ l'.length
  | [], _, _, _ => Nat.zero_le _
  | a :: t, l', n, h => by
    have n := List.nodup_cons.mp n
    have ha := h a List.mem_cons_self
    have := nodup_len (l := t) (l' := l'.erase a) n.2 fun x hx => (List.mem_erase_of_ne (show x ≠ a from fun e => n.1 (e ▸ hx))).mpr (h x (List.mem_cons_of_mem _ hx))
    rw [List.length_erase_of_mem ha] at this
    have hp : 0 < l'.length := List.length_pos_of_mem ha
    rw [List.length_cons]
    omega
section
variable {prog : Program} {w : World} {κ : Type} [DecidableEq κ] (knd : PySem.KeyKind prog w κ)
/-- a set of the kinds of ks, with a table that is known -/
structure SetD (h : Heap) (a : Addr) (ks : List κ) (o : Obj) (es : Array (Int × Value)) (ep : Nat) (t : SetTable) (ms : List κ) : Prop where
  at' : h.get? a = some o
  ex : o.ExactSet
  dat : o.data = .set es ep t
  el : ElemsOf knd es.toList
  pr : PySem.Paired (fun e k => knd.is k e.2 = true) es.toList ms
  nd : ms.Nodup
  mem : ∀ k, k ∈ ms ↔ k ∈ ks
  sm : es.size < scanBound
  fit : t.fits es.size = true
  tab : TabOk (!w.params.followText "set-order") t
def SetT (h : Heap) (a : Addr) (ks : List κ) : Prop := ∃ o es ep t ms, SetD knd h a ks o es ep t ms
variable {knd}
variable {A : Around} {E : Value → Shared → Prop} {s : Shared} {a : Addr} {ks : List κ} {k : κ} {x : Value}
theorem SetD.keep {h h' : Heap} {o es ep t ms} (S : SetD knd h a ks o es ep t ms) (k : h'.get? a = some o) : SetD knd h' a ks o es ep t ms := ⟨k, S.ex, S.dat, S.el, S.pr, S.nd, S.mem, S.sm, S.fit, S.tab⟩
theorem SetT.keep {h h' : Heap} (S : SetT knd h a ks) (k : ∀ o, h.get? a = some o → h'.get? a = some o) : SetT knd h' a ks := by
  obtain ⟨o, es, ep, t, ms, D⟩ := S
  exact ⟨o, es, ep, t, ms, D.keep (k o D.at')⟩
theorem SetT.congr {h : Heap} {ks' : List κ} (S : SetT knd h a ks) (e : ∀ k, k ∈ ks ↔ k ∈ ks') : SetT knd h a ks' := by
  obtain ⟨o, es, ep, t, ms, D⟩ := S
  exact ⟨o, es, ep, t, ms, ⟨D.at', D.ex, D.dat, D.el, D.pr, D.nd, fun k => (D.mem k).trans (e k), D.sm, D.fit, D.tab⟩⟩
theorem SetD.size {h : Heap} {o es ep t ms} (S : SetD knd h a ks o es ep t ms) : es.size = ms.length := by rw [← PySem.Paired.length S.pr]; simp
theorem SetD.put {h : Heap} {o es ep t ms} (S : SetD knd h a ks o es ep t ms) {es' : Array (Int × Value)} {t' : SetTable} {ms' ks' : List κ} (e1 : ElemsOf knd es'.toList) (e2 : PySem.Paired (fun e k => knd.is k e.2 = true) es'.toList ms') (e3 : ms'.Nodup)
    (e4 : ∀ k, k ∈ ms' ↔ k ∈ ks') (e5 : es'.size < scanBound) (e6 : t'.fits es'.size = true) (e7 : TabOk (!w.params.followText "set-order") t') :
    ∃ o', SetD knd (h.update a (Obj.putSet es' t')) a ks' o' es' (ep + 1) t' ms' := by
  have hg := Heap.get?_update_self (Obj.putSet es' t') S.at' (by rw [putSet_of es' t' S.dat]; rfl)
  rw [putSet_of es' t' S.dat] at hg
  exact ⟨_, hg, S.ex, rfl, e1, e2, e3, e4, e5, e6, e7⟩
theorem is_in {l : List (Int × Value)} {ms : List κ} (p : PySem.Paired (fun e k => knd.is k e.2 = true) l ms) : k ∈ ms ↔ ∃ e ∈ l, knd.is k e.2 = true := by
  induction p with
  | nil => simp
  | cons f _ ih =>
    rename_i e m l ms _
    rw [List.mem_cons, ih]
    constructor
    · rintro (rfl | ⟨e', h1, h2⟩)
      · exact ⟨e, List.mem_cons_self, f⟩
      · exact ⟨e', List.mem_cons_of_mem _ h1, h2⟩
    · rintro ⟨e', h1, h2⟩
      rcases List.mem_cons.mp h1 with rfl | h1
      · exact .inl (knd.inj _ _ _ h2 f)
      · exact .inr ⟨e', h1, h2⟩
/-- the end of an add: stored, and laid anew where the table is too full -/
theorem add_tail {g : Bool → Sem Unit} (hg : ∀ (b : Bool) (s₁ : Shared) (Q' : Unit → Shared → Prop), Q' () s₁ → wpAny (model prog w) A (g b) Q' E s₁) {o es ep t ms} (S : SetD knd s.heap a ks o es ep t ms)
    {es1 : Array (Int × Value)} {t1 : SetTable} {ms1 ks1 : List κ} (e1 : ElemsOf knd es1.toList) (e2 : PySem.Paired (fun e k => knd.is k e.2 = true) es1.toList ms1) (e3 : ms1.Nodup)
    (e4 : ∀ k, k ∈ ms1 ↔ k ∈ ks1) (e5 : es1.size < scanBound) (e6 : t1.fits es1.size = true) (e7 : TabOk (!w.params.followText "set-order") t1) {dm : Bool} {R : Option Bool → Shared → Prop}
    (h : ∀ h', Heap.SameBut a s.heap h' → SetT knd h' a ks1 → R (some true) { s with heap := h' }) :
    wpAny (model prog w) A (do
      storeSet a es1 t1
      if (!dm && t1.tooFull) = true then do
        g (relayAll t1 es1 (SetTable.grown es1.size)).2.2
        storeSet a (relayAll t1 es1 (SetTable.grown es1.size)).1 (relayAll t1 es1 (SetTable.grown es1.size)).2.1
        pure (some true)
      else pure (some true)) R E s := by
  refine wpAny_bind (wpAny_storeSet_of S.at' S.dat ?_ (fits_of_scanBound e5))
  obtain ⟨o1, S1⟩ := S.put e1 e2 e3 e4 e5 e6 e7
  have b1 := Heap.SameBut.update s.heap a (Obj.putSet es1 t1)
  by_cases c : (!dm && t1.tooFull) = true
  · rw [if_pos c]
    have p2 := relayAll_perm t1 es1 (SetTable.grown es1.size)
    have f2 := relayAll_fits t1 es1 (SetTable.grown es1.size)
    have q2 := e7.relay es1 (SetTable.grown es1.size)
    generalize relayAll t1 es1 (SetTable.grown es1.size) = Rl at p2 f2 q2 ⊢
    obtain ⟨es2, t2, gv⟩ := Rl
    dsimp only at p2 f2 q2 ⊢
    obtain ⟨ms2, pm, r2⟩ := paired_perm p2 e2
    have hz : es2.size = es1.size := by have := p2.length_eq; simpa using this
    refine wpAny_bind (hg _ _ _ ?_)
    refine wpAny_bind (wpAny_storeSet_of S1.at' S1.dat ?_ (fits_of_scanBound (by omega)))
    obtain ⟨o2, S2⟩ := S1.put (e1.perm p2) r2 (pm.nodup_iff.mpr e3) (fun k => pm.mem_iff.trans (e4 k)) (by omega) f2 q2
    exact wpAny_pure (h _ (b1.trans (Heap.SameBut.update _ a _)) ⟨_, _, _, _, _, S2⟩)
  · rw [if_neg c]
    exact wpAny_pure (h _ b1 ⟨_, _, _, _, _, S1⟩)
theorem add_hashed {Q : Bool → Shared → Prop} (hk : knd.is k x = true) (hx : x.scannable = true) (S : SetT knd s.heap a ks) (hr : ks.length + 1 < scanBound)
    (h : ∀ b h', Heap.SameBut a s.heap h' → SetT knd h' a (ks ++ [k]) → Q b { s with heap := h' }) : wpAny (model prog w) A (setAddHashed a x (knd.hash k)) Q E s := by
  obtain ⟨o, es, ep, t, ms, D⟩ := S
  have hz := D.size
  have hml : ms.length ≤ ks.length := nodup_len D.nd fun k hk => (D.mem k).mp hk
  unfold setAddHashed setAddHashedIn
  refine wpAny_holding (wpAny_bind (wpAny_setState_of D.at' D.dat D.fit ?_))
  dsimp only
  rw [byScan_of hx D.sm D.el, if_pos rfl]
  unfold setAddByScan
  refine wpAny_bind (wpAny_bind (wpAny_rule (wpAny_bind (wpAny_setScan_of hk D.at' D.dat D.fit D.el ?_))))
  cases hf : List.findIdx? (fun e => knd.is k e.2) es.toList with
  | some j =>
    dsimp only
    obtain ⟨hj, pj, _⟩ := List.findIdx?_eq_some_iff_getElem.mp hf
    have hin : k ∈ ms := (is_in D.pr).mpr ⟨_, List.getElem_mem hj, pj⟩
    refine wpAny_pure (wpAny_pure ?_)
    have q := h false s.heap (Heap.SameBut.refl a s.heap) (SetT.congr ⟨o, es, ep, t, ms, D⟩ fun k' => ?_)
    · cases s; exact q
    · rw [List.mem_append, List.mem_singleton]
      exact ⟨.inl, fun z => z.elim id fun z => by subst z; exact (D.mem _).mp hin⟩
  | none =>
    dsimp only
    have hout : ¬ k ∈ ms := fun z => by
      obtain ⟨e, he, q⟩ := (is_in D.pr).mp z
      have := List.findIdx?_eq_none_iff.mp hf e he
      rw [q] at this; cases this
    have p1 := layNew_perm t es (knd.hash k) x
    have f1 := layNew_fits t es (knd.hash k) x
    have q1 := D.tab.layNew es (knd.hash k) x
    generalize layNew t es (knd.hash k) x = L at p1 f1 q1 ⊢
    obtain ⟨es1, t1, dm, gv⟩ := L
    dsimp only at p1 f1 q1 ⊢
    rw [Array.toList_push] at p1
    have e1 := (D.el.push hk hx).perm p1
    obtain ⟨ms1, pm, r1⟩ := paired_perm p1 (D.pr.snoc (F := fun (e : Int × Value) k => knd.is k e.2 = true) hk)
    have z1 : es1.size = es.size + 1 := by have := p1.length_eq; simpa using this
    have e3 : ms1.Nodup := pm.nodup_iff.mpr (List.nodup_append.mpr ⟨D.nd, by simp, fun y hy z hz => by rw [List.mem_singleton] at hz; subst hz; exact fun e => hout (e ▸ hy)⟩)
    have e4 : ∀ k', k' ∈ ms1 ↔ k' ∈ ks ++ [k] := fun k' => by rw [pm.mem_iff, List.mem_append, List.mem_append, D.mem]
    have gw : ∀ (b : Bool) (s₁ : Shared) (Q' : Unit → Shared → Prop), Q' () s₁ → wpAny (model prog w) A (match b with | true => rule "set.scan.the-table-gave-way" | false => pure ()) Q' E s₁ := fun b s₁ Q' q => by
      cases b
      · exact wpAny_pure q
      · exact wpAny_rule q
    refine wpAny_bind (gw _ _ _ ?_)
    have fin : ∀ h', Heap.SameBut a s.heap h' → SetT knd h' a (ks ++ [k]) → wpAny (model prog w) A (pure true) Q E { s with heap := h' } := fun h' b S' => wpAny_pure (h true h' b S')
    split
    · refine wpAny_bind ?_
      rw [hashByValue_scannable 8 hx]
      refine wpAny_pure ?_
      refine add_tail gw D e1 r1 e3 e4 (by omega) (by split; exact f1; exact SetTable.fits_plain_off f1) (by split; exact q1; exact q1.plainOff) ?_
      intro h' b S'
      exact fin h' b S'
    · refine wpAny_bind (wpAny_pure ?_)
      rw [if_pos rfl]
      refine add_tail gw D e1 r1 e3 e4 (by omega) f1 q1 ?_
      intro h' b S'
      exact fin h' b S'
end
end L2
end

section
set_option Elab.async false
set_option linter.all false
set_option maxRecDepth 100000
set_option maxHeartbeats 4000000
namespace L2
open PySem PySem.Spec PyProof.Rows
section
variable {prog : Program} {w : World} {κ : Type} [DecidableEq κ] {knd : PySem.KeyKind prog w κ}
theorem set_loop {A : Around} {R : Result → Shared → Prop} {I : Addr} {fp wr : List Addr} {G : Array GenState → Array GenState → Prop} {n : Nat} {P : Nat → Value → Prop} {St : Nat → Shared → Prop} (W : WalksS prog w A.in1 I fp wr G n P St) (S : Addr) (hSf : S ∉ fp)
    (ks : List κ) (hn : ks.length = n) (hv : ∀ i v, P i v → ∃ k, ks[i]? = some k ∧ knd.is k v = true ∧ v.scannable = true) (hb : n + 1 < scanBound) :
    ∀ (j i : Nat) (s : Shared), n - i = j → i ≤ n → St i s → SetT knd s.heap S (ks.take i) → (∀ s', Moved (S :: wr) G s s' → SetT knd s'.heap S ks → R (.ok (.ret .none)) s') →
      codeAny (model prog w) A (.builtin "set.update.loop" ⟨[.ref S, .ref I], []⟩) R s := by
  have hSw : S ∉ wr := fun h => hSf (W.sub _ h)
  have sub : ∀ b ∈ wr, b ∈ S :: wr := fun b hb => List.mem_cons_of_mem _ hb
  intro j
  induction j with
  | zero =>
    intro i s hj hi st hS hR
    have e : i = n := by omega
    subst e
    refine codeAny_builtin PyProof.Rows.F.entry_set_update_loop ?_
    rw [Around.under_plainId PyProof.Rows.F.plain_set_update_loop _]
    refine wpAny_bind (m := pyNext (.ref I)) (W.done s _ _ st fun s' mv => ?_)
    refine wpAny_pure (hR s' (mv.mono sub) ?_)
    rw [List.take_of_length_le (by omega)] at hS
    exact hS.keep fun o q => mv.heap S o hSw q
  | succ j ih =>
    intro i s hj hi st hS hR
    have hlt : i < n := by omega
    refine codeAny_builtin PyProof.Rows.F.entry_set_update_loop ?_
    rw [Around.under_plainId PyProof.Rows.F.plain_set_update_loop _]
    refine wpAny_bind (m := pyNext (.ref I)) (W.item i s _ _ hlt st fun v s' hP st' mv => ?_)
    obtain ⟨k, ek, hk, hx⟩ := hv i v hP
    have hS' : SetT knd s'.heap S (ks.take i) := hS.keep fun o q => mv.heap S o hSw q
    show wpAny _ A.in1 (holding [v] (setAdd S v) >>= _) _ _ s'
    refine wpAny_bind (wpAny_holding ?_)
    unfold setAdd
    refine wpAny_holding (wpAny_bind (knd.pyHash (k := k) hk ?_))
    refine add_hashed (s := { s' with toks := s'.toks + 1 }) hk hx hS' (by rw [List.length_take]; omega) fun b h' sb S2 => ?_
    have et : ks.take (i + 1) = ks.take i ++ [k] := by rw [List.take_add_one, ek]; rfl
    refine wpAny_pure ⟨plainId_quiet PyProof.Rows.F.plain_set_update_loop _, ih (i + 1) _ (by omega) hlt (W.frame _ s' _ _ st' (Nat.le_succ _) fun b hb o q => ?_) (by rw [et]; exact S2) fun s'' mv'' S'' => ?_⟩
    · exact (sb.2 b (fun z : b = S => hSf (z ▸ hb))).trans q
    · refine hR s'' (Moved.trans W.gtrans ((mv.mono sub).then_heap (Nat.le_succ _) fun b o hb q => ?_) mv'') S''
      exact (sb.2 b (fun z : b = S => hb (by rw [z]; exact List.mem_cons_self))).trans q
variable {A : Around} {E : Value → Shared → Prop} {s : Shared}
abbrev setNew (w : World) : Obj := { cls := .type "set", dict := none, data := .set #[] 0 (.fresh 0 0 (!w.params.followText "set-order")) }
theorem code_setNew (a : Value) {Q : Value → Shared → Prop} (h : Q (.ref s.heap.objs.size) { s with heap := s.heap.push (setNew w) }) :
    codeAny (model prog w) A (.call (.builtin "set.__new__") ⟨[.type "set", a], []⟩) (wants Q E) s := by
  refine codeAny_of_tree ?_
  refine wpAny_bind (m := checkBuiltinCall "set.__new__" ⟨[.type "set", a], []⟩) (wpAny_of_eq (PySem.F.newCall_set_1 a) (wpAny_pure ⟨plainId_quiet PySem.F.plain_set_new _, codeAny_builtin PySem.F.entry_set_new ?_⟩))
  rw [Around.under_plainId PySem.F.plain_set_new _]
  unfold Builtin.«set.__new__» Builtin.Frozenset.newClass
  have hsub := sub_set_self
  obtain ⟨hp, g, d, tk, os⟩ := s
  dsimp only
  wp_walk
  refine wpAny_askSetting (wpAny_pure ?_)
  dsimp only
  simp only [newObj]
  refine wpAny_bind (wpAny_alloc (wpAny_pure ?_))
  exact wpAny_pure h
theorem setNew_ok {h : Heap} {a : Addr} (e : h.get? a = some (setNew w)) : SetT knd h a [] :=
  ⟨_, #[], 0, _, [], e, ⟨rfl, rfl, rfl⟩, rfl, fun e he => by simp at he, .nil, by simp, fun k => Iff.rfl, by decide, rfl, ⟨rfl, rfl, by unfold Rise; exact .nil⟩⟩
end
end L2
end

section
set_option Elab.async false
set_option linter.all false
set_option maxRecDepth 100000
set_option maxHeartbeats 4000000
namespace L2
open PySem PySem.Spec PyProof.Rows
section
variable {prog : Program} {w : World} {κ : Type} [DecidableEq κ] {knd : PySem.KeyKind prog w κ} {A : Around} {E : Value → Shared → Prop} {s : Shared}
/-- what set(l) leaves -/
def MadeSet (knd : PySem.KeyKind prog w κ) (s : Shared) (ks : List κ) (s2 : Shared) : Prop := ∃ h' tk, s2 = { s with heap := h', toks := tk } ∧ SetT knd h' s.heap.objs.size ks ∧ ∀ b o, b < s.heap.objs.size → s.heap.get? b = some o → h'.get? b = some o
theorem init_set {l : Addr} {items : Array Value} {ks : List κ} (hh : A.handled = none) (hl : s.heap.IsList l items) (hn : ks.length = items.size) (hv : ∀ (i : Nat) (v : Value), items[i]? = some v → ∃ k, ks[i]? = some k ∧ knd.is k v = true ∧ v.scannable = true) (hb : items.size + 1 < scanBound)
    {Q : Unit → Shared → Prop} (h : ∀ s2, MadeSet knd s ks s2 → Q () s2) :
    wpAny (model prog w) A (Builtin.Frozenset.updateFrom "set.__init__" s.heap.objs.size (.ref l)) Q E { s with heap := s.heap.push (setNew w) } := by
  obtain ⟨ol, hol, hcl, nl, hdl⟩ := id hl
  have hol' := Heap.get?_push_of_some (setNew w) hol
  have ty : Shared.TypeIs { s with heap := s.heap.push (setNew w) } (.ref l) "list" := ⟨ol, hol', hcl⟩
  have hll : l < s.heap.objs.size := Heap.lt_size hol
  have hl1 : (s.heap.push (setNew w)).IsList l items := ⟨_, hol', hcl, nl, hdl⟩
  have f1 := PySem.F.sub_list_set
  have f2 := PySem.F.sub_list_frozenset
  unfold Builtin.Frozenset.updateFrom
  refine wpAny_bind (m := Builtin.Frozenset.isAnySet (.ref l)) ?_
  have e0 : Builtin.Frozenset.isAnySet (.ref l) = (isInstance (.ref l) (.type "set") >>= fun b => if b = true then pure true else isInstance (.ref l) (.type "frozenset")) := by
    unfold Builtin.Frozenset.isAnySet orM toBool
    congr 1
    funext b
    cases b <;> rfl
  rw [e0]
  refine wpAny_bind (wpAny_isInstance ty f1 ?_)
  rw [if_neg Bool.false_ne_true]
  refine wpAny_isInstance ty f2 ?_
  rw [if_neg Bool.false_ne_true]
  refine wpAny_bind (wpAny_typeOf ty ?_)
  rw [if_neg (by decide)]
  refine wpAny_bind (wpAny_pyIter_list hl1 ?_)
  refine wpAny_bind (wpAny_runValue ?_)
  have hh3 : A.in1.handled = none := hh
  have hne : l ≠ (s.heap.push (setNew w)).objs.size := by rw [Heap.size_push]; exact Nat.ne_of_lt (Nat.lt_succ_of_lt hll)
  have hSf : s.heap.objs.size ∉ [(s.heap.push (setNew w)).objs.size, l] := by
    rw [Heap.size_push]
    simp only [List.mem_cons, List.not_mem_nil, or_false, not_or]
    exact ⟨Nat.ne_of_lt (Nat.lt_succ_self _), Nat.ne_of_gt hll⟩
  refine set_loop (knd := knd) ((Walks.list hh3 _ l hne items).toS) s.heap.objs.size hSf ks hn hv hb (items.size - 0) 0 _ (by omega) (Nat.zero_le _) ⟨⟨_, Heap.get?_push_size _ rfl, rfl, rfl⟩, hl1.push _⟩ ?_ ?_
  · exact setNew_ok (Heap.get?_push_of_some _ (Heap.get?_push_size _ rfl))
  · intro s' mv S'
    refine wpAny_pure (h _ ⟨s'.heap, s'.toks, ?_, S', fun b o hb e => ?_⟩)
    · obtain ⟨h', g', d', tk', os'⟩ := s'
      have eg : g' = s.gens := mv.gens
      have ed : d' = s.drawn := mv.drawn
      have eo : os' = s.os := mv.os
      subst eg ed eo
      rfl
    · refine mv.heap b o ?_ (Heap.get?_push_of_some _ (Heap.get?_push_of_some _ e))
      rw [Heap.size_push]
      simp only [List.mem_cons, List.not_mem_nil, or_false, not_or]
      exact ⟨Nat.ne_of_lt hb, Nat.ne_of_lt (Nat.lt_succ_of_lt hb)⟩
theorem call_setT {l : Addr} {items : Array Value} {ks : List κ} {Q : Value → Shared → Prop} (hh : A.handled = none) (hl : s.heap.IsList l items) (hn : ks.length = items.size) (hv : ∀ (i : Nat) (v : Value), items[i]? = some v → ∃ k, ks[i]? = some k ∧ knd.is k v = true ∧ v.scannable = true)
    (hb : items.size + 1 < scanBound) (h : ∀ s2, MadeSet knd s ks s2 → Q (.ref s.heap.objs.size) s2) : wpAny (model prog w) A (call (.type "set") [.ref l]) Q E s := by
  obtain ⟨c, tl, hm⟩ := PySem.F.called_set.mro
  have q1 := PySem.F.called_set.made
  have q2 := PySem.F.called_set.sub
  refine wpAny_call (codeAny_of_tree ?_)
  refine wpAny_pure ⟨Code.quiet_builtin _ (by decide +kernel), codeAny_builtin PySem.F.entry_type_call ?_⟩
  rw [Around.under_plain (weight_type_call_type "set" [.ref l] []) rfl]
  have q3 := PySem.F.called_set.notType
  have q4 := PySem.F.called_set.canCreate
  have q5 := PySem.F.typeCall_set_1 (.ref l)
  repeat any_goals (first | wp_step | assumption)
  refine codeAny_mono (code_setNew (w := w) (.ref l) (E := E) (Q := fun obj s₁ => obj = .ref s.heap.objs.size ∧ s₁ = { s with heap := s.heap.push (setNew w) }) ⟨rfl, rfl⟩) fun r s₁ hr => ?_
  cases r with
  | error e => exact hr
  | ok fl =>
    cases fl with
    | ret obj =>
      obtain ⟨rfl, rfl⟩ := hr
      have hS : (s.heap.push (setNew w)).get? s.heap.objs.size = some (setNew w) := Heap.get?_push_size _ rfl
      have ty : Shared.TypeIs { s with heap := s.heap.push (setNew w) } (.ref s.heap.objs.size) "set" := ⟨_, hS, rfl⟩
      have q6 := PySem.F.called_set.init.lookup
      have q7 := PySem.F.called_set.init.bind (.ref s.heap.objs.size)
      repeat any_goals (first | wp_step | assumption)
      refine codeAny_mono (codeAny_call_builtin (R := wants (fun r s₂ => r = .none ∧ MadeSet knd s ks s₂) E) PySem.F.called_set.init.plain PySem.F.entry_set_init (check_set_init_1 ty ?_)) fun r₂ s₂ hr₂ => ?_
      · unfold Builtin.«set.__init__» noKeywords
        generalize hU : Builtin.Frozenset.updateFrom = U
        have ready : wpAny (model prog w) A.in1.in1 (U "set.__init__" s.heap.objs.size (.ref l)) (fun _ s2 => MadeSet knd s ks s2) (fun e s' => wants (fun r s₂ => r = .none ∧ MadeSet knd s ks s₂) E (.error e) s') { s with heap := s.heap.push (setNew w) } := by
          rw [← hU]
          exact init_set (A := A.in1.in1) hh hl hn hv hb fun s2 m => m
        wp_walk
        refine wpAny_mono ready (fun _ s2 m => ?_) fun _ _ q => q
        exact wpAny_pure ⟨rfl, m⟩
      · cases r₂ with
        | error e => exact hr₂
        | ok fl₂ =>
          cases fl₂ with
          | ret r =>
            obtain ⟨rfl, m⟩ := hr₂
            have z := h _ m
            repeat any_goals (first | wp_step | assumption)
          | _ => exact hr₂.elim
    | _ => exact hr.elim
end
end L2
end

section
set_option Elab.async false
set_option linter.all false
set_option maxRecDepth 100000
set_option maxHeartbeats 4000000
namespace L2
open PySem PySem.Spec PyProof.Rows
section
variable {prog : Program} {w : World} {A : Around} {E : Value → Shared → Prop} {s : Shared} {I a : Addr} {i n ep : Nat} {Q : Option Value → Shared → Prop}
end
end L2
end

section
set_option Elab.async false
set_option linter.all false
set_option maxRecDepth 100000
set_option maxHeartbeats 4000000
namespace L2
open PySem PySem.Spec PyProof.Rows
section
variable {prog : Program} {w : World} {κ : Type} [DecidableEq κ] {knd : PySem.KeyKind prog w κ} {A : Around} {E : Value → Shared → Prop} {s : Shared} {a I : Addr} {ks : List κ} {o : Obj} {es : Array (Int × Value)} {ep : Nat} {t : SetTable} {ms : List κ}
end
end L2
end

section
set_option Elab.async false
set_option linter.all false
set_option maxRecDepth 100000
set_option maxHeartbeats 4000000
namespace L2
open PySem PySem.Spec PyProof.Rows
section
variable {prog : Program} {w : World} {κ : Type} [DecidableEq κ] {knd : PySem.KeyKind prog w κ} {A : Around} {E : Value → Shared → Prop} {s : Shared} {a I : Addr} {ks : List κ} {o : Obj} {es : Array (Int × Value)} {ep : Nat} {t : SetTable} {ms : List κ}
end
end L2
end

section
set_option Elab.async false
set_option linter.all false
set_option maxRecDepth 100000
set_option maxHeartbeats 4000000
namespace L2
open PySem PySem.Spec PyProof.Rows
section
variable {prog : Program} {w : World} {κ : Type} [DecidableEq κ] {knd : PySem.KeyKind prog w κ} {A : Around} {E : Value → Shared → Prop} {s : Shared} {a I : Addr} {ks : List κ} {o : Obj} {es : Array (Int × Value)} {ep : Nat} {t : SetTable} {ms : List κ}
end
section
variable {prog : Program} {w : World} {A : Around} {E : Value → Shared → Prop} {s : Shared} {a : Addr} {ks : List Int}
end
end L2
end

section
set_option Elab.async false
set_option linter.all false
set_option maxRecDepth 100000
set_option maxHeartbeats 4000000
namespace L2
open PySem PySem.Spec PyProof.Rows
/-! ### the sorted members of a list of ints, each once -/
def ins (k : Int) : List Int → List Int
  | [] => [k]
  | x :: r => if k < x then k :: x :: r else if k = x then x :: r else x :: ins k r
section
variable {X : Cx}
theorem boot_set' : bootBuiltins "set" = some (.type "set") := by decide +kernel
end
end L2
end

section
set_option Elab.async false
set_option linter.all false
set_option maxRecDepth 100000
set_option maxHeartbeats 4000000
namespace L2
open PySem PySem.Spec PyProof.Rows
section
variable {X : Cx}
end
end L2
end

section
set_option Elab.async false
set_option linter.all false
set_option maxRecDepth 100000
set_option maxHeartbeats 4000000
namespace L2
open PySem PySem.Spec PyProof.Rows
section
variable {X : Cx}
end
end L2
end

section
set_option Elab.async false
set_option linter.all false
set_option maxRecDepth 100000
set_option maxHeartbeats 4000000
namespace L2
open PySem PySem.Spec PyProof.Rows
section
variable {X : Cx}
end
end L2
end

section
set_option Elab.async false
set_option linter.all false
set_option maxRecDepth 100000
set_option maxHeartbeats 4000000
namespace L2
open PySem PySem.Spec PyProof.Rows
section
variable {X : Cx}
end
end L2
end

section
set_option Elab.async false
set_option linter.all false
set_option maxRecDepth 100000
set_option maxHeartbeats 4000000
namespace L2
open PySem PySem.Spec PyProof.Rows
section
variable {X : Cx}
end
end L2
end

section
set_option Elab.async false
set_option linter.all false
set_option maxRecDepth 100000
set_option maxHeartbeats 4000000
namespace L2
open PySem PySem.Spec PyProof.Rows
section
variable {X : Cx}
end
end L2
end
section
set_option Elab.async false
set_option linter.all false
set_option maxRecDepth 100000
namespace L2
open PySem PySem.Spec PyProof.Rows
section
variable {P : Program} {w : World} {K : PySem.W.Frag} {mg : Str → Option Value} {base : Heap}
end
end L2
end

section
set_option Elab.async false
set_option linter.all false
set_option maxRecDepth 100000
set_option maxHeartbeats 4000000
namespace L2
open PySem PySem.Spec PyProof.Rows
def rIsN : R2 := fun x y H Q => y = .non ∧ Q (.bl (decide (x = .non))) H
end L2
end

section
set_option Elab.async false
set_option linter.all false
set_option maxRecDepth 100000
set_option maxHeartbeats 4000000
namespace L2
open PySem PySem.Spec PyProof.Rows
end L2
end

section
set_option Elab.async false
set_option linter.all false
set_option maxRecDepth 100000
namespace L2
open PySem PySem.Spec PyProof.Rows
inductive Ex1 {α : Type} (P : α → Prop) : Prop
  | mk (a0 : α) (h : P a0) : Ex1 P
inductive Ex3 {α β γ : Type} (P : α → β → γ → Prop) : Prop
  | mk (a0 : α) (a1 : β) (a2 : γ) (h : P a0 a1 a2) : Ex3 P
inductive Ex4 {α β γ δ : Type} (P : α → β → γ → δ → Prop) : Prop
  | mk (a0 : α) (a1 : β) (a2 : γ) (a3 : δ) (h : P a0 a1 a2 a3) : Ex4 P
inductive An2 (A0 A1 : Prop) : Prop
  | mk (h0 : A0) (h1 : A1) : An2 A0 A1
inductive An3 (A0 A1 A2 : Prop) : Prop
  | mk (h0 : A0) (h1 : A1) (h2 : A2) : An3 A0 A1 A2
inductive An4 (A0 A1 A2 A3 : Prop) : Prop
  | mk (h0 : A0) (h1 : A1) (h2 : A2) (h3 : A3) : An4 A0 A1 A2 A3
inductive An5 (A0 A1 A2 A3 A4 : Prop) : Prop
  | mk (h0 : A0) (h1 : A1) (h2 : A2) (h3 : A3) (h4 : A4) : An5 A0 A1 A2 A3 A4
inductive An6 (A0 A1 A2 A3 A4 A5 : Prop) : Prop
  | mk (h0 : A0) (h1 : A1) (h2 : A2) (h3 : A3) (h4 : A4) (h5 : A5) : An6 A0 A1 A2 A3 A4 A5
inductive An7 (A0 A1 A2 A3 A4 A5 A6 : Prop) : Prop
  | mk (h0 : A0) (h1 : A1) (h2 : A2) (h3 : A3) (h4 : A4) (h5 : A5) (h6 : A6) : An7 A0 A1 A2 A3 A4 A5 A6
/-- an item of a tuple, of a list, that a name has -/
theorem rdy {K : PySem.W.Frag} {σ : St} {H : Hp} {Q : VK} {i j : Nat} {t : Addr} {xs : List V} {v : V} (hs : SqT K H t xs) (hi : σ[i]? = some (some (.ref t))) (hj : xs[j]? = some v) (q : Q v H) : tOp (rIxT K) (tVar i) (tC (.int (j : Int))) σ H Q :=
  ⟨_, hi, t, _, _, _, rfl, rfl, hs, atI_nat hj, q⟩
theorem rdx {K : PySem.W.Frag} {σ : St} {H : Hp} {Q : VK} {i j : Nat} {t : Addr} {xs : List V} {v : V} (hs : H t = some (.tup xs)) (hi : σ[i]? = some (some (.ref t))) (hj : xs[j]? = some v) (q : Q v H) : tOp (rIxT K) (tVar i) (tC (.int (j : Int))) σ H Q := rdy (SqT.of hs) hi hj q
theorem rdl {K : PySem.W.Frag} {σ : St} {H : Hp} {Q : VK} {i j : Nat} {t : Addr} {xs : List V} {v : V} (hs : H t = some (.lst xs)) (hi : σ[i]? = some (some (.ref t))) (hj : xs[j]? = some v) (q : Q v H) : tOp (rIxL K) (tVar i) (tC (.int (j : Int))) σ H Q :=
  ⟨_, hi, t, _, _, _, rfl, rfl, SqL.of hs, atI_nat hj, q⟩
end L2
end

section
set_option Elab.async false
set_option linter.all false
set_option maxRecDepth 100000
set_option maxHeartbeats 4000000
namespace L2
open PySem PySem.Spec PyProof.Rows
theorem entry_dict_loop : entryFor table "dict.update.loop" = some Builtin.«dict.update.loop» := entryFor_of_tree (by kernel_rfl)
theorem plain_dict_loop : plainId "dict.update.loop" = true := by decide +kernel
section
variable {prog : Program} {w : World} {κ : Type} [DecidableEq κ] {knd : PySem.KeyKind prog w κ}
theorem wp_pairItems {M : Model} {A : Around} {E : Value → Shared → Prop} {s : Shared} {t : Addr} {o : Obj} {its : Array Value} {n : Nat} {Q : List Value → Shared → Prop} (ho : s.heap.get? t = some o) (hc : o.cls = .type "tuple") (hd : o.data = .seq its n) (h : Q its.toList s) : wpAny M A (Builtin.Dict.pairItems (.ref t)) Q E s := by
  unfold Builtin.Dict.pairItems
  refine wpAny_bind (wpAny_typeOf (T := "tuple") ⟨o, ho, hc⟩ ?_)
  rw [if_pos (by decide)]
  refine wpAny_bind (wpAny_seqItems ho hd ?_)
  exact wpAny_pure h
theorem length_stored (kvs : List (κ × Value)) (k : κ) (v : Value) : (stored kvs k v).length ≤ kvs.length + 1 := by
  unfold stored
  split
  · rw [List.length_map]; exact Nat.le_succ _
  · rw [List.length_append]; exact Nat.le_refl _
theorem length_storeds : ∀ (l : List (κ × Value)) (acc : List (κ × Value)), (l.foldl (fun acc kv => stored acc kv.1 kv.2) acc).length ≤ acc.length + l.length
  | [], acc => Nat.le_refl _
  | x :: l, acc => by
    have h1 := length_storeds l (stored acc x.1 x.2)
    have h2 := length_stored acc x.1 x.2
    rw [List.foldl_cons, List.length_cons]
    omega
theorem dict_loop {A : Around} {R : Result → Shared → Prop} {I : Addr} {fp wr : List Addr} {G : Array GenState → Array GenState → Prop} {n : Nat} {P : Nat → Value → Prop} {St : Nat → Shared → Prop} (W : WalksS prog w A.in1 I fp wr G n P St) (d : Addr) (hdf : d ∉ fp)
    (kvs : List (κ × Value)) (hn : kvs.length = n) (hsz : n ≤ sizeLine) (h0 : Heap) (hv : ∀ i v, P i v → ∃ k u t o key m, kvs[i]? = some (k, u) ∧ v = .ref t ∧ t ≠ d ∧ t ∉ wr ∧ h0.get? t = some o ∧ o.cls = .type "tuple" ∧ o.data = .seq #[key, u] m ∧ knd.is k key = true) :
    ∀ (j i : Nat) (s : Shared), n - i = j → i ≤ n → St i s → (∀ b o, b ≠ d → b ∉ wr → h0.get? b = some o → s.heap.get? b = some o) → s.heap.DictOf knd d ((kvs.take i).foldl (fun acc kv => stored acc kv.1 kv.2) []) → (∀ s', Moved (d :: wr) G s s' → s'.heap.DictOf knd d (kvs.foldl (fun acc kv => stored acc kv.1 kv.2) []) → R (.ok (.ret .none)) s') →
      codeAny (model prog w) A (.builtin "dict.update.loop" ⟨[.ref d, .ref I, rawInt i, .none], []⟩) R s := by
  have hdw : d ∉ wr := fun h => hdf (W.sub _ h)
  have sub : ∀ b ∈ wr, b ∈ d :: wr := fun b hb => List.mem_cons_of_mem _ hb
  intro j
  induction j with
  | zero =>
    intro i s hj hi st kp hS hR
    have e : i = n := by omega
    subst e
    refine codeAny_builtin entry_dict_loop ?_
    rw [Around.under_plainId plain_dict_loop _]
    refine wpAny_bind (m := pyNext (.ref I)) (W.done s _ _ st fun s' mv => ?_)
    show wpAny _ _ (Builtin.Dict.addKeywords d [] >>= _) _ _ _
    refine wpAny_bind (wpAny_pure (wpAny_pure (hR s' (mv.mono sub) ?_)))
    rw [List.take_of_length_le (by omega)] at hS
    obtain ⟨o, es, ep, ho, r⟩ := hS
    exact ⟨o, es, ep, mv.heap d o hdw ho, r⟩
  | succ j ih =>
    intro i s hj hi st kp hS hR
    have hlt : i < n := by omega
    refine codeAny_builtin entry_dict_loop ?_
    rw [Around.under_plainId plain_dict_loop _]
    refine wpAny_bind (m := pyNext (.ref I)) (W.item i s _ _ hlt st fun v s' hP st' mv => ?_)
    obtain ⟨k, u, t, o, key, m, ek, rfl, htd, htw, ho, hc, hd, hk⟩ := hv i v hP
    have hS' : s'.heap.DictOf knd d ((kvs.take i).foldl (fun acc kv => stored acc kv.1 kv.2) []) := by
      obtain ⟨o, es, ep, ho, r⟩ := hS
      exact ⟨o, es, ep, mv.heap d o hdw ho, r⟩
    have ho' : s'.heap.get? t = some o := mv.heap t o htw (kp t o htd htw ho)
    have et : (kvs.take (i + 1)).foldl (fun acc kv => stored acc kv.1 kv.2) [] = stored ((kvs.take i).foldl (fun acc kv => stored acc kv.1 kv.2) []) k u := by
      rw [List.take_add_one, ek, List.foldl_append]; rfl
    refine wpAny_bind (wpAny_holding ?_)
    refine wpAny_bind (wpAny_tryCatch (wp_pairItems ho' hc hd ?_))
    show wpAny _ _ (holding [key, u] (dictSet d key u)) _ _ _
    refine wpAny_holding (wpAny_dictSet_pairs (hsz := ?_) hk hS' fun h' dd sb => ?_)
    · refine wpAny_pure ⟨plainId_quiet plain_dict_loop _, ih (i + 1) _ (by omega) hlt (W.frame _ s' _ _ st' (Nat.le_succ _) fun b hb o q => ?_) (fun b o hb hw q => ?_) (by rw [et]; exact dd) fun s'' mv'' S'' => ?_⟩
      · exact (sb.2 b (fun z : b = d => hdf (z ▸ hb))).trans q
      · exact (sb.2 b hb).trans (mv.heap b o hw (kp b o hb hw q))
      · refine hR s'' (Moved.trans W.gtrans ((mv.mono sub).then_heap (Nat.le_succ _) fun b o hb q => ?_) mv'') S''
        exact (sb.2 b (fun z : b = d => hb (by rw [z]; exact List.mem_cons_self))).trans q
    · have := length_storeds (kvs.take i) []
      rw [List.length_take, List.length_nil] at this
      omega
variable {A : Around} {E : Value → Shared → Prop} {s : Shared}
theorem miss_keys : typeLookup (.type "list") ("keys" : Str) = pure none := by rw [typeLookup_type, builtinLookup_eq_fast]; kernel_rfl
/-- a list has no keys -/
theorem list_no_keys {l : Addr} {o : Obj} {its : Array Value} {n : Nat} {Q : Option Value → Shared → Prop} (ho : s.heap.get? l = some o) (hc : o.cls = .type "list") (hi : o.data = .seq its n) (hd : o.dict = none) (hh : A.handled = none)
    (h : ∀ h' tk e, Heap.NewExcOf s.heap h' e "AttributeError" → Q none { s with heap := h', toks := tk }) : wpAny (model prog w) A (getAttr? (.ref l) "keys") Q E s := by
  obtain ⟨c0, d0, i0, sl0⟩ := o
  dsimp only at hc hi hd
  subst hc hi hd
  obtain ⟨hp, gn, dr, tk0, os⟩ := s
  have ty : ∀ t, (⟨hp, gn, dr, t, os⟩ : Shared).TypeIs (.ref l) "list" := fun _ => ⟨_, ho, rfl⟩
  have z1 := sub_AttributeError
  have z2 := PySem.F.slot_list_getattribute.lookup
  have z3 := PySem.F.slot_list_getattribute.bind (.ref l)
  have z4 := am_list_getattr_none
  unfold getAttr? getAttrBy? getAttrBy
  repeat
    any_goals
      first
      | assumption
      | exact ty _
      | (with_reducible show wpAny _ _ (call (.builtin "list.__getattribute__") _ _) _ _ _
         refine call_meets PySem.F.slot_list_getattribute (ty _) am_entry_list_getattribute (PySem.F.args_list_getattribute_2 _ _) (meets_getattribute_miss_list l its n sl0 "keys" _ miss_keys (by decide +kernel) (by size_fits)) ⟨ho, hh, fun h1 t1 e1 x1 => ?_⟩)
      | wp_step
  obtain ⟨c1, u1, he⟩ := x1.there
  show wpAny _ _ (getattributeRaised _ _ _ _ _ _ _) _ _ _
  unfold getattributeRaised
  repeat any_goals (first | assumption | wp_step)
  exact h _ _ _ x1.of
/-- what dict(l) leaves -/
def MadeDict (knd : PySem.KeyKind prog w κ) (s : Shared) (kvs : List (κ × Value)) (s2 : Shared) : Prop := ∃ h' tk, s2 = { s with heap := h', toks := tk } ∧ h'.DictOf knd s.heap.objs.size (kvs.foldl (fun acc kv => stored acc kv.1 kv.2) []) ∧ ∀ b o, b < s.heap.objs.size → s.heap.get? b = some o → h'.get? b = some o
theorem call_dictP {l : Addr} {ol : Obj} {its : Array Value} {n : Nat} {kvs : List (κ × Value)} {Q : Value → Shared → Prop} (hh : A.handled = none) (ho : s.heap.get? l = some ol) (hc : ol.cls = .type "list") (hi : ol.data = .seq its n) (hd : ol.dict = none) (hn : kvs.length = its.size) (hsz : its.size ≤ sizeLine)
    (hv : ∀ (i : Nat) (v : Value), its[i]? = some v → ∃ k u t o key m, kvs[i]? = some (k, u) ∧ v = .ref t ∧ s.heap.get? t = some o ∧ o.cls = .type "tuple" ∧ o.data = .seq #[key, u] m ∧ knd.is k key = true)
    (h : ∀ s2, MadeDict knd s kvs s2 → Q (.ref s.heap.objs.size) s2) : wpAny (model prog w) A (call (.type "dict") [.ref l]) Q E s := by
  have hll : l < s.heap.objs.size := Heap.lt_size ho
  refine callType_codes (Q₁ := fun x s1 => x = .ref s.heap.objs.size ∧ s1 = { s with heap := s.heap.push { cls := .type "dict", data := .dict #[] } }) PySem.F.kt_called_dict (PySem.F.kt_typeCall_dict_1 _) PySem.F.entry_dict_init (kt_code_dict_new _ ⟨rfl, rfl⟩) ?_
  rintro x s1 ⟨rfl, rfl⟩
  have hN : (s.heap.push { cls := .type "dict", data := .dict #[] }).DictOf knd s.heap.objs.size [] := Heap.DictOf.new s.heap
  have ho1 := Heap.get?_push_of_some { cls := .type "dict", data := .dict #[] } ho
  refine ⟨hN.typeIs, PySem.F.args_dict_init_2 _ _, ?_⟩
  unfold Builtin.«dict.__init__»
  refine wpAny_bind ?_
  unfold Builtin.Dict.selfAndRest
  refine wpAny_bind (wpAny_notOrdered_dict hN.typeIs ?_)
  show wpAny _ _ (pure (s.heap.objs.size, [Value.ref l])) _ _ _
  refine wpAny_pure ?_
  show wpAny _ _ (Builtin.Dict.updateFrom "dict.__init__" s.heap.objs.size (.ref l) [] .none) _ _ _
  unfold Builtin.Dict.updateFrom
  refine wpAny_bind (wpAny_typeOf (T := "list") ⟨ol, ho1, hc⟩ ?_)
  rw [if_pos (by decide)]
  refine wpAny_bind (list_no_keys (A := A.in1.in1) ho1 hc hi hd hh fun h1 t1 e1 x1 => ?_)
  rw [if_pos (show (none : Option Value).isNone = true from rfl)]
  have kp : ∀ b o, (s.heap.push { cls := .type "dict", data := .dict #[] }).get? b = some o → h1.get? b = some o := x1.keeps
  have hN1 : h1.DictOf knd s.heap.objs.size [] := by
    obtain ⟨o, es, ep, ho, r⟩ := hN
    exact ⟨o, es, ep, kp _ _ ho, r⟩
  have hl1 : h1.IsList l its := ⟨ol, kp _ _ ho1, hc, n, hi⟩
  have hlt1 : s.heap.objs.size < h1.objs.size := by
    obtain ⟨o, es, ep, ho, r⟩ := hN1
    exact Heap.lt_size ho
  refine wpAny_bind (wpAny_rule ?_)
  refine wpAny_bind (wpAny_pyIter_list hl1 ?_)
  have hne : l ≠ h1.objs.size := Nat.ne_of_lt (Nat.lt_trans hll hlt1)
  have hdf : s.heap.objs.size ∉ [h1.objs.size, l] := by
    simp only [List.mem_cons, List.not_mem_nil, or_false, not_or]
    exact ⟨Nat.ne_of_lt hlt1, Nat.ne_of_gt hll⟩
  have hh3 : A.in1.in1.handled = none := hh
  refine wpAny_pure ⟨plainId_quiet plain_dict_loop _, dict_loop (knd := knd) ((Walks.list hh3 _ l hne its).toS) s.heap.objs.size hdf kvs hn hsz s.heap (fun i v hP => ?_) (its.size - 0) 0 _ (by omega) (Nat.zero_le _) ⟨⟨_, Heap.get?_push_size _ rfl, rfl, rfl⟩, hl1.push _⟩ (fun b o hb hw q => ?_) ?_ ?_⟩
  · obtain ⟨k, u, t, o, key, m, e1, e2, e3, e4, e5, e6⟩ := hv i v hP
    have tl := Heap.lt_size e3
    exact ⟨k, u, t, o, key, m, e1, e2, Nat.ne_of_lt tl, by simp only [List.mem_cons, List.not_mem_nil, or_false]; exact Nat.ne_of_lt (Nat.lt_trans tl hlt1), e3, e4, e5, e6⟩
  · exact Heap.get?_push_of_some _ (kp _ _ (Heap.get?_push_of_some _ q))
  · exact hN1.push _
  · intro s' mv S'
    refine ⟨rfl, h _ ⟨s'.heap, s'.toks, ?_, S', fun b o hb e => ?_⟩⟩
    · obtain ⟨h', g', d', tk', os'⟩ := s'
      have eg : g' = s.gens := mv.gens
      have ed : d' = s.drawn := mv.drawn
      have eo : os' = s.os := mv.os
      subst eg ed eo
      rfl
    · refine mv.heap b o ?_ (Heap.get?_push_of_some _ (kp _ _ (Heap.get?_push_of_some _ e)))
      simp only [List.mem_cons, List.not_mem_nil, or_false, not_or]
      exact ⟨Nat.ne_of_lt hb, Nat.ne_of_lt (Nat.lt_trans hb hlt1)⟩
end
section
variable {X : Cx} {pins : List (Addr × Obj)} {σ : St} {H : Hp} {s : Shared}
theorem pairs_of (I : Inv X pins σ H s) : ∀ (ts : List Addr) (kvs : List (Key × V)), ts.length = kvs.length → (∀ (i : Nat) t k v, ts[i]? = some t → kvs[i]? = some (k, v) → SqT X.K H t [kV k, v]) →
    ∃ rs : List (Key × Value), KV kvs rs ∧ ∀ (i : Nat) t, ts[i]? = some t → ∃ k u o key m, rs[i]? = some (k, u) ∧ s.heap.get? t = some o ∧ o.cls = .type "tuple" ∧ o.data = .seq #[key, u] m ∧ (mixKind X.prog X.w).is k key = true
  | [], [], _, _ => ⟨[], .nil, fun i t h => by cases h⟩
  | [], _ :: _, h, _ => by cases h
  | _ :: _, [], h, _ => by cases h
  | t :: ts, (k, v) :: kvs, hl, ht => by
    obtain ⟨rs, rel, hr⟩ := pairs_of I ts kvs (by simpa using hl) fun i t k v h1 h2 => ht (i + 1) t k v (by simpa using h1) (by simpa using h2)
    obtain ⟨its, r, ⟨o, ho, hc, n, hd⟩, hz⟩ := I.tuple (ht 0 t k v rfl rfl)
    cases r with
    | cons r1 r2 =>
      cases r2 with
      | cons r2 r3 =>
        cases r3
        refine ⟨(k, _) :: rs, .cons ⟨rfl, r2⟩ rel, fun i t' h => ?_⟩
        cases i with
        | zero =>
          cases h
          exact ⟨k, _, o, _, n, rfl, ho, hc, hd, kV_is r1⟩
        | succ i => exact hr i t' (by simpa using h)
/-- dict(l), l a list of pairs -/
inductive C_rDictL (K : PySem.W.Frag) (xs : List V) (H : Hp) (Q : VK) : Prop
  | mk (a : Addr) (ts : List Addr) (kvs : List (Key × V)) (c0 : xs = [.ref a]) (c1 : SqL K H a (ts.map V.ref)) (c2 : ts.length = kvs.length) (c3 : ∀ (i : Nat) t k v, ts[i]? = some t → kvs[i]? = some (k, v) → SqT K H t [kV k, v]) (c4 : ∀ p, H p = none → Q (.ref p) (upd H p (.dK (mergeK [] kvs)))) : C_rDictL K xs H Q
def rDictL (K : PySem.W.Frag) : List V → Hp → VK → Prop := fun xs H Q => C_rDictL K xs H Q
theorem call_dictL (hc : X.calm = true) : CallR X (.type "dict") (rDictL X.K) := by
  intro pins s σ H xs us Q I r h
  obtain ⟨a, ts, kvs, rfl, hS, hl, ht, q⟩ := h
  obtain ⟨u, rfl, ru⟩ := r.one
  cases ru
  obtain ⟨its, rv, ⟨o, n, ho, hcl, hd, hi⟩, hz⟩ := I.list hS
  obtain ⟨rs, rel, hr⟩ := pairs_of I ts kvs hl ht
  have hlen := rv.length
  rw [List.length_map] at hlen hz
  have rlen : kvs.length = rs.length := rel.length
  refine call_dictP (knd := mixKind X.prog X.w) (kvs := rs) (I.ok.hd hc) ho hcl hi hd (by rw [List.size_toArray]; omega) (by rw [List.size_toArray]; omega) (fun i v hv => ?_) fun s2 m => ?_
  · have hv : its[i]? = some v := by simpa using hv
    have hi : i < ts.length := by
      have := (List.getElem?_eq_some_iff.mp hv).1
      omega
    obtain ⟨v', hv', rr⟩ := rv.get (i := i) (x := V.ref ts[i]) (by rw [List.getElem?_map, List.getElem?_eq_getElem hi]; rfl)
    rw [hv] at hv'
    cases hv'
    cases rr
    obtain ⟨k, u, o, key, m, e1, e2, e3, e4, e5⟩ := hr i ts[i] (List.getElem?_eq_getElem hi)
    exact ⟨k, u, ts[i], o, key, m, e1, rfl, e2, e3, e4, e5⟩
  · obtain ⟨h', tk, rfl, dd, keep⟩ := m
    have ml := length_mergeK kvs []
    rw [List.length_nil] at ml
    exact ⟨.ref s.heap.objs.size, _, I.laid (a := s.heap.objs.size) (o := .dK (mergeK [] kvs)) (t' := tk) (fun b u hb => keep b u (Heap.lt_size hb) hb) (Nat.le_refl _) (dk_new (by omega) (beq_eq_false_iff_ne.mpr (Ne.symm (Nat.ne_of_lt I.big))) (KV.merge rel .nil) dd), rfl, q _ (I.hok.fresh (Nat.le_refl _))⟩
/-- a or b, a a list or None -/
def tOrN (K : PySem.W.Frag) (ta tb : TE) : TE := fun σ H Q => ta σ H fun x H1 => (x = .non ∧ tb σ H1 Q) ∨ ∃ l xs, x = .ref l ∧ SqL K H1 l xs ∧ (xs = [] → tb σ H1 Q) ∧ (¬ xs = [] → Q x H1)
theorem pe_orN {a b : Expr} {rest : List Expr} {pos : Pos} {ta tb : TE} (ha : PE X a ta) (hb : PE X (.BoolOp .Or (b :: rest) pos) tb) : PE X (.BoolOp .Or (a :: b :: rest) pos) (tOrN X.K ta tb) := by
  intro pins s σ H Q I h
  refine BoolOp_or (thn (ha pins s σ H _ I h) fun v s1 ⟨x, H1, I1, r1, q1⟩ => ?_)
  rcases q1 with ⟨rfl, q⟩ | ⟨l, xs, rfl, hS, qe, qn⟩
  · cases r1
    exact truthy_none (hb pins s1 σ H1 Q I1 q)
  · cases r1
    obtain ⟨its, rv, pl, hz⟩ := I1.list hS
    have hl := rv.length
    refine wpAny_truthy_list pl.isList (by simp only [List.size_toArray]; have hs : sizeLine = 16777216 := sizeLine_eq; omega) ?_
    cases its with
    | nil =>
      have e : xs = [] := List.length_eq_zero_iff.mp (by rw [hl]; rfl)
      exact hb pins _ σ H1 Q (I1.tok _) (qe e)
    | cons y ys =>
      have e : ¬ xs = [] := fun z => by rw [z] at hl; cases hl
      exact ⟨.ref l, H1, I1.tok _, rfl, qn e⟩
/-- o.m(e, ..), a method of a class of the text -/
theorem pe_methC {o e : Expr} {es : List Expr} {m : Str} {apos pos : Pos} {k j : Nat} {ps : List Str} {sp : Sp} {E : XK} {C : Addr} {ta : TE} {t : TA} {pl : Sem Bool} (M : MethM X.prog X.w X.K X.mg X.base j C m ps sp) (hr : Room k X.A) (hx : Passes CX0 X E) (he : PE X o ta) (ha : PA X (e :: es) t) (hj : j ≤ k := by first | decide | omega)
    (hst : starEach (e :: es) X.env = (false, eval e X.env) :: starEach es X.env := by rfl) (hpl : (backTo pos (starEach es X.env)).any (·.1) = false := by rfl)
    (ht : eval (.Call (.Attribute o m apos) (e :: es) [] pos) X.env = (do
      let ov ← eval o X.env
      standAt apos.atName
      let (f, first) ← holding [ov] (getMethod ov m pl)
      callWith pos f first (backTo pos (starEach (e :: es) X.env)) (backToKw pos (keywordEach [] X.env))) := by rfl) : PE X (.Call (.Attribute o m apos) (e :: es) [] pos) (tMeth C m sp [] E ta t) := by
  obtain ⟨f, fd, F, b, me, c⟩ := M
  exact pe_meth he c me (F.mono hj) hr b .nil hx ha hst hpl ht
end
end L2
end

section
set_option Elab.async false
set_option linter.all false
set_option maxRecDepth 100000
set_option maxHeartbeats 4000000
namespace L2
open PySem PySem.Spec PyProof.Rows
section
variable {X : Cx}
/-- how many members a list of unlike ints has as a set -/
def tLS (K : PySem.W.Frag) (te : TE) : TE := fun σ H Q => te σ H fun x H1 => ∃ l ns, x = .ref l ∧ SqL K H1 l ((ns : List Int).map V.int) ∧ ns.Nodup ∧ ns.length < 64 ∧ Q (.int ns.length) H1
theorem pe_lset {e : Expr} {te : TE} {p p2 pos pos2 : Pos} (hc : X.calm = true) (hg : Gl X "len") (hm : X.mg "len" = none) (hg2 : Gl X "set") (hm2 : X.mg "set" = none) (he : PE X e te)
    (h1 : starEach [e] X.env = [(false, eval e X.env)] := by rfl) (h2 : starEach [.Call (.Name "set" p2) [e] [] pos2] X.env = [(false, eval (.Call (.Name "set" p2) [e] [] pos2) X.env)] := by rfl) :
    PE X (.Call (.Name "len" p) [.Call (.Name "set" p2) [e] [] pos2] [] pos) (tLS X.K te) := by
  intro pins s σ H Q I h
  refine wpAny_Call_Name_kw (ld_blt I hg hm PySem.boot_len ?_ (by decide) (by decide))
  refine PyProof.Rows.callWith_builtin1 ?_ h2 rfl
  rw [h2]
  refine Calls.spliced_cons ?_
  refine wpAny_Call_Name_kw (ld_blt I hg2 hm2 boot_set' ?_ (by decide) (by decide))
  refine PyProof.Rows.callWith_type1 ?_ h1 rfl
  rw [h1]
  refine Calls.spliced_cons (thn (he pins s σ H _ I h) fun u s1 ⟨x, H1, I1, r1, q1⟩ => Calls.spliced_nil ?_)
  obtain ⟨l, ns, rfl, hS, nd, hl, q⟩ := q1
  cases r1
  obtain ⟨its, rv, pl, hz⟩ := I1.list hS
  have hlen := rv.length
  rw [List.length_map] at hlen
  have hi := intsAre_of rv
  have hsz : its.toArray.size = its.length := by simp
  refine call_setT (knd := intKind X.prog X.w) (ks := ns) (I1.ok.hd hc) pl.isList (by rw [hsz]; exact hlen) (fun i v hv => ?_) (by rw [hsz]; show its.length + 1 < 4096; omega) fun s2 m => Calls.spliced_nil ?_
  · obtain ⟨t, e⟩ := IntsAre.int_at hi i v (by simpa using hv)
    have hil : i < ns.length := by
      rw [hlen]
      have := Array.getElem?_eq_some_iff.mp hv
      obtain ⟨z, _⟩ := this
      simpa using z
    subst e
    refine ⟨ns.getD i 0, ?_, intKind_is _ _ _ _, rfl⟩
    rw [List.getD_eq_getElem?_getD, List.getElem?_eq_getElem hil]
    rfl
  obtain ⟨h', tk, rfl, S, k1⟩ := m
  obtain ⟨o, es, ep, t, ms, D⟩ := S
  have e1 : ms.length = ns.length := Nat.le_antisymm (nodup_len D.nd fun k hk => (D.mem k).mp hk) (nodup_len nd fun k hk => (D.mem k).mpr hk)
  have e2 := PySem.Paired.length D.pr
  have e3 : es.size = ns.length := by rw [← e1, ← e2]; simp
  refine call_len_set (s := { s1 with heap := h', toks := tk }) D.at' D.ex D.dat D.fit (by omega) ?_
  have I2 : Inv X pins σ H1 { s1 with heap := h', toks := tk + 1 + 1 } := I1.kept fun b u e => k1 b u (Heap.lt_size e) e
  exact ⟨.int ns.length, H1, I2, ⟨_, by rw [e3]⟩, q⟩
end
end L2
end

section
set_option Elab.async false
set_option linter.all false
set_option maxRecDepth 100000
set_option maxHeartbeats 4000000
namespace My
open PySem L2
def top (i : Nat) : Stmt := PySem.Challenge.pw_signalwise_k43_ring.main.body.getD i (.Pass ⟨0, 0, 0, 0⟩)
abbrev s_ring : Stmt := top 2
theorem sc_ring : FnScope ["net", "state", "coming", "known", "gate", "way", "places"] ["net", "state", "coming"] (defScope s_ring) := ⟨rfl, rfl, rfl, by decide +kernel, rfl, by decide +kernel, by decide +kernel⟩
abbrev s_gates_settled : Stmt := top 3
theorem sc_gates_settled : FnScope ["net", "state", "coming", "settler", "rests", "signs", "number", "gate", "heard"] ["net", "state", "coming"] (defScope s_gates_settled) := ⟨rfl, rfl, rfl, by decide +kernel, rfl, by decide +kernel, by decide +kernel⟩
abbrev s_value_at_first : Stmt := top 4
theorem sc_value_at_first : FnScope ["gate", "starts", "rests", "signs", "word"] ["gate", "starts", "rests", "signs"] (defScope s_value_at_first) := ⟨rfl, rfl, rfl, by decide +kernel, rfl, by decide +kernel, by decide +kernel⟩
abbrev s_namers_of : Stmt := top 5
theorem sc_namers_of : FnScope ["gates", "namers", "number", "gate", "named"] ["gates"] (defScope s_namers_of) := ⟨rfl, rfl, rfl, by decide +kernel, rfl, by decide +kernel, by decide +kernel⟩
abbrev s__law_mixed : Stmt := top 8
theorem sc__law_mixed : FnScope ["_law_cell"] ["_law_cell"] (defScope s__law_mixed) := ⟨rfl, rfl, rfl, by decide +kernel, rfl, by decide +kernel, by decide +kernel⟩
abbrev s__law_at : Stmt := top 9
theorem sc__law_at : FnScope ["_law_script", "_law_k"] ["_law_script", "_law_k"] (defScope s__law_at) := ⟨rfl, rfl, rfl, by decide +kernel, rfl, by decide +kernel, by decide +kernel⟩
abbrev s__law_net : Stmt := top 10
theorem sc__law_net : FnScope ["_law_script", "_law_gates", "_law_count", "_law_k", "_law_seed", "_law_lot", "_law_pick"] ["_law_script"] (defScope s__law_net) := ⟨rfl, rfl, rfl, by decide +kernel, rfl, by decide +kernel, by decide +kernel⟩
abbrev s__law_state : Stmt := top 11
theorem sc__law_state : FnScope ["_law_seed"] ["_law_seed"] (defScope s__law_state) := ⟨rfl, rfl, rfl, by decide +kernel, rfl, by decide +kernel, by decide +kernel⟩
abbrev s__law_value : Stmt := top 12
theorem sc__law_value : FnScope ["_law_gate", "_law_state_here", "_law_coming", "_law_known", "_law_word", "_law_numbers", "_law_ahead"] ["_law_gate", "_law_state_here", "_law_coming", "_law_known"] (defScope s__law_value) := ⟨rfl, rfl, rfl, by decide +kernel, rfl, by decide +kernel, by decide +kernel⟩
abbrev s__law_least : Stmt := top 13
theorem sc__law_least : FnScope ["_law_net_here", "_law_state_here", "_law_coming", "_law_known", "_law_changed", "_law_number"] ["_law_net_here", "_law_state_here", "_law_coming"] (defScope s__law_least) := ⟨rfl, rfl, rfl, by decide +kernel, rfl, by decide +kernel, by decide +kernel⟩
abbrev s_law : Stmt := top 14
theorem sc_law : FnScope ["_law_script", "_law_net_here", "_law_seed", "_law_state_here", "_law_coming", "_law_known", "_law_found", "_law_k"] ["_law_script"] (defScope s_law) := ⟨rfl, rfl, rfl, by decide +kernel, rfl, by decide +kernel, by decide +kernel⟩
abbrev s_Settler : Stmt := top 6
structure Txt (mg : Str → Option Value) : Prop where
  n_bool : mg "bool" = none
  n_dict : mg "dict" = none
  n_enumerate : mg "enumerate" = none
  n_int : mg "int" = none
  n_isinstance : mg "isinstance" = none
  n_len : mg "len" = none
  n_list : mg "list" = none
  n_max : mg "max" = none
  n_min : mg "min" = none
  n_range : mg "range" = none
  n_set : mg "set" = none
  n_tuple : mg "tuple" = none
inductive Gt where
  | start
  | mem (k : Int)
  | given (s : Int)
  | nt (g : Nat)
  | all (gs : List Nat)
  | som (gs : List Nat)
abbrev Kn := Nat → Option Bool
def Kn.set (k : Kn) (g : Nat) (v : Bool) : Kn := fun i => if i = g then some v else k i
def Gt.nums : Gt → List Nat
  | .nt g => [g]
  | .all gs => gs
  | .som gs => gs
  | _ => []
/-- all, and dually some: the truth t that one alone tells -/
def tell (t : Bool) (k : Kn) (gs : List Nat) : Option Bool :=
  if ∃ g ∈ gs, k g = some t then some t else if ∀ g ∈ gs, k g = some (!t) then some (!t) else none
def gval (st : Option (List Int)) (co : List Int) (k : Kn) : Gt → Option Bool
  | .start => some st.isNone
  | .mem n => some (match st with | none => false | some l => decide (n ∈ l))
  | .given s => some (decide (s ∈ co))
  | .nt g => (k g).map not
  | .all gs => tell false k gs
  | .som gs => tell true k gs
def leN (k k' : Kn) : Prop := ∀ g v, k g = some v → k' g = some v
theorem tell_some {t : Bool} {k : Kn} {gs : List Nat} {v : Bool} : tell t k gs = some v ↔ (v = t ∧ ∃ g ∈ gs, k g = some t) ∨ (v = !t ∧ ∀ g ∈ gs, k g = some (!t)) := by
  unfold tell
  split
  · next h =>
    constructor
    · intro e; cases e; exact .inl ⟨rfl, h⟩
    · rintro (⟨rfl, _⟩ | ⟨rfl, h2⟩)
      · rfl
      · obtain ⟨g, hg, e⟩ := h
        have := h2 g hg
        rw [e] at this
        cases t <;> cases this
  · next h =>
    split
    · next h2 =>
      constructor
      · intro e; cases e; exact .inr ⟨rfl, h2⟩
      · rintro (⟨rfl, h3⟩ | ⟨rfl, _⟩)
        · exact absurd h3 h
        · rfl
    · next h2 =>
      constructor
      · intro e; cases e
      · rintro (⟨_, h3⟩ | ⟨_, h3⟩)
        · exact absurd h3 h
        · exact absurd h3 h2
theorem gval_mono {st : Option (List Int)} {co : List Int} {k k' : Kn} (h : leN k k') {g : Gt} {v : Bool} (e : gval st co k g = some v) : gval st co k' g = some v := by
  cases g with
  | start => exact e
  | mem n => exact e
  | given s => exact e
  | nt g =>
    simp only [gval] at e ⊢
    cases z : k g with
    | none => rw [z] at e; cases e
    | some b => rw [z] at e; rw [h g b z]; exact e
  | all gs =>
    simp only [gval] at e ⊢
    rw [tell_some] at e ⊢
    exact e.imp (fun ⟨a, g, hg, z⟩ => ⟨a, g, hg, h _ _ z⟩) fun ⟨a, z⟩ => ⟨a, fun g hg => h _ _ (z g hg)⟩
  | som gs =>
    simp only [gval] at e ⊢
    rw [tell_some] at e ⊢
    exact e.imp (fun ⟨a, g, hg, z⟩ => ⟨a, g, hg, h _ _ z⟩) fun ⟨a, z⟩ => ⟨a, fun g hg => h _ _ (z g hg)⟩
theorem set_le {k : Kn} {g : Nat} {v : Bool} (h : k g = none) : leN k (k.set g v) := by
  intro i w e
  unfold Kn.set
  split
  · next z => rw [z, h] at e; cases e
  · exact e
/-- what is known, each told by what was known ahead of it -/
inductive Der (gs : List Gt) (st : Option (List Int)) (co : List Int) : Kn → Prop
  | nil : Der gs st co fun _ => none
  | step {k : Kn} {g : Nat} {v : Bool} {G : Gt} (h : Der gs st co k) (hG : gs[g]? = some G) (hn : k g = none) (hv : gval st co k G = some v) : Der gs st co (k.set g v)
theorem Der.told {gs : List Gt} {st : Option (List Int)} {co : List Int} {k : Kn} (h : Der gs st co k) : ∀ g v, k g = some v → ∃ G, gs[g]? = some G ∧ gval st co k G = some v := by
  induction h with
  | nil => intro g v e; cases e
  | step h hG hn hv ih =>
    intro i w e
    unfold Kn.set at e
    split at e
    · next z =>
      subst z
      cases e
      exact ⟨_, hG, gval_mono (set_le hn) hv⟩
    · obtain ⟨G, e1, e2⟩ := ih i w e
      exact ⟨G, e1, gval_mono (set_le hn) e2⟩
def Closed (gs : List Gt) (st : Option (List Int)) (co : List Int) (k : Kn) : Prop := ∀ g G, gs[g]? = some G → k g = none → gval st co k G = none
theorem Der.le {gs : List Gt} {st : Option (List Int)} {co : List Int} {k k' : Kn} (h : Der gs st co k) (h' : Der gs st co k') (c : Closed gs st co k') : leN k k' := by
  induction h with
  | nil => intro g v e; cases e
  | step h hG hn hv ih =>
    intro i w e
    unfold Kn.set at e
    split at e
    · next z =>
      subst z
      cases e
      have hv := gval_mono ih hv
      rename_i k g v G
      cases z : k' i with
      | none => rw [c i _ hG z] at hv; cases hv
      | some u =>
        obtain ⟨G', e1, e2⟩ := h'.told i u z
        rw [hG] at e1
        cases e1
        rw [hv] at e2
        exact e2.symm ▸ rfl
    · exact ih i w e
theorem Der.unique {gs : List Gt} {st : Option (List Int)} {co : List Int} {k k' : Kn} (h : Der gs st co k) (h' : Der gs st co k') (c : Closed gs st co k) (c' : Closed gs st co k') : k = k' := by
  funext g
  cases e : k g with
  | some v => exact (h.le h' c' g v e).symm
  | none =>
    cases e' : k' g with
    | none => rfl
    | some v => rw [h'.le h c g v e'] at e; cases e
/-- who names c, as often as it does so -/
def namers (gs : List Gt) (c : Nat) : List Nat := (List.range gs.length).flatMap fun g => List.replicate ((((gs[g]?).map Gt.nums).getD []).count c) g
def numsAt (gs : List Gt) (g : Nat) : List Nat := ((gs[g]?).map Gt.nums).getD []
theorem count_flat {g : Nat} {f : Nat → Nat} : ∀ l : List Nat, l.Nodup → (l.flatMap fun x => List.replicate (f x) x).count g = if g ∈ l then f g else 0
  | [], _ => rfl
  | x :: l, h => by
    have h' := List.nodup_cons.mp h
    rw [List.flatMap_cons, List.count_append, count_flat l h'.2, List.count_replicate]
    by_cases e : x = g
    · subst e
      simp [h'.1]
    · have e' : ¬ g = x := fun z => e z.symm
      simp [e, e', beq_iff_eq]
theorem count_namers {gs : List Gt} {c g : Nat} : (namers gs c).count g = (numsAt gs g).count c := by
  unfold namers
  rw [count_flat (f := fun g => (((gs[g]?).map Gt.nums).getD []).count c) _ List.nodup_range]
  split
  · rfl
  · next h =>
    unfold numsAt
    rw [List.getElem?_eq_none (by rw [List.mem_range] at h; omega)]
    rfl
/-- the row of gates to be heard: m are heard, of the next one those in ds have heard -/
structure Wl (gs : List Gt) (st : Option (List Int)) (co : List Int) (k : Kn) (ord : List (Nat × Bool)) (m : Nat) (ds : List Nat) (u : Nat → Int) : Prop where
  der : Der gs st co k
  mem : ∀ g v, k g = some v ↔ (g, v) ∈ ord
  nd : (ord.map Prod.fst).Nodup
  un : ∀ g, ¬ numsAt gs g = [] → u g + ((numsAt gs g).countP (fun c => decide (c ∈ (ord.take m).map Prod.fst)) : Int) + (ds.count g : Int) = ((numsAt gs g).length : Int)
  hd : ∀ g G c v, gs[g]? = some G → c ∈ G.nums → (c, v) ∈ ord.take m → k g = none → (∃ l, G = .all l ∧ v = true) ∨ ∃ l, G = .som l ∧ v = false
  hc : ∀ g G c v, gs[g]? = some G → g ∈ ds → ord[m]? = some (c, v) → k g = none → (∃ l, G = .all l ∧ v = true) ∨ ∃ l, G = .som l ∧ v = false
  fs : ∀ g G, gs[g]? = some G → k g = none → ¬ G.nums = [] ∧ ¬ u g = 0
theorem Wl.val {gs : List Gt} {st : Option (List Int)} {co : List Int} {k : Kn} {ord : List (Nat × Bool)} {m : Nat} {u : Nat → Int} (h : Wl gs st co k ord m [] u) (hm : ord.length ≤ m) : Closed gs st co k := by
  intro g G hG hn
  obtain ⟨n1, n2⟩ := h.fs g G hG hn
  have tk : ord.take m = ord := List.take_of_length_le hm
  have hd := fun c v hc hv => h.hd g G c v hG hc (by rw [tk]; exact (h.mem c v).mp hv) hn
  have ng : numsAt gs g = G.nums := by unfold numsAt; rw [hG]; rfl
  have un := h.un g (by rw [ng]; exact n1)
  rw [tk] at un
  have notall : ¬ ∀ c ∈ G.nums, ∃ v, k c = some v := fun z => by
    have : (numsAt gs g).countP (fun c => decide (c ∈ ord.map Prod.fst)) = (numsAt gs g).length := by
      rw [List.countP_eq_length]
      intro c hc
      rw [ng] at hc
      obtain ⟨v, hv⟩ := z c hc
      exact decide_eq_true (List.mem_map.mpr ⟨(c, v), (h.mem c v).mp hv, rfl⟩)
    rw [this] at un
    simp at un
    omega
  cases G with
  | start => exact absurd rfl n1
  | mem n => exact absurd rfl n1
  | given s => exact absurd rfl n1
  | nt c =>
    simp only [gval]
    cases e : k c with
    | none => rfl
    | some v =>
      rcases hd c v (List.mem_singleton.mpr rfl) e with ⟨l, z, _⟩ | ⟨l, z, _⟩ <;> cases z
  | all l =>
    simp only [gval]
    cases e : tell false k l with
    | none => rfl
    | some v =>
      exfalso
      rcases tell_some.mp e with ⟨rfl, c, hc, e⟩ | ⟨_, e⟩
      · rcases hd c _ hc e with ⟨l, z, y⟩ | ⟨l, z, _⟩
        · cases y
        · cases z
      · exact notall fun c hc => ⟨_, e c hc⟩
  | som l =>
    simp only [gval]
    cases e : tell true k l with
    | none => rfl
    | some v =>
      exfalso
      rcases tell_some.mp e with ⟨rfl, c, hc, e⟩ | ⟨_, e⟩
      · rcases hd c _ hc e with ⟨l, z, _⟩ | ⟨l, z, y⟩
        · cases z
        · cases y
      · exact notall fun c hc => ⟨_, e c hc⟩
theorem take_snoc {ord : List (Nat × Bool)} {m : Nat} {x : Nat × Bool} (h : ord[m]? = some x) : ord.take (m + 1) = ord.take m ++ [x] := by
  rw [List.take_add_one, h]; rfl
theorem nd_take {ord : List (Nat × Bool)} {m : Nat} {c : Nat} {v : Bool} (nd : (ord.map Prod.fst).Nodup) (h : ord[m]? = some (c, v)) : ¬ c ∈ (ord.take m).map Prod.fst := by
  have e : ord = ord.take m ++ (c, v) :: ord.drop (m + 1) := by
    have hl : m < ord.length := (List.getElem?_eq_some_iff.mp h).1
    have := List.drop_eq_getElem_cons hl
    rw [(List.getElem?_eq_some_iff.mp h).2] at this
    rw [← this, List.take_append_drop]
  rw [e, List.map_append, List.map_cons] at nd
  intro z
  exact (List.nodup_append.mp nd).2.2 c z c (by simp) rfl
/-- all that name the next one have heard of it -/
theorem Wl.next {gs : List Gt} {st : Option (List Int)} {co : List Int} {k : Kn} {ord : List (Nat × Bool)} {m c : Nat} {v : Bool} {u : Nat → Int} (h : Wl gs st co k ord m (namers gs c) u) (hm : ord[m]? = some (c, v)) : Wl gs st co k ord (m + 1) [] u := by
  have nt := nd_take h.nd hm
  refine ⟨h.der, h.mem, h.nd, fun g hne => ?_, fun g G c' v' hG hc hv hn => ?_, fun g G c v hG z => (by cases z), h.fs⟩
  · have := h.un g hne
    clear hne
    rw [count_namers] at this
    rw [← this, take_snoc hm, List.map_append]
    generalize (ord.take m).map Prod.fst = A at nt
    have e : (numsAt gs g).countP (fun x => decide (x ∈ A ++ [(c, v)].map Prod.fst)) = (numsAt gs g).countP (fun x => decide (x ∈ A)) + (numsAt gs g).count c := by
      induction numsAt gs g with
      | nil => rfl
      | cons x l ih =>
        rw [List.countP_cons, List.countP_cons, List.count_cons, ih]
        by_cases e : x = c
        · subst e
          simp [nt]
          omega
        · simp [e]
          omega
    rw [e]
    simp
    omega
  · rw [take_snoc hm] at hv
    rcases List.mem_append.mp hv with hv | hv
    · exact h.hd g G c' v' hG hc hv hn
    · cases List.mem_singleton.mp hv
      refine h.hc g G c v hG ?_ hm hn
      refine List.count_pos_iff.mp ?_
      rw [count_namers]
      unfold numsAt
      rw [hG]
      exact List.count_pos_iff.mpr hc

/-- what is learnt -/
def learn (k : Kn) (ord : List (Nat × Bool)) (g : Nat) (o : Option Bool) : Kn × List (Nat × Bool) :=
  match k g, o with
  | none, some v => (k.set g v, ord ++ [(g, v)])
  | _, _ => (k, ord)
/-- what a gate is told by hearing of one of its numbers -/
def heard (G : Gt) (w : Int) (v : Bool) : Option Bool :=
  match G with
  | .nt _ => some !v
  | .all _ => if v = false ∨ w = 0 then some v else none
  | .som _ => if v = true ∨ w = 0 then some v else none
  | _ => none
theorem learn_in {k : Kn} {ord : List (Nat × Bool)} {g : Nat} {o : Option Bool} (h : ¬ k g = none) : learn k ord g o = (k, ord) := by
  unfold learn
  cases e : k g with
  | none => exact absurd e h
  | some w => rfl
theorem mem_snoc {k : Kn} {ord : List (Nat × Bool)} {g : Nat} {v : Bool} (mem : ∀ g v, k g = some v ↔ (g, v) ∈ ord) (hn : k g = none) : ∀ i w, (k.set g v) i = some w ↔ (i, w) ∈ ord ++ [(g, v)] := by
  intro i w
  rw [List.mem_append, List.mem_singleton]
  unfold Kn.set
  split
  · next e =>
    subst e
    constructor
    · intro z; cases z; exact .inr rfl
    · rintro (z | z)
      · rw [(mem i w).mpr z] at hn; cases hn
      · cases z; rfl
  · next e =>
    constructor
    · intro z; exact .inl ((mem i w).mp z)
    · rintro (z | z)
      · exact (mem i w).mpr z
      · cases z; exact absurd rfl e
theorem nd_snoc {k : Kn} {ord : List (Nat × Bool)} {g : Nat} {v : Bool} (mem : ∀ g v, k g = some v ↔ (g, v) ∈ ord) (nd : (ord.map Prod.fst).Nodup) (hn : k g = none) : ((ord ++ [(g, v)]).map Prod.fst).Nodup := by
  rw [List.map_append]
  refine List.nodup_append.mpr ⟨nd, by simp, fun a ha b hb e => ?_⟩
  obtain ⟨⟨x, y⟩, hx, rfl⟩ := List.mem_map.mp ha
  have hb : b = g := by simpa using hb
  subst hb
  have e : x = b := e
  subst e
  rw [(mem x y).mpr hx] at hn
  cases hn
theorem set_none {k : Kn} {g i : Nat} {v : Bool} (h : (k.set g v) i = none) : k i = none ∧ ¬ i = g := by
  unfold Kn.set at h
  split at h
  · cases h
  · next e => exact ⟨h, e⟩
/-- one that names the next one hears of it -/
theorem Wl.hear {gs : List Gt} {st : Option (List Int)} {co : List Int} {k : Kn} {ord : List (Nat × Bool)} {m c g : Nat} {v : Bool} {ds rs : List Nat} {u : Nat → Int} {G : Gt} (h : Wl gs st co k ord m ds u) (hm : ord[m]? = some (c, v)) (hd : ds ++ g :: rs = namers gs c) (hG : gs[g]? = some G) :
    Wl gs st co (learn k ord g (heard G (u g - 1) v)).1 (learn k ord g (heard G (u g - 1) v)).2 m (ds ++ [g]) (fun i => if i = g then u g - 1 else u i) := by
  have ng : numsAt gs g = G.nums := by unfold numsAt; rw [hG]; rfl
  have cnt : ∀ i, (ds ++ [g]).count i ≤ (numsAt gs i).count c := fun i => by
    rw [← count_namers, ← hd, show ds ++ g :: rs = (ds ++ [g]) ++ rs by simp, List.count_append (l₁ := ds ++ [g])]
    omega
  have cin : c ∈ G.nums := by
    rw [← ng]
    refine List.count_pos_iff.mp ?_
    have := cnt g
    rw [List.count_append, List.count_singleton] at this
    simp at this
    omega
  have kc : k c = some v := (h.mem c v).mpr (List.mem_of_getElem? hm)
  have nt := nd_take h.nd hm
  have un : ∀ i, ¬ numsAt gs i = [] → (if i = g then u g - 1 else u i) + ((numsAt gs i).countP (fun c => decide (c ∈ (ord.take m).map Prod.fst)) : Int) + ((ds ++ [g]).count i : Int) = ((numsAt gs i).length : Int) := fun i hne => by
    have := h.un i hne
    rw [List.count_append, List.count_singleton]
    generalize (numsAt gs i).countP (fun c => decide (c ∈ (ord.take m).map Prod.fst)) = cp at this
    by_cases e : i = g
    · subst e; simp; omega
    · have e' : ¬ g = i := fun z => e z.symm
      simp [e, e']; omega
  -- all are heard
  have allH : u g - 1 = 0 → ∀ x ∈ G.nums, x ∈ (ord.take m).map Prod.fst ∨ x = c := fun z => by
    have e := un g (by rw [ng]; intro z; rw [z] at cin; cases cin)
    have cg := cnt g
    rw [if_pos rfl, z] at e
    generalize (ord.take m).map Prod.fst = A at e nt
    have f : (numsAt gs g).countP (fun x => decide (x ∈ A ∨ x = c)) = (numsAt gs g).countP (fun x => decide (x ∈ A)) + (numsAt gs g).count c := by
      clear e cg
      induction numsAt gs g with
      | nil => rfl
      | cons x l ih =>
        rw [List.countP_cons, List.countP_cons, List.count_cons, ih]
        by_cases e : x = c
        · subst e
          simp [nt]
          omega
        · simp [e]
          omega
    have le := List.countP_le_length (p := fun x => decide (x ∈ A ∨ x = c)) (l := numsAt gs g)
    have f2 : (numsAt gs g).countP (fun x => decide (x ∈ A ∨ x = c)) = (numsAt gs g).length := by omega
    rw [List.countP_eq_length] at f2
    intro x hx
    exact of_decide_eq_true (f2 x (ng ▸ hx))
  by_cases hn : k g = none
  · -- what the gate is told is so
    have told : ∀ w, heard G (u g - 1) v = some w → gval st co k G = some w := by
      intro w hw
      have old : ∀ x y, x ∈ G.nums → x ∈ (ord.take m).map Prod.fst → k x = some y → (∃ l, G = .all l ∧ y = true) ∨ ∃ l, G = .som l ∧ y = false := fun x y hx hA hy => by
        obtain ⟨⟨x', y'⟩, hp, e⟩ := List.mem_map.mp hA
        have e : x' = x := e
        subst e
        have : k x' = some y' := (h.mem x' y').mpr (List.mem_of_mem_take hp)
        rw [hy] at this
        cases this
        exact h.hd g G x' y hG hx hp hn
      cases G with
      | start => cases hw
      | mem n => cases hw
      | given s => cases hw
      | nt x =>
        cases hw
        have : c = x := List.mem_singleton.mp cin
        subst this
        simp only [gval]
        rw [kc]; rfl
      | all l =>
        simp only [heard] at hw
        simp only [gval]
        split at hw
        · next z =>
          cases hw
          rw [tell_some]
          cases v with
          | false => exact .inl ⟨rfl, c, cin, kc⟩
          | true =>
            refine .inr ⟨rfl, fun x hx => ?_⟩
            have z := z.resolve_left (fun z => by cases z)
            rcases allH z x hx with hA | rfl
            · obtain ⟨⟨x', y'⟩, hp, e⟩ := List.mem_map.mp hA
              have e : x' = x := e
              subst e
              have ky : k x' = some y' := (h.mem x' y').mpr (List.mem_of_mem_take hp)
              rcases old x' y' hx hA ky with ⟨_, _, rfl⟩ | ⟨_, z, _⟩
              · exact ky
              · cases z
            · exact kc
        · cases hw
      | som l =>
        simp only [heard] at hw
        simp only [gval]
        split at hw
        · next z =>
          cases hw
          rw [tell_some]
          cases v with
          | true => exact .inl ⟨rfl, c, cin, kc⟩
          | false =>
            refine .inr ⟨rfl, fun x hx => ?_⟩
            have z := z.resolve_left (fun z => by cases z)
            rcases allH z x hx with hA | rfl
            · obtain ⟨⟨x', y'⟩, hp, e⟩ := List.mem_map.mp hA
              have e : x' = x := e
              subst e
              have ky : k x' = some y' := (h.mem x' y').mpr (List.mem_of_mem_take hp)
              rcases old x' y' hx hA ky with ⟨_, z, _⟩ | ⟨_, _, rfl⟩
              · cases z
              · exact ky
            · exact kc
        · cases hw
    cases ho : heard G (u g - 1) v with
    | some w =>
      have e : learn k ord g (some w) = (k.set g w, ord ++ [(g, w)]) := by unfold learn; rw [hn]
      rw [e]
      have hl : m < ord.length := (List.getElem?_eq_some_iff.mp hm).1
      have tk : (ord ++ [(g, w)]).take m = ord.take m := List.take_append_of_le_length (by omega)
      have gm : (ord ++ [(g, w)])[m]? = some (c, v) := by rw [List.getElem?_append_left hl]; exact hm
      refine ⟨h.der.step hG hn (told w ho), mem_snoc h.mem hn, nd_snoc h.mem h.nd hn, by rw [tk]; exact un, fun i I x y hI hx hy hi => ?_, fun i I x y hI hx hy hi => ?_, fun i I hI hi => ?_⟩
      · rw [tk] at hy
        exact h.hd i I x y hI hx hy (set_none hi).1
      · rw [gm] at hy
        rcases List.mem_append.mp hx with hx | hx
        · exact h.hc i I x y hI hx (by rw [hm]; exact hy) (set_none hi).1
        · exact absurd (List.mem_singleton.mp hx) (set_none hi).2
      · obtain ⟨a, b⟩ := set_none hi
        obtain ⟨n1, n2⟩ := h.fs i I hI a
        refine ⟨n1, ?_⟩
        show ¬ (if i = g then u g - 1 else u i) = 0
        rw [if_neg b]; exact n2
    | none =>
      have e : learn k ord g none = (k, ord) := by unfold learn; split <;> first | rfl | (next z => cases z)
      rw [e]
      have un0 : ¬ u g - 1 = 0 ∧ ((∃ l, G = .all l ∧ v = true) ∨ ∃ l, G = .som l ∧ v = false) := by
        cases G with
        | start => cases cin
        | mem n => cases cin
        | given s => cases cin
        | nt x => cases ho
        | all l =>
          simp only [heard] at ho
          split at ho
          · cases ho
          · next z => exact ⟨fun y => z (.inr y), .inl ⟨l, rfl, by cases v <;> simp at z ⊢⟩⟩
        | som l =>
          simp only [heard] at ho
          split at ho
          · cases ho
          · next z => exact ⟨fun y => z (.inr y), .inr ⟨l, rfl, by cases v <;> simp at z ⊢⟩⟩
      refine ⟨h.der, h.mem, h.nd, un, h.hd, fun i I x y hI hx hy hi => ?_, fun i I hI hi => ?_⟩
      · rcases List.mem_append.mp hx with hx | hx
        · exact h.hc i I x y hI hx hy hi
        · cases List.mem_singleton.mp hx
          rw [hG] at hI
          cases hI
          rw [hm] at hy
          cases hy
          exact un0.2
      · obtain ⟨n1, n2⟩ := h.fs i I hI hi
        refine ⟨n1, ?_⟩
        show ¬ (if i = g then u g - 1 else u i) = 0
        split
        · exact un0.1
        · exact n2
  · rw [learn_in hn]
    refine ⟨h.der, h.mem, h.nd, un, h.hd, fun i I x y hI hx hy hi => ?_, fun i I hI hi => ?_⟩
    · rcases List.mem_append.mp hx with hx | hx
      · exact h.hc i I x y hI hx hy hi
      · cases List.mem_singleton.mp hx
        exact absurd hi hn
    · obtain ⟨n1, n2⟩ := h.fs i I hI hi
      refine ⟨n1, ?_⟩
      show ¬ (if i = g then u g - 1 else u i) = 0
      split
      · next e => subst e; exact absurd hi hn
      · exact n2

/-- what a gate is at first -/
def atFirst (st : Option (List Int)) (co : List Int) : Gt → Option Bool
  | .start => some st.isNone
  | .mem n => some (match st with | none => false | some l => decide (n ∈ l))
  | .given s => some (decide (s ∈ co))
  | .nt _ => none
  | .all gs => if gs = [] then some true else none
  | .som gs => if gs = [] then some false else none
theorem first_val {st : Option (List Int)} {co : List Int} {k : Kn} {G : Gt} {v : Bool} (h : atFirst st co G = some v) : gval st co k G = some v := by
  cases G with
  | start => exact h
  | mem n => exact h
  | given s => exact h
  | nt g => cases h
  | all gs =>
    simp only [atFirst] at h
    split at h
    · next z => subst z; cases h; exact tell_some.mpr (.inr ⟨rfl, fun g hg => by cases hg⟩)
    · cases h
  | som gs =>
    simp only [atFirst] at h
    split at h
    · next z => subst z; cases h; exact tell_some.mpr (.inr ⟨rfl, fun g hg => by cases hg⟩)
    · cases h
theorem first_none {st : Option (List Int)} {co : List Int} {G : Gt} (h : atFirst st co G = none) : ¬ G.nums = [] := by
  cases G with
  | start => cases h
  | mem n => cases h
  | given s => cases h
  | nt g => intro z; cases z
  | all gs =>
    simp only [atFirst] at h
    split at h
    · cases h
    · assumption
  | som gs =>
    simp only [atFirst] at h
    split at h
    · cases h
    · assumption
/-- those ahead of i are looked at -/
structure Fs (gs : List Gt) (st : Option (List Int)) (co : List Int) (k : Kn) (ord : List (Nat × Bool)) (i : Nat) : Prop where
  der : Der gs st co k
  mem : ∀ g v, k g = some v ↔ (g, v) ∈ ord
  nd : (ord.map Prod.fst).Nodup
  fs : ∀ g G, g < i → gs[g]? = some G → k g = none → ¬ G.nums = []
  up : ∀ g, i ≤ g → k g = none
theorem Fs.nil {gs : List Gt} {st : Option (List Int)} {co : List Int} : Fs gs st co (fun _ => none) [] 0 :=
  ⟨.nil, fun g v => ⟨fun z => (by cases z), fun z => (by cases z)⟩, List.nodup_nil, fun g G z => absurd z (Nat.not_lt_zero _), fun _ _ => rfl⟩
theorem Fs.step {gs : List Gt} {st : Option (List Int)} {co : List Int} {k : Kn} {ord : List (Nat × Bool)} {i : Nat} {G : Gt} (h : Fs gs st co k ord i) (hG : gs[i]? = some G) : Fs gs st co (learn k ord i (atFirst st co G)).1 (learn k ord i (atFirst st co G)).2 (i + 1) := by
  have hn := h.up i (Nat.le_refl _)
  cases e : atFirst st co G with
  | none =>
    rw [show learn k ord i none = (k, ord) by unfold learn; split <;> first | rfl | (next z => cases z)]
    refine ⟨h.der, h.mem, h.nd, fun g G' hg hG' hk => ?_, fun g hg => h.up g (by omega)⟩
    by_cases c : g = i
    · subst c
      rw [hG] at hG'
      cases hG'
      exact first_none e
    · exact h.fs g G' (by omega) hG' hk
  | some v =>
    rw [show learn k ord i (some v) = (k.set i v, ord ++ [(i, v)]) by unfold learn; rw [hn]]
    refine ⟨h.der.step hG hn (first_val e), mem_snoc h.mem hn, nd_snoc h.mem h.nd hn, fun g G' hg hG' hk => ?_, fun g hg => ?_⟩
    · obtain ⟨a, b⟩ := set_none hk
      exact h.fs g G' (by omega) hG' a
    · show (k.set i v) g = none
      unfold Kn.set
      rw [if_neg (by omega)]
      exact h.up g (by omega)
theorem Fs.wl {gs : List Gt} {st : Option (List Int)} {co : List Int} {k : Kn} {ord : List (Nat × Bool)} {u : Nat → Int} (h : Fs gs st co k ord gs.length) (hu : ∀ g, ¬ numsAt gs g = [] → u g = (numsAt gs g).length) : Wl gs st co k ord 0 [] u := by
  refine ⟨h.der, h.mem, h.nd, fun g hne => ?_, fun g G c v _ _ z => (by cases z), fun g G c v _ z => (by cases z), fun g G hG hk => ?_⟩
  · rw [hu g hne]
    simp
  · have n1 := h.fs g G (List.getElem?_eq_some_iff.mp hG).1 hG hk
    have ng : numsAt gs g = G.nums := by unfold numsAt; rw [hG]; rfl
    refine ⟨n1, ?_⟩
    rw [hu g (by rw [ng]; exact n1), ng]
    intro z
    exact n1 (List.length_eq_zero_iff.mp (by omega))
/-- the values as a list -/
def knL (l : List (Option Bool)) : Kn := fun i => (l[i]?).getD none
theorem knL_set {l : List (Option Bool)} {g : Nat} {v : Bool} (h : g < l.length) : knL (l.set g (some v)) = (knL l).set g v := by
  funext i
  unfold knL Kn.set
  rw [List.getElem?_set]
  by_cases e : g = i
  · subst e; simp [h]
  · have e' : ¬ i = g := fun z => e z.symm
    simp [e, e']
theorem knL_inj {l l' : List (Option Bool)} (hl : l.length = l'.length) (h : knL l = knL l') : l = l' := by
  refine List.ext_getElem hl fun i h1 h2 => ?_
  have := congrFun h i
  unfold knL at this
  rw [List.getElem?_eq_getElem h1, List.getElem?_eq_getElem h2] at this
  exact this
def nns (l : List (Option Bool)) : Nat := l.countP (·.isNone)
theorem nns_set {g : Nat} {v : Bool} : ∀ {l : List (Option Bool)} (h : l[g]? = some none), nns (l.set g (some v)) + 1 = nns l := by
  induction g with
  | zero => intro l h; cases l with
    | nil => cases h
    | cons x l => cases h; simp [nns]
  | succ g ih => intro l h; cases l with
    | nil => cases h
    | cons x l =>
      have := ih (l := l) (by simpa using h)
      simp only [nns, List.set_cons_succ, List.countP_cons] at this ⊢
      omega
/-- the law's own round: i gates are looked at; whether one became known -/
structure Rd (gs : List Gt) (st : Option (List Int)) (co : List Int) (k0 k : List (Option Bool)) (i : Nat) (b : Bool) : Prop where
  der : Der gs st co (knL k)
  len : k.length = gs.length
  no : b = false → k = k0 ∧ ∀ g G, g < i → gs[g]? = some G → knL k g = none → gval st co (knL k) G = none
  yes : b = true → nns k < nns k0
  le : nns k ≤ nns k0
theorem Rd.nil {gs : List Gt} {st : Option (List Int)} {co : List Int} {k : List (Option Bool)} (d : Der gs st co (knL k)) (h : k.length = gs.length) : Rd gs st co k k 0 false :=
  ⟨d, h, fun _ => ⟨rfl, fun g G z => absurd z (Nat.not_lt_zero _)⟩, fun z => (by cases z), Nat.le_refl _⟩
theorem Rd.skip {gs : List Gt} {st : Option (List Int)} {co : List Int} {k0 k : List (Option Bool)} {i : Nat} {b : Bool} (h : Rd gs st co k0 k i b) (hk : ¬ knL k i = none) : Rd gs st co k0 k (i + 1) b :=
  ⟨h.der, h.len, fun z => ⟨(h.no z).1, fun g G hg hG hn => by
    by_cases c : g = i
    · subst c; exact absurd hn hk
    · exact (h.no z).2 g G (by omega) hG hn⟩, h.yes, h.le⟩
theorem Rd.step {gs : List Gt} {st : Option (List Int)} {co : List Int} {k0 k : List (Option Bool)} {i : Nat} {b : Bool} {G : Gt} (h : Rd gs st co k0 k i b) (hG : gs[i]? = some G) (hk : knL k i = none) : Rd gs st co k0 (k.set i (gval st co (knL k) G)) (i + 1) (b || (gval st co (knL k) G).isSome) := by
  have hi : i < k.length := by rw [h.len]; exact (List.getElem?_eq_some_iff.mp hG).1
  have hk' : k[i]? = some none := by
    unfold knL at hk
    rw [List.getElem?_eq_getElem hi] at hk ⊢
    exact congrArg some hk
  cases e : gval st co (knL k) G with
  | none =>
    have es : k.set i none = k := by
      refine List.ext_getElem (by simp) fun j h1 h2 => ?_
      rw [List.getElem_set]
      split
      · next z =>
        subst z
        have := hk'
        rw [List.getElem?_eq_getElem hi] at this
        exact (Option.some.inj this).symm
      · rfl
    rw [es]
    simp only [Option.isSome_none, Bool.or_false]
    refine ⟨h.der, h.len, fun z => ⟨(h.no z).1, fun g G' hg hG' hn => ?_⟩, h.yes, h.le⟩
    by_cases c : g = i
    · subst c
      rw [hG] at hG'
      cases hG'
      exact e
    · exact (h.no z).2 g G' (by omega) hG' hn
  | some v =>
    have n := nns_set (v := v) hk'
    have := h.le
    simp only [Option.isSome_some, Bool.or_true]
    exact ⟨by rw [knL_set hi]; exact h.der.step hG hk e, by rw [List.length_set]; exact h.len, fun z => (by cases z), fun _ => by omega, by omega⟩
theorem Rd.closed {gs : List Gt} {st : Option (List Int)} {co : List Int} {k0 k : List (Option Bool)} (h : Rd gs st co k0 k gs.length false) : Closed gs st co (knL k) := fun g G hG hn => (h.no rfl).2 g G (List.getElem?_eq_some_iff.mp hG).1 hG hn

end My
end

section
set_option Elab.async false
set_option linter.all false
set_option maxRecDepth 100000
set_option maxHeartbeats 4000000
namespace My
open PySem L2
def vO : Option Bool → V
  | none => .non
  | some b => .bl b
def Gt.word : Gt → Str
  | .start => "start"
  | .mem _ => "memory"
  | .given _ => "given"
  | .nt _ => "not"
  | .all _ => "all"
  | .som _ => "some"
def Gt.args : Gt → List Int
  | .start => []
  | .mem k => [k]
  | .given s => [s]
  | .nt g => [(g : Int)]
  | .all gs => gs.map Int.ofNat
  | .som gs => gs.map Int.ofNat
/-- a gate -/
inductive GtAt (K : PySem.W.Frag) (H : Hp) (G : Gt) (v : V) : Prop
  | mk (a b : Addr) (e : v = .ref a) (h1 : SqT K H a [.str G.word, .ref b]) (h2 : SqT K H b (G.args.map V.int)) : GtAt K H G v
/-- all but these stay -/
def KpL (rs : List Addr) (H H' : Hp) : Prop := ∀ b o, b ∉ rs → H b = some o → H' b = some o
abbrev flds (gl kl ol nl ul : Addr) : List (Str × V) := [("gates", .ref gl), ("known", .ref kl), ("order", .ref ol), ("namers", .ref nl), ("unheard", .ref ul)]
/-- the row of steps -/
inductive OrdAt (H : Hp) (ol : Addr) (ord : List (Nat × Bool)) : Prop
  | mk (ts : List Addr) (h : H ol = some (.lst (ts.map V.ref))) (l : ts.length = ord.length) (t : ∀ (i : Nat) a g v, ts[i]? = some a → ord[i]? = some (g, v) → H a = some (.tup [.int (g : Nat), .bl v])) : OrdAt H ol ord
/-- a settler -/
inductive StlAt (C : Addr) (H : Hp) (o gl kl ol nl ul : Addr) (k : List (Option Bool)) (ord : List (Nat × Bool)) (u : List Int) : Prop
  | mk (dx : Addr) (ho : H o = some (.ins C dx (flds gl kl ol nl ul))) (hk : H kl = some (.lst (k.map vO))) (hol : OrdAt H ol ord) (hu : H ul = some (.lst (u.map V.int))) (n1 : kl ≠ ol) (n2 : kl ≠ ul) (n3 : ol ≠ ul) : StlAt C H o gl kl ol nl ul k ord u
structure TxtG (K : PySem.W.Frag) (mg : Str → Option Value) (C aN : Addr) : Prop extends Txt mg where
  cl : Cls K C
  nG : NoAttr K C "gates"
  nK : NoAttr K C "known"
  nO : NoAttr K C "order"
  nN : NoAttr K C "namers"
  nU : NoAttr K C "unheard"
  m_Settler : mg "Settler" = some (.ref C)
  m_NAMING_GATES : mg "NAMING_GATES" = some (.ref aN)
  r_NAMING_GATES : RelV (.ref aN) (Value.ref aN)
  mN : ModT K aN [.str "not", .str "all", .str "some"]
def learnL (k : List (Option Bool)) (ord : List (Nat × Bool)) (g : Nat) (w : Option Bool) : List (Option Bool) × List (Nat × Bool) :=
  match (k[g]?).getD none, w with
  | none, some v => (k.set g (some v), ord ++ [(g, v)])
  | _, _ => (k, ord)
inductive C_spLearn (C : Addr) (vs : List V) (H : Hp) (Q : VK) : Prop
  | mk (o gl kl ol nl ul : Addr) (g : Nat) (w : Option Bool) (k : List (Option Bool)) (ord : List (Nat × Bool)) (u : List Int) (c0 : vs = [.ref o, .int g, vO w]) (c1 : StlAt C H o gl kl ol nl ul k ord u) (c2 : g < k.length) (c3 : ord.length ≤ 900) (c4 : ∀ H', KpL [kl, ol] H H' → StlAt C H' o gl kl ol nl ul (learnL k ord g w).1 (learnL k ord g w).2 u → Q .non H') : C_spLearn C vs H Q
def spLearn (C : Addr) : Sp := fun vs H Q _ => C_spLearn C vs H Q
abbrev s_m_init : Stmt := inClass s_Settler 0
abbrev s_learn : Stmt := inClass s_Settler 1
abbrev s_hand_on : Stmt := inClass s_Settler 2
abbrev s_hear : Stmt := inClass s_Settler 3
theorem sc_m_init : FnScope ["self", "gates"] ["self", "gates"] (defScope s_m_init) := ⟨rfl, rfl, rfl, by decide +kernel, rfl, by decide +kernel, by decide +kernel⟩
theorem sc_learn : FnScope ["self", "gate", "value"] ["self", "gate", "value"] (defScope s_learn) := ⟨rfl, rfl, rfl, by decide +kernel, rfl, by decide +kernel, by decide +kernel⟩
theorem sc_hand_on : FnScope ["self", "step", "namer"] ["self", "step"] (defScope s_hand_on) := ⟨rfl, rfl, rfl, by decide +kernel, rfl, by decide +kernel, by decide +kernel⟩
theorem sc_hear : FnScope ["self", "gate", "value", "word"] ["self", "gate", "value"] (defScope s_hear) := ⟨rfl, rfl, rfl, by decide +kernel, rfl, by decide +kernel, by decide +kernel⟩
section
variable {P : Program} {w : World} {K : PySem.W.Frag} {mg : Str → Option Value} {base : Heap} {C aN : Addr}
set_option maxHeartbeats 16000000 in
theorem ok_learn {f : Addr} {fd : FuncData} (F : Fun K "learn" "Settler.learn" s_learn f fd) (T : TxtG K mg C aN) : FnOk P w K mg base CX0 1 f fd ["self", "gate", "value"] (spLearn C) := by
  refine F.ok sc_learn (fun vs H Q E h => ?_) (fun cdv A outer s H vs Q E hr h => ?_)
  · obtain ⟨o, gl, kl, ol, nl, ul, g, v, k, ord, u, rfl, _⟩ := h; rfl
  obtain ⟨o, gl, kl, ol, nl, ul, g, v, k, ord, u, rfl, S, hg, lo, q⟩ := h
  obtain ⟨dx, ho, hk, ⟨ts, hol, tl, tt⟩, hu, n1, n2, n3⟩ := id S
  refine ⟨_, (pss_one (ps_if (PW.pt (pw_and (pt_cmpR op_isN (pe_ix ix_list (pe_fld (pv 0) rfl) (pv 1) (fun _ _ => rfl)) pe_non (nomark _)) (pw_and1 (pt_cmpR op_notN (pv 2) pe_non (nomark _)))))
      (pss_cons (ps_asg (pv 2) (pg_sub (pe_fld (pv 0) rfl) (pv 1) set_list))
    (pss_one (ps_expr (pe_bm PySem.F.plainAttrs_list PySem.F.slot_list_append PySem.F.type_list_append mt_append (pe_fld (pv 0) rfl) (pa_cons (pe_tup (pa_cons (pv 1) (pa_cons (pv 2) pa_nil))) pa_nil)))))
      pss_nil)), ?_⟩
  have ek : (k.map vO)[g]? = some (vO ((k[g]?).getD none)) := by
    rw [List.getElem?_map, List.getElem?_eq_getElem hg]; rfl
  refine ⟨_, rfl, o, C, dx, _, _, rfl, ho, T.cl, T.nK, rfl, _, rfl, kl, _, _, _, rfl, rfl, SqL.of hk, atI_nat ek, rfl, _, rfl, ?_⟩
  cases e1 : (k[g]?).getD none with
  | some b =>
    have el : learnL k ord g v = (k, ord) := by unfold learnL; rw [e1]
    rw [el] at q
    exact iteF (iteF (q H (fun b o _ h => h) S))
  | none =>
    refine iteT ⟨_, rfl, rfl, _, rfl, ?_⟩
    cases v with
    | none =>
      have el : learnL k ord g none = (k, ord) := by unfold learnL; rw [e1]
      rw [el] at q
      exact iteF (q H (fun b o _ h => h) S)
    | some b =>
      have el : learnL k ord g (some b) = (k.set g (some b), ord ++ [(g, b)]) := by unfold learnL; rw [e1]
      rw [el] at q
      refine iteT ⟨_, rfl, _, rfl, o, C, dx, _, _, rfl, ho, T.cl, T.nK, rfl, _, rfl, kl, _, _, g, rfl, rfl, hk, ?_, ?_⟩
      · unfold ixN
        rw [List.length_map, if_pos (by omega), if_pos (by omega), Int.toNat_natCast]
      have nko : kl ≠ o := fun e => by rw [e, ho] at hk; cases hk
      have noo : ol ≠ o := fun e => by rw [e, ho] at hol; cases hol
      have tk : ∀ (i : Nat) (a : Addr), ts[i]? = some a → a ≠ kl ∧ a ≠ ol := fun i a h => by
        have hi : i < ord.length := by rw [← tl]; exact (List.getElem?_eq_some_iff.mp h).1
        have z := tt i a ord[i].1 ord[i].2 h (List.getElem?_eq_getElem hi)
        exact ⟨(fun e => by rw [e, hk] at z; cases z), (fun e => by rw [e, hol] at z; cases z)⟩
      have ek1 : (upd H kl (.lst ((k.map vO).set g (vO (some b))))) kl = some (.lst ((k.set g (some b)).map vO)) := by rw [upd_same, List.map_set]
      have k1 : ∀ c x, c ≠ kl → H c = some x → (upd H kl (.lst ((k.map vO).set g (vO (some b))))) c = some x := fun c x hc h => by rw [upd_ne hc]; exact h
      generalize (upd H kl (.lst ((k.map vO).set g (vO (some b))))) = H1 at ek1 k1
      have ho1 := k1 _ _ nko.symm ho
      have hol1 := k1 _ _ n1.symm hol
      have hu1 := k1 _ _ n2.symm hu
      refine ⟨_, rfl, o, C, dx, _, _, rfl, ho1, T.cl, T.nO, rfl, .inl ⟨rfl, _, SqL.of hol1⟩, _, rfl, _, rfl, (by show 2 ≤ sizeLine; decide), fun t ht => ?_⟩
      have k2 := same_new ht (.tup [.int (g : Int), vO (some b)])
      have tn := upd_same (H := H1) (a := t) (o := .tup [.int (g : Int), vO (some b)])
      have tol : t ≠ ol := (ne_of_none hol1 ht).symm
      generalize (upd H1 t (.tup [.int (g : Int), vO (some b)])) = H2 at k2 tn
      refine ⟨ol, _, _, rfl, rfl, k2 _ _ hol1, by rw [List.length_map, tl]; exact small1000 (by omega), ?_⟩
      have k3 : ∀ c x, c ≠ ol → H2 c = some x → (upd H2 ol (.lst (ts.map V.ref ++ [.ref t]))) c = some x := fun c x hc h => by rw [upd_ne hc]; exact h
      have eo3 : (upd H2 ol (.lst (ts.map V.ref ++ [.ref t]))) ol = some (.lst ((ts ++ [t]).map V.ref)) := by rw [upd_same, List.map_append]; rfl
      generalize (upd H2 ol (.lst (ts.map V.ref ++ [.ref t]))) = H3 at k3 eo3
      refine q H3 (fun c x hc h => ?_) ⟨dx, k3 _ _ noo.symm (k2 _ _ ho1), k3 _ _ n1 (k2 _ _ ek1), ⟨ts ++ [t], eo3, by rw [List.length_append, List.length_append, tl]; rfl, fun i a g' v' h1 h2 => ?_⟩, k3 _ _ n3.symm (k2 _ _ hu1), n1, n2, n3⟩
      · simp only [List.mem_cons, List.not_mem_nil, or_false, not_or] at hc
        exact k3 _ _ hc.2 (k2 _ _ (k1 _ _ hc.1 h))
      · by_cases c : i < ts.length
        · rw [List.getElem?_append_left c] at h1
          rw [List.getElem?_append_left (by omega)] at h2
          obtain ⟨m1, m2⟩ := tk i a h1
          exact k3 _ _ m2 (k2 _ _ (k1 _ _ m1 (tt i a g' v' h1 h2)))
        · rw [List.getElem?_append_right (by omega)] at h1 h2
          have e : i - ts.length = 0 := by
            cases e : i - ts.length with
            | zero => rfl
            | succ m => rw [e] at h1; simp at h1
          rw [e] at h1
          rw [← tl, e] at h2
          cases h1
          cases h2
          exact k3 _ _ tol tn
end

end My
end

section
set_option Elab.async false
set_option linter.all false
set_option maxRecDepth 100000
set_option maxHeartbeats 4000000
namespace My
open PySem L2
theorem iteW {x y : Str} {A B : Prop} (h1 : x = y → A) (h2 : ¬ x = y → B) : if decide (V.str x = V.str y) = true then A else B := by
  by_cases c : x = y
  · subst c; exact iteEq (h1 rfl)
  · exact iteNe c (h2 c)
theorem wd_not {G : Gt} (e : G.word = "not") : ∃ c, G = .nt c := by cases G <;> first | exact ⟨_, rfl⟩ | (dsimp only [Gt.word] at e; exact absurd e (by decide +kernel))
/-- the truth that one alone tells -/
def Gt.one : Gt → Bool
  | .som _ => true
  | _ => false
theorem som_word (G : Gt) : decide (V.str G.word = V.str "some") = G.one := by
  cases G with
  | som l => exact decide_eq_true rfl
  | _ => exact decide_eq_false (fun z => absurd (V.str.inj z) (by dsimp only [Gt.word]; decide +kernel))
theorem iteI {i j : Int} {A B : Prop} (h1 : i = j → A) (h2 : ¬ i = j → B) : if decide (V.int i = V.int j) = true then A else B := by
  by_cases c : i = j
  · rw [decide_eq_true (congrArg V.int c), if_pos rfl]; exact h1 c
  · rw [decide_eq_false (fun z => c (V.int.inj z)), if_neg Bool.false_ne_true]; exact h2 c
theorem learnL_none (k : List (Option Bool)) (ord : List (Nat × Bool)) (g : Nat) : learnL k ord g none = (k, ord) := by unfold learnL; cases (k[g]?).getD none <;> rfl
theorem heard_else {G : Gt} (h : ¬ G.nums = []) (n : ¬ G.word = "not") (x : Int) (v : Bool) : heard G x v = if v = G.one ∨ x = 0 then some v else none := by
  cases G with
  | nt c => exact absurd rfl n
  | all l => rfl
  | som l => rfl
  | _ => exact absurd rfl h
inductive C_spHear (K : PySem.W.Frag) (C : Addr) (vs : List V) (H : Hp) (Q : VK) : Prop
  | mk (o gl kl ol nl ul : Addr) (g : Nat) (v : Bool) (G : Gt) (k : List (Option Bool)) (ord : List (Nat × Bool)) (u : List Int) (x : Int) (gv : V) (gvs : List V) (c0 : vs = [.ref o, .int g, .bl v]) (c1 : StlAt C H o gl kl ol nl ul k ord u) (c2 : SqL K H gl gvs) (c3 : gvs[g]? = some gv) (c4 : GtAt K H G gv) (c5 : ¬ G.nums = []) (c6 : u[g]? = some x) (c7 : g < k.length) (c8 : ord.length ≤ 900) (c9 : ∀ H', KpL [kl, ol, ul] H H' → StlAt C H' o gl kl ol nl ul (learnL k ord g (heard G (x - 1) v)).1 (learnL k ord g (heard G (x - 1) v)).2 (u.set g (x - 1)) → Q .non H') : C_spHear K C vs H Q
def spHear (K : PySem.W.Frag) (C : Addr) : Sp := fun vs H Q _ => C_spHear K C vs H Q
section
variable {P : Program} {w : World} {K : PySem.W.Frag} {mg : Str → Option Value} {base : Heap} {C aN : Addr}
set_option maxHeartbeats 32000000 in
theorem ok_hear {f : Addr} {fd : FuncData} (F : Fun K "hear" "Settler.hear" s_hear f fd) (T : TxtG K mg C aN) (M_learn : MethM P w K mg base 1 C "learn" ["self", "gate", "value"] (spLearn C)) : FnOk P w K mg base CX0 2 f fd ["self", "gate", "value"] (spHear K C) := by
  refine F.ok sc_hear (fun vs H Q E h => ?_) (fun cdv A outer s H vs Q E hr h => ?_)
  · obtain ⟨o, gl, kl, ol, nl, ul, g, v, G, k, ord, u, x, gv, gvs, rfl, _⟩ := h; rfl
  obtain ⟨o, gl, kl, ol, nl, ul, g, v, G, k, ord, u, x, gv, gvs, rfl, S, hgl, eg, gt, hG, eu, hg, lo, q⟩ := h
  obtain ⟨dx, ho, hk, od, hu, n1, n2, n3⟩ := id S
  obtain ⟨ts, hol, tl, tt⟩ := id od
  obtain ⟨a, b, rfl, h1, h2⟩ := gt
  refine ⟨_, (pss_cons (ps_set (i := 3) sc_hear.nd rfl (Or.inl rfl) (pe_ix ix_tup (pe_ix ix_list (pe_fld (pv 0) rfl) (pv 1) (fun _ _ => rfl)) pe_int (fun _ _ => rfl)))
    (pss_cons (ps_asg (pe_op op_sub (pe_ix ix_list (pe_fld (pv 0) rfl) (pv 1) (fun _ _ => rfl)) pe_int) (pg_sub (pe_fld (pv 0) rfl) (pv 1) set_list))
    (pss_one (ps_if (pt_cmpR op_eq (pv 3) pe_str (nomark _))
      (pss_one (ps_expr (pe_methC M_learn hr pass0 (pv 0) (pa_cons (pv 1) (pa_cons (pe_not (pv 2)) pa_nil)))))
      (pss_one (ps_if (PW.pt (pw_or (pt_cmpR op_eq (pv 2) (pe_cmpR op_eq (pv 3) pe_str (nomark _)) (nomark _)) (pw_or1 (pt_cmpR op_eq (pe_ix ix_list (pe_fld (pv 0) rfl) (pv 1) (fun _ _ => rfl)) pe_int (nomark _)))))
      (pss_one (ps_expr (pe_methC M_learn hr pass0 (pv 0) (pa_cons (pv 1) (pa_cons (pv 2) pa_nil)))))
      pss_nil)))))), ?_⟩
  have eu' : (u.map V.int)[g]? = some (.int x) := by rw [List.getElem?_map, eu]; rfl
  have gu : g < u.length := (List.getElem?_eq_some_iff.mp eu).1
  refine ⟨_, rfl, o, C, dx, _, _, rfl, ho, T.cl, T.nG, rfl, _, rfl, gl, _, _, _, rfl, rfl, hgl, atI_nat eg, a, _, _, _, rfl, rfl, h1, atI_nat (j := 0) rfl, ?_⟩
  refine ⟨_, rfl, o, C, dx, _, _, rfl, ho, T.cl, T.nU, rfl, _, rfl, ul, _, _, _, rfl, rfl, SqL.of hu, atI_nat eu', _, _, rfl, rfl, _, rfl, o, C, dx, _, _, rfl, ho, T.cl, T.nU, rfl, _, rfl, ul, _, _, g, rfl, rfl, hu, ?_, ?_⟩
  · unfold ixN
    rw [List.length_map, if_pos (by omega), if_pos (by omega), Int.toNat_natCast]
  have nuo : ul ≠ o := fun e => by rw [e, ho] at hu; cases hu
  have eu1 : (upd H ul (.lst ((u.map V.int).set g (.int (x - 1))))) ul = some (.lst ((u.set g (x - 1)).map V.int)) := by rw [upd_same, List.map_set]
  have k1 : ∀ c y, c ≠ ul → H c = some y → (upd H ul (.lst ((u.map V.int).set g (.int (x - 1))))) c = some y := fun c y hc h => by rw [upd_ne hc]; exact h
  generalize (upd H ul (.lst ((u.map V.int).set g (.int (x - 1))))) = H1 at eu1 k1
  have tt1 : ∀ (i : Nat) a g v, ts[i]? = some a → ord[i]? = some (g, v) → H1 a = some (.tup [.int (g : Nat), .bl v]) := fun i a g v z1 z2 => by
    have z := tt i a g v z1 z2
    exact k1 _ _ (fun e => by rw [e, hu] at z; cases z) z
  have S1 : StlAt C H1 o gl kl ol nl ul k ord (u.set g (x - 1)) := ⟨dx, k1 _ _ nuo.symm ho, k1 _ _ n2 hk, ⟨ts, k1 _ _ n3 hol, tl, tt1⟩, eu1, n1, n2, n3⟩
  have ho1 := k1 _ _ nuo.symm ho
  have q : ∀ H', KpL [kl, ol] H1 H' → StlAt C H' o gl kl ol nl ul (learnL k ord g (heard G (x - 1) v)).1 (learnL k ord g (heard G (x - 1) v)).2 (u.set g (x - 1)) → Q .non H' := fun H' kp => q H' fun c y hc h => by
    simp only [List.mem_cons, List.not_mem_nil, or_false, not_or] at hc
    exact kp c y (by simp only [List.mem_cons, List.not_mem_nil, or_false, not_or]; exact ⟨hc.1, hc.2.1⟩) (k1 _ _ hc.2.2 h)
  refine ⟨_, rfl, rfl, _, rfl, iteW (fun e => ?_) fun n => ?_⟩
  · obtain ⟨c, rfl⟩ := wd_not e
    exact ⟨_, rfl, o, dx, _, rfl, ho1, rfl, _, rfl, _, rfl, _, rfl, o, gl, kl, ol, nl, ul, g, some (!v), k, ord, _, rfl, S1, hg, lo, q⟩
  · rw [heard_else hG n] at q
    refine ⟨_, rfl, _, rfl, rfl, rfl, _, rfl, ?_⟩
    rw [som_word]
    dsimp only
    by_cases c1 : v = G.one
    · rw [if_pos (.inl c1)] at q
      rw [decide_eq_true (congrArg V.bl c1)]
      exact iteT (iteT ⟨_, rfl, o, dx, _, rfl, ho1, rfl, _, rfl, _, rfl, o, gl, kl, ol, nl, ul, g, some v, k, ord, _, rfl, S1, hg, lo, q⟩)
    · rw [decide_eq_false (fun z => c1 (V.bl.inj z))]
      have eu2 : ((u.set g (x - 1)).map V.int)[g]? = some (.int (x - 1)) := by rw [List.getElem?_map, List.getElem?_set_self gu]; rfl
      refine iteF ⟨_, rfl, o, C, dx, _, _, rfl, ho1, T.cl, T.nU, rfl, _, rfl, ul, _, _, _, rfl, rfl, SqL.of eu1, atI_nat eu2, rfl, _, rfl, iteI (fun c2 => ?_) fun c2 => ?_⟩
      · rw [if_pos (.inr c2)] at q
        exact ⟨_, rfl, o, dx, _, rfl, ho1, rfl, _, rfl, _, rfl, o, gl, kl, ol, nl, ul, g, some v, k, ord, _, rfl, S1, hg, lo, q⟩
      · rw [if_neg (fun z => z.elim c1 c2), learnL_none] at q
        exact q H1 (fun c y _ h => h) S1
end

end My
end

section
set_option Elab.async false
set_option linter.all false
set_option maxRecDepth 100000
set_option maxHeartbeats 4000000
namespace My
open PySem L2
/-- gates -/
inductive GsAt (K : PySem.W.Frag) (H : Hp) (gl : Addr) (gs : List Gt) : Prop
  | mk (vs : List V) (h : SqL K H gl vs) (l : vs.length = gs.length) (g : ∀ (i : Nat) v G, vs[i]? = some v → gs[i]? = some G → GtAt K H G v) : GsAt K H gl gs
/-- who names whom -/
inductive NmAt (H : Hp) (nl : Addr) (gs : List Gt) (rs : List Addr) : Prop
  | mk (ls : List Addr) (h : H nl = some (.lst (ls.map V.ref))) (l : ls.length = gs.length) (t : ∀ (i : Nat) a, ls[i]? = some a → H a = some (.lst ((namers gs i).map fun n => V.int (n : Nat))) ∧ a ∉ rs) (n : nl ∉ rs) : NmAt H nl gs rs
theorem KpL.trans {rs : List Addr} {H H1 H2 : Hp} (a : KpL rs H H1) (b : KpL rs H1 H2) : KpL rs H H2 := fun c o h e => b c o h (a c o h e)
theorem KpL.refl {rs : List Addr} {H : Hp} : KpL rs H H := fun _ _ _ h => h
theorem NmAt.kp {H H' : Hp} {nl : Addr} {gs : List Gt} {rs : List Addr} (k : KpL rs H H') (h : NmAt H nl gs rs) : NmAt H' nl gs rs := by
  obtain ⟨ls, h, l, t, n⟩ := h
  exact ⟨ls, k _ _ n h, l, fun i a e => ⟨k _ _ (t i a e).2 (t i a e).1, (t i a e).2⟩, n⟩
/-- what is no list of these stays -/
structure Apt (rs : List Addr) (H : Hp) : Prop where
  of : ∀ r ∈ rs, ∃ xs, H r = some (.lst xs)
theorem KpL.tp {rs : List Addr} {H H' : Hp} (k : KpL rs H H') (a : Apt rs H) : Tp H H' := fun b xs e => k _ _ (fun z => by obtain ⟨ys, h⟩ := a.of b z; rw [e] at h; cases h) e
theorem StlAt.apt {C : Addr} {H : Hp} {o gl kl ol nl ul : Addr} {k : List (Option Bool)} {ord : List (Nat × Bool)} {u : List Int} (S : StlAt C H o gl kl ol nl ul k ord u) : Apt [kl, ol, ul] H := by
  obtain ⟨dx, ho, hk, ⟨ts, hol, _, _⟩, hu, _, _, _⟩ := S
  refine ⟨fun r hr => ?_⟩
  simp only [List.mem_cons, List.not_mem_nil, or_false] at hr
  rcases hr with rfl | rfl | rfl
  · exact ⟨_, hk⟩
  · exact ⟨_, hol⟩
  · exact ⟨_, hu⟩
theorem KpL.sqT {K : PySem.W.Frag} {rs : List Addr} {H H' : Hp} {a : Addr} {xs : List V} (k : KpL rs H H') (ap : Apt rs H) (h : SqT K H a xs) : SqT K H' a xs := by
  rcases h with (h | ⟨o, h⟩) | h
  · exact .inl (.inl (k _ _ (fun z => by obtain ⟨ys, e⟩ := ap.of _ z; rw [h] at e; cases e) h))
  · exact .inl (.inr ⟨o, k _ _ (fun z => by obtain ⟨ys, e⟩ := ap.of _ z; rw [h] at e; cases e) h⟩)
  · exact .inr h
theorem KpL.sqL {K : PySem.W.Frag} {rs : List Addr} {H H' : Hp} {a : Addr} {xs : List V} (k : KpL rs H H') (n : a ∉ rs) (h : SqL K H a xs) : SqL K H' a xs := by
  rcases h with (h | ⟨o, h⟩) | h
  · exact .inl (.inl (k _ _ n h))
  · exact .inl (.inr ⟨o, k _ _ n h⟩)
  · exact .inr h
theorem GtAt.kp {K : PySem.W.Frag} {rs : List Addr} {H H' : Hp} {G : Gt} {v : V} (k : KpL rs H H') (ap : Apt rs H) (h : GtAt K H G v) : GtAt K H' G v := by
  obtain ⟨a, b, e, h1, h2⟩ := h
  exact ⟨a, b, e, k.sqT ap h1, k.sqT ap h2⟩
theorem GsAt.kp {K : PySem.W.Frag} {rs : List Addr} {H H' : Hp} {gl : Addr} {gs : List Gt} (k : KpL rs H H') (ap : Apt rs H) (n : gl ∉ rs) (h : GsAt K H gl gs) : GsAt K H' gl gs := by
  obtain ⟨vs, h, l, g⟩ := h
  exact ⟨vs, k.sqL n h, l, fun i v G e1 e2 => (g i v G e1 e2).kp k ap⟩
theorem learnL_eq {k : List (Option Bool)} {ord : List (Nat × Bool)} {g : Nat} {w : Option Bool} (h : g < k.length) : learn (knL k) ord g w = (knL (learnL k ord g w).1, (learnL k ord g w).2) := by
  unfold learn learnL
  show (match (k[g]?).getD none, w with | none, some v => _ | _, _ => _) = _
  cases e : (k[g]?).getD none with
  | some b => rfl
  | none =>
    cases w with
    | none => rfl
    | some v => dsimp only; rw [knL_set h]
theorem learnL_len (k : List (Option Bool)) (ord : List (Nat × Bool)) (g : Nat) (w : Option Bool) : (learnL k ord g w).1.length = k.length := by
  unfold learnL
  split
  · exact List.length_set
  · rfl
def uF (u : List Int) : Nat → Int := fun i => (u[i]?).getD 0
theorem uF_set {u : List Int} {g : Nat} {y : Int} (h : g < u.length) : uF (u.set g y) = fun i => if i = g then y else uF u i := by
  funext i
  unfold uF
  rw [List.getElem?_set]
  by_cases e : g = i
  · subst e; simp [h]
  · have e' : ¬ i = g := fun z => e z.symm
    simp [e, e']
theorem nd_len : ∀ (n : Nat) (l : List Nat), l.Nodup → (∀ x ∈ l, x < n) → l.length ≤ n
  | 0, [], _, _ => Nat.le_refl _
  | 0, x :: l, _, h => absurd (h x List.mem_cons_self) (Nat.not_lt_zero _)
  | n + 1, l, nd, h => by
    have h1 := nd_len n (l.filter (fun x => decide (x ≠ n))) (nd.filter _) fun x hx => by
      have := List.mem_filter.mp hx
      have a := h x this.1
      have b := of_decide_eq_true this.2
      omega
    have h2 : l.length ≤ (l.filter (fun x => decide (x ≠ n))).length + 1 := by
      have c := List.nodup_iff_count.mp nd n
      have e : l.length = (l.filter (fun x => decide (x ≠ n))).length + l.count n := by
        clear nd h h1 c
        induction l with
        | nil => rfl
        | cons x l ih =>
          rw [List.count_cons, List.length_cons]
          by_cases z : x = n
          · subst z; simp at ih ⊢; omega
          · rw [List.filter_cons_of_pos (by simpa using z)]; simp [z] at ih ⊢; omega
      omega
    omega
theorem Wl.len {gs : List Gt} {st : Option (List Int)} {co : List Int} {k : Kn} {ord : List (Nat × Bool)} {m : Nat} {ds : List Nat} {u : Nat → Int} (h : Wl gs st co k ord m ds u) : ord.length ≤ gs.length := by
  have := nd_len gs.length (ord.map Prod.fst) h.nd fun x hx => by
    obtain ⟨⟨g, v⟩, hp, rfl⟩ := List.mem_map.mp hx
    obtain ⟨G, hG, _⟩ := h.der.told g v ((h.mem g v).mpr hp)
    exact (List.getElem?_eq_some_iff.mp hG).1
  rw [List.length_map] at this
  exact this
/-- a settler that has come to the m-th step, where those in ds have heard -/
inductive SWl (K : PySem.W.Frag) (C : Addr) (gs : List Gt) (st : Option (List Int)) (co : List Int) (o gl kl ol nl ul : Addr) (m : Nat) (ds : List Nat) (H : Hp) : Prop
  | mk (k : List (Option Bool)) (ord : List (Nat × Bool)) (u : List Int) (S : StlAt C H o gl kl ol nl ul k ord u) (lk : k.length = gs.length) (lu : u.length = gs.length) (W : Wl gs st co (knL k) ord m ds (uF u)) : SWl K C gs st co o gl kl ol nl ul m ds H
inductive C_spHand (K : PySem.W.Frag) (C : Addr) (vs : List V) (H : Hp) (Q : VK) : Prop
  | mk (o gl kl ol nl ul t : Addr) (gs : List Gt) (st : Option (List Int)) (co : List Int) (m c : Nat) (v : Bool) (k : List (Option Bool)) (ord : List (Nat × Bool)) (u : List Int) (c0 : vs = [.ref o, .ref t]) (c1 : StlAt C H o gl kl ol nl ul k ord u) (c2 : k.length = gs.length) (c3 : u.length = gs.length) (c4 : Wl gs st co (knL k) ord m [] (uF u)) (c5 : ord[m]? = some (c, v)) (c6 : H t = some (.tup [.int c, .bl v])) (c7 : GsAt K H gl gs) (c8 : gl ∉ [kl, ol, ul]) (c9 : NmAt H nl gs [kl, ol, ul]) (c10 : gs.length ≤ 60) (c11 : ∀ H', KpL [kl, ol, ul] H H' → SWl K C gs st co o gl kl ol nl ul (m + 1) [] H' → Q .non H') : C_spHand K C vs H Q
def spHand (K : PySem.W.Frag) (C : Addr) : Sp := fun vs H Q _ => C_spHand K C vs H Q

end My
end

section
set_option Elab.async false
set_option linter.all false
set_option maxRecDepth 100000
set_option maxHeartbeats 4000000
namespace My
open PySem L2
theorem namer_in {gs : List Gt} {c n : Nat} (h : n ∈ namers gs c) : ∃ G, gs[n]? = some G ∧ c ∈ G.nums := by
  have z := List.count_pos_iff.mpr h
  rw [count_namers] at z
  have z := List.count_pos_iff.mp z
  unfold numsAt at z
  cases e : gs[n]? with
  | none => rw [e] at z; cases z
  | some G => rw [e] at z; exact ⟨G, rfl, z⟩
theorem learnL_at {k : List (Option Bool)} {ord : List (Nat × Bool)} {g m : Nat} {w : Option Bool} {p : Nat × Bool} (h : ord[m]? = some p) : (learnL k ord g w).2[m]? = some p := by
  unfold learnL
  split
  · rw [List.getElem?_append_left (List.getElem?_eq_some_iff.mp h).1]; exact h
  · exact h
section
variable {P : Program} {w : World} {K : PySem.W.Frag} {mg : Str → Option Value} {base : Heap} {C aN : Addr}
set_option maxHeartbeats 32000000 in
theorem ok_hand {f : Addr} {fd : FuncData} (F : Fun K "hand_on" "Settler.hand_on" s_hand_on f fd) (T : TxtG K mg C aN) (M_hear : MethM P w K mg base 2 C "hear" ["self", "gate", "value"] (spHear K C)) : FnOk P w K mg base CX0 3 f fd ["self", "step"] (spHand K C) := by
  refine F.ok sc_hand_on (fun vs H Q E h => ?_) (fun cdv A outer s H vs Q E hr h => ?_)
  · obtain ⟨o, gl, kl, ol, nl, ul, t, gs, st, co, m, c, v, k, ord, u, rfl, _⟩ := h; rfl
  obtain ⟨o, gl, kl, ol, nl, ul, t, gs, st, co, m, c, v, k, ord, u, rfl, S, lk, lu, W, hm, ht, hgs, ngl, nm, l60, q⟩ := h
  obtain ⟨dx, ho, hk, od, hu, n1, n2, n3⟩ := id S
  obtain ⟨ls, hn, ll, lt, nn⟩ := id nm
  refine ⟨_, (pss_one (ps_for PassesOwn.never rfl (pi_list (pe_ix ix_list (pe_fld (pv 0) rfl) (pe_ix ix_tup (pv 1) pe_int (fun _ _ => rfl)) (fun _ _ => rfl))) (pg_name (i := 2) sc_hand_on.nd rfl (Or.inl rfl))
      (pss_one (ps_expr (pe_methC M_hear hr pass0 (pv 0) (pa_cons (pv 2) (pa_cons (pe_ix ix_tup (pv 1) pe_int (fun _ _ => rfl)) pa_nil))))))), ?_⟩
  have ap := S.apt
  have hc : c < gs.length := by
    obtain ⟨G, hG, _⟩ := W.der.told c v ((W.mem c v).mpr (List.mem_of_getElem? hm))
    exact (List.getElem?_eq_some_iff.mp hG).1
  obtain ⟨l, el⟩ : ∃ l, ls[c]? = some l := ⟨_, List.getElem?_eq_getElem (by omega)⟩
  obtain ⟨hl, nl'⟩ := lt c l el
  have el' : (ls.map V.ref)[c]? = some (.ref l) := by rw [List.getElem?_map, el]; rfl
  refine ⟨_, rfl, o, C, dx, _, _, rfl, ho, T.cl, T.nN, rfl, rdx (j := 0) ht rfl rfl ⟨nl, _, _, _, rfl, rfl, SqL.of hn, atI_nat el', l, rfl, ⟨_, SqL.of hl⟩, for_list (K := K) (a := l) (xs := (namers gs c).map fun n => V.int (n : Nat)) (fun i σ H' => Ex4 fun (x2 : Option V) (k : List (Option Bool)) (ord : List (Nat × Bool)) (u : List Int) => An7 (σ = [some (.ref o), some (.ref t), x2]) (KpL [kl, ol, ul] H H') (StlAt C H' o gl kl ol nl ul k ord u) (k.length = gs.length) (u.length = gs.length) (Wl gs st co (knL k) ord m ((namers gs c).take i) (uF u)) (ord[m]? = some (c, v))) ⟨none, k, ord, u, rfl, KpL.refl, S, lk, lu, W, hm⟩ (fun i σ H' _ h => by obtain ⟨_, _, _, _, _, kp, _⟩ := h; exact SqL.of (kp _ _ nl' hl)) ?_ ?_⟩⟩
  · rintro i y σ H1 hi ⟨x2, k, ord, u, rfl, kp, S1, lk, lu, W, hm⟩
    rw [List.getElem?_map] at hi
    cases ei : (namers gs c)[i]? with
    | none => rw [ei] at hi; cases hi
    | some n =>
      rw [ei] at hi
      cases hi
      obtain ⟨G, hG, cin⟩ := namer_in (List.mem_of_getElem? ei)
      have hn : n < gs.length := (List.getElem?_eq_some_iff.mp hG).1
      obtain ⟨gvs, hgl, lgv, ggt⟩ := hgs.kp kp ap ngl
      obtain ⟨gv, egv⟩ : ∃ gv, gvs[n]? = some gv := ⟨_, List.getElem?_eq_getElem (by omega)⟩
      obtain ⟨x, ex⟩ : ∃ x, u[n]? = some x := ⟨_, List.getElem?_eq_getElem (by omega)⟩
      have hG0 : ¬ G.nums = [] := fun z => by rw [z] at cin; cases cin
      have lo := W.len
      obtain ⟨dx1, ho1, _⟩ := id S1
      have ht1 := (kp.tp ap) _ _ ht
      have hd : (namers gs c).take i ++ n :: (namers gs c).drop (i + 1) = namers gs c := by
        have hi := (List.getElem?_eq_some_iff.mp ei).1
        have := List.drop_eq_getElem_cons hi
        rw [(List.getElem?_eq_some_iff.mp ei).2] at this
        rw [← this, List.take_append_drop]
      have W2 := W.hear hm hd hG
      have eux : uF u n = x := by unfold uF; rw [ex]; rfl
      rw [eux, learnL_eq (by omega), ← uF_set (by omega)] at W2
      refine ⟨_, rfl, o, dx1, _, rfl, ho1, rfl, _, rfl, rdx (j := 1) ht1 rfl rfl ⟨o, gl, kl, ol, nl, ul, n, v, G, k, ord, u, x, gv, gvs, rfl, S1, hgl, egv, ggt n gv G egv hG, hG0, ex, by omega, by omega, fun H2 kp2 S2 => ?_⟩⟩
      refine ⟨_, _, _, _, rfl, kp.trans kp2, S2, by rw [learnL_len]; exact lk, by rw [List.length_set]; exact lu, ?_, learnL_at hm⟩
      rw [List.take_add_one, ei]
      exact W2
  · rintro σ H1 ⟨x2, k, ord, u, rfl, kp, S1, lk, lu, W, hm⟩
    rw [List.length_map, List.take_length] at W
    exact q H1 kp ⟨k, ord, u, S1, lk, lu, W.next hm⟩
end

end My
end

section
set_option Elab.async false
set_option linter.all false
set_option maxRecDepth 100000
set_option maxHeartbeats 4000000
namespace My
open PySem L2
/-- a dict whose keys are these -/
inductive RsAt (H : Hp) (d : Addr) (l : List Int) : Prop
  | mk (kvs : List (Key × V)) (h : H d = some (.dK kvs)) (e : ∀ n : Int, (valV kvs (Sum.inl n)).isSome = decide (n ∈ l)) : RsAt H d l
inductive C_spVaf (K : PySem.W.Frag) (vs : List V) (H : Hp) (Q : VK) : Prop
  | mk (gv : V) (G : Gt) (rd sd : Addr) (st : Option (List Int)) (co : List Int) (c0 : vs = [gv, .bl st.isNone, .ref rd, .ref sd]) (c1 : GtAt K H G gv) (c2 : RsAt H rd (st.getD [])) (c3 : RsAt H sd co) (c4 : Q (vO (atFirst st co G)) H) : C_spVaf K vs H Q
def spVaf (K : PySem.W.Frag) : Sp := fun vs H Q _ => C_spVaf K vs H Q
theorem atF_else {st : Option (List Int)} {co : List Int} {G : Gt} (n1 : ¬ G.word = "start") (n2 : ¬ G.word = "memory") (n3 : ¬ G.word = "given") : atFirst st co G = if G.args = [] then some (decide (V.str G.word = V.str "all")) else none := by
  cases G with
  | start => exact absurd rfl n1
  | mem k => exact absurd rfl n2
  | given k => exact absurd rfl n3
  | nt c => rfl
  | all gs =>
    cases gs with
    | nil =>
      show some true = if ([] : List Int) = [] then _ else _
      rw [if_pos rfl]
      exact congrArg some (decide_eq_true rfl).symm
    | cons x l => rfl
  | som gs =>
    cases gs with
    | nil =>
      show some false = if ([] : List Int) = [] then _ else _
      rw [if_pos rfl]
      exact congrArg some (decide_eq_false (fun z => absurd (V.str.inj z) (by dsimp only [Gt.word]; decide +kernel))).symm
    | cons x l => rfl
theorem wd_start {G : Gt} (e : G.word = "start") : G = .start := by cases G <;> first | rfl | (dsimp only [Gt.word] at e; exact absurd e (by decide +kernel))
theorem wd_mem {G : Gt} (e : G.word = "memory") : ∃ k, G = .mem k := by cases G <;> first | exact ⟨_, rfl⟩ | (dsimp only [Gt.word] at e; exact absurd e (by decide +kernel))
theorem wd_giv {G : Gt} (e : G.word = "given") : ∃ k, G = .given k := by cases G <;> first | exact ⟨_, rfl⟩ | (dsimp only [Gt.word] at e; exact absurd e (by decide +kernel))
section
variable {P : Program} {w : World} {K : PySem.W.Frag} {mg : Str → Option Value} {base : Heap} {C aN : Addr}
set_option maxHeartbeats 16000000 in
theorem ok_vaf (F : FunM K mg "value_at_first" ["gate", "starts", "rests", "signs"] s_value_at_first) (T : Txt mg) : Callee P w K mg base 1 "value_at_first" ["gate", "starts", "rests", "signs"] (spVaf K) := by
  refine F.ok sc_value_at_first (fun vs H Q E h => ?_) (fun f cdv A outer s H vs Q E hr h => ?_)
  · obtain ⟨gv, G, rd, sd, st, co, rfl, _⟩ := h; rfl
  obtain ⟨gv, G, rd, sd, st, co, rfl, ⟨a, b, rfl, h1, h2⟩, ⟨kr, hrd, er⟩, ⟨ks, hsd, es⟩, q⟩ := h
  refine ⟨_, (pss_cons (ps_set (i := 4) sc_value_at_first.nd rfl (Or.inl rfl) (pe_ix ix_tup (pv 0) pe_int (fun _ _ => rfl)))
    (pss_cons (ps_if (pt_cmpR op_eq (pv 4) pe_str (nomark _))
      (pss_one (ps_ret (pv 1)))
      pss_nil)
    (pss_cons (ps_if (pt_cmpR op_eq (pv 4) pe_str (nomark _))
      (pss_one (ps_ret (pe_cmp (pc_din (hu_of hr) (pe_ix ix_tup (pe_ix ix_tup (pv 0) pe_int (fun _ _ => rfl)) pe_int (fun _ _ => rfl)) (pv 2)))))
      pss_nil)
    (pss_cons (ps_if (pt_cmpR op_eq (pv 4) pe_str (nomark _))
      (pss_one (ps_ret (pe_cmp (pc_din (hu_of hr) (pe_ix ix_tup (pe_ix ix_tup (pv 0) pe_int (fun _ _ => rfl)) pe_int (fun _ _ => rfl)) (pv 3)))))
      pss_nil)
    (pss_one (ps_ret (pe_ifExp (pt_truth (pe_ix ix_tup (pv 0) pe_int (fun _ _ => rfl)) (fun _ => rfl)) pe_non (pe_cmpR op_eq (pv 4) pe_str (nomark _))))))))), ?_⟩
  refine ⟨_, rfl, a, _, _, _, rfl, rfl, h1, atI_nat (j := 0) rfl, _, rfl, rfl, _, rfl, iteW (fun e => ?_) fun n1 => ⟨_, rfl, rfl, _, rfl, iteW (fun e => ?_) fun n2 => ⟨_, rfl, rfl, _, rfl, iteW (fun e => ?_) fun n3 => ?_⟩⟩⟩
  · cases wd_start e
    exact ⟨_, rfl, q⟩
  · obtain ⟨k, rfl⟩ := wd_mem e
    refine ⟨_, rfl, a, _, _, _, rfl, rfl, h1, atI_nat (j := 1) rfl, b, _, _, _, rfl, rfl, h2, atI_nat (j := 0) rfl, _, rfl, rd, _, rfl, DGet.k (k := Sum.inl k) hrd, ?_⟩
    rw [er k]
    have z : atFirst st co (.mem k) = some (decide (k ∈ st.getD [])) := by
      cases st with
      | none => exact congrArg some (decide_eq_false (fun z => by cases z)).symm
      | some l => rfl
    rw [z] at q
    exact q
  · obtain ⟨k, rfl⟩ := wd_giv e
    refine ⟨_, rfl, a, _, _, _, rfl, rfl, h1, atI_nat (j := 1) rfl, b, _, _, _, rfl, rfl, h2, atI_nat (j := 0) rfl, _, rfl, sd, _, rfl, DGet.k (k := Sum.inl k) hsd, ?_⟩
    rw [es k]
    exact q
  · rw [atF_else n1 n2 n3] at q
    refine ⟨_, rfl, a, _, _, _, rfl, rfl, h1, atI_nat (j := 1) rfl, _, .inr (.inl ⟨_, h2, rfl⟩), ?_⟩
    cases eg : G.args with
    | nil => rw [eg, if_pos rfl] at q; exact iteF ⟨_, rfl, rfl, q⟩
    | cons y ys => rw [eg, if_neg (by simp)] at q; exact iteT q
end

end My
end

section
set_option Elab.async false
set_option linter.all false
set_option maxRecDepth 100000
set_option maxHeartbeats 4000000
namespace My
open PySem L2
/-- the numbers of all gates are gates -/
def WfG (gs : List Gt) : Prop := ∀ (g : Nat) (G : Gt), gs[g]? = some G → ∀ c ∈ G.nums, c < gs.length
theorem args_nums {G : Gt} (h : ¬ G.nums = [] ∨ (G.word = "not" ∨ G.word = "all" ∨ G.word = "some")) : G.args = G.nums.map Int.ofNat := by
  cases G with
  | nt c => rfl
  | all l => rfl
  | som l => rfl
  | start => rcases h with h | h | h | h <;> first | exact absurd rfl h | (dsimp only [Gt.word] at h; exact absurd h (by decide +kernel))
  | mem k => rcases h with h | h | h | h <;> first | exact absurd rfl h | (dsimp only [Gt.word] at h; exact absurd h (by decide +kernel))
  | given k => rcases h with h | h | h | h <;> first | exact absurd rfl h | (dsimp only [Gt.word] at h; exact absurd h (by decide +kernel))
/-- of the first i gates, and of the first j numbers of the next one -/
def nmP (gs : List Gt) (i j c : Nat) : List Nat := ((List.range i).flatMap fun g => List.replicate ((numsAt gs g).count c) g) ++ List.replicate (((numsAt gs i).take j).count c) i
theorem nmP_zero (gs : List Gt) (c : Nat) : nmP gs 0 0 c = [] := by simp [nmP]
theorem nmP_next {gs : List Gt} {i : Nat} (c : Nat) {j : Nat} (h : (numsAt gs i).length ≤ j) : nmP gs i j c = nmP gs (i + 1) 0 c := by
  unfold nmP
  rw [List.take_of_length_le h, List.range_succ, List.flatMap_append]
  simp
theorem nmP_all (gs : List Gt) (c : Nat) : nmP gs gs.length 0 c = namers gs c := by
  unfold nmP namers
  simp [numsAt]
theorem nmP_step {gs : List Gt} {i j d : Nat} (h : (numsAt gs i)[j]? = some d) (c : Nat) : nmP gs i (j + 1) c = if d = c then nmP gs i j c ++ [i] else nmP gs i j c := by
  unfold nmP
  rw [List.take_add_one, h, List.count_append]
  by_cases e : d = c
  · subst e
    rw [if_pos rfl]
    simp [List.replicate_succ']
  · rw [if_neg e]
    have : List.count c (some d).toList = 0 := by simp [e]
    rw [this, Nat.add_zero]
/-- the lists so far, all new -/
inductive NmF (H H' : Hp) (nl : Addr) (ls : List Addr) (gs : List Gt) (i j : Nat) : Prop
  | mk (h : H' nl = some (.lst (ls.map V.ref))) (l : ls.length = gs.length) (t : ∀ (c : Nat) a, ls[c]? = some a → H' a = some (.lst ((nmP gs i j c).map fun n => V.int (n : Nat)))) (n0 : H nl = none) (n1 : ∀ a ∈ ls, H a = none) (nd : ls.Nodup) (nn : nl ∉ ls) : NmF H H' nl ls gs i j
theorem nmP_len (gs : List Gt) (i j c : Nat) : (nmP gs i j c).length ≤ ((List.range (i + 1)).map fun g => (numsAt gs g).length).sum := by
  unfold nmP
  rw [List.length_append, List.length_replicate, List.range_succ, List.map_append, List.sum_append]
  have h1 : ((List.range i).flatMap fun g => List.replicate ((numsAt gs g).count c) g).length ≤ ((List.range i).map fun g => (numsAt gs g).length).sum := by
    rw [List.length_flatMap]
    generalize List.range i = l
    induction l with
    | nil => exact Nat.le_refl _
    | cons x l ih =>
      simp only [List.map_cons, List.sum_cons, List.length_replicate]
      have := List.count_le_length (a := c) (l := numsAt gs x)
      simp only [List.length_replicate] at ih
      omega
  have h2 : ((numsAt gs i).take j).count c ≤ (numsAt gs i).length := Nat.le_trans List.count_le_length (by rw [List.length_take]; omega)
  exact Nat.add_le_add h1 h2
theorem NmF.put {H H' : Hp} {nl : Addr} {ls : List Addr} {gs : List Gt} {i j d : Nat} {a : Addr} (h : NmF H H' nl ls gs i j) (e : (numsAt gs i)[j]? = some d) (ea : ls[d]? = some a) : NmF H (upd H' a (.lst ((nmP gs i j d).map (fun n => V.int (n : Nat)) ++ [.int (i : Nat)]))) nl ls gs i (j + 1) := by
  obtain ⟨h, l, t, n0, n1, nd, nn⟩ := h
  have ain := List.mem_of_getElem? ea
  refine ⟨by rw [upd_ne (fun z : nl = a => nn (by rw [z]; exact ain))]; exact h, l, fun c b eb => ?_, n0, n1, nd, nn⟩
  rw [nmP_step e]
  by_cases z : d = c
  · subst z
    rw [ea] at eb
    cases eb
    rw [upd_same, if_pos rfl, List.map_append]
    rfl
  · rw [if_neg z, upd_ne (fun y => z ?_)]
    · exact t c b eb
    · subst y
      have h1 := List.getElem?_eq_some_iff.mp ea
      have h2 := List.getElem?_eq_some_iff.mp eb
      exact (List.getElem_inj nd).mp (h1.2.trans h2.2.symm)

end My
end

section
set_option Elab.async false
set_option linter.all false
set_option maxRecDepth 100000
set_option maxHeartbeats 4000000
namespace My
open PySem L2
theorem sameT {K : PySem.W.Frag} {H H' : Hp} {a : Addr} {xs : List V} (e : Same H H') (h : SqT K H a xs) : SqT K H' a xs := by
  rcases h with (h | ⟨o, h⟩) | h
  · exact .inl (.inl (e _ _ h))
  · exact .inl (.inr ⟨o, e _ _ h⟩)
  · exact .inr h
theorem NmF.mono {H H1 H2 : Hp} {nl : Addr} {ls : List Addr} {gs : List Gt} {i j : Nat} (e : Same H1 H2) (h : NmF H H1 nl ls gs i j) : NmF H H2 nl ls gs i j := by
  obtain ⟨h, l, t, n0, n1, nd, nn⟩ := h
  exact ⟨e _ _ h, l, fun c a ea => e _ _ (t c a ea), n0, n1, nd, nn⟩
theorem NmF.next {H H1 : Hp} {nl : Addr} {ls : List Addr} {gs : List Gt} {i j : Nat} (hj : (numsAt gs i).length ≤ j) (h : NmF H H1 nl ls gs i j) : NmF H H1 nl ls gs (i + 1) 0 := by
  obtain ⟨h, l, t, n0, n1, nd, nn⟩ := h
  exact ⟨h, l, fun c a ea => by rw [← nmP_next c hj]; exact t c a ea, n0, n1, nd, nn⟩
def isNm : Gt → Bool
  | .nt _ => true
  | .all _ => true
  | .som _ => true
  | _ => false
theorem in_nm {G : Gt} {A B : Prop} (h1 : isNm G = true → A) (h2 : isNm G = false → B) : if (if false = true then !inV (V.str G.word) [V.str "not", V.str "all", V.str "some"] else inV (V.str G.word) [V.str "not", V.str "all", V.str "some"]) = true then A else B := by
  rw [show (if false = true then !inV (V.str G.word) [V.str "not", V.str "all", V.str "some"] else inV (V.str G.word) [V.str "not", V.str "all", V.str "some"]) = isNm G from by
    cases G with
    | start => decide +kernel
    | mem k => show (if false = true then !inV (V.str "memory") [V.str "not", V.str "all", V.str "some"] else inV (V.str "memory") [V.str "not", V.str "all", V.str "some"]) = false; decide +kernel
    | given k => show (if false = true then !inV (V.str "given") [V.str "not", V.str "all", V.str "some"] else inV (V.str "given") [V.str "not", V.str "all", V.str "some"]) = false; decide +kernel
    | nt k => show (if false = true then !inV (V.str "not") [V.str "not", V.str "all", V.str "some"] else inV (V.str "not") [V.str "not", V.str "all", V.str "some"]) = true; decide +kernel
    | all k => show (if false = true then !inV (V.str "all") [V.str "not", V.str "all", V.str "some"] else inV (V.str "all") [V.str "not", V.str "all", V.str "some"]) = true; decide +kernel
    | som k => show (if false = true then !inV (V.str "some") [V.str "not", V.str "all", V.str "some"] else inV (V.str "some") [V.str "not", V.str "all", V.str "some"]) = true; decide +kernel]
  cases e : isNm G with
  | true => rw [if_pos rfl]; exact h1 e
  | false => rw [if_neg Bool.false_ne_true]; exact h2 e
theorem nm_args {G : Gt} (h : isNm G = true) : G.args = G.nums.map Int.ofNat := by cases G <;> first | rfl | cases h
theorem nm_none {G : Gt} (h : isNm G = false) : G.nums = [] := by cases G <;> first | rfl | cases h
inductive C_spNms (K : PySem.W.Frag) (vs : List V) (H : Hp) (Q : VK) : Prop
  | mk (gl : Addr) (gs : List Gt) (c0 : vs = [.ref gl]) (c1 : GsAt K H gl gs) (c2 : WfG gs) (c3 : gs.length ≤ 60) (c4 : (∀ i, i < gs.length → ((List.range (i + 1)).map fun g => (numsAt gs g).length).sum ≤ 900)) (c5 : ∀ (nl : Addr) (ls : List Addr) (H' : Hp), Same H H' → NmF H H' nl ls gs gs.length 0 → Q (.ref nl) H') : C_spNms K vs H Q
def spNms (K : PySem.W.Frag) : Sp := fun vs H Q _ => C_spNms K vs H Q
section
variable {P : Program} {w : World} {K : PySem.W.Frag} {mg : Str → Option Value} {base : Heap} {C aN : Addr}
set_option maxHeartbeats 64000000 in
theorem ok_nms (F : FunM K mg "namers_of" ["gates"] s_namers_of) (T : TxtG K mg C aN) : Callee P w K mg base 1 "namers_of" ["gates"] (spNms K) := by
  refine F.ok sc_namers_of (fun vs H Q E h => ?_) (fun f cdv A outer s H vs Q E hr h => ?_)
  · obtain ⟨gl, gs, rfl, _⟩ := h; rfl
  obtain ⟨gl, gs, rfl, ⟨vs, hgl, lv, gt⟩, wf, l60, hb, q⟩ := h
  refine ⟨_, (pss_cons (ps_setComp (j := 1) (g := (gName 0)) (tc := tAlways) (te := (tLst tNil)) ["gate"] [] sc_namers_of.nd rfl (Or.inl rfl) rfl (compOk (defScope s_namers_of) ["gates", "namers", "number", "gate", "named"] (by decide +kernel)) (pi_list (pv 0)) (fun s2 H2 fp cl C => pg_name (i := 0) (show List.Nodup [("gate" : Str)] from by decide +kernel) rfl (Or.inl rfl)) (gkeep_name (by decide)) (fun s2 H2 fp cl C => pif_nil) (fun s2 H2 fp cl C => (pe_lst pa_nil)))
    (pss_cons (ps_for PassesOwn.never rfl (pi_enum rfl T.n_enumerate (pa_cons (pv 0) pa_nil)) (pg_tup rfl (pgs_cons (pg_name (i := 2) sc_namers_of.nd rfl (Or.inl rfl)) (pgs_cons (pg_name (i := 3) sc_namers_of.nd rfl (Or.inl rfl)) pgs_nil)))
      (pss_one (ps_if (pt_cmpR op_in_seq (pe_ix ix_tup (pv 3) pe_int (fun _ _ => rfl)) (pe_glob rfl T.m_NAMING_GATES T.r_NAMING_GATES) (by rfl))
      (pss_one (ps_for PassesOwn.never rfl (pi_tup (pe_ix ix_tup (pv 3) pe_int (fun _ _ => rfl))) (pg_name (i := 4) sc_namers_of.nd rfl (Or.inl rfl))
      (pss_one (ps_expr (pe_bm PySem.F.plainAttrs_list PySem.F.slot_list_append PySem.F.type_list_append mt_append (pe_ix ix_list (pv 1) (pv 4) (fun _ _ => rfl)) (pa_cons (pv 2) pa_nil))))))
      pss_nil)))
    (pss_one (ps_ret (pv 1))))), ?_⟩
  refine ⟨_, rfl, gl, rfl, ⟨_, hgl⟩, comp_list (K := K) (xs := vs) (fun i ys H' => Same H H' ∧ ∃ ls : List Addr, ys = ls.map V.ref ∧ ls.length = i ∧ (∀ a ∈ ls, H a = none ∧ H' a = some (.lst [])) ∧ ls.Nodup) ⟨Same.refl _, [], rfl, rfl, fun a h => (by cases h), List.nodup_nil⟩ (by exact small (by omega)) (fun i ys H' h => h.1.seq hgl) ?_ ?_⟩
  · rintro j z ys H1 N hj ⟨g1, ls, rfl, ll, ha, nd⟩ hN hyl
    refine ⟨(by show 0 ≤ sizeLine; decide), fun l hl => ?_⟩
    have k := same_new hl (.lst [])
    refine hN _ _ (by rw [List.length_append, List.length_map, ll]; exact Nat.le_refl _) ⟨g1.trans k, ls ++ [l], by rw [List.map_append]; rfl, by rw [List.length_append, ll]; rfl, fun a h => ?_, ?_⟩
    · rcases List.mem_append.mp h with h | h
      · exact ⟨(ha a h).1, k _ _ (ha a h).2⟩
      · cases List.mem_singleton.mp h
        exact ⟨g1.free hl, upd_same⟩
    · refine List.nodup_append.mpr ⟨nd, by simp, fun a h b hb e => ?_⟩
      cases List.mem_singleton.mp hb
      subst e
      have := (ha a h).2
      rw [hl] at this
      cases this
  rintro ys H1 hyl ⟨g1, ls, rfl, ll, ha, nd⟩ nl hnl
  have k1 := same_new hnl (.lst (ls.map V.ref))
  have en := upd_same (H := H1) (a := nl) (o := .lst (ls.map V.ref))
  have g2 := g1.trans k1
  have N0 : NmF H (upd H1 nl (.lst (ls.map V.ref))) nl ls gs 0 0 := ⟨en, by omega, fun c a ea => by rw [nmP_zero]; exact k1 _ _ (ha a (List.mem_of_getElem? ea)).2, g1.free hnl, fun a h => (ha a h).1, nd, fun z => by have := (ha nl z).2; rw [hnl] at this; cases this⟩
  generalize (upd H1 nl (.lst (ls.map V.ref))) = H2 at g2 N0
  refine ⟨_, rfl, gl, rfl, ⟨_, g2.seq hgl⟩, for_enum (K := K) (l := gl) (xs := vs) (fun i σ H' => Ex3 fun (x2 : Option V) (x3 : Option V) (x4 : Option V) => An3 (σ = [some (.ref gl), some (.ref nl), x2, x3, x4]) (Same H H') (NmF H H' nl ls gs i 0)) ⟨none, none, none, rfl, g2, N0⟩ (fun i σ H' _ h => by obtain ⟨_, _, _, _, g, _⟩ := h; exact g.seq hgl) ?_ ?_⟩
  · rintro i v t σ H3 hi ⟨x2, x3, x4, rfl, g3, N3⟩ ht
    have il : i < gs.length := by rw [← lv]; exact (List.getElem?_eq_some_iff.mp hi).1
    obtain ⟨G, hG⟩ : ∃ G, gs[i]? = some G := ⟨_, List.getElem?_eq_getElem il⟩
    have ng : numsAt gs i = G.nums := by unfold numsAt; rw [hG]; rfl
    obtain ⟨a, b, rfl, h1, h2⟩ := gt i v G hi hG
    have k4 := same_new ht (.tup [.int (i : Nat), .ref a])
    have et := upd_same (H := H3) (a := t) (o := .tup [.int (i : Nat), .ref a])
    have g4 := g3.trans k4
    have N4 := N3.mono k4
    generalize (upd H3 t (.tup [.int (i : Nat), .ref a])) = H4 at et g4 N4
    refine ⟨t, _, rfl, SqT.of et, rfl, _, _, rfl, _, _, rfl, rfl, ?_⟩
    refine ⟨_, rfl, a, _, _, _, rfl, rfl, sameT g4 h1, atI_nat (j := 0) rfl, aN, _, rfl, .inr (.inr T.mN), rfl, rfl, _, rfl, in_nm (fun z => ?_) fun z => ?_⟩
    · have ea := nm_args z
      rw [ea] at h2
      refine ⟨_, rfl, a, _, _, _, rfl, rfl, sameT g4 h1, atI_nat (j := 1) rfl, b, rfl, ⟨_, sameT g4 h2⟩, for_tup (K := K) (a := b) (xs := (G.nums.map Int.ofNat).map V.int) (fun j σ H' => Ex1 fun (x4 : Option V) => An3 (σ = [some (.ref gl), some (.ref nl), some (.int (i : Nat)), some (.ref a), x4]) (Same H H') (NmF H H' nl ls gs i j)) ⟨_, rfl, g4, N4⟩ (fun j σ H' _ h => by obtain ⟨_, _, g, _⟩ := h; exact sameT g h2) ?_ ?_⟩
      · rintro j y σ H5 hj ⟨x4, rfl, g5, N5⟩
        rw [List.map_map, List.getElem?_map] at hj
        cases ej : G.nums[j]? with
        | none => rw [ej] at hj; cases hj
        | some d =>
          rw [ej] at hj
          cases hj
          obtain ⟨hn5, l5, t5, m0, m1, nd5, nn5⟩ := id N5
          have dl := wf i G hG d (List.mem_of_getElem? ej)
          obtain ⟨c, ec⟩ : ∃ c, ls[d]? = some c := ⟨_, List.getElem?_eq_getElem (by omega)⟩
          have hc5 := t5 d c ec
          have ec' : (ls.map V.ref)[d]? = some (.ref c) := by rw [List.getElem?_map, ec]; rfl
          have pl := Nat.le_trans (nmP_len gs i j d) (hb i il)
          refine ⟨_, rfl, _, rfl, nl, _, _, _, rfl, rfl, SqL.of hn5, atI_nat ec', .inl ⟨rfl, _, SqL.of hc5⟩, _, rfl, c, _, _, rfl, rfl, hc5, by rw [List.length_map]; exact small1000 (by omega), ?_⟩
          exact ⟨_, rfl, g5.young (m1 c (List.mem_of_getElem? ec)) _, N5.put (by rw [ng]; exact ej) ec⟩
      · rintro σ H5 ⟨x4, rfl, g5, N5⟩
        exact ⟨_, _, _, rfl, g5, N5.next (by rw [ng, List.length_map, List.length_map]; exact Nat.le_refl _)⟩
    · exact ⟨_, _, _, rfl, g4, N4.next (by rw [ng, nm_none z]; exact Nat.le_refl _)⟩
  · rintro σ H3 ⟨x2, x3, x4, rfl, g3, N3⟩
    rw [lv] at N3
    exact ⟨_, rfl, q nl ls H3 g3 N3⟩
end

end My
end

section
set_option Elab.async false
set_option linter.all false
set_option maxRecDepth 100000
set_option maxHeartbeats 4000000
namespace My
open PySem L2
theorem rep_non (n : Nat) : (List.replicate n [V.non]).flatten = (List.replicate n (none : Option Bool)).map vO := by
  induction n with
  | zero => rfl
  | succ n ih => rw [List.replicate_succ, List.flatten_cons, ih, List.replicate_succ]; rfl
theorem kpo_sqT {K : PySem.W.Frag} {o a C dx : Addr} {fs : List (Str × V)} {H H' : Hp} {xs : List V} (k : Kp o H H') (ho : H o = some (.ins C dx fs)) (h : SqT K H a xs) : SqT K H' a xs := by
  rcases h with (h | ⟨z, h⟩) | h
  · exact .inl (.inl (k _ _ (fun e => by rw [e, ho] at h; cases h) h))
  · exact .inl (.inr ⟨z, k _ _ (fun e => by rw [e, ho] at h; cases h) h⟩)
  · exact .inr h
theorem kpo_sqL {K : PySem.W.Frag} {o a C dx : Addr} {fs : List (Str × V)} {H H' : Hp} {xs : List V} (k : Kp o H H') (ho : H o = some (.ins C dx fs)) (h : SqL K H a xs) : SqL K H' a xs := by
  rcases h with (h | ⟨z, h⟩) | h
  · exact .inl (.inl (k _ _ (fun e => by rw [e, ho] at h; cases h) h))
  · exact .inl (.inr ⟨z, k _ _ (fun e => by rw [e, ho] at h; cases h) h⟩)
  · exact .inr h
theorem GsAt.kpo {K : PySem.W.Frag} {o gl C dx : Addr} {fs : List (Str × V)} {H H' : Hp} {gs : List Gt} (k : Kp o H H') (ho : H o = some (.ins C dx fs)) (h : GsAt K H gl gs) : GsAt K H' gl gs := by
  obtain ⟨vs, h, l, g⟩ := h
  exact ⟨vs, kpo_sqL k ho h, l, fun i v G e1 e2 => by obtain ⟨a, b, e, h1, h2⟩ := g i v G e1 e2; exact ⟨a, b, e, kpo_sqT k ho h1, kpo_sqT k ho h2⟩⟩
theorem GsAt.same {K : PySem.W.Frag} {gl : Addr} {H H' : Hp} {gs : List Gt} (k : Same H H') (h : GsAt K H gl gs) : GsAt K H' gl gs := by
  obtain ⟨vs, h, l, g⟩ := h
  exact ⟨vs, k.seq h, l, fun i v G e1 e2 => by obtain ⟨a, b, e, h1, h2⟩ := g i v G e1 e2; exact ⟨a, b, e, sameT k h1, sameT k h2⟩⟩
structure SmG (gs : List Gt) : Prop where
  wf : WfG gs
  len : gs.length ≤ 60
  sum : ∀ i, i < gs.length → ((List.range (i + 1)).map fun g => (numsAt gs g).length).sum ≤ 900
def uns (gs : List Gt) : List Int := gs.map fun G => (G.args.length : Int)
inductive InitQ (C : Addr) (H : Hp) (o gl : Addr) (gs : List Gt) (H' : Hp) : Prop
  | mk (kl ol nl ul : Addr) (k : Kp o H H') (S : StlAt C H' o gl kl ol nl ul (List.replicate gs.length none) [] (uns gs)) (N : NmAt H' nl gs [kl, ol, ul]) (ng : gl ∉ [kl, ol, ul]) (f : ∀ r ∈ [kl, ol, ul], H r = none) : InitQ C H o gl gs H'
inductive C_spInit (K : PySem.W.Frag) (C : Addr) (vs : List V) (H : Hp) (Q : VK) : Prop
  | mk (o dx gl : Addr) (gs : List Gt) (xs : List V) (c0 : vs = [.ref o, .ref gl]) (c1 : H o = some (.ins C dx [])) (c2 : GsAt K H gl gs) (c3 : H gl = some (.lst xs)) (c4 : SmG gs) (c5 : ∀ H', InitQ C H o gl gs H' → Q .non H') : C_spInit K C vs H Q
def spInit (K : PySem.W.Frag) (C : Addr) : Sp := fun vs H Q _ => C_spInit K C vs H Q
section
variable {P : Program} {w : World} {K : PySem.W.Frag} {mg : Str → Option Value} {base : Heap} {C aN : Addr}
set_option maxHeartbeats 16000000 in
theorem ok_init {f : Addr} {fd : FuncData} (F : Fun K "__init__" "Settler.__init__" s_m_init f fd) (T : TxtG K mg C aN) (C_namers_of : Callee P w K mg base 1 "namers_of" ["gates"] (spNms K)) : FnOk P w K mg base CX0 2 f fd ["self", "gates"] (spInit K C) := by
  refine F.ok sc_m_init (fun vs H Q E h => ?_) (fun cdv A outer s H vs Q E hr h => ?_)
  · obtain ⟨o, dx, gl, gs, xs, rfl, _⟩ := h; rfl
  obtain ⟨o, dx, gl, gs, xs, rfl, ho, G0, hgl, sm, q⟩ := h
  refine ⟨_, (pss_cons (ps_fld (pv 0) (pv 1) rfl)
    (pss_cons (ps_fld (pv 0) (pe_op op_rep (pe_lst (pa_cons pe_non pa_nil)) (pe_callB call_lenK rfl T.n_len PySem.boot_len (pa_cons (pv 1) pa_nil))) rfl)
    (pss_cons (ps_fld (pv 0) (pe_lst pa_nil) rfl)
    (pss_cons (ps_fld (pv 0) (pe_callC C_namers_of hr rfl pass0 (pa_cons (pv 1) pa_nil)) rfl)
    (pss_one (ps_fld (pv 0) (pe_comp (g := (gName 0)) (tc := tAlways) (te := (tCB (rLen K) (tCons (tOp (rIxT K) (tVar 0) (tC (.int 1))) tNil))) ["gate"] [] rfl (compOk (defScope s_m_init) ["self", "gates"] (by decide +kernel)) (pi_list (pv 1)) (fun s2 H2 fp cl C => pg_name (i := 0) (show List.Nodup [("gate" : Str)] from by decide +kernel) rfl (Or.inl rfl)) (gkeep_name (by decide)) (fun s2 H2 fp cl C => pif_nil) (fun s2 H2 fp cl C => (pe_callB call_lenK rfl T.n_len PySem.boot_len (pa_cons (pe_ix ix_tup (pv 0) pe_int (fun _ _ => rfl)) pa_nil)))) rfl)))))), ?_⟩
  have ngo : gl ≠ o := fun e => by rw [e, ho] at hgl; cases hgl
  refine ⟨_, rfl, _, rfl, o, C, dx, [], rfl, ho, T.cl, T.nG, (by show 0 < 1000; decide), ?_⟩
  have ka : Kp o H (upd H o (.ins C dx (putF "gates" (.ref gl) []))) := Kp.upd
  have ho1 := upd_same (H := H) (a := o) (o := .ins C dx (putF "gates" (.ref gl) []))
  have G1 := G0.kpo ka ho
  have hgl1 := ka _ _ ngo hgl
  generalize (upd H o (.ins C dx (putF "gates" (.ref gl) []))) = H1 at ka ho1 G1 hgl1
  obtain ⟨vs1, hv1, lv1, _⟩ := id G1
  refine ⟨(by show 1 ≤ sizeLine; decide), fun l0 hl0 => ?_⟩
  have kb := same_new hl0 (.lst [V.non])
  refine ⟨_, rfl, gl, vs1, rfl, .inl (kb.seq hv1), l0, _, _, rfl, rfl, upd_same, by have := sm.len; omega, by have := sm.len; omega, by have := sm.len; show 1 * _ ≤ _; rw [Nat.one_mul, Int.toNat_natCast]; exact small (by omega), fun kl hkl => ?_⟩
  rw [Int.toNat_natCast, rep_non, lv1]
  have kc := same_new hkl (.lst ((List.replicate gs.length (none : Option Bool)).map vO))
  have ek1 := upd_same (H := upd H1 l0 (.lst [V.non])) (a := kl) (o := .lst ((List.replicate gs.length (none : Option Bool)).map vO))
  have kbc := kb.trans kc
  have fkl := kb.free hkl
  generalize (upd (upd H1 l0 (.lst [V.non])) kl (.lst ((List.replicate gs.length (none : Option Bool)).map vO))) = H2 at kbc ek1
  have ho2 := kbc _ _ ho1
  refine ⟨_, rfl, o, C, dx, _, rfl, ho2, T.cl, T.nK, (by show 1 < 1000; decide), ?_⟩
  have kd : Kp o H2 (upd H2 o (.ins C dx (putF "known" (.ref kl) (putF "gates" (.ref gl) [])))) := Kp.upd
  have ho3 := upd_same (H := H2) (a := o) (o := .ins C dx (putF "known" (.ref kl) (putF "gates" (.ref gl) [])))
  have nko : kl ≠ o := (ne_of_none ho1 fkl).symm
  have ek3 := kd _ _ nko ek1
  have G3 := (G1.same kbc).kpo kd ho2
  have hgl3 := kd _ _ ngo (kbc _ _ hgl1)
  have k03 : Kp o H (upd H2 o (.ins C dx (putF "known" (.ref kl) (putF "gates" (.ref gl) [])))) := ka.trans ((Same.kp kbc).trans kd)
  generalize (upd H2 o (.ins C dx (putF "known" (.ref kl) (putF "gates" (.ref gl) [])))) = H3 at ho3 ek3 G3 hgl3 k03
  refine ⟨(by show 0 ≤ sizeLine; decide), fun ol hol => ?_⟩
  have ke := same_new hol (.lst [])
  have eo4 := upd_same (H := H3) (a := ol) (o := .lst [])
  have noo : ol ≠ o := (ne_of_none ho3 hol).symm
  have nok : kl ≠ ol := ne_of_none ek3 hol
  have ngl2 : gl ≠ ol := ne_of_none hgl3 hol
  have ngl1 : gl ≠ kl := ne_of_none hgl1 fkl
  generalize (upd H3 ol (.lst [])) = H4 at ke eo4
  have ho4 := ke _ _ ho3
  refine ⟨_, rfl, o, C, dx, _, rfl, ho4, T.cl, T.nO, (by show 2 < 1000; decide), ?_⟩
  have kf : Kp o H4 (upd H4 o (.ins C dx (putF "order" (.ref ol) (putF "known" (.ref kl) (putF "gates" (.ref gl) []))))) := Kp.upd
  have ho5 := upd_same (H := H4) (a := o) (o := .ins C dx (putF "order" (.ref ol) (putF "known" (.ref kl) (putF "gates" (.ref gl) []))))
  have ek5 := kf _ _ nko (ke _ _ ek3)
  have eo5 := kf _ _ noo eo4
  have G5 := (G3.same ke).kpo kf ho4
  have hgl5 := kf _ _ ngo (ke _ _ hgl3)
  have k05 : Kp o H (upd H4 o (.ins C dx (putF "order" (.ref ol) (putF "known" (.ref kl) (putF "gates" (.ref gl) []))))) := k03.trans ((Same.kp ke).trans kf)
  generalize (upd H4 o (.ins C dx (putF "order" (.ref ol) (putF "known" (.ref kl) (putF "gates" (.ref gl) []))))) = H5 at ho5 ek5 eo5 G5 hgl5 k05
  refine ⟨_, rfl, gl, gs, rfl, G5, sm.wf, sm.len, sm.sum, fun nl ls H6 g6 N6 => ?_⟩
  have ho6 := g6 _ _ ho5
  refine ⟨_, rfl, o, C, dx, _, rfl, ho6, T.cl, T.nN, (by show 3 < 1000; decide), ?_⟩
  have kg : Kp o H6 (upd H6 o (.ins C dx (putF "namers" (.ref nl) (putF "order" (.ref ol) (putF "known" (.ref kl) (putF "gates" (.ref gl) [])))))) := Kp.upd
  have ho7 := upd_same (H := H6) (a := o) (o := .ins C dx (putF "namers" (.ref nl) (putF "order" (.ref ol) (putF "known" (.ref kl) (putF "gates" (.ref gl) [])))))
  have ek7 := kg _ _ nko (g6 _ _ ek5)
  have eo7 := kg _ _ noo (g6 _ _ eo5)
  have G7 := (G5.same g6).kpo kg ho6
  have hgl7 := kg _ _ ngo (g6 _ _ hgl5)
  have k07 : Kp o H (upd H6 o (.ins C dx (putF "namers" (.ref nl) (putF "order" (.ref ol) (putF "known" (.ref kl) (putF "gates" (.ref gl) [])))))) := k05.trans ((Same.kp g6).trans kg)
  generalize (upd H6 o (.ins C dx (putF "namers" (.ref nl) (putF "order" (.ref ol) (putF "known" (.ref kl) (putF "gates" (.ref gl) [])))))) = H7 at ho7 ek7 eo7 G7 hgl7 k07 kg
  obtain ⟨en6, ll, tt, n0, n1, nd, nn⟩ := N6
  have nno : nl ≠ o := (ne_of_none ho5 n0).symm
  have lno : ∀ a ∈ ls, a ≠ o := fun a h => (ne_of_none ho5 (n1 a h)).symm
  obtain ⟨vs7, hv7, lv7, gt7⟩ := id G7
  refine ⟨_, rfl, gl, rfl, ⟨_, hv7⟩, comp_list (K := K) (xs := vs7) (fun i ys H' => H' = H7 ∧ ys = (uns (gs.take i)).map V.int) ⟨rfl, rfl⟩ (small (by have := sm.len; omega)) (fun i ys H' h => by rw [h.1]; exact hv7) ?_ ?_⟩
  · rintro j z ys H' M hj ⟨rfl, rfl⟩ hN hyl
    have jl : j < gs.length := by rw [← lv7]; exact (List.getElem?_eq_some_iff.mp hj).1
    obtain ⟨G, hG⟩ : ∃ G, gs[j]? = some G := ⟨_, List.getElem?_eq_getElem jl⟩
    obtain ⟨a, b, rfl, h1, h2⟩ := gt7 j z G hj hG
    refine ⟨_, rfl, a, _, _, _, rfl, rfl, h1, atI_nat (j := 1) rfl, b, _, rfl, .inr h2, hN _ _ ?_ ⟨rfl, ?_⟩⟩
    · rw [List.length_append, List.length_singleton]; exact Nat.succ_le_succ hyl
    · unfold uns; rw [List.take_add_one, hG, List.map_append, List.map_append, List.length_map]; rfl
  · rintro ys H' hyl ⟨rfl, rfl⟩ ul hul
    rw [List.take_of_length_le (by omega)]
    have kh := same_new hul (.lst ((uns gs).map V.int))
    have eu8 := upd_same (H := H') (a := ul) (o := .lst ((uns gs).map V.int))
    have nuo : ul ≠ o := (ne_of_none ho7 hul).symm
    have nku : kl ≠ ul := ne_of_none ek7 hul
    have nou : ol ≠ ul := ne_of_none eo7 hul
    have nnu : nl ≠ ul := ne_of_none (kg _ _ nno en6) hul
    have ngl3 : gl ≠ ul := ne_of_none hgl7 hul
    have tt7 : ∀ (c : Nat) a, ls[c]? = some a → H' a = some (.lst ((namers gs c).map fun n => V.int (n : Nat))) := fun c a e => by
      have := kg _ _ (lno a (List.mem_of_getElem? e)) (tt c a e)
      rw [nmP_all] at this
      exact this
    generalize (upd H' ul (.lst ((uns gs).map V.int))) = H8 at kh eu8
    have ho8 := kh _ _ ho7
    refine ⟨_, rfl, o, C, dx, _, rfl, ho8, T.cl, T.nU, (by show 4 < 1000; decide), ?_⟩
    have ki : Kp o H8 (upd H8 o (.ins C dx (putF "unheard" (.ref ul) (putF "namers" (.ref nl) (putF "order" (.ref ol) (putF "known" (.ref kl) (putF "gates" (.ref gl) []))))))) := Kp.upd
    have ho9 := upd_same (H := H8) (a := o) (o := .ins C dx (putF "unheard" (.ref ul) (putF "namers" (.ref nl) (putF "order" (.ref ol) (putF "known" (.ref kl) (putF "gates" (.ref gl) []))))))
    have k79 : Kp o H' (upd H8 o (.ins C dx (putF "unheard" (.ref ul) (putF "namers" (.ref nl) (putF "order" (.ref ol) (putF "known" (.ref kl) (putF "gates" (.ref gl) []))))))) := (Same.kp kh).trans ki
    refine q _ ⟨kl, ol, nl, ul, k07.trans k79, ⟨dx, ho9, k79 _ _ nko ek7, ⟨[], k79 _ _ noo eo7, rfl, fun i a g v z => (by cases z)⟩, ki _ _ nuo eu8, nok, nku, nou⟩, ⟨ls, k79 _ _ nno (kg _ _ nno en6), ll, fun c a e => ⟨k79 _ _ (lno a (List.mem_of_getElem? e)) (tt7 c a e), ?_⟩, ?_⟩, ?_, ?_⟩
    · have am := List.mem_of_getElem? e
      simp only [List.mem_cons, List.not_mem_nil, or_false, not_or]
      exact ⟨(ne_of_none ek5 (n1 a am)).symm, (ne_of_none eo5 (n1 a am)).symm, ne_of_none (tt7 c a e) hul⟩
    · simp only [List.mem_cons, List.not_mem_nil, or_false, not_or]
      exact ⟨(ne_of_none ek5 n0).symm, (ne_of_none eo5 n0).symm, nnu⟩
    · simp only [List.mem_cons, List.not_mem_nil, or_false, not_or]
      exact ⟨ngl1, ngl2, ngl3⟩
    · intro r hr'
      simp only [List.mem_cons, List.not_mem_nil, or_false] at hr'
      have fr : ∀ (r : Addr) (Hx : Hp), r ≠ o → Kp o H Hx → Hx r = none → H r = none := fun r Hx hne k hx => by
        cases e : H r with
        | none => rfl
        | some y => rw [k _ _ hne e] at hx; cases hx
      rcases hr' with rfl | rfl | rfl
      · exact fr _ _ nko ka fkl
      · exact fr _ _ noo k03 hol
      · exact fr _ _ nuo k07 hul
end

end My
end

section
set_option Elab.async false
set_option linter.all false
set_option maxRecDepth 100000
set_option maxHeartbeats 4000000
namespace My
open PySem L2
def StG (K : PySem.W.Frag) (H : Hp) : Option (List Int) → V → Prop
  | none, v => v = .non
  | some ns, v => ∃ a, v = .ref a ∧ SqL K H a (ns.map V.int)
theorem stG_same {K : PySem.W.Frag} {H H' : Hp} (g : Same H H') {st : Option (List Int)} {v : V} (h : StG K H st v) : StG K H' st v := by
  cases st with
  | none => exact h
  | some l => obtain ⟨a, e, s⟩ := h; exact ⟨a, e, g.seq s⟩
theorem stG_non {K : PySem.W.Frag} {H : Hp} {st : Option (List Int)} {v : V} (h : StG K H st v) : decide (v = .non) = st.isNone := by
  cases st with
  | none => cases h; exact decide_eq_true rfl
  | some l => obtain ⟨a, e, s⟩ := h; subst e; exact decide_eq_false (fun z => by cases z)
theorem or_list {K : PySem.W.Frag} {j : Nat} {σ : St} {H : Hp} {Q : VK} {sv : V} {st : Option (List Int)} (hj : σ[j]? = some (some sv)) (hst : StG K H st sv) (h : ∀ (e : Addr) (H2 : Hp), Same H H2 → SqL K H2 e ((st.getD []).map V.int) → Q (.ref e) H2) : tOrN K (tVar j) (tLst tNil) σ H Q := by
  cases st with
  | none =>
    cases hst
    exact ⟨_, hj, .inl ⟨rfl, (by show 0 ≤ sizeLine; decide), fun e he => h e _ (same_new he _) (SqL.of upd_same)⟩⟩
  | some l =>
    obtain ⟨a, rfl, hS⟩ := hst
    refine ⟨_, hj, .inr ⟨a, _, rfl, hS, fun z => ⟨(by show 0 ≤ sizeLine; decide), fun e he => h e _ (same_new he _) ?_⟩, fun _ => h a _ (Same.refl _) hS⟩⟩
    show SqL K _ e (l.map V.int)
    rw [z]
    exact SqL.of upd_same
theorem rs_acc (n : Int) : ∀ (l : List Int) (acc : List (Key × V)), (valV (mergeK acc (l.map fun n => ((Sum.inl n : Key), V.bl true))) (Sum.inl n)).isSome = ((valV acc (Sum.inl n)).isSome || decide (n ∈ l))
  | [], acc => by show (valV acc (Sum.inl n)).isSome = _; simp
  | x :: l, acc => by
    show (valV (mergeK (putK acc (Sum.inl x) (V.bl true)) (l.map fun n => ((Sum.inl n : Key), V.bl true))) (Sum.inl n)).isSome = _
    rw [rs_acc n l, valV_put]
    by_cases c : n = x
    · subst c; simp
    · rw [if_neg (fun z => c (Sum.inl.inj z))]; simp [c]
theorem rs_of (l : List Int) (n : Int) : (valV (mergeK [] (l.map fun n => ((Sum.inl n : Key), V.bl true))) (Sum.inl n)).isSome = decide (n ∈ l) := by rw [rs_acc]; rfl
theorem RsAt.kp {rs : List Addr} {H H' : Hp} {d : Addr} {l : List Int} (k : KpL rs H H') (ap : Apt rs H) (h : RsAt H d l) : RsAt H' d l := by
  obtain ⟨kvs, h, e⟩ := h
  exact ⟨kvs, k _ _ (fun z => by obtain ⟨ys, e⟩ := ap.of _ z; rw [h] at e; cases e) h, e⟩
theorem RsAt.same {H H' : Hp} {d : Addr} {l : List Int} (k : Same H H') (h : RsAt H d l) : RsAt H' d l := by
  obtain ⟨kvs, h, e⟩ := h
  exact ⟨kvs, k _ _ h, e⟩
theorem StlAt.same {C : Addr} {H H' : Hp} {o gl kl ol nl ul : Addr} {k : List (Option Bool)} {ord : List (Nat × Bool)} {u : List Int} (g : Same H H') (S : StlAt C H o gl kl ol nl ul k ord u) : StlAt C H' o gl kl ol nl ul k ord u := by
  obtain ⟨dx, ho, hk, ⟨ts, hol, tl, tt⟩, hu, n1, n2, n3⟩ := S
  exact ⟨dx, g _ _ ho, g _ _ hk, ⟨ts, g _ _ hol, tl, fun i a c v e1 e2 => g _ _ (tt i a c v e1 e2)⟩, g _ _ hu, n1, n2, n3⟩
theorem NmAt.same {H H' : Hp} {nl : Addr} {gs : List Gt} {rs : List Addr} (g : Same H H') (h : NmAt H nl gs rs) : NmAt H' nl gs rs := by
  obtain ⟨ls, h, l, t, n⟩ := h
  exact ⟨ls, g _ _ h, l, fun i a e => ⟨g _ _ (t i a e).1, (t i a e).2⟩, n⟩
theorem Fs.len {gs : List Gt} {st : Option (List Int)} {co : List Int} {k : Kn} {ord : List (Nat × Bool)} {i : Nat} (h : Fs gs st co k ord i) : ord.length ≤ gs.length := by
  have := nd_len gs.length (ord.map Prod.fst) h.nd fun x hx => by
    obtain ⟨⟨g, v⟩, hp, rfl⟩ := List.mem_map.mp hx
    obtain ⟨G, hG, _⟩ := h.der.told g v ((h.mem g v).mpr hp)
    exact (List.getElem?_eq_some_iff.mp hG).1
  rw [List.length_map] at this
  exact this
theorem uns_at {gs : List Gt} (g : Nat) (h : ¬ numsAt gs g = []) : uF (uns gs) g = ((numsAt gs g).length : Int) := by
  unfold uF uns
  unfold numsAt at h ⊢
  rw [List.getElem?_map]
  cases e : gs[g]? with
  | none => rw [e] at h; exact absurd rfl h
  | some G =>
    rw [e] at h
    show (G.args.length : Int) = (G.nums.length : Int)
    rw [args_nums (.inl h), List.length_map]
theorem KpL.sub {rs rs' : List Addr} {H H' : Hp} (h : ∀ r ∈ rs, r ∈ rs') (k : KpL rs H H') : KpL rs' H H' := fun b o n e => k b o (fun z => n (h b z)) e
theorem Same.byKpL {rs : List Addr} {H H1 H2 : Hp} (g : Same H H1) (f : ∀ r ∈ rs, H r = none) (k : KpL rs H1 H2) : Same H H2 := fun b x hb => k b x (fun z => by rw [f b z] at hb; cases hb) (g b x hb)
theorem knL_rep (n : Nat) : knL (List.replicate n (none : Option Bool)) = fun _ => none := by
  funext i
  unfold knL
  by_cases c : i < n
  · rw [List.getElem?_replicate_of_lt c]; rfl
  · rw [List.getElem?_eq_none (by rw [List.length_replicate]; omega)]; rfl
inductive GstQ (K : PySem.W.Frag) (C : Addr) (H : Hp) (gs : List Gt) (st : Option (List Int)) (co : List Int) (o : Addr) (H' : Hp) : Prop
  | mk (gl kl ol nl ul : Addr) (k : List (Option Bool)) (ord : List (Nat × Bool)) (u : List Int) (g : Same H H') (S : StlAt C H' o gl kl ol nl ul k ord u) (lk : k.length = gs.length) (m : Nat) (hm : ord.length ≤ m) (W : Wl gs st co (knL k) ord m [] (uF u)) : GstQ K C H gs st co o H'
inductive NetAt (K : PySem.W.Frag) (H : Hp) (nt : Addr) (gs : List Gt) : Prop
  | mk (gl : Addr) (rest xs : List V) (h : SqT K H nt (.ref gl :: rest)) (G : GsAt K H gl gs) (hgl : H gl = some (.lst xs)) (sm : SmG gs) : NetAt K H nt gs
structure InAt (K : PySem.W.Frag) (H : Hp) (sv : V) (cl : Addr) (st : Option (List Int)) (co : List Int) : Prop where
  hs : StG K H st sv
  ls : (st.getD []).length ≤ 900
  hc : SqL K H cl (co.map V.int)
  lc : co.length ≤ 900
inductive C_spGst (K : PySem.W.Frag) (C : Addr) (vs : List V) (H : Hp) (Q : VK) : Prop
  | mk (nt cl : Addr) (sv : V) (gs : List Gt) (st : Option (List Int)) (co : List Int) (c0 : vs = [.ref nt, sv, .ref cl]) (c1 : NetAt K H nt gs) (c2 : InAt K H sv cl st co) (c3 : ∀ (o : Addr) (H' : Hp), GstQ K C H gs st co o H' → Q (.ref o) H') : C_spGst K C vs H Q
def spGst (K : PySem.W.Frag) (C : Addr) : Sp := fun vs H Q _ => C_spGst K C vs H Q
section
variable {P : Program} {w : World} {K : PySem.W.Frag} {mg : Str → Option Value} {base : Heap} {C aN : Addr}
set_option maxHeartbeats 16000000 in
theorem ok_gst {fI : Addr} {fdI : FuncData} (F : FunM K mg "gates_settled" ["net", "state", "coming"] s_gates_settled) (T : TxtG K mg C aN) (MkN : Mk K C fI) (GI : FnOk P w K mg base CX0 2 fI fdI ["self", "gates"] (spInit K C)) (bI : Binds K fdI ["self", "gates"] []) (M_learn : MethM P w K mg base 1 C "learn" ["self", "gate", "value"] (spLearn C)) (M_hand_on : MethM P w K mg base 3 C "hand_on" ["self", "step"] (spHand K C)) (C_value_at_first : Callee P w K mg base 1 "value_at_first" ["gate", "starts", "rests", "signs"] (spVaf K)) : Callee P w K mg base 4 "gates_settled" ["net", "state", "coming"] (spGst K C) := by
  refine F.ok sc_gates_settled (fun vs H Q E h => ?_) (fun f cdv A outer s H vs Q E hr h => ?_)
  · obtain ⟨nt, cl, sv, gs, st, co, rfl, _⟩ := h; rfl
  obtain ⟨nt, cl, sv, gs, st, co, rfl, ⟨gl, rest, xs, hnt, G0, hgl, sm⟩, ⟨hst, lst, hcl, lco⟩, q⟩ := h
  refine ⟨_, (pss_cons (ps_set (i := 3) sc_gates_settled.nd rfl (Or.inl rfl) (pe_make MkN GI (hr.mono (by decide)) rfl T.m_Settler bI .nil pass0 (pa_cons (pe_ix ix_tup (pv 0) pe_int (fun _ _ => rfl)) pa_nil)))
    (pss_cons (ps_set (i := 4) sc_gates_settled.nd rfl (Or.inl rfl) (pe_callTy (call_dictL rfl) rfl T.n_dict (by decide +kernel) (pa_cons (pe_comp (g := (gName 0)) (tc := tAlways) (te := (tTup (tCons (tVar 0) (tCons (tC (.bl true)) tNil)))) ["rest"] [] rfl (compOk (defScope s_gates_settled) ["net", "state", "coming", "settler", "rests", "signs", "number", "gate", "heard"] (by decide +kernel)) (pi_list (pe_orN (pv 1) (pe_one (pe_lst pa_nil)))) (fun s2 H2 fp cl C => pg_name (i := 0) (show List.Nodup [("rest" : Str)] from by decide +kernel) rfl (Or.inl rfl)) (gkeep_name (by decide)) (fun s2 H2 fp cl C => pif_nil) (fun s2 H2 fp cl C => (pe_tup (pa_cons (pv 0) (pa_cons pe_bl pa_nil))))) pa_nil)))
    (pss_cons (ps_set (i := 5) sc_gates_settled.nd rfl (Or.inl rfl) (pe_callTy (call_dictL rfl) rfl T.n_dict (by decide +kernel) (pa_cons (pe_comp (g := (gName 0)) (tc := tAlways) (te := (tTup (tCons (tVar 0) (tCons (tC (.bl true)) tNil)))) ["sign"] [] rfl (compOk (defScope s_gates_settled) ["net", "state", "coming", "settler", "rests", "signs", "number", "gate", "heard"] (by decide +kernel)) (pi_list (pv 2)) (fun s2 H2 fp cl C => pg_name (i := 0) (show List.Nodup [("sign" : Str)] from by decide +kernel) rfl (Or.inl rfl)) (gkeep_name (by decide)) (fun s2 H2 fp cl C => pif_nil) (fun s2 H2 fp cl C => (pe_tup (pa_cons (pv 0) (pa_cons pe_bl pa_nil))))) pa_nil)))
    (pss_cons (ps_for PassesOwn.never rfl (pi_enum rfl T.n_enumerate (pa_cons (pe_ix ix_tup (pv 0) pe_int (fun _ _ => rfl)) pa_nil)) (pg_tup rfl (pgs_cons (pg_name (i := 6) sc_gates_settled.nd rfl (Or.inl rfl)) (pgs_cons (pg_name (i := 7) sc_gates_settled.nd rfl (Or.inl rfl)) pgs_nil)))
      (pss_one (ps_expr (pe_methC M_learn hr pass0 (pv 3) (pa_cons (pv 6) (pa_cons (pe_callC C_value_at_first hr rfl pass0 (pa_cons (pv 7) (pa_cons (pe_cmpR op_isN (pv 1) pe_non (nomark _)) (pa_cons (pv 4) (pa_cons (pv 5) pa_nil))))) pa_nil))))))
    (pss_cons (ps_set (i := 8) sc_gates_settled.nd rfl (Or.inl rfl) pe_int)
    (pss_cons (ps_while PassesOwn.never (pt_cmpR op_lt (pv 8) (pe_callB call_lenK rfl T.n_len PySem.boot_len (pa_cons (pe_fld (pv 3) rfl) pa_nil)) (nomark _))
      (pss_cons (ps_expr (pe_methC M_hand_on hr pass0 (pv 3) (pa_cons (pe_ix ix_list (pe_fld (pv 3) rfl) (pv 8) (fun _ _ => rfl)) pa_nil)))
    (pss_one (ps_set (i := 8) sc_gates_settled.nd rfl (Or.inl rfl) (pe_op op_add (pv 8) pe_int)))))
    (pss_one (ps_ret (pv 3))))))))), ?_⟩
  have l60 := sm.len
  refine ⟨_, rfl, nt, _, _, _, rfl, rfl, hnt, atI_nat (j := 0) rfl, fun o dx ho hdx ne => ?_⟩
  have ga : Same H (upd (upd H dx (.own o)) o (.ins C dx [])) := (same_new hdx _).trans (same_new (by rw [upd_ne ne.symm]; exact ho) _)
  refine ⟨o, dx, gl, gs, xs, rfl, upd_same, G0.same ga, ga _ _ hgl, sm, fun H1 I => ⟨rfl, ?_⟩⟩
  obtain ⟨kl, ol, nl, ul, k1, S, N, ng, fr⟩ := I
  have g1 : Same H H1 := ga.byKp ho k1
  have fr' : ∀ r ∈ [kl, ol, ul], H r = none := fun r hr => ga.free (fr r hr)
  clear k1 fr ga
  refine or_list rfl (stG_same g1 hst) fun e H2 g2 hS => ?_
  refine ⟨e, rfl, ⟨_, hS⟩, comp_list (K := K) (xs := (st.getD []).map V.int) (fun i ys H' => Same H2 H' ∧ ∃ ts : List Addr, ys = ts.map V.ref ∧ ts.length = i ∧ ∀ (n : Nat) t z, ts[n]? = some t → (st.getD [])[n]? = some z → H' t = some (.tup [.int z, .bl true])) ⟨Same.refl _, [], rfl, rfl, fun n t z h => (by cases h)⟩ (by rw [List.length_map]; exact small (by omega)) (fun i ys H' h => h.1.seq hS) ?_ ?_⟩
  · rintro j z ys H' M hj ⟨g', ts, rfl, tl, tt⟩ hN hyl
    rw [List.getElem?_map] at hj
    cases ej : (st.getD [])[j]? with
    | none => rw [ej] at hj; cases hj
    | some c =>
      rw [ej] at hj
      cases hj
      refine ⟨_, rfl, (by show 2 ≤ sizeLine; decide), fun t ht => ?_⟩
      have k' := same_new ht (.tup [.int c, .bl true])
      refine hN _ _ (by rw [List.length_append, List.length_singleton]; exact Nat.succ_le_succ hyl) ⟨g'.trans k', ts ++ [t], by rw [List.map_append]; rfl, by rw [List.length_append, tl]; rfl, fun n t' z' e1 e2 => ?_⟩
      by_cases c1 : n < ts.length
      · rw [List.getElem?_append_left c1] at e1
        exact k' _ _ (tt n t' z' e1 e2)
      · have nj : n = j := by
          have := (List.getElem?_eq_some_iff.mp e1).1
          rw [List.length_append, List.length_singleton] at this
          omega
        subst nj
        rw [← tl, List.getElem?_concat_length] at e1
        cases e1
        rw [ej] at e2
        cases e2
        exact upd_same
  rintro ys H3 hyl ⟨g3, ts, rfl, tl, tt⟩ D hD
  have k3 := same_new hD (.lst (ts.map V.ref))
  refine ⟨D, ts, (st.getD []).map fun n => ((Sum.inl n : Key), V.bl true), rfl, SqL.of upd_same, by rw [List.length_map]; rw [List.length_map] at tl; exact tl, fun n t ky vl e1 e2 => ?_, fun rd hrd => ?_⟩
  · rw [List.getElem?_map] at e2
    cases ez : (st.getD [])[n]? with
    | none => rw [ez] at e2; cases e2
    | some z =>
      rw [ez] at e2
      cases e2
      exact SqT.of (k3 _ _ (tt n t z e1 ez))
  have k4 := same_new hrd (.dK (mergeK [] ((st.getD []).map fun n => ((Sum.inl n : Key), V.bl true))))
  have Rrd : RsAt _ rd (st.getD []) := ⟨_, upd_same (H := (upd H3 D (.lst (ts.map V.ref)))) (a := rd) (o := .dK (mergeK [] ((st.getD []).map fun n => ((Sum.inl n : Key), V.bl true)))), rs_of _⟩
  have gA : Same H1 _ := g2.trans (g3.trans (k3.trans k4))
  generalize (upd (upd H3 D (.lst (ts.map V.ref))) rd (.dK (mergeK [] ((st.getD []).map fun n => ((Sum.inl n : Key), V.bl true))))) = HA at Rrd gA
  clear k3 k4 tt tl hD hyl g3 hS
  refine ⟨_, rfl, ?_⟩
  have hS := (g1.trans gA).seq hcl
  obtain ⟨e, rfl⟩ : ∃ e, e = cl := ⟨_, rfl⟩
  obtain ⟨H2, rfl⟩ : ∃ H2, H2 = HA := ⟨_, rfl⟩
  refine ⟨e, rfl, ⟨_, hS⟩, comp_list (K := K) (xs := (co).map V.int) (fun i ys H' => Same H2 H' ∧ ∃ ts : List Addr, ys = ts.map V.ref ∧ ts.length = i ∧ ∀ (n : Nat) t z, ts[n]? = some t → (co)[n]? = some z → H' t = some (.tup [.int z, .bl true])) ⟨Same.refl _, [], rfl, rfl, fun n t z h => (by cases h)⟩ (by rw [List.length_map]; exact small (by omega)) (fun i ys H' h => h.1.seq hS) ?_ ?_⟩
  · rintro j z ys H' M hj ⟨g', ts, rfl, tl, tt⟩ hN hyl
    rw [List.getElem?_map] at hj
    cases ej : (co)[j]? with
    | none => rw [ej] at hj; cases hj
    | some c =>
      rw [ej] at hj
      cases hj
      refine ⟨_, rfl, (by show 2 ≤ sizeLine; decide), fun t ht => ?_⟩
      have k' := same_new ht (.tup [.int c, .bl true])
      refine hN _ _ (by rw [List.length_append, List.length_singleton]; exact Nat.succ_le_succ hyl) ⟨g'.trans k', ts ++ [t], by rw [List.map_append]; rfl, by rw [List.length_append, tl]; rfl, fun n t' z' e1 e2 => ?_⟩
      by_cases c1 : n < ts.length
      · rw [List.getElem?_append_left c1] at e1
        exact k' _ _ (tt n t' z' e1 e2)
      · have nj : n = j := by
          have := (List.getElem?_eq_some_iff.mp e1).1
          rw [List.length_append, List.length_singleton] at this
          omega
        subst nj
        rw [← tl, List.getElem?_concat_length] at e1
        cases e1
        rw [ej] at e2
        cases e2
        exact upd_same
  rintro ys H3 hyl ⟨g3, ts, rfl, tl, tt⟩ D hD
  have k3 := same_new hD (.lst (ts.map V.ref))
  refine ⟨D, ts, (co).map fun n => ((Sum.inl n : Key), V.bl true), rfl, SqL.of upd_same, by rw [List.length_map]; rw [List.length_map] at tl; exact tl, fun n t ky vl e1 e2 => ?_, fun sd hsd => ?_⟩
  · rw [List.getElem?_map] at e2
    cases ez : (co)[n]? with
    | none => rw [ez] at e2; cases e2
    | some z =>
      rw [ez] at e2
      cases e2
      exact SqT.of (k3 _ _ (tt n t z e1 ez))
  have k4 := same_new hsd (.dK (mergeK [] ((co).map fun n => ((Sum.inl n : Key), V.bl true))))
  have Rsd : RsAt _ sd (co) := ⟨_, upd_same (H := (upd H3 D (.lst (ts.map V.ref)))) (a := sd) (o := .dK (mergeK [] ((co).map fun n => ((Sum.inl n : Key), V.bl true)))), rs_of _⟩
  have gB : Same H2 _ := (g3.trans (k3.trans k4))
  generalize (upd (upd H3 D (.lst (ts.map V.ref))) sd (.dK (mergeK [] ((co).map fun n => ((Sum.inl n : Key), V.bl true))))) = HB at Rsd gB
  clear k3 k4 tt tl hD hyl g3 hS
  have gAB := gA.trans gB
  have g0 := g1.trans gAB
  have S4 := S.same gAB
  have N4 := N.same gAB
  have G4 := G0.same g0
  have Rr := Rrd.same gB
  have ap := S4.apt
  obtain ⟨gvs, hgv, lgv, ggt⟩ := id G4
  refine ⟨_, rfl, nt, _, _, _, rfl, rfl, sameT g0 hnt, atI_nat (j := 0) rfl, gl, rfl, ⟨_, hgv⟩, for_enum (K := K) (l := gl) (xs := gvs) (fun i σ H' => Ex4 fun (x6 : Option V) (x7 : Option V) (k : List (Option Bool)) (ord : List (Nat × Bool)) => An5 (σ = [some (.ref nt), some sv, some (.ref e), some (.ref o), some (.ref rd), some (.ref sd), x6, x7, none]) (KpL [kl, ol, ul] HB H') (StlAt C H' o gl kl ol nl ul k ord (uns gs)) (k.length = gs.length) (Fs gs st co (knL k) ord i)) ⟨none, none, _, _, rfl, KpL.refl, S4, List.length_replicate, by rw [knL_rep]; exact Fs.nil⟩ (fun i σ H' _ h => by obtain ⟨_, _, _, _, _, kp, _⟩ := h; exact kp.sqL ng hgv) ?_ ?_⟩
  · rintro i v t σ H5 hi ⟨x6, x7, k, ord, rfl, kp, S5, lk, fs⟩ ht
    have il : i < gs.length := by rw [← lgv]; exact (List.getElem?_eq_some_iff.mp hi).1
    obtain ⟨G, hG⟩ : ∃ G, gs[i]? = some G := ⟨_, List.getElem?_eq_getElem il⟩
    have k6 := same_new ht (.tup [.int (i : Nat), v])
    have et := upd_same (H := H5) (a := t) (o := .tup [.int (i : Nat), v])
    have kp6 : KpL [kl, ol, ul] HB (upd H5 t (.tup [.int (i : Nat), v])) := fun b x n z => k6 _ _ (kp b x n z)
    have S6 := S5.same k6
    generalize (upd H5 t (.tup [.int (i : Nat), v])) = H6 at et kp6 S6
    have gG := (ggt i v G hi hG).kp kp6 ap
    have lo := fs.len
    have fs2 := fs.step hG
    rw [learnL_eq (by omega)] at fs2
    obtain ⟨dx6, ho6, _⟩ := id S6
    refine ⟨t, _, rfl, SqT.of et, rfl, _, _, rfl, _, _, rfl, rfl, ?_⟩
    refine ⟨_, rfl, o, dx6, _, rfl, ho6, rfl, _, rfl, _, rfl, _, rfl, rfl, _, rfl, _, rfl, v, G, rd, sd, st, co, (by rw [stG_non hst]; rfl), gG, Rr.kp kp6 ap, Rsd.kp kp6 ap, ?_⟩
    refine ⟨o, gl, kl, ol, nl, ul, i, atFirst st co G, k, ord, uns gs, rfl, S6, by omega, by omega, fun H7 kp7 S7 => ?_⟩
    exact ⟨_, _, _, _, rfl, kp6.trans (kp7.sub fun r hr' => by simp only [List.mem_cons, List.not_mem_nil, or_false] at hr' ⊢; rcases hr' with h | h; exact .inl h; exact .inr (.inl h)), S7, by rw [learnL_len]; exact lk, fs2⟩
  · rintro σ H5 ⟨x6, x7, k, ord, rfl, kp, S5, lk, fs⟩
    rw [lgv] at fs
    have W0 : Wl gs st co (knL k) ord 0 [] (uF (uns gs)) := fs.wl fun g h => uns_at g h
    refine while_by (fun σ H' => Ex4 fun (m : Nat) (k : List (Option Bool)) (ord : List (Nat × Bool)) (u : List Int) => An6 (σ = [some (.ref nt), some sv, some (.ref e), some (.ref o), some (.ref rd), some (.ref sd), x6, x7, some (.int (m : Nat))]) (KpL [kl, ol, ul] HB H') (StlAt C H' o gl kl ol nl ul k ord u) (k.length = gs.length) (u.length = gs.length) (Wl gs st co (knL k) ord m [] (uF u)))
      (fun (σ : St) (_ : Hp) => match σ[8]? with | some (some (V.int m)) => gs.length - m.toNat | _ => 0) ⟨0, k, ord, uns gs, rfl, kp, S5, lk, by unfold uns; rw [List.length_map], W0⟩ ?_ ?_
    · rintro σ H6 ⟨m, k, ord, u, rfl, kp, S6, lk, lu, W⟩
      obtain ⟨dx6, ho6, hk6, ⟨ts, hol6, tl6, tt6⟩, hu6, _⟩ := id S6
      refine ⟨_, rfl, _, rfl, o, C, dx6, _, _, rfl, ho6, T.cl, T.nO, rfl, ol, _, rfl, .inl (SqL.of hol6), _, _, rfl, rfl, _, rfl, ite2 (fun c => ?_) fun c => ?_⟩
      · have hm : m < ord.length := by
          have := of_decide_eq_true c
          rw [List.length_map] at this
          omega
        obtain ⟨t, ht⟩ : ∃ t, ts[m]? = some t := ⟨_, List.getElem?_eq_getElem (by omega)⟩
        obtain ⟨⟨c', v'⟩, hc'⟩ : ∃ x, ord[m]? = some x := ⟨_, List.getElem?_eq_getElem hm⟩
        have et := tt6 m t c' v' ht hc'
        have et' : (ts.map V.ref)[m]? = some (.ref t) := by rw [List.getElem?_map, ht]; rfl
        have wl := W.len
        refine ⟨_, rfl, o, dx6, _, rfl, ho6, rfl, _, rfl, o, C, dx6, _, _, rfl, ho6, T.cl, T.nO, rfl, _, rfl, ol, _, _, _, rfl, rfl, SqL.of hol6, atI_nat et', o, gl, kl, ol, nl, ul, t, gs, st, co, m, c', v', k, ord, u, rfl, S6, lk, lu, W, hc', et, G4.kp kp ap ng, ng, N4.kp kp, l60, fun H7 kp7 sw => ?_⟩
        obtain ⟨k', ord', u', S7, lk', lu', W'⟩ := sw
        refine ⟨_, rfl, _, _, rfl, rfl, ⟨m + 1, k', ord', u', rfl, kp.trans kp7, S7, lk', lu', W'⟩, ?_⟩
        show gs.length - ((m : Int) + 1).toNat < gs.length - (m : Int).toNat
        omega
      · have hm : ord.length ≤ m := by
          refine Nat.le_of_not_lt fun z => c (decide_eq_true ?_)
          rw [List.length_map]
          omega
        exact ⟨_, rfl, q o H6 ⟨gl, kl, ol, nl, ul, k, ord, u, Same.byKpL g0 fr' kp, S6, lk, m, hm, W⟩⟩
    · rintro σ H Q Q' h ⟨a1, b1, a2, b2, a3, a4, a5, a6, a7, b3, b4, b5, b6, b7, a8, a9, b8, b9, a10, a11, b10, b11, a12, b12, q⟩
      exact ⟨a1, b1, a2, b2, a3, a4, a5, a6, a7, b3, b4, b5, b6, b7, a8, a9, b8, b9, a10, a11, b10, b11, a12, b12, h _ _ q⟩
end

end My
end

section
set_option Elab.async false
set_option linter.all false
set_option maxRecDepth 100000
set_option maxHeartbeats 4000000
namespace My
open PySem L2
inductive ValQ (H : Hp) (gs : List Gt) (st : Option (List Int)) (co : List Int) (kl : Addr) (H' : Hp) : Prop
  | mk (k : List (Option Bool)) (g : Same H H') (hk : H' kl = some (.lst (k.map vO))) (lk : k.length = gs.length) (d : Der gs st co (knL k)) (c : Closed gs st co (knL k)) : ValQ H gs st co kl H'
theorem flat_vO (l : List (Option Bool)) : (l.map vO).all flatV = true := by
  rw [List.all_eq_true]
  intro x hx
  obtain ⟨o, _, rfl⟩ := List.mem_map.mp hx
  cases o <;> rfl
theorem eqV_vO (a b : Option Bool) : eqV (vO a) (vO b) = decide (a = b) := by
  rcases a with _ | _ | _ <;> rcases b with _ | _ | _ <;> rfl
theorem in_none (k : List (Option Bool)) : inV V.non (k.map vO) = decide (none ∈ k) := by
  unfold inV
  rw [List.any_map]
  by_cases c : none ∈ k
  · rw [decide_eq_true c, List.any_eq_true]
    exact ⟨none, c, rfl⟩
  · rw [decide_eq_false c, List.any_eq_false]
    intro o ho z
    have z : eqV (vO o) (vO none) = true := z
    rw [eqV_vO] at z
    exact c ((of_decide_eq_true z) ▸ ho)
theorem first_none' : ∀ (k : List (Option Bool)), none ∈ k → ∃ j : Nat, k[j]? = some none ∧ ∀ (m : Nat) o, m < j → k[m]? = some o → ¬ o = none
  | none :: k, _ => ⟨0, rfl, fun m o z => absurd z (Nat.not_lt_zero _)⟩
  | some b :: k, h => by
    obtain ⟨j, e, n⟩ := first_none' k (by simpa using h)
    refine ⟨j + 1, e, fun m o hm ho => ?_⟩
    cases m with
    | zero => cases ho; exact fun z => by cases z
    | succ m => exact n m o (Nat.lt_of_succ_lt_succ hm) ho
theorem tell_none {t : Bool} {k : Kn} {gs : List Nat} (h : tell t k gs = none) : ∃ g ∈ gs, k g = none := by
  apply Classical.byContradiction
  intro c
  unfold tell at h
  by_cases h1 : ∃ g ∈ gs, k g = some t
  · rw [if_pos h1] at h; cases h
  · rw [if_neg h1, if_pos] at h
    · cases h
    · intro g hg
      cases e : k g with
      | none => exact absurd ⟨g, hg, e⟩ c
      | some b =>
        have : ¬ b = t := fun z => h1 ⟨g, hg, by rw [e, z]⟩
        cases b <;> cases t <;> first | rfl | exact absurd rfl this
theorem closed_next {gs : List Gt} {st : Option (List Int)} {co : List Int} {k : Kn} (c : Closed gs st co k) {g : Nat} {G : Gt} (hG : gs[g]? = some G) (hn : k g = none) : ∃ x ∈ G.nums, k x = none := by
  have h := c g G hG hn
  cases G with
  | start => cases h
  | mem n => cases h
  | given n => cases h
  | nt x =>
    refine ⟨x, List.mem_singleton.mpr rfl, ?_⟩
    have h : (k x).map not = none := h
    cases e : k x with
    | none => rfl
    | some b => rw [e] at h; cases h
  | all l => exact tell_none h
  | som l => exact tell_none h
theorem cut_drop (xs : List V) (i : Nat) (h : i ≤ xs.length) : cutV xs (some (i : Int)) none = xs.drop i := by
  unfold cutV
  rw [HT.sIx_nat, HT.sIx_none, Nat.min_eq_left h, List.take_of_length_le (by rw [List.length_drop]; exact Nat.le_refl _)]
theorem isNm_of {G : Gt} {x : Nat} (h : x ∈ G.nums) : isNm G = true := by cases G <;> first | rfl | cases h
/-- a way from gate to gate, each waiting for the next -/
structure Way (gs : List Gt) (k : Kn) (way : List Nat) (g : Nat) : Prop where
  nd : way.Nodup
  bd : ∀ x ∈ way ++ [g], x < gs.length ∧ k x = none
  nx : ∀ (j a b : Nat), (way ++ [g])[j]? = some a → (way ++ [g])[j + 1]? = some b → b ∈ numsAt gs a
theorem Way.len {gs : List Gt} {k : Kn} {way : List Nat} {g : Nat} (h : Way gs k way g) : way.length ≤ gs.length := nd_len _ _ h.nd fun x hx => (h.bd x (List.mem_append_left _ hx)).1
theorem Way.one {gs : List Gt} {k : Kn} {g : Nat} (h : g < gs.length) (hk : k g = none) : Way gs k [] g :=
  ⟨List.nodup_nil, fun x hx => by cases List.mem_singleton.mp hx; exact ⟨h, hk⟩, fun j a b e1 e2 => by cases e2⟩
theorem Way.step {gs : List Gt} {k : Kn} {way : List Nat} {g x : Nat} (h : Way gs k way g) (hn : ¬ g ∈ way) (hx : x ∈ numsAt gs g) (hb : x < gs.length) (hk : k x = none) : Way gs k (way ++ [g]) x := by
  refine ⟨List.nodup_append.mpr ⟨h.nd, by simp, fun a ha b hb' e => ?_⟩, fun y hy => ?_, fun j a b e1 e2 => ?_⟩
  · cases List.mem_singleton.mp hb'; subst e; exact hn ha
  · rcases List.mem_append.mp hy with z | z
    · exact h.bd y z
    · cases List.mem_singleton.mp z; exact ⟨hb, hk⟩
  · by_cases c : j + 1 < (way ++ [g]).length
    · rw [List.getElem?_append_left (by omega)] at e1
      rw [List.getElem?_append_left c] at e2
      exact h.nx j a b e1 e2
    · have jl : j + 1 = (way ++ [g]).length := by
        have := (List.getElem?_eq_some_iff.mp e2).1
        rw [List.length_append (as := way ++ [g]), List.length_singleton] at this
        omega
      rw [jl, List.getElem?_concat_length] at e2
      cases e2
      rw [List.length_append, List.length_singleton] at jl
      rw [List.getElem?_append_left (by rw [List.length_append, List.length_singleton]; omega), show j = way.length by omega, List.getElem?_concat_length] at e1
      cases e1
      exact hx
structure Rng (gs : List Gt) (k : Kn) (r : List Nat) : Prop where
  ne : 0 < r.length
  nd : r.Nodup
  bd : ∀ x ∈ r, x < gs.length ∧ k x = none
  cy : ∀ (j b : Nat), r[j]? = some b → ∃ a, r[(if j = 0 then r.length else j) - 1]? = some a ∧ b ∈ numsAt gs a
theorem Way.ring {gs : List Gt} {k : Kn} {way : List Nat} {g i : Nat} (h : Way gs k way g) (hi : way[i]? = some g) : Rng gs k (way.drop i) := by
  have il := (List.getElem?_eq_some_iff.mp hi).1
  refine ⟨by rw [List.length_drop]; omega, h.nd.sublist (List.drop_sublist _ _), fun x hx => h.bd x (List.mem_append_left _ (List.mem_of_mem_drop hx)), fun j b hb => ?_⟩
  rw [List.getElem?_drop] at hb
  by_cases c : j = 0
  · subst c
    rw [Nat.add_zero, hi] at hb
    cases hb
    rw [if_pos rfl, List.length_drop, List.getElem?_drop, show i + (way.length - i - 1) = way.length - 1 by omega]
    obtain ⟨a, ea⟩ : ∃ a, way[way.length - 1]? = some a := ⟨_, List.getElem?_eq_getElem (by omega)⟩
    refine ⟨a, ea, h.nx (way.length - 1) a g (by rw [List.getElem?_append_left (by omega)]; exact ea) ?_⟩
    rw [show way.length - 1 + 1 = way.length by omega, List.getElem?_concat_length]
  · rw [if_neg c, List.getElem?_drop]
    have jl := (List.getElem?_eq_some_iff.mp hb).1
    obtain ⟨a, ea⟩ : ∃ a, way[i + (j - 1)]? = some a := ⟨_, List.getElem?_eq_getElem (by omega)⟩
    refine ⟨a, ea, h.nx (i + (j - 1)) a b (by rw [List.getElem?_append_left (by omega)]; exact ea) ?_⟩
    rw [show i + (j - 1) + 1 = i + j by omega, List.getElem?_append_left (by omega)]
    exact hb
inductive RingQ (H : Hp) (gs : List Gt) (st : Option (List Int)) (co : List Int) (v : V) (H' : Hp) : Prop
  | mk (k : List (Option Bool)) (g : Same H H') (lk : k.length = gs.length) (d : Der gs st co (knL k)) (c : Closed gs st co (knL k)) (h : (¬ none ∈ k ∧ v = .non) ∨ (none ∈ k ∧ ∃ (a : Addr) (r : List Nat), v = .ref a ∧ H' a = some (.lst (r.map fun (n : Nat) => V.int n)) ∧ Rng gs (knL k) r)) : RingQ H gs st co v H'
inductive C_spRing (K : PySem.W.Frag) (vs : List V) (H : Hp) (Q : VK) : Prop
  | mk (nt cl : Addr) (sv : V) (gs : List Gt) (st : Option (List Int)) (co : List Int) (c0 : vs = [.ref nt, sv, .ref cl]) (c1 : NetAt K H nt gs) (c2 : InAt K H sv cl st co) (c3 : (∀ G ∈ gs, G.nums.length ≤ 900)) (c4 : ∀ (v : V) (H' : Hp), RingQ H gs st co v H' → Q v H') : C_spRing K vs H Q
def spRing (K : PySem.W.Frag) : Sp := fun vs H Q _ => C_spRing K vs H Q
/-- where in the way a gate is -/
structure Plc (kvs : List (Key × V)) (way : List Nat) : Prop where
  at' : ∀ (j w : Nat), way[j]? = some w → valV kvs (Sum.inl (w : Int)) = some (.int (j : Nat))
  no : ∀ w : Nat, ¬ w ∈ way → valV kvs (Sum.inl (w : Int)) = none
  len : kvs.length ≤ way.length
theorem Plc.put {kvs : List (Key × V)} {way : List Nat} {g : Nat} (h : Plc kvs way) (hn : ¬ g ∈ way) : Plc (putK kvs (Sum.inl (g : Int)) (.int (way.length : Nat))) (way ++ [g]) := by
  refine ⟨fun j w e => ?_, fun w hw => ?_, Nat.le_trans (length_putK _ _ _) (by rw [List.length_append]; exact Nat.succ_le_succ h.len)⟩
  · rw [valV_put]
    by_cases c : j < way.length
    · rw [List.getElem?_append_left c] at e
      rw [if_neg (fun z => hn (by have z : w = g := Int.ofNat.inj (Sum.inl.inj z); exact z ▸ List.mem_of_getElem? e))]
      exact h.at' j w e
    · have jl : j = way.length := by
        have := (List.getElem?_eq_some_iff.mp e).1
        rw [List.length_append, List.length_singleton] at this
        omega
      subst jl
      rw [List.getElem?_concat_length] at e
      cases e
      rw [if_pos rfl]
  · rw [valV_put, if_neg (fun z => hw (by have z : w = g := Int.ofNat.inj (Sum.inl.inj z); rw [z]; simp))]
    exact h.no w (fun z => hw (List.mem_append_left _ z))
section
variable {P : Program} {w : World} {K : PySem.W.Frag} {mg : Str → Option Value} {base : Heap} {C aN : Addr}
set_option maxHeartbeats 16000000 in
theorem ok_ring (F : FunM K mg "ring" ["net", "state", "coming"] s_ring) (T : TxtG K mg C aN) (C_gates_settled : Callee P w K mg base 4 "gates_settled" ["net", "state", "coming"] (spGst K C)) : Callee P w K mg base 5 "ring" ["net", "state", "coming"] (spRing K) := by
  refine F.ok sc_ring (fun vs H Q E h => ?_) (fun f cdv A outer s H vs Q E hr h => ?_)
  · obtain ⟨nt, cl, sv, gs, st, co, rfl, _⟩ := h; rfl
  obtain ⟨nt, cl, sv, gs, st, co, rfl, hn, hi, l9, q⟩ := h
  refine ⟨_, (pss_cons (ps_set (i := 3) sc_ring.nd rfl (Or.inr rfl) (pe_fld (pe_callC C_gates_settled hr rfl pass0 (pa_cons (pv 0) (pa_cons (pv 1) (pa_cons (pv 2) pa_nil)))) rfl))
    (pss_cons (ps_if (pt_cmpR op_notIn_seq pe_non (pv 3) (by rfl))
      (pss_one (ps_ret pe_non))
      pss_nil)
    (pss_cons (ps_set (i := 4) sc_ring.nd rfl (Or.inl rfl) (pe_bm PySem.F.plainAttrs_list PySem.F.slot_list_index PySem.F.type_list_index mt_index (pv 3) (pa_cons pe_non pa_nil)))
    (pss_cons (ps_set (i := 5) sc_ring.nd rfl (Or.inl rfl) (pe_lst pa_nil))
    (pss_cons (ps_set (i := 6) sc_ring.nd rfl (Or.inl rfl) pe_dnewK)
    (pss_cons (ps_while PassesOwn.never (pt_cmp (pc_dnotin (hu_of hr) (pv 4) (pv 6)))
      (pss_cons (ps_dput (hu_of hr) (pv 6) (pv 4) (pe_callB call_lenK rfl T.n_len PySem.boot_len (pa_cons (pv 5) pa_nil)) rfl)
    (pss_cons (ps_expr (pe_bm PySem.F.plainAttrs_list PySem.F.slot_list_append PySem.F.type_list_append mt_append (pv 5) (pa_cons (pv 4) pa_nil)))
    (pss_one (ps_set (i := 4) sc_ring.nd rfl (Or.inl rfl) (pe_ix ix_list (pe_comp (g := (gName 0)) (tc := (tTest (tOp rIsN (tOp (rIxL K) (tVar 1) (tVar 0)) (tC .non)))) (te := (tVar 0)) ["number"] [("known", 3)] rfl (compOk (defScope s_ring) ["net", "state", "coming", "known", "gate", "way", "places"] (by decide +kernel)) (pi_tup (pe_ix ix_tup (pe_ix ix_list (pe_ix ix_tup (pv 0) pe_int (fun _ _ => rfl)) (pv 4) (fun _ _ => rfl)) pe_int (fun _ _ => rfl))) (fun s2 H2 fp cl C => pg_name (i := 0) (show List.Nodup [("number" : Str), ("known" : Str)] from by decide +kernel) rfl (Or.inl rfl)) (gkeep_name (by decide)) (fun s2 H2 fp cl C => pif_one (pt_cmpR op_isN (pe_ix ix_list (pv 1) (pv 0) (fun _ _ => rfl)) pe_non (nomark _))) (fun s2 H2 fp cl C => (pv 0))) pe_int (fun _ _ => rfl)))))))
    (pss_one (ps_ret (pe_slice sl_list (pv 5) (po_some (pe_dget (hu_of hr) (pv 6) (pv 4) (fun _ _ => rfl))) po_none))))))))), ?_⟩
  refine ⟨_, rfl, _, rfl, _, rfl, nt, cl, sv, gs, st, co, rfl, hn, hi, fun o H1 G => ?_⟩
  obtain ⟨gl', kl, ol, nl, ul, k, ord, u, g1, S, lk, m, hm, W⟩ := G
  obtain ⟨dx, ho, hk, _⟩ := S
  have der := W.der
  have clo := W.val hm
  obtain ⟨gl, rest, xs, hnt, G0, hgl, sm⟩ := hn
  have l60 := sm.len
  obtain ⟨gvs, hgv, lgv, ggt⟩ := id G0
  refine ⟨o, C, dx, _, _, rfl, ho, T.cl, T.nK, rfl, ?_⟩
  clear W hm ho
  refine ⟨_, rfl, kl, _, rfl, .inl (SqL.of hk), rfl, flat_vO k, _, rfl, ?_⟩
  rw [if_pos rfl, in_none]
  by_cases c0 : none ∈ k
  · rw [decide_eq_true c0]
    refine iteF ?_
    obtain ⟨j0, e0, n0⟩ := first_none' k c0
    refine ⟨_, rfl, .inl ⟨rfl, _, SqL.of hk⟩, kl, _, _, j0, V.non, rfl, rfl, hk, rfl, flat_vO k, by rw [List.getElem?_map, e0]; rfl, rfl, fun m' z' hm' hz' => ?_, ?_⟩
    · rw [List.getElem?_map] at hz'
      cases eo : k[m']? with
      | none => rw [eo] at hz'; cases hz'
      | some o' =>
        rw [eo] at hz'
        cases hz'
        show eqV (vO o') (vO none) = false
        rw [eqV_vO]
        exact decide_eq_false (n0 m' o' hm' eo)
    have j60 : j0 < gs.length := by rw [← lk]; exact (List.getElem?_eq_some_iff.mp e0).1
    have kn0 : knL k j0 = none := by unfold knL; rw [e0]; rfl
    refine ⟨(by show 0 ≤ sizeLine; decide), fun wl hwl => ?_⟩
    have k2 := same_new hwl (.lst [])
    have ew := upd_same (H := H1) (a := wl) (o := .lst [])
    generalize (upd H1 wl (.lst [])) = H2 at k2 ew
    intro pd hpd
    have k3 := same_new hpd (.dK [])
    have ed := upd_same (H := H2) (a := pd) (o := .dK [])
    have ew3 := k3 _ _ ew
    have npw : wl ≠ pd := ne_of_none ew hpd
    have hpd1 : H1 pd = none := k2.free hpd
    have k13 := k2.trans k3
    generalize (upd H2 pd (.dK [])) = H3 at k3 ed ew3 k13
    refine while_by (fun σ H' => Ex3 fun (g : Nat) (way : List Nat) (kvs : List (Key × V)) => An6 (σ = [some (.ref nt), some sv, some (.ref cl), some (.ref kl), some (.int (g : Nat)), some (.ref wl), some (.ref pd)]) (Same H1 H') (H' wl = some (.lst (way.map fun (n : Nat) => V.int n))) (H' pd = some (.dK kvs)) (Plc kvs way) (Way gs (knL k) way g))
      (fun (_ : St) (H' : Hp) => match H' wl with | some (HO.lst us) => gs.length + 1 - us.length | _ => 0) ⟨j0, [], [], rfl, k13, ew3, ed, ⟨fun j w z => (by cases z), fun w _ => rfl, Nat.le_refl _⟩, Way.one j60 kn0⟩ ?_ ?_
    · rintro σ H4 ⟨g, way, kvs, rfl, g4, ew4, ed4, pc, wy⟩
      have wl60 := wy.len
      refine ⟨_, rfl, _, rfl, pd, _, rfl, DGet.k (k := Sum.inl (g : Int)) ed4, ?_⟩
      by_cases c : g ∈ way
      · obtain ⟨i, hi'⟩ := List.getElem?_of_mem c
        have ev := pc.at' i g hi'
        rw [ev]
        refine ⟨_, rfl, iteF ?_⟩
        have il := (List.getElem?_eq_some_iff.mp hi').1
        have dg := DGet.k (k := Sum.inl (g : Int)) ed4
        rw [ev] at dg
        refine ⟨_, rfl, _, rfl, _, rfl, pd, _, rfl, dg, _, rfl, wl, _, rfl, SqL.of ew4, fun p hp => ?_⟩
        rw [cut_drop _ _ (by rw [List.length_map]; omega), ← List.map_drop]
        exact q _ _ ⟨k, g1.trans (g4.trans (same_new hp _)), lk, der, clo, .inr ⟨c0, p, way.drop i, rfl, upd_same, wy.ring hi'⟩⟩
      · rw [pc.no g c]
        refine ⟨_, rfl, iteT ?_⟩
        obtain ⟨gb, gk⟩ := wy.bd g (List.mem_append_right _ (List.mem_singleton.mpr rfl))
        obtain ⟨G, hG⟩ : ∃ G, gs[g]? = some G := ⟨_, List.getElem?_eq_getElem gb⟩
        obtain ⟨x0, hx0, kx0⟩ := closed_next clo hG gk
        have hna : numsAt gs g = G.nums := by unfold numsAt; rw [hG]; rfl
        have nm := isNm_of hx0
        refine ⟨_, rfl, wl, _, rfl, .inl (SqL.of ew4), _, rfl, _, rfl, pd, _, rfl, DPut.k (k := Sum.inl (g : Int)) ed4 (small1000 (by have := pc.len; omega)), ?_⟩
        rw [List.length_map]
        have ed5 := upd_same (H := H4) (a := pd) (o := .dK (putK kvs (Sum.inl (g : Int)) (.int (way.length : Nat))))
        have ew5 : (upd H4 pd (.dK (putK kvs (Sum.inl (g : Int)) (.int (way.length : Nat))))) wl = some (.lst (way.map fun (n : Nat) => V.int n)) := by rw [upd_ne npw]; exact ew4
        have g5 : Same H1 (upd H4 pd (.dK (putK kvs (Sum.inl (g : Int)) (.int (way.length : Nat))))) := g4.young hpd1 _
        generalize (upd H4 pd (.dK (putK kvs (Sum.inl (g : Int)) (.int (way.length : Nat))))) = H5 at ed5 ew5 g5
        refine ⟨_, rfl, .inl ⟨rfl, _, SqL.of ew5⟩, _, rfl, wl, _, _, rfl, rfl, ew5, by rw [List.length_map]; exact small1000 (by omega), ?_⟩
        have ew6 : (upd H5 wl (.lst (way.map (fun (n : Nat) => V.int n) ++ [.int (g : Nat)]))) wl = some (.lst ((way ++ [g]).map fun (n : Nat) => V.int n)) := by rw [upd_same, List.map_append]; rfl
        have ed6 : (upd H5 wl (.lst (way.map (fun (n : Nat) => V.int n) ++ [.int (g : Nat)]))) pd = _ := (upd_ne npw.symm).trans ed5
        have g6 : Same H1 (upd H5 wl (.lst (way.map (fun (n : Nat) => V.int n) ++ [.int (g : Nat)]))) := g5.young hwl _
        generalize (upd H5 wl (.lst (way.map (fun (n : Nat) => V.int n) ++ [.int (g : Nat)]))) = H6 at ew6 ed6 g6
        have g06 := g1.trans g6
        obtain ⟨gv, egv⟩ : ∃ gv, gvs[g]? = some gv := ⟨_, List.getElem?_eq_getElem (by omega)⟩
        obtain ⟨a, b, rfl, h1, h2⟩ := ggt g gv G egv hG
        rw [nm_args nm] at h2
        have h26 := sameT g06 h2
        have hk6 := g6 _ _ hk
        have l9G := l9 G (List.mem_of_getElem? hG)
        refine ⟨_, rfl, nt, _, _, _, rfl, rfl, sameT g06 hnt, atI_nat (j := 0) rfl, _, rfl, gl, _, _, _, rfl, rfl, g06.seq hgv, atI_nat egv, a, _, _, _, rfl, rfl, sameT g06 h1, atI_nat (j := 1) rfl, b, rfl, ⟨_, h26⟩, comp_tup (K := K) (a := b) (xs := (G.nums.map Int.ofNat).map V.int) (fun i ys H' => H' = H6 ∧ ys = ((G.nums.take i).filter fun c => decide (knL k c = none)).map fun (n : Nat) => V.int n) ⟨rfl, rfl⟩ (by rw [List.length_map, List.length_map]; exact small (by omega)) (fun i ys H' h => by rw [h.1]; exact h26) ?_ ?_⟩
        · rintro j z ys H' M hj ⟨rfl, rfl⟩ hN hyl
          rw [List.map_map, List.getElem?_map] at hj
          cases ej : G.nums[j]? with
          | none => rw [ej] at hj; cases hj
          | some x =>
            rw [ej] at hj
            cases hj
            have xl := sm.wf g G hG x (List.mem_of_getElem? ej)
            have ek : (k.map vO)[x]? = some (vO (knL k x)) := by unfold knL; rw [List.getElem?_map, List.getElem?_eq_getElem (by omega)]; rfl
            have et : (G.nums.take (j + 1)).filter (fun c => decide (knL k c = none)) = (G.nums.take j).filter (fun c => decide (knL k c = none)) ++ [x].filter (fun c => decide (knL k c = none)) := by
              rw [List.take_add_one, ej, List.filter_append]; rfl
            refine ⟨_, rfl, _, rfl, kl, _, _, _, rfl, rfl, SqL.of hk6, atI_nat ek, rfl, _, rfl, ?_⟩
            cases ex : knL k x with
            | none => exact iteT ⟨_, rfl, hN _ _ (by rw [List.length_append, List.length_singleton]; exact Nat.succ_le_succ hyl) ⟨rfl, by rw [et, List.filter_cons_of_pos (by rw [ex]; rfl), List.map_append]; rfl⟩⟩
            | some v => exact iteF (hN _ _ (Nat.le_succ_of_le hyl) ⟨rfl, by rw [et, List.filter_cons_of_neg (by rw [ex]; simp)]; simp⟩)
        · rintro ys H' hyl ⟨rfl, rfl⟩ D hD
          rw [List.take_of_length_le (by rw [List.length_map, List.length_map]; exact Nat.le_refl _)]
          obtain ⟨x, r, ef⟩ : ∃ x r, G.nums.filter (fun c => decide (knL k c = none)) = x :: r := by
            have hm : x0 ∈ G.nums.filter (fun c => decide (knL k c = none)) := List.mem_filter.mpr ⟨hx0, decide_eq_true kx0⟩
            cases e : G.nums.filter (fun c => decide (knL k c = none)) with
            | nil => rw [e] at hm; cases hm
            | cons x r => exact ⟨x, r, rfl⟩
          have hx : x ∈ G.nums.filter (fun c => decide (knL k c = none)) := by rw [ef]; exact List.mem_cons_self
          obtain ⟨hx1, hx2⟩ := List.mem_filter.mp hx
          have hx2 := of_decide_eq_true hx2
          rw [ef]
          have k7 := same_new hD (.lst ((x :: r).map fun (n : Nat) => V.int n))
          refine ⟨D, _, _, _, rfl, rfl, SqL.of upd_same, atI_nat (j := 0) rfl, ⟨x, way ++ [g], _, rfl, g6.trans k7, k7 _ _ ew6, k7 _ _ ed6, pc.put c, wy.step c (by rw [hna]; exact hx1) (sm.wf g G hG x hx1) hx2⟩, ?_⟩
          show (match (upd H' D (.lst ((x :: r).map fun (n : Nat) => V.int n))) wl with | some (HO.lst us) => gs.length + 1 - us.length | _ => 0) < (match H4 wl with | some (HO.lst us) => gs.length + 1 - us.length | _ => 0)
          rw [k7 _ _ ew6, ew4]
          dsimp only
          rw [List.length_map, List.length_map, List.length_append, List.length_singleton]
          exact Nat.sub_lt_sub_left (Nat.lt_succ_of_le wl60) (Nat.lt_succ_self _)
    · rintro σ H Q Q' h ⟨a1, b1, a2, b2, a3, a4, b3, b4, a5, b5, q⟩
      exact ⟨a1, b1, a2, b2, a3, a4, b3, b4, a5, b5, h _ _ q⟩
  · rw [decide_eq_false c0]
    exact iteT (q _ _ ⟨k, g1, lk, der, clo, .inl ⟨c0, rfl⟩⟩)
end

end My
end

section
set_option Elab.async false
set_option linter.all false
set_option maxRecDepth 100000
set_option maxHeartbeats 4000000
namespace My
open PySem L2
inductive C_spMixed  (vs : List V) (H : Hp) (Q : VK) : Prop
  | mk (c : Int) (c0 : vs = [.int c]) (c1 : ∀ m : Int, 0 ≤ m → Q (.int m) H) : C_spMixed  vs H Q
def spMixed : Sp := fun vs H Q _ => C_spMixed  vs H Q
inductive C_spAt (K : PySem.W.Frag) (vs : List V) (H : Hp) (Q : VK) : Prop
  | mk (a : Addr) (ns : List Int) (k : Int) (c0 : vs = [.ref a, .int k]) (c1 : SqL K H a (ns.map V.int)) (c2 : 0 ≤ k) (c3 : ∀ m : Int, 0 ≤ m → Q (.int m) H) : C_spAt K vs H Q
def spAt (K : PySem.W.Frag) : Sp := fun vs H Q _ => C_spAt K vs H Q
/-- which of the first i numbers have their bit in m -/
def bitL (m : Int) (i : Nat) : List Int := ((List.range i).filter fun r => decide (m / (1 * 2 ^ r) % 2 = 1)).map fun (r : Nat) => (r : Int)
theorem bitL_succ (m : Int) (i : Nat) : bitL m (i + 1) = bitL m i ++ (if m / (1 * 2 ^ i) % 2 = 1 then [(i : Int)] else []) := by
  unfold bitL
  rw [List.range_succ, List.filter_append, List.map_append]
  congr 1
  by_cases c : m / (1 * 2 ^ i) % 2 = 1
  · rw [if_pos c, List.filter_cons_of_pos (by simpa using c)]; rfl
  · rw [if_neg c, List.filter_cons_of_neg (by simpa using c)]; rfl
theorem bitL_len (m : Int) (i : Nat) : (bitL m i).length ≤ i := by
  unfold bitL
  rw [List.length_map]
  exact Nat.le_trans (List.length_filter_le _ _) (by rw [List.length_range]; exact Nat.le_refl _)
theorem pw13 : ∀ i : Nat, i < 13 → 0 < ((1 : Int) * 2 ^ i) ∧ ((1 : Int) * 2 ^ i) < 1073741824 := by decide +kernel
def stF (m : Int) : Option (List Int) := if m % 4 = 0 then none else some (bitL (m / 4) 5)
inductive C_spState (K : PySem.W.Frag) (vs : List V) (H : Hp) (Q : VK) : Prop
  | mk (m : Int) (c0 : vs = [.int m]) (c1 : ∀ v H', Same H H' → StG K H' (stF m) v → Q v H') : C_spState K vs H Q
def spState (K : PySem.W.Frag) : Sp := fun vs H Q _ => C_spState K vs H Q
section
variable {P : Program} {w : World} {K : PySem.W.Frag} {mg : Str → Option Value} {base : Heap} {C aN : Addr}
theorem ok_mixed (F : FunM K mg "_law_mixed" ["_law_cell"] s__law_mixed) : Callee P w K mg base 1 "_law_mixed" ["_law_cell"] spMixed := by
  refine F.ok sc__law_mixed (fun vs H Q E h => ?_) (fun f cdv A outer s H vs Q E hr h => ?_)
  · obtain ⟨c, rfl, _⟩ := h; rfl
  obtain ⟨c, rfl, q⟩ := h
  refine ⟨_, (pss_one (ps_ret (pe_op op_mod (pe_op op_mul (pe_op op_mul (pe_op op_add (pe_op op_mod (pv 0) pe_int) pe_int) pe_int) pe_int) pe_int))), ?_⟩
  refine ⟨_, rfl, _, _, rfl, rfl, (by show (0 : Int) < 2147483647; decide), _, _, rfl, rfl, _, _, rfl, rfl, .inr ⟨by decide, by decide⟩, _, _, rfl, rfl, .inr ⟨by decide, by decide⟩, _, _, rfl, rfl, (by show (0 : Int) < 2147483629; decide), ?_⟩
  exact q _ (Int.emod_nonneg _ (by decide))
theorem ok_at (F : FunM K mg "_law_at" ["_law_script", "_law_k"] s__law_at) (T : Txt mg) (C__law_mixed : Callee P w K mg base 1 "_law_mixed" ["_law_cell"] spMixed) : Callee P w K mg base 2 "_law_at" ["_law_script", "_law_k"] (spAt K) := by
  refine F.ok sc__law_at (fun vs H Q E h => ?_) (fun f cdv A outer s H vs Q E hr h => ?_)
  · obtain ⟨a, ns, k, rfl, _⟩ := h; rfl
  obtain ⟨a, ns, k, rfl, hS, h0, q⟩ := h
  refine ⟨_, (pss_cons (ps_if (pt_cmpR op_lt (pv 1) (pe_callB call_lenK rfl T.n_len PySem.boot_len (pa_cons (pv 0) pa_nil)) (nomark _))
      (pss_one (ps_ret (pe_callC C__law_mixed hr rfl pass0 (pa_cons (pe_ix ix_list (pv 0) (pv 1) (fun _ _ => rfl)) pa_nil))))
      pss_nil)
    (pss_one (ps_ret (pe_callC C__law_mixed hr rfl pass0 (pa_cons pe_int pa_nil))))), ?_⟩
  refine ⟨_, rfl, _, rfl, a, _, rfl, .inl hS, _, _, rfl, rfl, _, rfl, ?_⟩
  refine ite2 (fun c => ?_) (fun c => ?_)
  · have c' : k < (((ns.map V.int).length : Nat) : Int) := of_decide_eq_true c
    rw [List.length_map] at c'
    have hk : k.toNat < ns.length := by omega
    have e : atI (ns.map V.int) ((k.toNat : Nat) : Int) = some (.int ns[k.toNat]) := atI_nat (by rw [List.getElem?_map, List.getElem?_eq_getElem hk] <;> rfl)
    rw [show ((k.toNat : Nat) : Int) = k by omega] at e
    exact ⟨_, rfl, _, rfl, a, _, _, _, rfl, rfl, hS, e, _, rfl, fun m hm => q m hm⟩
  · exact ⟨_, rfl, fun m hm => q m hm⟩
set_option maxHeartbeats 16000000 in
theorem ok_state (F : FunM K mg "_law_state" ["_law_seed"] s__law_state) (T : Txt mg) : Callee P w K mg base 1 "_law_state" ["_law_seed"] (spState K) := by
  refine F.ok sc__law_state (fun vs H Q E h => ?_) (fun f cdv A outer s H vs Q E hr h => ?_)
  · obtain ⟨m, rfl, _⟩ := h; rfl
  obtain ⟨m, rfl, q⟩ := h
  refine ⟨_, (pss_cons (ps_if (pt_cmpR op_eq (pe_op op_mod (pv 0) pe_int) pe_int (nomark _))
      (pss_one (ps_ret pe_non))
      pss_nil)
    (pss_one (ps_ret (pe_comp (g := (gName 0)) (tc := (tTest (tOp rEq (tOp (rI (fun _ j => 0 < j) fun i j => .int (i % j)) (tOp (rI CDiv fun i j => .int (i / j)) (tOp (rI CDiv fun i j => .int (i / j)) (tVar 1) (tC (.int 4))) (tOp (rI CPow fun i j => .int (i * 2 ^ j.toNat)) (tC (.int 1)) (tVar 0))) (tC (.int 2))) (tC (.int 1))))) (te := (tVar 0)) ["_law_rest"] [("_law_seed", 0)] rfl (compOk (defScope s__law_state) ["_law_seed"] (by decide +kernel)) (pi_range1 rfl T.n_range (pa_cons pe_int pa_nil)) (fun s2 H2 fp cl C => pg_name (i := 0) (show List.Nodup [("_law_rest" : Str), ("_law_seed" : Str)] from by decide +kernel) rfl (Or.inl rfl)) (gkeep_name (by decide)) (fun s2 H2 fp cl C => pif_one (pt_cmpR op_eq (pe_op op_mod (pe_op op_fdiv (pe_op op_fdiv (pv 1) pe_int) (pe_op op_shl pe_int (pv 0))) pe_int) pe_int (nomark _))) (fun s2 H2 fp cl C => (pv 0)))))), ?_⟩
  refine ⟨_, rfl, _, _, rfl, rfl, (by show (0 : Int) < 4; decide), rfl, _, rfl, ite2 (fun c => ?_) fun c => ?_⟩
  · have c : m % 4 = 0 := V.int.inj (of_decide_eq_true c)
    exact q _ _ (Same.refl _) (by unfold stF; rw [if_pos c]; rfl)
  have c : ¬ m % 4 = 0 := fun z => c (decide_eq_true (congrArg V.int z))
  have q : ∀ v H', Same H H' → StG K H' (some (bitL (m / 4) 5)) v → Q v H' := fun v H' g h => q v H' g (by unfold stF; rw [if_neg c]; exact h)
  refine ⟨_, rfl, by decide, by decide, ?_⟩
  refine comp_range (n := 5) (fun i ys H' => H' = H ∧ ys = (bitL (m / 4) i).map V.int) ⟨rfl, rfl⟩ (small (by decide)) ?_ ?_
  · rintro i ys H' N hi ⟨rfl, rfl⟩ hN hyl
    have pw := pw13 i (Nat.lt_trans hi (by decide))
    have e0 : (0 + (i : Int)).toNat = i := by omega
    refine ⟨_, rfl, _, _, rfl, rfl, ⟨by decide, by decide⟩, _, rfl, _, _, rfl, rfl, ⟨by omega, by omega, by decide⟩, _, _, rfl, rfl, (by rw [e0]; exact pw), _, _, rfl, rfl, (by show (0 : Int) < 2; decide), rfl, _, rfl, ?_⟩
    rw [e0]
    refine ite2 (fun c => ?_) (fun c => ?_)
    · have c : m / 4 / (1 * 2 ^ i) % 2 = 1 := V.int.inj (of_decide_eq_true c)
      refine ⟨_, rfl, hN _ _ (by rw [List.length_append, List.length_singleton]; exact Nat.succ_le_succ hyl) ⟨rfl, ?_⟩⟩
      rw [bitL_succ, if_pos c, List.map_append, Int.zero_add]; rfl
    · have c : ¬ m / 4 / (1 * 2 ^ i) % 2 = 1 := fun z => c (decide_eq_true (congrArg V.int z))
      exact hN _ _ (Nat.le_succ_of_le hyl) ⟨rfl, by rw [bitL_succ, if_neg c, List.append_nil]⟩
  · rintro ys H' hyl ⟨rfl, rfl⟩ D hD
    exact q _ _ (same_new hD _) ⟨D, rfl, SqL.of upd_same⟩
end

end My
end

section
set_option Elab.async false
set_option linter.all false
set_option maxRecDepth 100000
set_option maxHeartbeats 4000000
namespace My
open PySem L2
structure OkN (n : Nat) (G : Gt) : Prop where
  nm : ∀ c ∈ G.nums, c < n
  ln : G.nums.length ≤ 3
inductive NetI (K : PySem.W.Frag) (H : Hp) (gl : Addr) (n i : Nat) (H' : Hp) : Prop
  | mk (gs : List Gt) (vs : List V) (g : Same H H') (hv : H' gl = some (.lst vs)) (l1 : vs.length = i) (l2 : gs.length = i) (p : ∀ (j : Nat) v G, vs[j]? = some v → gs[j]? = some G → GtAt K H' G v) (w : ∀ G ∈ gs, OkN n G) : NetI K H gl n i H'
theorem GtAt.same {K : PySem.W.Frag} {H H' : Hp} {G : Gt} {v : V} (k : Same H H') (h : GtAt K H G v) : GtAt K H' G v := by
  obtain ⟨a, b, e, h1, h2⟩ := h
  exact ⟨a, b, e, sameT k h1, sameT k h2⟩
theorem sum_le3 (f : Nat → Nat) (h : ∀ x, f x ≤ 3) : ∀ l : List Nat, (l.map f).sum ≤ 3 * l.length
  | [] => Nat.le_refl _
  | x :: l => by
    have := sum_le3 f h l
    have := h x
    rw [List.map_cons, List.sum_cons, List.length_cons]
    omega
theorem net_sm {gs : List Gt} {n : Nat} (hn : gs.length = n) (h60 : n ≤ 60) (w : ∀ G ∈ gs, OkN n G) : SmG gs := by
  refine ⟨fun g G hG c hc => by rw [hn]; exact (w G (List.mem_of_getElem? hG)).nm c hc, by omega, fun i hi => ?_⟩
  have := sum_le3 (fun g => (numsAt gs g).length) (fun x => by
    unfold numsAt
    cases e : gs[x]? with
    | none => exact Nat.zero_le _
    | some G => exact (w G (List.mem_of_getElem? e)).ln) (List.range (i + 1))
  rw [List.length_range] at this
  omega
abbrev zs3 : List V := [.int 0, .int 0, .int 0]
abbrev zs5 : List V := [.int 0, .int 0, .int 0, .int 0, .int 0]
inductive NetQ (K : PySem.W.Frag) (H : Hp) (nt gl z1 t2 z3 : Addr) (gs : List Gt) (vs : List V) (H' : Hp) : Prop
  | mk (g : Same H H') (h : H' nt = some (.tup [.ref gl, .ref z1, .ref t2, .ref z3])) (hv : H' gl = some (.lst vs)) (l : vs.length = gs.length) (p : ∀ (j : Nat) v G, vs[j]? = some v → gs[j]? = some G → GtAt K H' G v) (sm : SmG gs) (w9 : ∀ G ∈ gs, G.nums.length ≤ 900) : NetQ K H nt gl z1 t2 z3 gs vs H'
inductive C_spNet (K : PySem.W.Frag) (vs : List V) (H : Hp) (Q : VK) : Prop
  | mk (a : Addr) (ns : List Int) (c0 : vs = [.ref a]) (c1 : SqL K H a (ns.map V.int)) (c2 : ∀ (nt gl z1 t2 z3 : Addr) (gs : List Gt) (vs : List V) (H' : Hp), NetQ K H nt gl z1 t2 z3 gs vs H' → Q (.ref nt) H') : C_spNet K vs H Q
def spNet (K : PySem.W.Frag) : Sp := fun vs H Q _ => C_spNet K vs H Q
theorem cut3 {a b c : V} {k : Int} (h0 : 0 ≤ k) (h4 : k < 4) : cutV [a, b, c] none (some k) = [a, b, c].take k.toNat := by
  obtain ⟨n, rfl⟩ := Int.eq_ofNat_of_zero_le h0
  match n, h4 with
  | 0, _ => rfl
  | 1, _ => rfl
  | 2, _ => rfl
  | 3, _ => rfl
  | n + 4, z => exact absurd z (by omega)
theorem max_min (l : Int) (h : 0 ≤ l) : ∃ n : Nat, (if (if (60 : Int) < l then 60 else l) > 1 then (if (60 : Int) < l then 60 else l) else 1) = (n : Int) ∧ 1 ≤ n ∧ n ≤ 60 := by
  refine ⟨(if (if (60 : Int) < l then 60 else l) > 1 then (if (60 : Int) < l then 60 else l) else 1).toNat, ?_, ?_, ?_⟩ <;> (repeat' split) <;> omega
section
variable {P : Program} {w : World} {K : PySem.W.Frag} {mg : Str → Option Value} {base : Heap} {C aN : Addr}
set_option maxHeartbeats 16000000 in
theorem ok_net (F : FunM K mg "_law_net" ["_law_script"] s__law_net) (T : Txt mg) (C__law_at : Callee P w K mg base 2 "_law_at" ["_law_script", "_law_k"] (spAt K)) : Callee P w K mg base 3 "_law_net" ["_law_script"] (spNet K) := by
  refine F.ok sc__law_net (fun vs H Q E h => ?_) (fun f cdv A outer s H vs Q E hr h => ?_)
  · obtain ⟨a, ns, rfl, _⟩ := h; rfl
  obtain ⟨sc, ns, rfl, hS, q⟩ := h
  refine ⟨_, (pss_cons (ps_set (i := 1) sc__law_net.nd rfl (Or.inl rfl) (pe_lst pa_nil))
    (pss_cons (ps_set (i := 2) sc__law_net.nd rfl (Or.inl rfl) (pe_callB (call_max2 rfl) rfl T.n_max (by decide +kernel) (pa_cons pe_int (pa_cons (pe_callB (call_min2 rfl) rfl T.n_min (by decide +kernel) (pa_cons (pe_callB call_lenK rfl T.n_len PySem.boot_len (pa_cons (pv 0) pa_nil)) (pa_cons pe_int pa_nil))) pa_nil))))
    (pss_cons (ps_for PassesOwn.never rfl (pi_range1 rfl T.n_range (pa_cons (pv 2) pa_nil)) (pg_name (i := 3) sc__law_net.nd rfl (Or.inl rfl))
      (pss_cons (ps_set (i := 4) sc__law_net.nd rfl (Or.inl rfl) (pe_callC C__law_at hr rfl pass0 (pa_cons (pv 0) (pa_cons (pv 3) pa_nil))))
    (pss_cons (ps_set (i := 5) sc__law_net.nd rfl (Or.inl rfl) (pe_op op_mod (pv 4) pe_int))
    (pss_cons (ps_set (i := 6) sc__law_net.nd rfl (Or.inl rfl) (pe_lst (pa_cons (pe_op op_mod (pe_op op_fdiv (pv 4) pe_int) (pv 2)) (pa_cons (pe_op op_mod (pe_op op_fdiv (pv 4) pe_int) (pv 2)) (pa_cons (pe_op op_mod (pe_op op_fdiv (pv 4) pe_int) (pv 2)) pa_nil)))))
    (pss_one (ps_if (pt_cmpR op_eq (pv 5) pe_int (nomark _))
      (pss_one (ps_expr (pe_bm PySem.F.plainAttrs_list PySem.F.slot_list_append PySem.F.type_list_append mt_append (pv 1) (pa_cons (pe_tup (pa_cons pe_str (pa_cons (pe_tup pa_nil) pa_nil))) pa_nil))))
      (pss_one (ps_if (pt_cmpR op_eq (pv 5) pe_int (nomark _))
      (pss_one (ps_expr (pe_bm PySem.F.plainAttrs_list PySem.F.slot_list_append PySem.F.type_list_append mt_append (pv 1) (pa_cons (pe_tup (pa_cons pe_str (pa_cons (pe_tup (pa_cons (pe_op op_mod (pe_op op_fdiv (pv 4) pe_int) pe_int) pa_nil)) pa_nil))) pa_nil))))
      (pss_one (ps_if (pt_cmpR op_eq (pv 5) pe_int (nomark _))
      (pss_one (ps_expr (pe_bm PySem.F.plainAttrs_list PySem.F.slot_list_append PySem.F.type_list_append mt_append (pv 1) (pa_cons (pe_tup (pa_cons pe_str (pa_cons (pe_tup (pa_cons (pe_op op_mod (pe_op op_fdiv (pv 4) pe_int) pe_int) pa_nil)) pa_nil))) pa_nil))))
      (pss_one (ps_if (pt_cmpR op_eq (pv 5) pe_int (nomark _))
      (pss_one (ps_expr (pe_bm PySem.F.plainAttrs_list PySem.F.slot_list_append PySem.F.type_list_append mt_append (pv 1) (pa_cons (pe_tup (pa_cons pe_str (pa_cons (pe_tup (pa_cons (pe_ix ix_list (pv 6) pe_int (fun _ _ => rfl)) pa_nil)) pa_nil))) pa_nil))))
      (pss_one (ps_expr (pe_bm PySem.F.plainAttrs_list PySem.F.slot_list_append PySem.F.type_list_append mt_append (pv 1) (pa_cons (pe_tup (pa_cons (pe_ix ix_list (pe_lst (pa_cons pe_str (pa_cons pe_str pa_nil))) (pe_op op_mod (pv 5) pe_int) (fun _ _ => rfl)) (pa_cons (pe_callTy call_tuple_of rfl T.n_tuple (by decide +kernel) (pa_cons (pe_slice sl_list (pv 6) po_none (po_some (pe_op op_mod (pe_op op_fdiv (pv 4) pe_int) pe_int))) pa_nil)) pa_nil))) pa_nil))))))))))))))))
    (pss_one (ps_ret (pe_tup (pa_cons (pv 1) (pa_cons (pe_op op_rep (pe_lst (pa_cons pe_int pa_nil)) pe_int) (pa_cons (pe_tup (pa_cons pe_int (pa_cons pe_int pa_nil))) (pa_cons (pe_op op_rep (pe_lst (pa_cons pe_int pa_nil)) pe_int) pa_nil)))))))))), ?_⟩
  refine ⟨(by show 0 ≤ sizeLine; decide), fun gl hgl => ?_⟩
  have g1 := same_new hgl (.lst [])
  have ev := upd_same (H := H) (a := gl) (o := .lst [])
  generalize (upd H gl (.lst [])) = H1 at g1 ev
  refine ⟨_, rfl, sc, _, rfl, .inl (g1.seq hS), _, _, rfl, _, _, rfl, ?_⟩
  obtain ⟨n, en, n1, n60⟩ := max_min (((ns.map V.int).length : Nat) : Int) (by omega)
  dsimp only
  rw [en]
  refine ⟨_, rfl, _, rfl, by omega, by omega, ?_⟩
  dsimp only
  rw [Int.toNat_natCast]
  refine for_range (n := n) (D := { nx := tRet (tTup (tCons (tVar 1) (tCons (tOp rRep (tLst (tCons (tC (V.int 0)) tNil)) (tC (V.int 3))) (tCons (tTup (tCons (tC (V.int 0)) (tCons (tC (V.int 0)) tNil))) (tCons (tOp rRep (tLst (tCons (tC (V.int 0)) tNil)) (tC (V.int 5))) tNil))))) { nx := fun x H' => Q V.non H', rt := Q }, rt := Q }) (fun i σ H' => Ex4 fun (x3 : Option V) (x4 : Option V) (x5 : Option V) (x6 : Option V) => An2 (σ = [some (.ref sc), some (.ref gl), some (.int (n : Nat)), x3, x4, x5, x6]) (NetI K H gl n i H')) ⟨none, none, none, none, rfl, [], [], g1, ev, rfl, rfl, fun j v G z => (by cases z), fun G z => (by cases z)⟩ ?_ ?_
  · rintro i σ H2 hi ⟨x3, x4, x5, x6, rfl, gs, vs, g2, hv2, l1, l2, pr, ok⟩
    refine ⟨_, rfl, _, rfl, sc, ns, _, rfl, g2.seq hS, by omega, fun sd hsd => ?_⟩
    refine ⟨_, rfl, _, _, rfl, rfl, (by show (0 : Int) < 10; decide), ?_⟩
    have np : (0 : Int) < (n : Int) := by omega
    refine ⟨_, rfl, _, _, rfl, rfl, ⟨by decide, by decide⟩, _, rfl, _, _, rfl, rfl, np, _, rfl, _, _, rfl, rfl, ⟨by decide, by decide⟩, _, rfl, _, _, rfl, rfl, np, _, rfl, _, _, rfl, rfl, ⟨by decide, by decide⟩, _, rfl, _, _, rfl, rfl, np, (by show 3 ≤ sizeLine; decide), fun pl hpl => ?_⟩
    have b1 := Int.emod_nonneg (sd / 10) (show (n : Int) ≠ 0 by omega)
    have b2 := Int.emod_nonneg (sd / 700) (show (n : Int) ≠ 0 by omega)
    have b3 := Int.emod_nonneg (sd / 49000) (show (n : Int) ≠ 0 by omega)
    have c1 := Int.emod_lt_of_pos (sd / 10) np
    have c2 := Int.emod_lt_of_pos (sd / 700) np
    have c3 := Int.emod_lt_of_pos (sd / 49000) np
    dsimp only
    generalize sd / 10 % (n : Int) = r1 at b1 c1 ⊢
    generalize sd / 700 % (n : Int) = r2 at b2 c2 ⊢
    generalize sd / 49000 % (n : Int) = r3 at b3 c3 ⊢
    have k3 := same_new hpl (.lst [.int r1, .int r2, .int r3])
    have ep := upd_same (H := H2) (a := pl) (o := .lst [.int r1, .int r2, .int r3])
    have g3 := g2.trans k3
    have hv3 := k3 _ _ hv2
    have pr3 : ∀ (j : Nat) v G, vs[j]? = some v → gs[j]? = some G → GtAt K (upd H2 pl (.lst [.int r1, .int r2, .int r3])) G v := fun j v G e1 e2 => (pr j v G e1 e2).same k3
    generalize (upd H2 pl (.lst [.int r1, .int r2, .int r3])) = H3 at ep g3 hv3 pr3
    have fin : ∀ (G : Gt) (a : Addr) (H5 : Hp), Same H3 H5 → GtAt K H5 G (.ref a) → OkN n G → NetI K H gl n (i + 1) (upd H5 gl (.lst (vs ++ [.ref a]))) := fun G a H5 g5 gt og => by
      have hv5 := g5 _ _ hv3
      have kp : KpL [gl] H5 (upd H5 gl (.lst (vs ++ [.ref a]))) := fun b o nb e => by rw [upd_ne (fun z => nb (List.mem_singleton.mpr z))]; exact e
      have ap : Apt [gl] H5 := ⟨fun r hr' => by cases List.mem_singleton.mp hr'; exact ⟨_, hv5⟩⟩
      refine ⟨gs ++ [G], vs ++ [.ref a], (g3.trans g5).young hgl _, upd_same, by rw [List.length_append, l1]; rfl, by rw [List.length_append, l2]; rfl, fun j v G' e1 e2 => ?_, fun G' hG' => ?_⟩
      · by_cases cj : j < vs.length
        · rw [List.getElem?_append_left cj] at e1
          rw [List.getElem?_append_left (by omega)] at e2
          exact ((pr3 j v G' e1 e2).same g5).kp kp ap
        · have jl : j = vs.length := by
            have := (List.getElem?_eq_some_iff.mp e1).1
            rw [List.length_append, List.length_singleton] at this
            omega
          rw [jl, List.getElem?_concat_length] at e1
          rw [jl, show vs.length = gs.length by omega, List.getElem?_concat_length] at e2
          cases e1
          cases e2
          exact gt.kp kp ap
      · rcases List.mem_append.mp hG' with z | z
        · exact ok G' z
        · cases List.mem_singleton.mp z; exact og
    have small1 : vs.length < sizeLine := small1000 (by omega)
    refine ⟨_, rfl, rfl, _, rfl, ite2 (fun c => ?_) fun c => ⟨_, rfl, rfl, _, rfl, ite2 (fun c => ?_) fun c => ⟨_, rfl, rfl, _, rfl, ite2 (fun c => ?_) fun c => ⟨_, rfl, rfl, _, rfl, ite2 (fun c => ?_) fun c => ?_⟩⟩⟩⟩
    · refine ⟨_, rfl, .inl ⟨rfl, _, SqL.of hv3⟩, (by show 0 ≤ sizeLine; decide), fun b hb => ⟨(by show 2 ≤ sizeLine; decide), fun a ha => ?_⟩⟩
      obtain ⟨g, e1, e2⟩ := new2 (b := .tup [.str "start", .ref b]) hb ha
      exact ⟨gl, _, _, rfl, rfl, g _ _ hv3, small1, _, _, _, _, rfl, fin .start a _ g ⟨a, b, rfl, SqT.of e2, SqT.of e1⟩ ⟨fun c z => (by cases z), Nat.zero_le _⟩⟩
    · refine ⟨_, rfl, .inl ⟨rfl, _, SqL.of hv3⟩, _, rfl, _, _, rfl, rfl, ⟨by decide, by decide⟩, _, _, rfl, rfl, (by show (0 : Int) < 5; decide), (by show 1 ≤ sizeLine; decide), fun b hb => ⟨(by show 2 ≤ sizeLine; decide), fun a ha => ?_⟩⟩
      obtain ⟨g, e1, e2⟩ := new2 (b := .tup [.str "memory", .ref b]) hb ha
      exact ⟨gl, _, _, rfl, rfl, g _ _ hv3, small1, _, _, _, _, rfl, fin (.mem (sd / 10 % 5)) a _ g ⟨a, b, rfl, SqT.of e2, SqT.of e1⟩ ⟨fun c z => (by cases z), Nat.zero_le _⟩⟩
    · refine ⟨_, rfl, .inl ⟨rfl, _, SqL.of hv3⟩, _, rfl, _, _, rfl, rfl, ⟨by decide, by decide⟩, _, _, rfl, rfl, (by show (0 : Int) < 3; decide), (by show 1 ≤ sizeLine; decide), fun b hb => ⟨(by show 2 ≤ sizeLine; decide), fun a ha => ?_⟩⟩
      obtain ⟨g, e1, e2⟩ := new2 (b := .tup [.str "given", .ref b]) hb ha
      exact ⟨gl, _, _, rfl, rfl, g _ _ hv3, small1, _, _, _, _, rfl, fin (.given (sd / 10 % 3)) a _ g ⟨a, b, rfl, SqT.of e2, SqT.of e1⟩ ⟨fun c z => (by cases z), Nat.zero_le _⟩⟩
    · refine ⟨_, rfl, .inl ⟨rfl, _, SqL.of hv3⟩, rdl (j := 0) ep rfl rfl ⟨(by show 1 ≤ sizeLine; decide), fun b hb => ⟨(by show 2 ≤ sizeLine; decide), fun a ha => ?_⟩⟩⟩
      obtain ⟨g, e1, e2⟩ := new2 (b := .tup [.str "not", .ref b]) hb ha
      refine ⟨gl, _, _, rfl, rfl, g _ _ hv3, small1, _, _, _, _, rfl, fin (.nt r1.toNat) a _ g ⟨a, b, rfl, SqT.of e2, SqT.of ?_⟩ ⟨fun c z => by cases List.mem_singleton.mp z; omega, (by show 1 ≤ 3; decide)⟩⟩
      show _ = some (HO.tup [V.int ((r1.toNat : Nat) : Int)])
      rw [Int.toNat_of_nonneg b1]
      exact e1
    · have d1 := Int.emod_nonneg (sd % 10) (show (2 : Int) ≠ 0 by decide)
      have d2 := Int.emod_lt_of_pos (sd % 10) (show (0 : Int) < 2 by decide)
      have d3 := Int.emod_nonneg (sd / 3430000) (show (4 : Int) ≠ 0 by decide)
      have d4 := Int.emod_lt_of_pos (sd / 3430000) (show (0 : Int) < 4 by decide)
      obtain ⟨wd, ew, hw⟩ : ∃ wd : Str, atI [V.str "all", V.str "some"] (sd % 10 % 2) = some (.str wd) ∧ (wd = "all" ∨ wd = "some") := by
        have : sd % 10 % 2 = 0 ∨ sd % 10 % 2 = 1 := by omega
        rcases this with e | e <;> rw [e]
        · exact ⟨"all", atI_nat (j := 0) rfl, .inl rfl⟩
        · exact ⟨"some", atI_nat (j := 1) rfl, .inr rfl⟩
      refine ⟨_, rfl, .inl ⟨rfl, _, SqL.of hv3⟩, (by show 2 ≤ sizeLine; decide), fun wl hwl => ?_⟩
      have k4 := same_new hwl (.lst [V.str "all", V.str "some"])
      have e4 := upd_same (H := H3) (a := wl) (o := .lst [V.str "all", V.str "some"])
      generalize (upd H3 wl (.lst [V.str "all", V.str "some"])) = H4 at k4 e4
      refine ⟨_, rfl, _, _, rfl, rfl, (by show (0 : Int) < 2; decide), wl, _, _, _, rfl, rfl, SqL.of e4, ew, _, rfl, _, rfl, _, _, rfl, rfl, ⟨by decide, by decide⟩, _, _, rfl, rfl, (by show (0 : Int) < 4; decide), _, rfl, pl, _, rfl, SqL.of (k4 _ _ ep), fun cp hcp => ?_⟩
      dsimp only
      rw [cut3 d3 d4]
      generalize (sd / 3430000 % 4).toNat = kk at hcp
      have k5 := same_new hcp (.lst ([V.int r1, .int r2, .int r3].take kk))
      have e5 := upd_same (H := H4) (a := cp) (o := .lst ([V.int r1, .int r2, .int r3].take kk))
      generalize (upd H4 cp (.lst ([V.int r1, .int r2, .int r3].take kk))) = H5 at k5 e5
      refine ⟨cp, _, rfl, .inl ⟨SqL.of e5, fun b hb => ⟨(by show 2 ≤ sizeLine; decide), fun a ha => ?_⟩⟩⟩
      obtain ⟨g, e1, e2⟩ := new2 (b := .tup [.str wd, .ref b]) hb ha
      have gg := (k4.trans k5).trans g
      have el : [V.int r1, .int r2, .int r3].take kk = ((([r1.toNat, r2.toNat, r3.toNat].take kk).map Int.ofNat).map V.int) := by
        rw [List.map_take, List.map_take]
        show _ = ([V.int (r1.toNat : Int), V.int (r2.toNat : Int), V.int (r3.toNat : Int)]).take kk
        rw [Int.toNat_of_nonneg b1, Int.toNat_of_nonneg b2, Int.toNat_of_nonneg b3]
      have e1 := e1.trans (congrArg (fun z => some (HO.tup z)) el)
      have on : (∀ c ∈ [r1.toNat, r2.toNat, r3.toNat].take kk, c < n) ∧ ([r1.toNat, r2.toNat, r3.toNat].take kk).length ≤ 3 := by
        refine ⟨fun c hc => ?_, ?_⟩
        · have := List.mem_of_mem_take hc
          simp only [List.mem_cons, List.not_mem_nil, or_false] at this
          omega
        · rw [List.length_take]; exact Nat.min_le_right _ _
      rcases hw with rfl | rfl
      · exact ⟨gl, _, _, rfl, rfl, gg _ _ hv3, small1, _, _, _, _, rfl, fin (.all ([r1.toNat, r2.toNat, r3.toNat].take kk)) a _ gg ⟨a, b, rfl, SqT.of e2, SqT.of e1⟩ ⟨on.1, on.2⟩⟩
      · exact ⟨gl, _, _, rfl, rfl, gg _ _ hv3, small1, _, _, _, _, rfl, fin (.som ([r1.toNat, r2.toNat, r3.toNat].take kk)) a _ gg ⟨a, b, rfl, SqT.of e2, SqT.of e1⟩ ⟨on.1, on.2⟩⟩
  · rintro σ H2 ⟨x3, x4, x5, x6, rfl, gs, vs, g2, hv2, l1, l2, pr, ok⟩
    refine ⟨_, rfl, ?_⟩
    refine ⟨(by show 1 ≤ sizeLine; decide), fun y0 hy0 => ⟨y0, _, _, rfl, rfl, upd_same, by decide, by decide, (by show 1 * 3 ≤ sizeLine; decide), fun y1 hy1 => ?_⟩⟩
    have p1 := (same_new hy0 (.lst [V.int 0])).trans (same_new hy1 (.lst zs3))
    have q1 : (upd (upd H2 y0 (.lst [V.int 0])) y1 (.lst zs3)) y1 = some (.lst zs3) := upd_same
    rw [show (List.replicate (3 : Int).toNat [V.int 0]).flatten = zs3 from rfl]
    generalize (upd (upd H2 y0 (.lst [V.int 0])) y1 (.lst zs3)) = HA at p1 q1
    refine ⟨(by show 2 ≤ sizeLine; decide), fun tz htz => ?_⟩
    have p2 := same_new htz (.tup [V.int 0, V.int 0])
    have q2 := upd_same (H := HA) (a := tz) (o := .tup [V.int 0, V.int 0])
    generalize (upd HA tz (.tup [V.int 0, V.int 0])) = HB at p2 q2
    refine ⟨(by show 1 ≤ sizeLine; decide), fun y2 hy2 => ⟨y2, _, _, rfl, rfl, upd_same, by decide, by decide, (by show 1 * 5 ≤ sizeLine; decide), fun y3 hy3 => ?_⟩⟩
    have p3 := (same_new hy2 (.lst [V.int 0])).trans (same_new hy3 (.lst zs5))
    have q3 : (upd (upd HB y2 (.lst [V.int 0])) y3 (.lst zs5)) y3 = some (.lst zs5) := upd_same
    rw [show (List.replicate (5 : Int).toNat [V.int 0]).flatten = zs5 from rfl]
    generalize (upd (upd HB y2 (.lst [V.int 0])) y3 (.lst zs5)) = HC at p3 q3
    refine ⟨(by show 4 ≤ sizeLine; decide), fun tt htt => ?_⟩
    have p4 := same_new htt (.tup [.ref gl, .ref y1, .ref tz, .ref y3])
    have q4 := upd_same (H := HC) (a := tt) (o := .tup [.ref gl, .ref y1, .ref tz, .ref y3])
    generalize (upd HC tt (.tup [.ref gl, .ref y1, .ref tz, .ref y3])) = HD at p4 q4
    have pA := p1.trans (p2.trans (p3.trans p4))
    exact q tt gl y1 tz y3 gs vs HD ⟨g2.trans pA, q4, pA _ _ hv2, by omega, fun j v G e1 e2 => (pr j v G e1 e2).same pA, net_sm l2 n60 ok, fun G hG => Nat.le_trans (ok G hG).ln (by decide)⟩
end

end My
end

section
set_option Elab.async false
set_option linter.all false
set_option maxRecDepth 100000
set_option maxHeartbeats 4000000
namespace My
open PySem L2
theorem tell_eq {t : Bool} {k : Kn} {gs : List Nat} : tell t k gs = if ∃ g ∈ gs, k g = some t then some t else if ∃ g ∈ gs, k g = none then none else some (!t) := by
  unfold tell
  by_cases h1 : ∃ g ∈ gs, k g = some t
  · rw [if_pos h1, if_pos h1]
  · rw [if_neg h1, if_neg h1]
    by_cases h2 : ∃ g ∈ gs, k g = none
    · rw [if_pos h2, if_neg]
      intro z
      obtain ⟨g, hg, e⟩ := h2
      rw [z g hg] at e
      cases e
    · rw [if_neg h2, if_pos]
      intro g hg
      cases e : k g with
      | none => exact absurd ⟨g, hg, e⟩ h2
      | some b =>
        have : ¬ b = t := fun z => h1 ⟨g, hg, by rw [e, z]⟩
        cases b <;> cases t <;> first | rfl | exact absurd rfl this
theorem in_vO {o : Option Bool} {f : Nat → Option Bool} {l : List Nat} : inV (vO o) ((l.map f).map vO) = decide (∃ g ∈ l, f g = o) := by
  unfold inV
  rw [List.any_map, List.any_map]
  by_cases c : ∃ g ∈ l, f g = o
  · rw [decide_eq_true c, List.any_eq_true]
    obtain ⟨g, hg, e⟩ := c
    exact ⟨g, hg, by show eqV (vO (f g)) (vO o) = true; rw [eqV_vO]; exact decide_eq_true e⟩
  · rw [decide_eq_false c, List.any_eq_false]
    intro g hg z
    have z : eqV (vO (f g)) (vO o) = true := z
    rw [eqV_vO] at z
    exact c ⟨g, hg, of_decide_eq_true z⟩
theorem wd_not' {G : Gt} (e : G.word = "not") : ∃ k, G = .nt k := by cases G <;> first | exact ⟨_, rfl⟩ | (dsimp only [Gt.word] at e; exact absurd e (by decide +kernel))
theorem wd_all {G : Gt} (e : G.word = "all") : ∃ k, G = .all k := by cases G <;> first | exact ⟨_, rfl⟩ | (dsimp only [Gt.word] at e; exact absurd e (by decide +kernel))
theorem wd_nm {G : Gt} (n1 : ¬ G.word = "start") (n2 : ¬ G.word = "memory") (n3 : ¬ G.word = "given") : isNm G = true := by cases G <;> first | rfl | exact absurd rfl n1 | exact absurd rfl n2 | exact absurd rfl n3
theorem wd_som {G : Gt} (h : isNm G = true) (n1 : ¬ G.word = "not") (n2 : ¬ G.word = "all") : ∃ k, G = .som k := by cases G <;> first | exact ⟨_, rfl⟩ | exact absurd rfl n1 | exact absurd rfl n2 | cases h
inductive C_spValue (K : PySem.W.Frag) (vs : List V) (H : Hp) (Q : VK) : Prop
  | mk (gv sv : V) (cl kl : Addr) (G : Gt) (st : Option (List Int)) (co : List Int) (k : List (Option Bool)) (c0 : vs = [gv, sv, .ref cl, .ref kl]) (c1 : GtAt K H G gv) (c2 : StG K H st sv) (c3 : SqL K H cl (co.map V.int)) (c4 : SqL K H kl (k.map vO)) (c5 : (∀ c ∈ G.nums, c < k.length)) (c6 : G.nums.length ≤ 900) (c7 : ∀ H', Same H H' → Q (vO (gval st co (knL k) G)) H') : C_spValue K vs H Q
def spValue (K : PySem.W.Frag) : Sp := fun vs H Q _ => C_spValue K vs H Q
section
variable {P : Program} {w : World} {K : PySem.W.Frag} {mg : Str → Option Value} {base : Heap} {C aN : Addr}
set_option maxHeartbeats 16000000 in
theorem ok_value (F : FunM K mg "_law_value" ["_law_gate", "_law_state_here", "_law_coming", "_law_known"] s__law_value) (T : Txt mg) : Callee P w K mg base 1 "_law_value" ["_law_gate", "_law_state_here", "_law_coming", "_law_known"] (spValue K) := by
  refine F.ok sc__law_value (fun vs H Q E h => ?_) (fun f cdv A outer s H vs Q E hr h => ?_)
  · obtain ⟨gv, sv, cl, kl, G, st, co, k, rfl, _⟩ := h; rfl
  obtain ⟨gv, sv, cl, kl, G, st, co, k, rfl, ⟨a, b, rfl, h1, h2⟩, hst, hco, hk, hn, l9, q⟩ := h
  refine ⟨_, (pss_cons (ps_asg (pv 0) (pg_tup rfl (pgs_cons (pg_name (i := 4) sc__law_value.nd rfl (Or.inl rfl)) (pgs_cons (pg_name (i := 5) sc__law_value.nd rfl (Or.inl rfl)) pgs_nil))))
    (pss_cons (ps_if (pt_cmpR op_eq (pv 4) pe_str (nomark _))
      (pss_one (ps_ret (pe_cmpR op_isN (pv 1) pe_non (nomark _))))
      pss_nil)
    (pss_cons (ps_if (pt_cmpR op_eq (pv 4) pe_str (nomark _))
      (pss_one (ps_ret (pe_and (pe_cmpR op_notN (pv 1) pe_non (nomark _)) (pe_one (pe_cmpR op_in_seq (pe_ix ix_tup (pv 5) pe_int (fun _ _ => rfl)) (pv 1) (by rfl))))))
      pss_nil)
    (pss_cons (ps_if (pt_cmpR op_eq (pv 4) pe_str (nomark _))
      (pss_one (ps_ret (pe_cmpR op_in_seq (pe_ix ix_tup (pv 5) pe_int (fun _ _ => rfl)) (pv 2) (by rfl))))
      pss_nil)
    (pss_cons (ps_setComp (j := 6) (g := (gName 0)) (tc := tAlways) (te := (tOp (rIxL K) (tVar 1) (tVar 0))) ["_law_number"] [("_law_known", 3)] sc__law_value.nd rfl (Or.inl rfl) rfl (compOk (defScope s__law_value) ["_law_gate", "_law_state_here", "_law_coming", "_law_known", "_law_word", "_law_numbers", "_law_ahead"] (by decide +kernel)) (pi_tup (pv 5)) (fun s2 H2 fp cl C => pg_name (i := 0) (show List.Nodup [("_law_number" : Str), ("_law_known" : Str)] from by decide +kernel) rfl (Or.inl rfl)) (gkeep_name (by decide)) (fun s2 H2 fp cl C => pif_nil) (fun s2 H2 fp cl C => (pe_ix ix_list (pv 1) (pv 0) (fun _ _ => rfl))))
    (pss_cons (ps_if (pt_cmpR op_eq (pv 4) pe_str (nomark _))
      (pss_one (ps_ret (pe_ix ix_list (pe_lst (pa_cons pe_non (pa_cons pe_bl (pa_cons pe_bl pa_nil)))) (pe_bm PySem.F.plainAttrs_list PySem.F.slot_list_index PySem.F.type_list_index mt_index (pe_lst (pa_cons pe_non (pa_cons pe_bl (pa_cons pe_bl pa_nil)))) (pa_cons (pe_ix ix_list (pv 6) pe_int (fun _ _ => rfl)) pa_nil)) (fun _ _ => rfl))))
      pss_nil)
    (pss_cons (ps_if (pt_cmpR op_eq (pv 4) pe_str (nomark _))
      (pss_one (ps_ret (pe_ifExp (pt_cmpR op_in_seq pe_bl (pv 6) (by rfl)) pe_bl (pe_ix ix_list (pe_lst (pa_cons pe_bl (pa_cons pe_non pa_nil))) (pe_callTy call_intK rfl T.n_int (by decide +kernel) (pa_cons (pe_cmpR op_in_seq pe_non (pv 6) (by rfl)) pa_nil)) (fun _ _ => rfl)))))
      pss_nil)
    (pss_one (ps_ret (pe_ifExp (pt_cmpR op_in_seq pe_bl (pv 6) (by rfl)) pe_bl (pe_ix ix_list (pe_lst (pa_cons pe_bl (pa_cons pe_non pa_nil))) (pe_callTy call_intK rfl T.n_int (by decide +kernel) (pa_cons (pe_cmpR op_in_seq pe_non (pv 6) (by rfl)) pa_nil)) (fun _ _ => rfl)))))))))))), ?_⟩
  refine ⟨_, rfl, a, _, rfl, h1, rfl, _, _, rfl, _, _, rfl, rfl, ?_⟩
  refine ⟨_, rfl, rfl, _, rfl, iteW (fun e => ?_) fun n1 => ⟨_, rfl, rfl, _, rfl, iteW (fun e => ?_) fun n2 => ⟨_, rfl, rfl, _, rfl, iteW (fun e => ?_) fun n3 => ?_⟩⟩⟩
  · cases wd_start e
    refine ⟨_, rfl, rfl, ?_⟩
    rw [stG_non hst]
    exact q H (Same.refl _)
  · obtain ⟨n, rfl⟩ := wd_mem e
    cases st with
    | none =>
      cases hst
      refine ⟨_, rfl, rfl, _, rfl, ?_⟩
      rw [if_neg (by simp)]
      exact q H (Same.refl _)
    | some l =>
      obtain ⟨s', rfl, hs⟩ := hst
      refine ⟨_, rfl, rfl, _, rfl, ?_⟩
      rw [if_pos (by simp)]
      refine ⟨_, rfl, b, _, _, _, rfl, rfl, h2, atI_nat (j := 0) rfl, _, rfl, s', _, rfl, .inl hs, rfl, flat_ints l, ?_⟩
      rw [if_neg Bool.false_ne_true, inV_ints]
      exact q H (Same.refl _)
  · obtain ⟨n, rfl⟩ := wd_giv e
    refine ⟨_, rfl, b, _, _, _, rfl, rfl, h2, atI_nat (j := 0) rfl, _, rfl, cl, _, rfl, .inl hco, rfl, flat_ints co, ?_⟩
    rw [if_neg Bool.false_ne_true, inV_ints]
    exact q H (Same.refl _)
  have nm := wd_nm n1 n2 n3
  rw [nm_args nm] at h2
  refine ⟨_, rfl, b, rfl, ⟨_, h2⟩, comp_tup (K := K) (a := b) (xs := (G.nums.map Int.ofNat).map V.int) (fun i ys H' => H' = H ∧ ys = ((G.nums.take i).map (knL k)).map vO) ⟨rfl, rfl⟩ (by rw [List.length_map, List.length_map]; exact small (by omega)) (fun i ys H' h => by rw [h.1]; exact h2) ?_ ?_⟩
  · rintro j z ys H' M hj ⟨rfl, rfl⟩ hN hyl
    rw [List.map_map, List.getElem?_map] at hj
    cases ej : G.nums[j]? with
    | none => rw [ej] at hj; cases hj
    | some c =>
      rw [ej] at hj
      cases hj
      have cl' := hn c (List.mem_of_getElem? ej)
      have ek : (k.map vO)[c]? = some (vO (knL k c)) := by unfold knL; rw [List.getElem?_map, List.getElem?_eq_getElem cl']; rfl
      refine ⟨_, rfl, _, rfl, kl, _, _, _, rfl, rfl, hk, atI_nat ek, hN _ _ (by rw [List.length_append, List.length_singleton]; exact Nat.succ_le_succ hyl) ⟨rfl, ?_⟩⟩
      rw [List.take_add_one, ej, List.map_append, List.map_append]; rfl
  · rintro ys H' hyl ⟨rfl, rfl⟩ D hD0
    rw [List.take_of_length_le (by rw [List.length_map, List.length_map]; exact Nat.le_refl _)]
    have g1 := same_new hD0 (.lst ((G.nums.map (knL k)).map vO))
    have hD := upd_same (H := H') (a := D) (o := .lst ((G.nums.map (knL k)).map vO))
    generalize (upd H' D (.lst ((G.nums.map (knL k)).map vO))) = H1 at g1 hD
    refine ⟨_, rfl, rfl, _, rfl, iteW (fun e => ?_) fun n4 => ⟨_, rfl, rfl, _, rfl, iteW (fun e => ?_) fun n5 => ?_⟩⟩
    · obtain ⟨c, rfl⟩ := wd_not' e
      refine ⟨(by show 3 ≤ sizeLine; decide), fun l1 hl1 => ?_⟩
      have k2 := same_new hl1 (.lst [.non, .bl false, .bl true])
      have e2 := upd_same (H := H1) (a := l1) (o := .lst [.non, .bl false, .bl true])
      have hD2 := k2 _ _ hD
      generalize (upd H1 l1 (.lst [.non, .bl false, .bl true])) = H2 at k2 e2 hD2
      refine ⟨(by show 3 ≤ sizeLine; decide), fun l2 hl2 => ?_⟩
      have k3 := same_new hl2 (.lst [.non, .bl true, .bl false])
      have e3 := upd_same (H := H2) (a := l2) (o := .lst [.non, .bl true, .bl false])
      have hD3 := k3 _ _ hD2
      have e23 := k3 _ _ e2
      generalize (upd H2 l2 (.lst [.non, .bl true, .bl false])) = H3 at k3 e3 hD3 e23
      refine ⟨.inl ⟨rfl, _, SqL.of e3⟩, rdl (j := 0) hD3 rfl rfl ?_⟩
      have q := q _ (g1.trans (k2.trans k3))
      have eg : gval st co (knL k) (.nt c) = (knL k c).map not := rfl
      rw [eg] at q
      generalize knL k c = o at q
      rcases o with _ | _ | _
      · exact ⟨l2, _, _, 0, _, rfl, rfl, e3, rfl, rfl, rfl, rfl, fun m z' h => absurd h (Nat.not_lt_zero _), l1, _, _, _, rfl, rfl, SqL.of e23, atI_nat (j := 0) rfl, q⟩
      · exact ⟨l2, _, _, 2, _, rfl, rfl, e3, rfl, rfl, rfl, rfl, fun m z' h e => by (match m, h, e with | 0, _, e => cases e; rfl | 1, _, e => cases e; rfl), l1, _, _, _, rfl, rfl, SqL.of e23, atI_nat (j := 2) rfl, q⟩
      · exact ⟨l2, _, _, 1, _, rfl, rfl, e3, rfl, rfl, rfl, rfl, fun m z' h e => by (match m, h, e with | 0, _, e => cases e; rfl), l1, _, _, _, rfl, rfl, SqL.of e23, atI_nat (j := 1) rfl, q⟩
    · obtain ⟨l, el⟩ := wd_all e
      have eg : gval st co (knL k) G = tell false (knL k) G.nums := by rw [el]; rfl
      rw [eg, tell_eq] at q
      refine ⟨_, rfl, D, _, rfl, .inl (SqL.of hD), rfl, flat_vO _, _, rfl, ?_⟩
      rw [if_neg Bool.false_ne_true, show V.bl false = vO (some false) from rfl, in_vO]
      by_cases c1 : ∃ g ∈ G.nums, knL k g = some false
      · rw [if_pos c1] at q
        rw [if_pos (decide_eq_true c1)]
        exact q _ g1
      · rw [if_neg c1] at q
        rw [if_neg (fun z => c1 (of_decide_eq_true z))]
        refine ⟨(by show 2 ≤ sizeLine; decide), fun l1 hl1 => ?_⟩
        have k2 := same_new hl1 (.lst [.bl true, .non])
        refine ⟨_, rfl, D, _, rfl, .inl (SqL.of (k2 _ _ hD)), rfl, flat_vO _, .inr ⟨_, rfl, l1, _, _, _, rfl, rfl, SqL.of upd_same, ?_, q _ (g1.trans k2)⟩⟩
        rw [if_neg Bool.false_ne_true, show V.non = vO none from rfl, in_vO]
        by_cases c2 : ∃ g ∈ G.nums, knL k g = none
        · rw [decide_eq_true c2, if_pos c2]; exact atI_nat (j := 1) rfl
        · rw [decide_eq_false c2, if_neg c2]; exact atI_nat (j := 0) rfl
    · obtain ⟨l, el⟩ := wd_som nm n4 n5
      have eg : gval st co (knL k) G = tell true (knL k) G.nums := by rw [el]; rfl
      rw [eg, tell_eq] at q
      refine ⟨_, rfl, D, _, rfl, .inl (SqL.of hD), rfl, flat_vO _, _, rfl, ?_⟩
      rw [if_neg Bool.false_ne_true, show V.bl true = vO (some true) from rfl, in_vO]
      by_cases c1 : ∃ g ∈ G.nums, knL k g = some true
      · rw [if_pos c1] at q
        rw [if_pos (decide_eq_true c1)]
        exact q _ g1
      · rw [if_neg c1] at q
        rw [if_neg (fun z => c1 (of_decide_eq_true z))]
        refine ⟨(by show 2 ≤ sizeLine; decide), fun l1 hl1 => ?_⟩
        have k2 := same_new hl1 (.lst [.bl false, .non])
        refine ⟨_, rfl, D, _, rfl, .inl (SqL.of (k2 _ _ hD)), rfl, flat_vO _, .inr ⟨_, rfl, l1, _, _, _, rfl, rfl, SqL.of upd_same, ?_, q _ (g1.trans k2)⟩⟩
        rw [if_neg Bool.false_ne_true, show V.non = vO none from rfl, in_vO]
        by_cases c2 : ∃ g ∈ G.nums, knL k g = none
        · rw [decide_eq_true c2, if_pos c2]; exact atI_nat (j := 1) rfl
        · rw [decide_eq_false c2, if_neg c2]; exact atI_nat (j := 0) rfl
end

end My
end

section
set_option Elab.async false
set_option linter.all false
set_option maxRecDepth 100000
set_option maxHeartbeats 4000000
namespace My
open PySem L2
theorem nns_vO (k : List (Option Bool)) : (k.map vO).countP (fun v => decide (v = V.non)) = nns k := by
  unfold nns
  rw [List.countP_map]
  congr 1
  funext o
  cases o with
  | none => show decide (V.non = V.non) = true; exact decide_eq_true rfl
  | some b => show decide (V.bl b = V.non) = false; exact decide_eq_false (fun z => by cases z)
inductive C_spLeast (K : PySem.W.Frag) (vs : List V) (H : Hp) (Q : VK) : Prop
  | mk (nt cl : Addr) (sv : V) (gs : List Gt) (st : Option (List Int)) (co : List Int) (c0 : vs = [.ref nt, sv, .ref cl]) (c1 : NetAt K H nt gs) (c2 : InAt K H sv cl st co) (c3 : (∀ G ∈ gs, G.nums.length ≤ 900)) (c4 : ∀ (kl : Addr) (H' : Hp), ValQ H gs st co kl H' → Q (.ref kl) H') : C_spLeast K vs H Q
def spLeast (K : PySem.W.Frag) : Sp := fun vs H Q _ => C_spLeast K vs H Q
section
variable {P : Program} {w : World} {K : PySem.W.Frag} {mg : Str → Option Value} {base : Heap} {C aN : Addr}
set_option maxHeartbeats 16000000 in
theorem ok_least (F : FunM K mg "_law_least" ["_law_net_here", "_law_state_here", "_law_coming"] s__law_least) (T : Txt mg) (C__law_value : Callee P w K mg base 1 "_law_value" ["_law_gate", "_law_state_here", "_law_coming", "_law_known"] (spValue K)) : Callee P w K mg base 2 "_law_least" ["_law_net_here", "_law_state_here", "_law_coming"] (spLeast K) := by
  refine F.ok sc__law_least (fun vs H Q E h => ?_) (fun f cdv A outer s H vs Q E hr h => ?_)
  · obtain ⟨nt, cl, sv, gs, st, co, rfl, _⟩ := h; rfl
  obtain ⟨nt, cl, sv, gs, st, co, rfl, ⟨gl, rest, xs, hnt, G0, hgl, sm⟩, ⟨hst, lst, hcl, lco⟩, l9, q⟩ := h
  refine ⟨_, (pss_cons (ps_setComp (j := 3) (g := (gName 0)) (tc := tAlways) (te := (tC .non)) ["_law_gate"] [] sc__law_least.nd rfl (Or.inl rfl) rfl (compOk (defScope s__law_least) ["_law_net_here", "_law_state_here", "_law_coming", "_law_known", "_law_changed", "_law_number"] (by decide +kernel)) (pi_list (pe_ix ix_tup (pv 0) pe_int (fun _ _ => rfl))) (fun s2 H2 fp cl C => pg_name (i := 0) (show List.Nodup [("_law_gate" : Str)] from by decide +kernel) rfl (Or.inl rfl)) (gkeep_name (by decide)) (fun s2 H2 fp cl C => pif_nil) (fun s2 H2 fp cl C => pe_non))
    (pss_cons (ps_set (i := 4) sc__law_least.nd rfl (Or.inl rfl) pe_bl)
    (pss_cons (ps_while PassesOwn.never (pt_val (pv 4))
      (pss_cons (ps_set (i := 4) sc__law_least.nd rfl (Or.inl rfl) pe_bl)
    (pss_one (ps_for PassesOwn.never rfl (pi_range1 rfl T.n_range (pa_cons (pe_callB call_lenK rfl T.n_len PySem.boot_len (pa_cons (pv 3) pa_nil)) pa_nil)) (pg_name (i := 5) sc__law_least.nd rfl (Or.inl rfl))
      (pss_one (ps_if (pt_cmpR op_isN (pe_ix ix_list (pv 3) (pv 5) (fun _ _ => rfl)) pe_non (nomark _))
      (pss_cons (ps_asg (pe_callC C__law_value hr rfl pass0 (pa_cons (pe_ix ix_list (pe_ix ix_tup (pv 0) pe_int (fun _ _ => rfl)) (pv 5) (fun _ _ => rfl)) (pa_cons (pv 1) (pa_cons (pv 2) (pa_cons (pv 3) pa_nil))))) (pg_sub (pv 3) (pv 5) set_list))
    (pss_one (ps_set (i := 4) sc__law_least.nd rfl (Or.inl rfl) (pe_or (pv 4) (pe_one (pe_cmpR op_notN (pe_ix ix_list (pv 3) (pv 5) (fun _ _ => rfl)) pe_non (nomark _)))))))
      pss_nil))))))
    (pss_one (ps_ret (pv 3)))))), ?_⟩
  have l60 := sm.len
  obtain ⟨gvs, hgv, lgv, ggt⟩ := id G0
  refine ⟨_, rfl, nt, _, _, _, rfl, rfl, hnt, atI_nat (j := 0) rfl, gl, rfl, ⟨_, hgv⟩, comp_list (K := K) (xs := gvs) (fun i ys H' => H' = H ∧ ys = (List.replicate i (none : Option Bool)).map vO) ⟨rfl, rfl⟩ (small (by omega)) (fun i ys H' h => by rw [h.1]; exact hgv) ?_ ?_⟩
  · rintro j z ys H' M hj ⟨rfl, rfl⟩ hN hyl
    exact hN _ _ (by rw [List.length_append, List.length_singleton]; exact Nat.succ_le_succ hyl) ⟨rfl, by rw [List.replicate_succ', List.map_append]; rfl⟩
  rintro ys H0 hyl ⟨rfl, rfl⟩ kl hkl
  rw [lgv]
  have g1 := same_new hkl (.lst ((List.replicate gs.length (none : Option Bool)).map vO))
  have ek := upd_same (H := H0) (a := kl) (o := .lst ((List.replicate gs.length (none : Option Bool)).map vO))
  generalize (upd H0 kl (.lst ((List.replicate gs.length (none : Option Bool)).map vO))) = H1 at g1 ek
  refine while_by (fun σ H' => Ex3 fun (b : Bool) (k : List (Option Bool)) (x5 : Option V) => An6 (σ = [some (.ref nt), some sv, some (.ref cl), some (.ref kl), some (.bl b), x5]) (Same H0 H') (H' kl = some (.lst (k.map vO))) (k.length = gs.length) (Der gs st co (knL k)) ((b = false → Closed gs st co (knL k))))
    (fun (σ : St) (H' : Hp) => match H' kl, σ[4]? with | some (HO.lst us), some (some (V.bl b)) => 2 * us.countP (fun v => decide (v = V.non)) + (if b = true then 1 else 0) | _, _ => 0) ⟨true, _, none, rfl, g1, ek, List.length_replicate, by rw [knL_rep]; exact Der.nil, fun z => by cases z⟩ ?_ ?_
  · rintro σ H2 ⟨b, k, x5, rfl, g2, ek2, lk, der, clo⟩
    cases b with
    | false => exact ⟨_, rfl, _, rfl, iteF ⟨_, rfl, q kl H2 ⟨k, g2, ek2, lk, der, clo rfl⟩⟩⟩
    | true =>
      refine ⟨_, rfl, _, rfl, iteT ?_⟩
      refine ⟨_, rfl, kl, _, rfl, .inl (SqL.of ek2), _, rfl, by rw [List.length_map]; omega, by rw [List.length_map]; omega, ?_⟩
      rw [show (((k.map vO).length : Nat) : Int).toNat = gs.length by rw [List.length_map, Int.toNat_natCast, lk]]
      refine for_range (n := gs.length) (fun i σ H' => Ex3 fun (b : Bool) (k' : List (Option Bool)) (x5 : Option V) => An4 (σ = [some (.ref nt), some sv, some (.ref cl), some (.ref kl), some (.bl b), x5]) (Same H0 H') (H' kl = some (.lst (k'.map vO))) (Rd gs st co k k' i b)) ⟨false, k, x5, rfl, g2, ek2, Rd.nil der lk⟩ ?_ ?_
      · rintro i σ H3 hi ⟨b, k', x5, rfl, g3, ek3, rd⟩
        have lk' := rd.len
        have ei : (k'.map vO)[i]? = some (vO (knL k' i)) := by unfold knL; rw [List.getElem?_map, List.getElem?_eq_getElem (by omega)]; rfl
        obtain ⟨G, hG⟩ : ∃ G, gs[i]? = some G := ⟨_, List.getElem?_eq_getElem hi⟩
        obtain ⟨gv, egv⟩ : ∃ gv, gvs[i]? = some gv := ⟨_, List.getElem?_eq_getElem (by omega)⟩
        refine ⟨_, rfl, _, rfl, kl, _, _, _, rfl, rfl, SqL.of ek3, (by rw [Int.zero_add]; exact atI_nat ei), rfl, _, rfl, ?_⟩
        cases e : knL k' i with
        | some v => exact iteF ⟨b, k', _, rfl, g3, ek3, rd.skip (by rw [e]; exact fun z => by cases z)⟩
        | none =>
          have rd2 := rd.step hG e
          refine iteT ⟨_, rfl, nt, _, _, _, rfl, rfl, sameT g3 hnt, atI_nat (j := 0) rfl, _, rfl, gl, _, _, _, rfl, rfl, g3.seq hgv, (by rw [Int.zero_add]; exact atI_nat egv), _, rfl, _, rfl, _, rfl, gv, sv, cl, kl, G, st, co, k', rfl, (ggt i gv G egv hG).same g3, stG_same g3 hst, g3.seq hcl, SqL.of ek3, fun c hc => by rw [lk']; exact sm.wf i G hG c hc, l9 G (List.mem_of_getElem? hG), fun H4 g4 => ?_⟩
          have ek4 := g4 _ _ ek3
          refine ⟨_, rfl, _, rfl, kl, _, _, i, rfl, rfl, ek4, ?_, ?_⟩
          · unfold ixN
            rw [List.length_map, if_pos (by omega), if_pos (by omega), Int.zero_add, Int.toNat_natCast]
          generalize gval st co (knL k') G = o at rd2
          have ek5 : (upd H4 kl (.lst ((k'.map vO).set i (vO o)))) kl = some (.lst ((k'.set i o).map vO)) := by rw [upd_same, List.map_set]
          have g5 : Same H0 (upd H4 kl (.lst ((k'.map vO).set i (vO o)))) := (g3.trans g4).young hkl _
          generalize (upd H4 kl (.lst ((k'.map vO).set i (vO o)))) = H5 at ek5 g5
          cases b with
          | true => exact ⟨_, rfl, _, rfl, iteT ⟨true, _, _, rfl, g5, ek5, rd2⟩⟩
          | false =>
            have ei5 : ((k'.set i o).map vO)[i]? = some (vO o) := by rw [List.getElem?_map, List.getElem?_set_self (by omega)]; rfl
            refine ⟨_, rfl, _, rfl, iteF ⟨_, rfl, _, rfl, kl, _, _, _, rfl, rfl, SqL.of ek5, (by rw [Int.zero_add]; exact atI_nat ei5), rfl, ?_⟩⟩
            refine ⟨_, _, _, rfl, g5, ek5, ?_⟩
            have eb : (!decide (vO o = V.non)) = (false || o.isSome) := by cases o <;> rfl
            first | (rw [eb]; exact rd2) | exact eb ▸ rd2
      · rintro σ H3 ⟨b, k', x5, rfl, g3, ek3, rd⟩
        refine ⟨⟨b, k', x5, rfl, g3, ek3, rd.len, rd.der, fun z => by subst z; exact rd.closed⟩, ?_⟩
        show (match H3 kl, (some (some (V.bl b))) with | some (HO.lst us), some (some (V.bl b)) => 2 * us.countP (fun v => decide (v = V.non)) + (if b = true then 1 else 0) | _, _ => 0) < (match H2 kl, (some (some (V.bl true))) with | some (HO.lst us), some (some (V.bl b)) => 2 * us.countP (fun v => decide (v = V.non)) + (if b = true then 1 else 0) | _, _ => 0)
        rw [ek3, ek2]
        dsimp only
        rw [nns_vO, nns_vO]
        have le := rd.le
        cases b with
        | true => have := rd.yes rfl; show 2 * nns k' + 1 < 2 * nns k + 1; omega
        | false => show 2 * nns k' + 0 < 2 * nns k + 1; omega
  · rintro σ H Q Q' h ⟨a1, b1, a2, b2, q⟩
    exact ⟨a1, b1, a2, b2, h _ _ q⟩
end

end My
end

section
set_option Elab.async false
set_option linter.all false
set_option maxRecDepth 100000
set_option maxHeartbeats 4000000
namespace My
open PySem L2
inductive C_spLaw (K : PySem.W.Frag) (vs : List V) (H : Hp) (Q : VK) : Prop
  | mk (a : Addr) (ns : List Int) (c0 : vs = [.ref a]) (c1 : SqL K H a (ns.map V.int)) (c2 : ns.length ≤ 63) (c3 : ∀ H', Q (.bl true) H') : C_spLaw K vs H Q
def spLaw (K : PySem.W.Frag) : Sp := fun vs H Q _ => C_spLaw K vs H Q
theorem iteND {p A B : Prop} [Decidable p] (h : p) (b : B) : if (!decide p) = true then A else B := by rw [decide_eq_true h]; exact b
theorem iteDT {p A B : Prop} [Decidable p] (h : p) (b : A) : if decide p = true then A else B := by rw [decide_eq_true h]; exact b
theorem iteDF {p A B : Prop} [Decidable p] (h : ¬ p) (b : B) : if decide p = true then A else B := by rw [decide_eq_false h]; exact b
theorem stF_len (m : Int) : ((stF m).getD []).length ≤ 900 := by
  unfold stF
  split
  · exact Nat.zero_le _
  · exact Nat.le_trans (bitL_len _ _) (by decide)
section
variable {P : Program} {w : World} {K : PySem.W.Frag} {mg : Str → Option Value} {base : Heap} {C aN : Addr}
set_option maxHeartbeats 16000000 in
theorem ok_law {f : Addr} {fd : FuncData} (F : Fun K "law" "law" s_law f fd) (T : Txt mg) (C__law_net : Callee P w K mg base 3 "_law_net" ["_law_script"] (spNet K)) (C__law_at : Callee P w K mg base 2 "_law_at" ["_law_script", "_law_k"] (spAt K)) (C__law_state : Callee P w K mg base 1 "_law_state" ["_law_seed"] (spState K)) (C_ring : Callee P w K mg base 5 "ring" ["net", "state", "coming"] (spRing K)) (C__law_least : Callee P w K mg base 2 "_law_least" ["_law_net_here", "_law_state_here", "_law_coming"] (spLeast K)) : FnOk P w K mg base CX0 20 f fd ["_law_script"] (spLaw K) := by
  refine F.ok sc_law (fun vs H Q E h => ?_) (fun cdv A outer s H vs Q E hr h => ?_)
  · obtain ⟨a, ns, rfl, _⟩ := h; rfl
  obtain ⟨a, ns, rfl, hS, h63, q⟩ := h
  refine ⟨_, (pss_cons (ps_set (i := 1) sc_law.nd rfl (Or.inl rfl) (pe_callC C__law_net hr rfl pass0 (pa_cons (pv 0) pa_nil)))
    (pss_cons (ps_set (i := 2) sc_law.nd rfl (Or.inr rfl) (pe_op op_fdiv (pe_callC C__law_at hr rfl pass0 (pa_cons (pv 0) (pa_cons (pe_op op_fdiv (pe_callB call_lenK rfl T.n_len PySem.boot_len (pa_cons (pv 0) pa_nil)) pe_int) pa_nil))) pe_int))
    (pss_cons (ps_set (i := 3) sc_law.nd rfl (Or.inl rfl) (pe_callC C__law_state hr rfl pass0 (pa_cons (pv 2) pa_nil)))
    (pss_cons (ps_setComp (j := 4) (g := (gName 0)) (tc := (tTest (tOp rEq (tOp (rI (fun _ j => 0 < j) fun i j => .int (i % j)) (tOp (rI CDiv fun i j => .int (i / j)) (tOp (rI CDiv fun i j => .int (i / j)) (tVar 1) (tC (.int 200))) (tOp (rI CPow fun i j => .int (i * 2 ^ j.toNat)) (tC (.int 1)) (tVar 0))) (tC (.int 2))) (tC (.int 1))))) (te := (tVar 0)) ["_law_sign"] [("_law_seed", 2)] sc_law.nd rfl (Or.inl rfl) rfl (compOk (defScope s_law) ["_law_script", "_law_net_here", "_law_seed", "_law_state_here", "_law_coming", "_law_known", "_law_found", "_law_k"] (by decide +kernel)) (pi_range1 rfl T.n_range (pa_cons pe_int pa_nil)) (fun s2 H2 fp cl C => pg_name (i := 0) (show List.Nodup [("_law_sign" : Str), ("_law_seed" : Str)] from by decide +kernel) rfl (Or.inl rfl)) (gkeep_name (by decide)) (fun s2 H2 fp cl C => pif_one (pt_cmpR op_eq (pe_op op_mod (pe_op op_fdiv (pe_op op_fdiv (pv 1) pe_int) (pe_op op_shl pe_int (pv 0))) pe_int) pe_int (nomark _))) (fun s2 H2 fp cl C => (pv 0)))
    (pss_cons (ps_set (i := 5) sc_law.nd rfl (Or.inl rfl) (pe_callC C__law_least hr rfl pass0 (pa_cons (pv 1) (pa_cons (pv 3) (pa_cons (pv 4) pa_nil)))))
    (pss_cons (ps_set (i := 6) sc_law.nd rfl (Or.inl rfl) (pe_callC C_ring hr rfl pass0 (pa_cons (pv 1) (pa_cons (pv 3) (pa_cons (pe_callTy call_list_of rfl T.n_list (by decide +kernel) (pa_cons (pv 4) pa_nil)) pa_nil)))))
    (pss_cons (ps_if (pt_cmpR op_notIn_seq pe_non (pv 5) (by rfl))
      (pss_one (ps_ret (pe_cmpR op_isN (pv 6) pe_non (nomark _))))
      pss_nil)
    (pss_cons (ps_if (PW.pt (pw_or (pt_not (pt_val (pe_callB call_isinstK rfl T.n_isinstance PyProof.Rows.boot_isinstance (pa_cons (pv 6) (pa_cons (pe_bltn rfl T.n_list (by decide +kernel) (v := .ty "list") rfl) pa_nil))))) (pw_or (pt_cmpR op_eq (pe_callB call_lenK rfl T.n_len PySem.boot_len (pa_cons (pv 6) pa_nil)) pe_int (nomark _)) (pw_or1 (pt_cmpR op_ne (pe_lset rfl rfl T.n_len rfl T.n_set (pv 6)) (pe_callB call_lenK rfl T.n_len PySem.boot_len (pa_cons (pv 6) pa_nil)) (nomark _))))))
      (pss_one (ps_ret pe_bl))
      pss_nil)
    (pss_cons (ps_for PassesOwn.never rfl (pi_range1 rfl T.n_range (pa_cons (pe_callB call_lenK rfl T.n_len PySem.boot_len (pa_cons (pv 6) pa_nil)) pa_nil)) (pg_name (i := 7) sc_law.nd rfl (Or.inl rfl))
      (pss_one (ps_if (PW.pt (pw_or (pt_not (pt_val (pe_callB call_isinstK rfl T.n_isinstance PyProof.Rows.boot_isinstance (pa_cons (pe_ix ix_list (pv 6) (pv 7) (fun _ _ => rfl)) (pa_cons (pe_bltn rfl T.n_int (by decide +kernel) (v := .ty "int") rfl) pa_nil))))) (pw_or (pt_val (pe_callB call_isinstK rfl T.n_isinstance PyProof.Rows.boot_isinstance (pa_cons (pe_ix ix_list (pv 6) (pv 7) (fun _ _ => rfl)) (pa_cons (pe_bltn rfl T.n_bool (by decide +kernel) (v := .ty "bool") rfl) pa_nil)))) (pw_or1 (pt_not (pt_chain op_le op_lt pe_int (pe_ix ix_list (pv 6) (pv 7) (fun _ _ => rfl)) (pe_callB call_lenK rfl T.n_len PySem.boot_len (pa_cons (pv 5) pa_nil))))))))
      (pss_one (ps_ret pe_bl))
      pss_nil)))
    (pss_cons (ps_for PassesOwn.never rfl (pi_range1 rfl T.n_range (pa_cons (pe_callB call_lenK rfl T.n_len PySem.boot_len (pa_cons (pv 6) pa_nil)) pa_nil)) (pg_name (i := 7) sc_law.nd rfl (Or.inl rfl))
      (pss_one (ps_if (PW.pt (pw_or (pt_cmpR op_notN (pe_ix ix_list (pv 5) (pe_ix ix_list (pv 6) (pv 7) (fun _ _ => rfl)) (fun _ _ => rfl)) pe_non (nomark _)) (pw_or1 (pt_cmpR op_notIn_seq (pe_ix ix_list (pv 6) (pv 7) (fun _ _ => rfl)) (pe_ix ix_tup (pe_ix ix_list (pe_ix ix_tup (pv 1) pe_int (fun _ _ => rfl)) (pe_ix ix_list (pv 6) (pe_op op_sub (pv 7) pe_int) (fun _ _ => rfl)) (fun _ _ => rfl)) pe_int (fun _ _ => rfl)) (by rfl)))))
      (pss_one (ps_ret pe_bl))
      pss_nil)))
    (pss_one (ps_ret pe_bl)))))))))))), ?_⟩
  refine ⟨_, rfl, a, ns, rfl, hS, fun nt gl z1 t2 z3 gs vs H1 N => ?_⟩
  obtain ⟨g1, hnt, hv, lv, pr, sm, w9⟩ := N
  refine ⟨_, rfl, _, rfl, a, _, rfl, .inl (g1.seq hS), _, _, rfl, rfl, ⟨by decide, by decide⟩, a, ns, _, rfl, g1.seq hS, Int.ediv_nonneg (by omega) (by decide), fun m hm => ⟨_, _, rfl, rfl, ⟨by decide, by decide⟩, ?_⟩⟩
  refine ⟨_, rfl, m / 11, rfl, fun sv H2 g2 hst => ?_⟩
  refine ⟨_, rfl, by decide, by decide, ?_⟩
  refine comp_range (n := 3) (fun i ys H' => H' = H2 ∧ ys = (bitL (m / 11 / 200) i).map V.int) ⟨rfl, rfl⟩ (small (by decide)) ?_ ?_
  · rintro i ys H' N hi ⟨rfl, rfl⟩ hN hyl
    have pw := pw13 i (Nat.lt_trans hi (by decide))
    have e0 : (0 + (i : Int)).toNat = i := by omega
    refine ⟨_, rfl, _, _, rfl, rfl, ⟨by decide, by decide⟩, _, rfl, _, _, rfl, rfl, ⟨by omega, by omega, by decide⟩, _, _, rfl, rfl, (by rw [e0]; exact pw), _, _, rfl, rfl, (by show (0 : Int) < 2; decide), rfl, _, rfl, ?_⟩
    rw [e0]
    refine ite2 (fun c => ?_) (fun c => ?_)
    · have c : m / 11 / 200 / (1 * 2 ^ i) % 2 = 1 := V.int.inj (of_decide_eq_true c)
      refine ⟨_, rfl, hN _ _ (by rw [List.length_append, List.length_singleton]; exact Nat.succ_le_succ hyl) ⟨rfl, ?_⟩⟩
      rw [bitL_succ, if_pos c, List.map_append, Int.zero_add]; rfl
    · have c : ¬ m / 11 / 200 / (1 * 2 ^ i) % 2 = 1 := fun z => c (decide_eq_true (congrArg V.int z))
      exact hN _ _ (Nat.le_succ_of_le hyl) ⟨rfl, by rw [bitL_succ, if_neg c, List.append_nil]⟩
  rintro ys H' hyl ⟨rfl, rfl⟩ cl hcl
  have k3 := same_new hcl (.lst ((bitL (m / 11 / 200) 3).map V.int))
  have ecl := upd_same (H := H') (a := cl) (o := .lst ((bitL (m / 11 / 200) 3).map V.int))
  have lco : (bitL (m / 11 / 200) 3).length ≤ 900 := Nat.le_trans (bitL_len _ _) (by decide)
  generalize bitL (m / 11 / 200) 3 = co at k3 ecl lco
  generalize (upd H' cl (.lst (co.map V.int))) = H3 at k3 ecl
  have g13 := g2.trans k3
  have lsf := stF_len (m / 11)
  have hst3 := stG_same k3 hst
  generalize stF (m / 11) = st at lsf hst3
  have net : ∀ Hx, Same H3 Hx → NetAt K Hx nt gs := fun Hx gx => ⟨gl, _, vs, SqT.of (gx _ _ (g13 _ _ hnt)), ⟨vs, SqL.of (gx _ _ (g13 _ _ hv)), lv, fun i v G e1 e2 => (pr i v G e1 e2).same (g13.trans gx)⟩, gx _ _ (g13 _ _ hv), sm⟩
  refine ⟨_, rfl, _, rfl, _, rfl, nt, cl, sv, gs, st, co, rfl, net _ (Same.refl _), ⟨hst3, lsf, SqL.of ecl, lco⟩, w9, fun kl H4 V4 => ?_⟩
  obtain ⟨k, g4, hk4, lk, d4, c4⟩ := V4
  refine ⟨_, rfl, _, rfl, _, rfl, cl, _, rfl, .inl (SqL.of (g4 _ _ ecl)), fun cl2 hcl2 => ?_⟩
  have k5 := same_new hcl2 (.lst (co.map V.int))
  have ecl2 := upd_same (H := H4) (a := cl2) (o := .lst (co.map V.int))
  generalize (upd H4 cl2 (.lst (co.map V.int))) = H5 at k5 ecl2
  have g35 := g4.trans k5
  refine ⟨nt, cl2, sv, gs, st, co, rfl, net _ g35, ⟨stG_same g35 hst3, lsf, SqL.of ecl2, lco⟩, w9, fun fv H6 R6 => ?_⟩
  obtain ⟨k', g6, lk', d6, c6, hor⟩ := R6
  have ek : k' = k := knL_inj (by rw [lk, lk']) (d6.unique d4 c6 c4)
  subst ek
  have hk6 := (k5.trans g6) _ _ hk4
  have hnt6 := (g13.trans (g35.trans g6)) _ _ hnt
  have hv6 := (g13.trans (g35.trans g6)) _ _ hv
  have pr6 : ∀ (j : Nat) v G, vs[j]? = some v → gs[j]? = some G → GtAt K H6 G v := fun j v G e1 e2 => (pr j v G e1 e2).same (g13.trans (g35.trans g6))
  have l60 := sm.len
  clear g1 g2 g13 g35 g4 g6 k3 k5 hst hst3 ecl ecl2 net pr hnt hv hcl hcl2 hk4 d4 d6 c4 c6
  refine ⟨_, rfl, kl, _, rfl, .inl (SqL.of hk6), rfl, flat_vO k', _, rfl, ?_⟩
  rw [if_pos rfl, in_none]
  rcases hor with ⟨c0, rfl⟩ | ⟨c0, fa, r, rfl, hfa, rg⟩
  · rw [decide_eq_false c0]
    refine iteT ⟨_, rfl, rfl, ?_⟩
    rw [decide_eq_true rfl]
    exact q _
  rw [decide_eq_true c0]
  refine iteF ?_
  have rl : r.length ≤ gs.length := nd_len _ _ rg.nd fun x hx => (rg.bd x hx).1
  have rne := rg.ne
  have er : (r.map fun (n : Nat) => V.int n) = (r.map fun (n : Nat) => (n : Int)).map V.int := by rw [List.map_map]; rfl
  have ndI : (r.map fun (n : Nat) => (n : Int)).Nodup := List.Pairwise.map _ (fun a b h e => h (Int.ofNat.inj e)) rg.nd
  have lr : (r.map fun (n : Nat) => V.int n).length = r.length := List.length_map _
  refine ⟨_, rfl, _, _, _, _, rfl, .inl (.lst hfa), rfl, true, rfl, iteF ⟨_, rfl, fa, _, rfl, .inl (SqL.of hfa), rfl, _, rfl, iteDF (fun z => by have z := V.int.inj z; rw [lr] at z; omega) ⟨_, rfl, fa, (r.map fun (n : Nat) => (n : Int)), rfl, (by rw [← er]; exact SqL.of hfa), ndI, by rw [List.length_map]; omega, _, rfl, fa, _, rfl, .inl (SqL.of hfa), rfl, _, rfl, iteND (by rw [List.length_map, lr]) ?_⟩⟩⟩
  have at' : ∀ (j x : Nat), r[j]? = some x → (r.map fun (n : Nat) => V.int n)[j]? = some (.int (x : Nat)) := fun j x e => by rw [List.getElem?_map, e]; rfl
  refine ⟨_, rfl, fa, _, rfl, .inl (SqL.of hfa), _, rfl, by rw [lr]; omega, by rw [lr]; omega, ?_⟩
  rw [show ((((r.map fun (n : Nat) => V.int n).length : Nat) : Int)).toNat = r.length by rw [lr, Int.toNat_natCast]]
  refine for_range (n := r.length) (fun i σ H' => Ex1 fun (x7 : Option V) => An2 (σ = [some (.ref a), some (.ref nt), some (.int (m / 11)), some sv, some (.ref cl), some (.ref kl), some (.ref fa), x7]) (H' = H6)) ⟨none, rfl, rfl⟩ ?_ ?_
  · rintro i σ H7 hi ⟨x7, rfl, rfl⟩
    obtain ⟨x, ex⟩ : ∃ x, r[i]? = some x := ⟨_, List.getElem?_eq_getElem hi⟩
    have ax : atI (r.map fun (n : Nat) => V.int n) (0 + (i : Int)) = some (.int (x : Nat)) := by rw [Int.zero_add]; exact atI_nat (at' i x ex)
    have xb := (rg.bd x (List.mem_of_getElem? ex)).1
    refine ⟨_, rfl, _, rfl, fa, _, _, _, rfl, rfl, SqL.of hfa, ax, _, _, _, _, rfl, .inl (.int (x : Nat)), rfl, true, rfl, iteF ⟨_, rfl, _, rfl, fa, _, _, _, rfl, rfl, SqL.of hfa, ax, _, _, _, _, rfl, .inl (.int (x : Nat)), rfl, false, rfl, iteF ?_⟩⟩
    exact ⟨_, rfl, _, rfl, fa, _, _, _, rfl, rfl, SqL.of hfa, ax, _, _, rfl, rfl, _, rfl, iteDT (by omega) ⟨_, rfl, kl, _, rfl, .inl (SqL.of hk6), _, _, rfl, rfl, _, rfl, iteND (by rw [List.length_map]; omega) ⟨_, rfl, rfl⟩⟩⟩
  rintro σ H7 ⟨x7, rfl, rfl⟩
  refine ⟨_, rfl, fa, _, rfl, .inl (SqL.of hfa), _, rfl, by rw [lr]; omega, by rw [lr]; omega, ?_⟩
  rw [show ((((r.map fun (n : Nat) => V.int n).length : Nat) : Int)).toNat = r.length by rw [lr, Int.toNat_natCast]]
  refine for_range (n := r.length) (fun i σ H' => Ex1 fun (x7 : Option V) => An2 (σ = [some (.ref a), some (.ref nt), some (.int (m / 11)), some sv, some (.ref cl), some (.ref kl), some (.ref fa), x7]) (H' = H7)) ⟨_, rfl, rfl⟩ ?_ ?_
  · rintro i σ H8 hi ⟨x8, rfl, rfl⟩
    obtain ⟨x, ex⟩ : ∃ x, r[i]? = some x := ⟨_, List.getElem?_eq_getElem hi⟩
    have ax : atI (r.map fun (n : Nat) => V.int n) (0 + (i : Int)) = some (.int (x : Nat)) := by rw [Int.zero_add]; exact atI_nat (at' i x ex)
    obtain ⟨xb, xn⟩ := rg.bd x (List.mem_of_getElem? ex)
    obtain ⟨p, ep, hp⟩ := rg.cy i x ex
    obtain ⟨pb, pn⟩ := rg.bd p (List.mem_of_getElem? ep)
    have ap : atI (r.map fun (n : Nat) => V.int n) (0 + (i : Int) - 1) = some (.int (p : Nat)) := by
      by_cases c : i = 0
      · subst c
        rw [if_pos rfl] at ep
        exact atI_neg1 (by rw [lr]; exact at' _ _ ep)
      · rw [if_neg c] at ep
        rw [show 0 + (i : Int) - 1 = ((i - 1 : Nat) : Int) by omega]
        exact atI_nat (at' _ _ ep)
    obtain ⟨G, hG⟩ : ∃ G, gs[p]? = some G := ⟨_, List.getElem?_eq_getElem pb⟩
    obtain ⟨gv, egv⟩ : ∃ gv, vs[p]? = some gv := ⟨_, List.getElem?_eq_getElem (by omega)⟩
    obtain ⟨ga, gb, rfl, h1, h2⟩ := pr6 p gv G egv hG
    have hna : numsAt gs p = G.nums := by unfold numsAt; rw [hG]; rfl
    rw [hna] at hp
    rw [nm_args (isNm_of hp)] at h2
    have ekx : (k'.map vO)[x]? = some V.non := by
      have : k'[x]? = some none := by unfold knL at xn; rw [List.getElem?_eq_getElem (by omega)] at xn ⊢; exact congrArg some xn
      rw [List.getElem?_map, this]; rfl
    refine ⟨_, rfl, _, rfl, _, rfl, fa, _, _, _, rfl, rfl, SqL.of hfa, ax, kl, _, _, _, rfl, rfl, SqL.of hk6, atI_nat ekx, rfl, _, rfl, ?_⟩
    rw [decide_eq_true rfl]
    refine iteF ⟨_, rfl, _, rfl, fa, _, _, _, rfl, rfl, SqL.of hfa, ax, rdx (j := 0) hnt6 rfl rfl ⟨_, rfl, _, rfl, _, _, rfl, rfl, fa, _, _, _, rfl, rfl, SqL.of hfa, ap, gl, _, _, _, rfl, rfl, SqL.of hv6, atI_nat egv, ga, _, _, _, rfl, rfl, h1, atI_nat (j := 1) rfl, gb, _, rfl, .inr h2, rfl, flat_ints _, _, rfl, ?_⟩⟩
    rw [if_pos rfl, inV_ints, decide_eq_true (show ((x : Nat) : Int) ∈ G.nums.map Int.ofNat from List.mem_map.mpr ⟨x, hp, rfl⟩)]
    exact iteF ⟨_, rfl, rfl⟩
  · rintro σ H8 ⟨x8, rfl, rfl⟩
    exact q _
end

end My
end

section
set_option Elab.async false
set_option linter.all false
set_option maxRecDepth 100000
set_option maxHeartbeats 4000000
namespace My
open PySem L2
theorem len_1 {α : Type} {Q : List α → Prop} (h : ∀ x0, Q [x0]) : ∀ us : List α, us.length = 1 → Q us
  | [x0], _ => h x0
theorem len_2 {α : Type} {Q : List α → Prop} (h : ∀ x0 x1, Q [x0, x1]) : ∀ us : List α, us.length = 2 → Q us
  | [x0, x1], _ => h x0 x1
theorem len_3 {α : Type} {Q : List α → Prop} (h : ∀ x0 x1 x2, Q [x0, x1, x2]) : ∀ us : List α, us.length = 3 → Q us
  | [x0, x1, x2], _ => h x0 x1 x2
theorem len_4 {α : Type} {Q : List α → Prop} (h : ∀ x0 x1 x2 x3, Q [x0, x1, x2, x3]) : ∀ us : List α, us.length = 4 → Q us
  | [x0, x1, x2, x3], _ => h x0 x1 x2 x3
theorem all_mk {l : PySem.W.OpenLaw} {w : World} {K : PySem.W.Frag} {h : Heap} {mg : Str → Option Value} {fa f0 f1 f2 f3 f4 f5 f6 f7 f8 f9 f10 C h0 h1 h2 h3 a_NAMING_GATES : Addr} (X : K.In h) (G : h.Ns mainGlobals mg) (hfa : mg "law" = some (.ref fa))
    {od0 an0 : Option Addr} {sl0 : Array (Option Value)} {oc0 kV0 dc0 pm0 cd0 ct0 : Value}
    {od1 an1 : Option Addr} {sl1 : Array (Option Value)} {oc1 kV1 dc1 pm1 cd1 ct1 : Value}
    {od2 an2 : Option Addr} {sl2 : Array (Option Value)} {oc2 kV2 dc2 pm2 cd2 ct2 : Value}
    {od3 an3 : Option Addr} {sl3 : Array (Option Value)} {oc3 kV3 dc3 pm3 cd3 ct3 : Value}
    {od4 an4 : Option Addr} {sl4 : Array (Option Value)} {oc4 kV4 dc4 pm4 cd4 ct4 : Value}
    {od5 an5 : Option Addr} {sl5 : Array (Option Value)} {oc5 kV5 dc5 pm5 cd5 ct5 : Value}
    {od6 an6 : Option Addr} {sl6 : Array (Option Value)} {oc6 kV6 dc6 pm6 cd6 ct6 : Value}
    {od7 an7 : Option Addr} {sl7 : Array (Option Value)} {oc7 kV7 dc7 pm7 cd7 ct7 : Value}
    {od8 an8 : Option Addr} {sl8 : Array (Option Value)} {oc8 kV8 dc8 pm8 cd8 ct8 : Value}
    {od9 an9 : Option Addr} {sl9 : Array (Option Value)} {oc9 kV9 dc9 pm9 cd9 ct9 : Value}
    {od10 an10 : Option Addr} {sl10 : Array (Option Value)} {oc10 kV10 dc10 pm10 cd10 ct10 : Value}
    {mod0 man0 : Option Addr} {msl0 : Array (Option Value)} {moc0 mkV0 mdc0 mpm0 mcd0 mct0 : Value}
    {mod1 man1 : Option Addr} {msl1 : Array (Option Value)} {moc1 mkV1 mdc1 mpm1 mcd1 mct1 : Value}
    {mod2 man2 : Option Addr} {msl2 : Array (Option Value)} {moc2 mkV2 mdc2 mpm2 mcd2 mct2 : Value}
    {mod3 man3 : Option Addr} {msl3 : Array (Option Value)} {moc3 mkV3 mdc3 mpm3 mcd3 mct3 : Value}
    {od_NAMING_GATES : Option Addr} {it_NAMING_GATES : Array Value} {n_NAMING_GATES : Nat} {sl_NAMING_GATES : Array (Option Value)}
    (a0 : PySem.W.nsIn K mainGlobals "ring" = some (some (.ref f0))) (l0 : K.lookup f0 = some ⟨oc0, od0, .func (PySem.W.fnOf "ring" "ring" (defArgs s_ring) (defBody s_ring) (defScope s_ring) .none kV0 dc0 pm0 an0 cd0 ct0), sl0⟩) (c0 : PySem.W.codeIn K cd0 "ring" = true) (k0 : PySem.W.keepIn K (.ref f0) = true)
    (a1 : PySem.W.nsIn K mainGlobals "gates_settled" = some (some (.ref f1))) (l1 : K.lookup f1 = some ⟨oc1, od1, .func (PySem.W.fnOf "gates_settled" "gates_settled" (defArgs s_gates_settled) (defBody s_gates_settled) (defScope s_gates_settled) .none kV1 dc1 pm1 an1 cd1 ct1), sl1⟩) (c1 : PySem.W.codeIn K cd1 "gates_settled" = true) (k1 : PySem.W.keepIn K (.ref f1) = true)
    (a2 : PySem.W.nsIn K mainGlobals "value_at_first" = some (some (.ref f2))) (l2 : K.lookup f2 = some ⟨oc2, od2, .func (PySem.W.fnOf "value_at_first" "value_at_first" (defArgs s_value_at_first) (defBody s_value_at_first) (defScope s_value_at_first) .none kV2 dc2 pm2 an2 cd2 ct2), sl2⟩) (c2 : PySem.W.codeIn K cd2 "value_at_first" = true) (k2 : PySem.W.keepIn K (.ref f2) = true)
    (a3 : PySem.W.nsIn K mainGlobals "namers_of" = some (some (.ref f3))) (l3 : K.lookup f3 = some ⟨oc3, od3, .func (PySem.W.fnOf "namers_of" "namers_of" (defArgs s_namers_of) (defBody s_namers_of) (defScope s_namers_of) .none kV3 dc3 pm3 an3 cd3 ct3), sl3⟩) (c3 : PySem.W.codeIn K cd3 "namers_of" = true) (k3 : PySem.W.keepIn K (.ref f3) = true)
    (a4 : PySem.W.nsIn K mainGlobals "_law_mixed" = some (some (.ref f4))) (l4 : K.lookup f4 = some ⟨oc4, od4, .func (PySem.W.fnOf "_law_mixed" "_law_mixed" (defArgs s__law_mixed) (defBody s__law_mixed) (defScope s__law_mixed) .none kV4 dc4 pm4 an4 cd4 ct4), sl4⟩) (c4 : PySem.W.codeIn K cd4 "_law_mixed" = true) (k4 : PySem.W.keepIn K (.ref f4) = true)
    (a5 : PySem.W.nsIn K mainGlobals "_law_at" = some (some (.ref f5))) (l5 : K.lookup f5 = some ⟨oc5, od5, .func (PySem.W.fnOf "_law_at" "_law_at" (defArgs s__law_at) (defBody s__law_at) (defScope s__law_at) .none kV5 dc5 pm5 an5 cd5 ct5), sl5⟩) (c5 : PySem.W.codeIn K cd5 "_law_at" = true) (k5 : PySem.W.keepIn K (.ref f5) = true)
    (a6 : PySem.W.nsIn K mainGlobals "_law_net" = some (some (.ref f6))) (l6 : K.lookup f6 = some ⟨oc6, od6, .func (PySem.W.fnOf "_law_net" "_law_net" (defArgs s__law_net) (defBody s__law_net) (defScope s__law_net) .none kV6 dc6 pm6 an6 cd6 ct6), sl6⟩) (c6 : PySem.W.codeIn K cd6 "_law_net" = true) (k6 : PySem.W.keepIn K (.ref f6) = true)
    (a7 : PySem.W.nsIn K mainGlobals "_law_state" = some (some (.ref f7))) (l7 : K.lookup f7 = some ⟨oc7, od7, .func (PySem.W.fnOf "_law_state" "_law_state" (defArgs s__law_state) (defBody s__law_state) (defScope s__law_state) .none kV7 dc7 pm7 an7 cd7 ct7), sl7⟩) (c7 : PySem.W.codeIn K cd7 "_law_state" = true) (k7 : PySem.W.keepIn K (.ref f7) = true)
    (a8 : PySem.W.nsIn K mainGlobals "_law_value" = some (some (.ref f8))) (l8 : K.lookup f8 = some ⟨oc8, od8, .func (PySem.W.fnOf "_law_value" "_law_value" (defArgs s__law_value) (defBody s__law_value) (defScope s__law_value) .none kV8 dc8 pm8 an8 cd8 ct8), sl8⟩) (c8 : PySem.W.codeIn K cd8 "_law_value" = true) (k8 : PySem.W.keepIn K (.ref f8) = true)
    (a9 : PySem.W.nsIn K mainGlobals "_law_least" = some (some (.ref f9))) (l9 : K.lookup f9 = some ⟨oc9, od9, .func (PySem.W.fnOf "_law_least" "_law_least" (defArgs s__law_least) (defBody s__law_least) (defScope s__law_least) .none kV9 dc9 pm9 an9 cd9 ct9), sl9⟩) (c9 : PySem.W.codeIn K cd9 "_law_least" = true) (k9 : PySem.W.keepIn K (.ref f9) = true)
    (a10 : PySem.W.nsIn K mainGlobals "law" = some (some (.ref f10))) (l10 : K.lookup f10 = some ⟨oc10, od10, .func (PySem.W.fnOf "law" "law" (defArgs s_law) (defBody s_law) (defScope s_law) .none kV10 dc10 pm10 an10 cd10 ct10), sl10⟩) (c10 : PySem.W.codeIn K cd10 "law" = true) (k10 : PySem.W.keepIn K (.ref f10) = true)
    (aC : PySem.W.nsIn K mainGlobals "Settler" = some (some (.ref C)))
    (ma0 : PySem.W.findIn K (.ref C) "__init__" = some (some (.ref h0))) (mi0 : PySem.W.isFn K (.ref h0) = true) (ml0 : K.lookup h0 = some ⟨moc0, mod0, .func (PySem.W.fnOf "__init__" "Settler.__init__" (defArgs s_m_init) (defBody s_m_init) (defScope s_m_init) .none mkV0 mdc0 mpm0 man0 mcd0 mct0), msl0⟩) (mc0 : PySem.W.codeIn K mcd0 "Settler.__init__" = true) (mk0 : PySem.W.keepIn K (.ref h0) = true)
    (ma1 : PySem.W.findIn K (.ref C) "learn" = some (some (.ref h1))) (mi1 : PySem.W.isFn K (.ref h1) = true) (ml1 : K.lookup h1 = some ⟨moc1, mod1, .func (PySem.W.fnOf "learn" "Settler.learn" (defArgs s_learn) (defBody s_learn) (defScope s_learn) .none mkV1 mdc1 mpm1 man1 mcd1 mct1), msl1⟩) (mc1 : PySem.W.codeIn K mcd1 "Settler.learn" = true) (mk1 : PySem.W.keepIn K (.ref h1) = true)
    (ma2 : PySem.W.findIn K (.ref C) "hand_on" = some (some (.ref h2))) (mi2 : PySem.W.isFn K (.ref h2) = true) (ml2 : K.lookup h2 = some ⟨moc2, mod2, .func (PySem.W.fnOf "hand_on" "Settler.hand_on" (defArgs s_hand_on) (defBody s_hand_on) (defScope s_hand_on) .none mkV2 mdc2 mpm2 man2 mcd2 mct2), msl2⟩) (mc2 : PySem.W.codeIn K mcd2 "Settler.hand_on" = true) (mk2 : PySem.W.keepIn K (.ref h2) = true)
    (ma3 : PySem.W.findIn K (.ref C) "hear" = some (some (.ref h3))) (mi3 : PySem.W.isFn K (.ref h3) = true) (ml3 : K.lookup h3 = some ⟨moc3, mod3, .func (PySem.W.fnOf "hear" "Settler.hear" (defArgs s_hear) (defBody s_hear) (defScope s_hear) .none mkV3 mdc3 mpm3 man3 mcd3 mct3), msl3⟩) (mc3 : PySem.W.codeIn K mcd3 "Settler.hear" = true) (mk3 : PySem.W.keepIn K (.ref h3) = true)
    (pg : PySem.W.plainGet K C Str.empty = true) (hd : PySem.W.hasDictIn K C = true) (po : PySem.W.plainOver K C = true) (sa : PySem.W.findIn K (.ref C) "__setattr__" = some (some (.builtin "object.__setattr__"))) (mk : PySem.W.makesIn K C = true) (kc : PySem.W.keepIn K (.ref C) = true)
    (nA_gates : PySem.W.findIn K (.ref C) "gates" = some none)
    (nA_known : PySem.W.findIn K (.ref C) "known" = some none)
    (nA_order : PySem.W.findIn K (.ref C) "order" = some none)
    (nA_namers : PySem.W.findIn K (.ref C) "namers" = some none)
    (nA_unheard : PySem.W.findIn K (.ref C) "unheard" = some none)
    (ca_NAMING_GATES : PySem.W.nsIn K mainGlobals "NAMING_GATES" = some (some (.ref a_NAMING_GATES))) (cl_NAMING_GATES : K.lookup a_NAMING_GATES = some ⟨Value.type "tuple", od_NAMING_GATES, .seq it_NAMING_GATES n_NAMING_GATES, sl_NAMING_GATES⟩) (cs_NAMING_GATES : it_NAMING_GATES.size ≤ sizeLine) (cv_NAMING_GATES : Vals [V.str "not", V.str "all", V.str "some"] it_NAMING_GATES.toList)
    (z_bool : PySem.W.nsIn K mainGlobals "bool" = some none)
    (z_dict : PySem.W.nsIn K mainGlobals "dict" = some none)
    (z_enumerate : PySem.W.nsIn K mainGlobals "enumerate" = some none)
    (z_int : PySem.W.nsIn K mainGlobals "int" = some none)
    (z_isinstance : PySem.W.nsIn K mainGlobals "isinstance" = some none)
    (z_len : PySem.W.nsIn K mainGlobals "len" = some none)
    (z_list : PySem.W.nsIn K mainGlobals "list" = some none)
    (z_max : PySem.W.nsIn K mainGlobals "max" = some none)
    (z_min : PySem.W.nsIn K mainGlobals "min" = some none)
    (z_range : PySem.W.nsIn K mainGlobals "range" = some none)
    (z_set : PySem.W.nsIn K mainGlobals "set" = some none)
    (z_tuple : PySem.W.nsIn K mainGlobals "tuple" = some none)
    : ∃ fd : FuncData, (∀ (s : Shared) (v : Value), BindsTo s fd ⟨[v], []⟩ [("_law_script", v)]) ∧ ∀ base : Heap, K.In base → base.Ns mainGlobals mg → FnOk l.prog w K mg base CX0 20 fa fd ["_law_script"] (spLaw K) := by
  have e := hfa.symm.trans (PySem.W.mg_of X G a10)
  cases e
  have T : Txt mg := ⟨PySem.W.mg_none_of X G z_bool, PySem.W.mg_none_of X G z_dict, PySem.W.mg_none_of X G z_enumerate, PySem.W.mg_none_of X G z_int, PySem.W.mg_none_of X G z_isinstance, PySem.W.mg_none_of X G z_len, PySem.W.mg_none_of X G z_list, PySem.W.mg_none_of X G z_max, PySem.W.mg_none_of X G z_min, PySem.W.mg_none_of X G z_range, PySem.W.mg_none_of X G z_set, PySem.W.mg_none_of X G z_tuple⟩
  have Cl : Cls K C := ⟨pg, hd, po, sa⟩
  have mC := PySem.W.mg_of X G aC
  have cm_NAMING_GATES := PySem.W.mg_of X G ca_NAMING_GATES
  have cst_NAMING_GATES : ModT K a_NAMING_GATES [V.str "not", V.str "all", V.str "some"] := ⟨_, _, _, cl_NAMING_GATES, rfl, rfl, cs_NAMING_GATES, cv_NAMING_GATES⟩
  have Fm_init := fun_mk (st := s_m_init) ml0 mc0 mk0
  have bm_init := Fm_init.binds (ps := ["self", "gates"]) fun _ _ _ _ _ _ us hl => len_2 (Q := fun us => bindArgs _ ⟨us, []⟩ = pure (List.zip _ us)) (fun _ _ => rfl) us hl
  have MkC : Mk K C h0 := ⟨mk, ma0, mi0, kc⟩
  have Fm_learn := fun_mk (st := s_learn) ml1 mc1 mk1
  have bm_learn := Fm_learn.binds (ps := ["self", "gate", "value"]) fun _ _ _ _ _ _ us hl => len_3 (Q := fun us => bindArgs _ ⟨us, []⟩ = pure (List.zip _ us)) (fun _ _ _ => rfl) us hl
  have mm_learn : Meth K C "learn" h1 := ⟨ma1, mi1, mk1⟩
  have Fm_hand_on := fun_mk (st := s_hand_on) ml2 mc2 mk2
  have bm_hand_on := Fm_hand_on.binds (ps := ["self", "step"]) fun _ _ _ _ _ _ us hl => len_2 (Q := fun us => bindArgs _ ⟨us, []⟩ = pure (List.zip _ us)) (fun _ _ => rfl) us hl
  have mm_hand_on : Meth K C "hand_on" h2 := ⟨ma2, mi2, mk2⟩
  have Fm_hear := fun_mk (st := s_hear) ml3 mc3 mk3
  have bm_hear := Fm_hear.binds (ps := ["self", "gate", "value"]) fun _ _ _ _ _ _ us hl => len_3 (Q := fun us => bindArgs _ ⟨us, []⟩ = pure (List.zip _ us)) (fun _ _ _ => rfl) us hl
  have mm_hear : Meth K C "hear" h3 := ⟨ma3, mi3, mk3⟩
  have F_ring : FunM K mg "ring" ["net", "state", "coming"] s_ring := ⟨_, _, fun_mk (st := s_ring) l0 c0 k0, PySem.W.mg_of X G a0, (fun_mk (st := s_ring) l0 c0 k0).binds (ps := ["net", "state", "coming"]) fun _ _ _ _ _ _ us hl => len_3 (Q := fun us => bindArgs _ ⟨us, []⟩ = pure (List.zip _ us)) (fun _ _ _ => rfl) us hl⟩
  have F_gates_settled : FunM K mg "gates_settled" ["net", "state", "coming"] s_gates_settled := ⟨_, _, fun_mk (st := s_gates_settled) l1 c1 k1, PySem.W.mg_of X G a1, (fun_mk (st := s_gates_settled) l1 c1 k1).binds (ps := ["net", "state", "coming"]) fun _ _ _ _ _ _ us hl => len_3 (Q := fun us => bindArgs _ ⟨us, []⟩ = pure (List.zip _ us)) (fun _ _ _ => rfl) us hl⟩
  have F_value_at_first : FunM K mg "value_at_first" ["gate", "starts", "rests", "signs"] s_value_at_first := ⟨_, _, fun_mk (st := s_value_at_first) l2 c2 k2, PySem.W.mg_of X G a2, (fun_mk (st := s_value_at_first) l2 c2 k2).binds (ps := ["gate", "starts", "rests", "signs"]) fun _ _ _ _ _ _ us hl => len_4 (Q := fun us => bindArgs _ ⟨us, []⟩ = pure (List.zip _ us)) (fun _ _ _ _ => rfl) us hl⟩
  have F_namers_of : FunM K mg "namers_of" ["gates"] s_namers_of := ⟨_, _, fun_mk (st := s_namers_of) l3 c3 k3, PySem.W.mg_of X G a3, (fun_mk (st := s_namers_of) l3 c3 k3).binds (ps := ["gates"]) fun _ _ _ _ _ _ us hl => len_1 (Q := fun us => bindArgs _ ⟨us, []⟩ = pure (List.zip _ us)) (fun _ => rfl) us hl⟩
  have F__law_mixed : FunM K mg "_law_mixed" ["_law_cell"] s__law_mixed := ⟨_, _, fun_mk (st := s__law_mixed) l4 c4 k4, PySem.W.mg_of X G a4, (fun_mk (st := s__law_mixed) l4 c4 k4).binds (ps := ["_law_cell"]) fun _ _ _ _ _ _ us hl => len_1 (Q := fun us => bindArgs _ ⟨us, []⟩ = pure (List.zip _ us)) (fun _ => rfl) us hl⟩
  have F__law_at : FunM K mg "_law_at" ["_law_script", "_law_k"] s__law_at := ⟨_, _, fun_mk (st := s__law_at) l5 c5 k5, PySem.W.mg_of X G a5, (fun_mk (st := s__law_at) l5 c5 k5).binds (ps := ["_law_script", "_law_k"]) fun _ _ _ _ _ _ us hl => len_2 (Q := fun us => bindArgs _ ⟨us, []⟩ = pure (List.zip _ us)) (fun _ _ => rfl) us hl⟩
  have F__law_net : FunM K mg "_law_net" ["_law_script"] s__law_net := ⟨_, _, fun_mk (st := s__law_net) l6 c6 k6, PySem.W.mg_of X G a6, (fun_mk (st := s__law_net) l6 c6 k6).binds (ps := ["_law_script"]) fun _ _ _ _ _ _ us hl => len_1 (Q := fun us => bindArgs _ ⟨us, []⟩ = pure (List.zip _ us)) (fun _ => rfl) us hl⟩
  have F__law_state : FunM K mg "_law_state" ["_law_seed"] s__law_state := ⟨_, _, fun_mk (st := s__law_state) l7 c7 k7, PySem.W.mg_of X G a7, (fun_mk (st := s__law_state) l7 c7 k7).binds (ps := ["_law_seed"]) fun _ _ _ _ _ _ us hl => len_1 (Q := fun us => bindArgs _ ⟨us, []⟩ = pure (List.zip _ us)) (fun _ => rfl) us hl⟩
  have F__law_value : FunM K mg "_law_value" ["_law_gate", "_law_state_here", "_law_coming", "_law_known"] s__law_value := ⟨_, _, fun_mk (st := s__law_value) l8 c8 k8, PySem.W.mg_of X G a8, (fun_mk (st := s__law_value) l8 c8 k8).binds (ps := ["_law_gate", "_law_state_here", "_law_coming", "_law_known"]) fun _ _ _ _ _ _ us hl => len_4 (Q := fun us => bindArgs _ ⟨us, []⟩ = pure (List.zip _ us)) (fun _ _ _ _ => rfl) us hl⟩
  have F__law_least : FunM K mg "_law_least" ["_law_net_here", "_law_state_here", "_law_coming"] s__law_least := ⟨_, _, fun_mk (st := s__law_least) l9 c9 k9, PySem.W.mg_of X G a9, (fun_mk (st := s__law_least) l9 c9 k9).binds (ps := ["_law_net_here", "_law_state_here", "_law_coming"]) fun _ _ _ _ _ _ us hl => len_3 (Q := fun us => bindArgs _ ⟨us, []⟩ = pure (List.zip _ us)) (fun _ _ _ => rfl) us hl⟩
  have F_law := fun_mk (st := s_law) l10 c10 k10
  refine ⟨PySem.W.fnOf "law" "law" (defArgs s_law) (defBody s_law) (defScope s_law) .none kV10 dc10 pm10 an10 cd10 ct10, fun s v => .of_eq rfl, fun base _ _ => ?_⟩
  have TP : TxtG K mg C a_NAMING_GATES := { toTxt := T, cl := Cl, nG := nA_gates, nK := nA_known, nO := nA_order, nN := nA_namers, nU := nA_unheard, m_Settler := mC, m_NAMING_GATES := cm_NAMING_GATES, r_NAMING_GATES := rfl, mN := cst_NAMING_GATES }
  have GI := ok_init (P := l.prog) (w := w) (base := base) Fm_init TP (ok_nms F_namers_of TP)
  have ML : MethM l.prog w K mg base 1 C "learn" ["self", "gate", "value"] (spLearn C) := ⟨_, _, ok_learn Fm_learn TP, bm_learn, mm_learn, Cl⟩
  have MH : MethM l.prog w K mg base 2 C "hear" ["self", "gate", "value"] (spHear K C) := ⟨_, _, ok_hear Fm_hear TP ML, bm_hear, mm_hear, Cl⟩
  have MO : MethM l.prog w K mg base 3 C "hand_on" ["self", "step"] (spHand K C) := ⟨_, _, ok_hand Fm_hand_on TP MH, bm_hand_on, mm_hand_on, Cl⟩
  have CV := ok_ring (P := l.prog) (w := w) (base := base) F_ring TP (ok_gst F_gates_settled TP MkC GI bm_init ML MO (ok_vaf F_value_at_first T))
  have CA := ok_at (P := l.prog) (w := w) (base := base) F__law_at T (ok_mixed F__law_mixed)
  exact ok_law F_law T (ok_net F__law_net T CA) CA (ok_state F__law_state T) CV (ok_least F__law_least T (ok_value F__law_value T))
theorem walk {l : PySem.W.OpenLaw} {q : Program} {loose : List Str} {XP : (Str → Option Value) → Heap → Prop} {YP : World → Heap → Prop} {d : DefRec} {K : Params → PySem.W.Frag} (hn : l.most = some 63) (hdf : d.params.defaults = [])
    (hY : ∀ (w : World) (h : Heap), YP w h → (K w.params).In h)
    (F : ∀ (w : World) (mg : Str → Option Value) (fa : Addr) (h : Heap), (K w.params).In h → h.Ns mainGlobals mg → mg d.name = some (.ref fa) →
      ∃ fd : FuncData, (∀ (s : Shared) (u : Value), BindsTo s fd ⟨[u], []⟩ [("_law_script", u)]) ∧ ∀ base : Heap, (K w.params).In base → base.Ns mainGlobals mg → FnOk l.prog w (K w.params) mg base CX0 20 fa fd ["_law_script"] (spLaw (K w.params))) :
    PySem.W.WalkO q loose XP YP l.row.toRowW d [] (fun f vs => PySem.call f vs) :=
  L2.walk_of (n := 63) (k := 20) (x := "_law_script") (CX := fun _ => CX0) (sp := fun w => spLaw (K w.params)) hn (by decide) hdf ⟨rfl, by decide, by decide⟩ hY F (fun _ _ a ns hl _ hS => ⟨a, ns, rfl, hS, hl, fun _ => rfl⟩) fun _ _ _ _ _ z => z
end My
end
open PySem PySem.W PyProof.Rows L2
def PySem.Challenge.cw_signalwise_k43_ring_holds.tw5210359314655126134 : PySem.Program := PySem.Challenge.pw_signalwise_k43_ring
theorem PySem.Challenge.cw_signalwise_k43_ring_holds.te5210359314655126134 : PySem.Challenge.pw_signalwise_k43_ring = PySem.Challenge.cw_signalwise_k43_ring_holds.tw5210359314655126134 := rfl
set_option maxRecDepth 100000 in
set_option maxHeartbeats 0 in
theorem PySem.Challenge.cw_signalwise_k43_ring_holds : PySem.Challenge.rw_signalwise_k43_ring.Holds := by
  w_on; o_law; k_head; (case hw => w_witness2)
  k_fill
  refine My.walk (l := PySem.Challenge.rw_signalwise_k43_ring) rfl rfl (fun w h Y => PySem.W.kIn_of Y) ?F
  case F =>
    intro w mg fa h KX G hmg
    refine' My.all_mk KX G hmg ?a0 ?l0 ?c0 ?k0 ?a1 ?l1 ?c1 ?k1 ?a2 ?l2 ?c2 ?k2 ?a3 ?l3 ?c3 ?k3 ?a4 ?l4 ?c4 ?k4 ?a5 ?l5 ?c5 ?k5 ?a6 ?l6 ?c6 ?k6 ?a7 ?l7 ?c7 ?k7 ?a8 ?l8 ?c8 ?k8 ?a9 ?l9 ?c9 ?k9 ?a10 ?l10 ?c10 ?k10 ?aC ?ma0 ?mi0 ?ml0 ?mc0 ?mk0 ?ma1 ?mi1 ?ml1 ?mc1 ?mk1 ?ma2 ?mi2 ?ml2 ?mc2 ?mk2 ?ma3 ?mi3 ?ml3 ?mc3 ?mk3 ?pg ?hd ?po ?sa ?mk ?kc ?nA_gates ?nA_known ?nA_order ?nA_namers ?nA_unheard ?ca_NAMING_GATES ?cl_NAMING_GATES ?cs_NAMING_GATES ?cv_NAMING_GATES ?z_bool ?z_dict ?z_enumerate ?z_int ?z_isinstance ?z_len ?z_list ?z_max ?z_min ?z_range ?z_set ?z_tuple
    (case a0 => k_is)
    (case l0 => k_is)
    (case c0 => k_is)
    (case k0 => k_is)
    (case a1 => k_is)
    (case l1 => k_is)
    (case c1 => k_is)
    (case k1 => k_is)
    (case a2 => k_is)
    (case l2 => k_is)
    (case c2 => k_is)
    (case k2 => k_is)
    (case a3 => k_is)
    (case l3 => k_is)
    (case c3 => k_is)
    (case k3 => k_is)
    (case a4 => k_is)
    (case l4 => k_is)
    (case c4 => k_is)
    (case k4 => k_is)
    (case a5 => k_is)
    (case l5 => k_is)
    (case c5 => k_is)
    (case k5 => k_is)
    (case a6 => k_is)
    (case l6 => k_is)
    (case c6 => k_is)
    (case k6 => k_is)
    (case a7 => k_is)
    (case l7 => k_is)
    (case c7 => k_is)
    (case k7 => k_is)
    (case a8 => k_is)
    (case l8 => k_is)
    (case c8 => k_is)
    (case k8 => k_is)
    (case a9 => k_is)
    (case l9 => k_is)
    (case c9 => k_is)
    (case k9 => k_is)
    (case a10 => k_is)
    (case l10 => k_is)
    (case c10 => k_is)
    (case k10 => k_is)
    (case aC => k_is)
    (case ma0 => k_is)
    (case mi0 => k_is)
    (case ml0 => k_is)
    (case mc0 => k_is)
    (case mk0 => k_is)
    (case ma1 => k_is)
    (case mi1 => k_is)
    (case ml1 => k_is)
    (case mc1 => k_is)
    (case mk1 => k_is)
    (case ma2 => k_is)
    (case mi2 => k_is)
    (case ml2 => k_is)
    (case mc2 => k_is)
    (case mk2 => k_is)
    (case ma3 => k_is)
    (case mi3 => k_is)
    (case ml3 => k_is)
    (case mc3 => k_is)
    (case mk3 => k_is)
    (case pg => k_is)
    (case hd => k_is)
    (case po => k_is)
    (case sa => k_is)
    (case mk => k_is)
    (case kc => k_is)
    (case nA_gates => k_is)
    (case nA_known => k_is)
    (case nA_order => k_is)
    (case nA_namers => k_is)
    (case nA_unheard => k_is)
    (case ca_NAMING_GATES => k_is)
    (case cl_NAMING_GATES => k_is)
    (case cs_NAMING_GATES => decide)
    (case cv_NAMING_GATES => exact .cons ⟨_, rfl⟩ (.cons ⟨_, rfl⟩ (.cons ⟨_, rfl⟩ (.nil))))
    (case z_bool => k_is)
    (case z_dict => k_is)
    (case z_enumerate => k_is)
    (case z_int => k_is)
    (case z_isinstance => k_is)
    (case z_len => k_is)
    (case z_list => k_is)
    (case z_max => k_is)
    (case z_min => k_is)
    (case z_range => k_is)
    (case z_set => k_is)
    (case z_tuple => k_is)
#print axioms PySem.Challenge.cw_signalwise_k43_ring_holds
