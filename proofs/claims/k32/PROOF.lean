import PyProof.Rows.All
import Wide.All
import OpenK.AllK
import Wide.FinOn
import Lean
import PyProof.EqAt
import PyProof.EqKinds
import PyProof.TupleCall
import PySem.Challenge.RW_signalwise_k32_walked_rows
-- CHANGE: your row's module here, as the last of these rows
set_option Elab.async false
set_option linter.all false
set_option maxRecDepth 100000
/-! THE HAND LAYER, for ints, bools, texts, own classes, LISTS and tuples (index, slices, in, append, pop ..), calls, loops. Paste it whole ahead of your own text; what your proof does not reach may be deleted. -/
namespace L2
open PySem PySem.Spec PyProof.Rows

/-- a key: an int or a str -/
abbrev Key := Sum Int Str
def keyIs : Key → Value → Bool
  | .inl k, v => Value.isInt k v
  | .inr x, v => Value.isStrOf x v
def keyH (w : World) : Key → Int
  | .inl k => hashInt k
  | .inr x => hashStr w x
theorem keyIs_shape : ∀ {k : Key} {v : Value}, keyIs k v = true → (∃ i t, k = Sum.inl i ∧ v = Value.int i t) ∨ (∃ x t, k = Sum.inr x ∧ v = Value.str x t)
  | .inl i, v, h => by
    obtain ⟨t, e⟩ := Value.isInt_shape (k := i) (v := v) h
    exact .inl ⟨i, t, rfl, e⟩
  | .inr x, v, h => by
    obtain ⟨t, e⟩ := Value.isStrOf_shape (x := x) (v := v) h
    exact .inr ⟨x, t, rfl, e⟩
theorem key_ll (a b : Int) : decide ((Sum.inl a : Key) = Sum.inl b) = (a == b) := by
  by_cases e : a = b
  · subst e; simp
  · have h : ¬ (Sum.inl a : Key) = Sum.inl b := fun q => e (Sum.inl.inj q)
    rw [decide_eq_false h]
    exact (beq_eq_false_iff_ne.mpr e).symm
theorem key_rr (a b : Str) : decide ((Sum.inr a : Key) = Sum.inr b) = decide (a = b) := by
  by_cases e : a = b
  · subst e; simp
  · have h : ¬ (Sum.inr a : Key) = Sum.inr b := fun q => e (Sum.inr.inj q)
    rw [decide_eq_false h, decide_eq_false e]
theorem key_lr (a : Int) (b : Str) : decide ((Sum.inl a : Key) = Sum.inr b) = false := decide_eq_false (fun q => nomatch q)
theorem key_rl (a : Str) (b : Int) : decide ((Sum.inr a : Key) = Sum.inl b) = false := decide_eq_false (fun q => nomatch q)

def mixKind (prog : Program) (w : World) : PySem.KeyKind prog w Key where
  is := keyIs
  hash := keyH w
  inj := fun v a b ha hb => by
    rcases keyIs_shape ha with ⟨i, t, rfl, rfl⟩ | ⟨x, t, rfl, rfl⟩
    · rcases keyIs_shape hb with ⟨j, u, rfl, e⟩ | ⟨y, u, rfl, e⟩
      · injection e with e1 _; rw [e1]
      · exact nomatch e
    · rcases keyIs_shape hb with ⟨j, u, rfl, e⟩ | ⟨y, u, rfl, e⟩
      · exact nomatch e
      · injection e with e1 _; rw [e1]
  byValue := fun k v h => by
    rcases keyIs_shape h with ⟨i, t, rfl, rfl⟩ | ⟨x, t, rfl, rfl⟩ <;> rfl
  pyHash := fun hv h => by
    rcases keyIs_shape hv with ⟨i, t, rfl, rfl⟩ | ⟨x, t, rfl, rfl⟩
    · exact wpAny_pyHash_int h
    · exact wpAny_pyHash_str h
  eqBool := fun hu hv h => by
    rcases keyIs_shape hu with ⟨i, t, rfl, rfl⟩ | ⟨x, t, rfl, rfl⟩
    · rcases keyIs_shape hv with ⟨j, u, rfl, rfl⟩ | ⟨y, u, rfl, rfl⟩
      · rw [key_ll] at h; exact wpAny_eqBool_int h
      · rw [key_lr] at h; exact SeqAt.EqAt.int_str i t y u _ _ _ _ h
    · rcases keyIs_shape hv with ⟨j, u, rfl, rfl⟩ | ⟨y, u, rfl, rfl⟩
      · rw [key_rl] at h; exact SeqAt.EqAt.str_int x t j u _ _ _ _ h
      · rw [key_rr] at h; exact wpAny_eqBool_str h
  «strs» := fun k x t v h => by
    rcases keyIs_shape h with ⟨i, u, rfl, e⟩ | ⟨y, u, rfl, e⟩
    · exact nomatch e
    · injection e with e1 _
      subst e1
      cases v <;> rfl

end L2

namespace L2
open PySem PySem.Spec PyProof.Rows

/-- a value, without the heap -/
inductive V where
  | non | bl (b : Bool) | int (i : Int) | str (x : Str) | byt (b : Array UInt8) | flt (b : UInt64) | ref (a : Addr) | ty (n : String)
  deriving DecidableEq

def RelV : V → Value → Prop
  | .non, u => u = Value.none
  | .bl b, u => u = Value.bool b
  | .int i, u => ∃ t, u = Value.int i t
  | .str x, u => ∃ t, u = Value.str x t
  | .byt b, u => ∃ t, u = Value.bytes b t
  | .flt b, u => ∃ t, u = Value.float b t
  | .ref a, u => u = Value.ref a
  | .ty n, u => u = Value.type n

abbrev Vals : List V → List Value → Prop := Paired RelV
theorem Vals.length {xs : List V} {us : List Value} (r : Vals xs us) : xs.length = us.length := Paired.length r
theorem Vals.get : ∀ {xs : List V} {us : List Value} {i : Nat} {x : V}, Vals xs us → xs[i]? = some x → ∃ u, us[i]? = some u ∧ RelV x u
  | _, _, _, _, .nil, e => by simp at e
  | _, _, 0, _, .cons r _, e => by simp at e; subst e; exact ⟨_, rfl, r⟩
  | _, _, i + 1, x, .cons _ t, e => by
    obtain ⟨u, h1, h2⟩ := Vals.get (i := i) (x := x) t (by simpa using e)
    exact ⟨u, by simpa using h1, h2⟩
theorem Vals.append : ∀ {xs ys : List V} {us ws : List Value}, Vals xs us → Vals ys ws → Vals (xs ++ ys) (us ++ ws)
  | _, _, _, _, .nil, s => s
  | _, _, _, _, .cons r t, s => .cons r (Vals.append t s)
theorem Vals.take : ∀ {xs : List V} {us : List Value} (n : Nat), Vals xs us → Vals (xs.take n) (us.take n)
  | _, _, 0, _ => .nil
  | _, _, _ + 1, .nil => .nil
  | _, _, n + 1, .cons r t => .cons r (Vals.take n t)
theorem Vals.drop : ∀ {xs : List V} {us : List Value} (n : Nat), Vals xs us → Vals (xs.drop n) (us.drop n)
  | _, _, 0, r => r
  | _, _, _ + 1, .nil => .nil
  | _, _, n + 1, .cons _ t => Vals.drop n t
def RelO : Option V → Option Value → Prop
  | some v, some u => RelV v u
  | none, none => True
  | _, _ => False
def KV {κ : Type} : List (κ × V) → List (κ × Value) → Prop := Paired fun (p : κ × V) (q : κ × Value) => p.1 = q.1 ∧ RelV p.2 q.2

/-- a key of a dict (00_mix): an int or a text -/
def kV : Key → V
  | .inl i => .int i
  | .inr x => .str x

/-- what stands at a tracked address -/
inductive HO where
  /-- a list -/
  | lst (xs : List V)
  /-- a tuple (never changes) -/
  | tup (xs : List V)
  /-- a dict whose keys are ints and texts; one whose keys are tuples of ints and texts (the empty one is both) -/
  | dK (kvs : List (Key × V)) | dT (kvs : List (List Key × V))
  /-- a set of ints: its members, its size -/
  | set (S : Int → Bool) (n : Nat)
  /-- an instance of the class at C, its dict at dx, its attributes -/
  | ins (C dx : Addr) (fs : List (Str × V))
  /-- the dict of the instance at x -/
  | own (x : Addr)
  /-- the dict of an exception -/
  | xd (fs : List (Str × V))
  /-- a bound method, f of x -/
  | met (f x : Addr)
  /-- a range object lo, lo + 1, .. below hi -/
  | rng (lo hi : Int)
  /-- a thing that is known to the object (the script; a dict while a loop walks it): read, never written while it is so -/
  | frz (o : Obj) (u : HO)
  /-- a code object's table -/
  | tbl (ps : Array Value)
  /-- any other thing, by what is true of its one object (a def of one's own: SetO a S n := HO.ext fun h => ..) -/
  | ext (φ : Heap → Prop)

abbrev Hp := Addr → Option HO
def upd (H : Hp) (a : Addr) (o : HO) : Hp := fun b => if b = a then some o else H b
theorem upd_same {H : Hp} {a : Addr} {o : HO} : upd H a o a = some o := by unfold upd; rw [if_pos rfl]
theorem upd_ne {H : Hp} {a b : Addr} {o : HO} (h : b ≠ a) : upd H a o b = H b := by unfold upd; rw [if_neg h]
/-- two objects of different content stand apart -/
theorem ne_of {H : Hp} {a b : Addr} {o u : HO} (h : H a = some o) (h' : H b = some u) (d : o ≠ u) : a ≠ b := by
  intro e; subst e; rw [h] at h'; exact d (Option.some.inj h')
theorem ne_of_none {H : Hp} {a b : Addr} {o : HO} (h : H a = some o) (h' : H b = none) : a ≠ b := by
  intro e; subst e; rw [h] at h'; cases h'

section
variable (P : Program) (w : World)
def ObjOk (H : Hp) (h : Heap) (a : Addr) : HO → Prop
  | .lst xs => xs.length ≤ sizeLine ∧ ∃ (its : List Value) (n : Nat), Vals xs its ∧ h.get? a = some { cls := .type "list", data := .seq its.toArray n }
  | .tup xs => xs.length ≤ sizeLine ∧ ∃ its : List Value, Vals xs its ∧ IsTup h a its.toArray
  | .dK kvs => kvs.length ≤ sizeLine ∧ (a == sysModules) = false ∧ ∃ vs, KV kvs vs ∧ h.DictOf (mixKind P w) a vs
  | .dT kvs => kvs.length ≤ sizeLine ∧ (a == sysModules) = false ∧ ∃ xs : List (List Key × Addr × Value),
      Paired (fun (p : List Key × V) (q : List Key × Addr × Value) => p.1 = q.1 ∧ H q.2.1 = some (.tup (p.1.map kV)) ∧ RelV p.2 q.2.2) kvs xs ∧
      ∃ o es ep, h.get? a = some o ∧ o.ExactDict ∧ o.data = .dict es ep ∧ es.toList = xs.map (entryOfKey (tupleKind (mixKind P w))) ∧ (xs.map (·.1)).Nodup
  | .set S n => h.SetOf (intKind P w) a S n
  | .ins C dx fs => H dx = some (.own a) ∧ fs.length ≤ 1000 ∧ dx ≠ a ∧ h.get? a = some (PySem.W.instObj C dx) ∧
      ∃ mA, h.Ns1 dx mA ∧ (∀ f, RelO (fs.lookup f) (mA f)) ∧ PySem.Within mA (fs.map (·.1))
  | .own _ => ∃ o, h.get? a = some o
  | .xd fs => ∃ mA, h.Ns1 a mA ∧ ∀ f, RelO (fs.lookup f) (mA f)
  | .rng lo hi => ∃ t u v, h.get? a = some { cls := .type "range", data := .fields #[.int lo t, .int hi u, .int 1 v] }
  | .frz o u => h.get? a = some o ∧ ObjOk H h a u
  | .tbl ps => h.get? a = some { cls := .none, data := .fields ps }
  | .met f x => h.get? a = some (PySem.W.methodObj (.ref f) (.ref x))
  | .ext φ => φ h ∧ (∃ o, h.get? a = some o) ∧ ∀ h1 h2 : Heap, φ h1 → (∀ o, h1.get? a = some o → h2.get? a = some o) → φ h2
/-- the abstract heap is held -/
def HOk (H : Hp) (h : Heap) : Prop := ∀ a o, H a = some o → ObjOk P w H h a o
end

section
variable {P : Program} {w : World} {H H' : Hp} {h h' : Heap} {a : Addr} {o : HO}
theorem ObjOk.lt (x : ObjOk P w H h a o) : a < h.objs.size := by
  cases o with
  | lst xs => obtain ⟨_, _, _, _, e⟩ := x; exact Heap.lt_size e
  | tup xs => obtain ⟨_, _, _, p⟩ := x; exact p.lt
  | dK kvs => obtain ⟨_, _, _, _, o, _, _, e, _⟩ := x; exact Heap.lt_size e
  | dT kvs => obtain ⟨_, _, _, _, o, _, _, e, _⟩ := x; exact Heap.lt_size e
  | set S n => obtain ⟨o, _, _, _, e, _⟩ := x; exact Heap.lt_size e
  | ins C dx fs => obtain ⟨_, _, _, e, _⟩ := x; exact Heap.lt_size e
  | own y => obtain ⟨_, e⟩ := x; exact Heap.lt_size e
  | xd fs => obtain ⟨_, ⟨_, _, _, e, _⟩, _⟩ := x; exact Heap.lt_size e
  | rng lo hi => obtain ⟨_, _, _, e⟩ := x; exact Heap.lt_size e
  | frz ob u => obtain ⟨e, _⟩ := x; exact Heap.lt_size e
  | tbl ps => exact Heap.lt_size (show h.get? a = some _ from x)
  | met f y => exact Heap.lt_size (show h.get? a = some _ from x)
  | ext φ => obtain ⟨_, ⟨_, e⟩, _⟩ := x; exact Heap.lt_size e
theorem Paired.mapP {α β : Type} {F G : α → β → Prop} : ∀ {l₁ : List α} {l₂ : List β}, Paired F l₁ l₂ → (∀ a b, F a b → G a b) → Paired G l₁ l₂
  | _, _, .nil, _ => .nil
  | _, _, .cons r t, f => .cons (f _ _ r) (Paired.mapP t f)
/-- what an object's description leans on: its own object, its own dict, the tuples -/
theorem ObjOk.stay (x : ObjOk P w H h a o) (k : ∀ b u, (b = a ∨ H b = some (.own a)) → h.get? b = some u → h'.get? b = some u)
    (ho : ∀ b, H b = some (.own a) → H' b = some (.own a)) (ht : ∀ b xs, H b = some (.tup xs) → H' b = some (.tup xs)) : ObjOk P w H' h' a o := by
  induction o with
  | lst xs => obtain ⟨z, its, n, r, e⟩ := x; exact ⟨z, its, n, r, k _ _ (.inl rfl) e⟩
  | tup xs => obtain ⟨z, its, r, ob, e, c⟩ := x; exact ⟨z, its, r, ob, k _ _ (.inl rfl) e, c⟩
  | dK kvs => obtain ⟨z, y, vs, r, ob, es, ep, e, c⟩ := x; exact ⟨z, y, vs, r, ob, es, ep, k _ _ (.inl rfl) e, c⟩
  | dT kvs =>
    obtain ⟨z, y, xs, r, ob, es, ep, e, c⟩ := x
    exact ⟨z, y, xs, Paired.mapP r fun p q z => ⟨z.1, ht _ _ z.2.1, z.2.2⟩, ob, es, ep, k _ _ (.inl rfl) e, c⟩
  | set S n => obtain ⟨ob, es, ep, t, e, c⟩ := x; exact ⟨ob, es, ep, t, k _ _ (.inl rfl) e, c⟩
  | ins C dx fs =>
    obtain ⟨d, z, ne, e, mA, ⟨od, es, ep, e2, c⟩, r⟩ := x
    exact ⟨ho _ d, z, ne, k _ _ (.inl rfl) e, mA, ⟨od, es, ep, k _ _ (.inr d) e2, c⟩, r⟩
  | own y => obtain ⟨ob, e⟩ := x; exact ⟨ob, k _ _ (.inl rfl) e⟩
  | xd fs => obtain ⟨mA, ⟨od, es, ep, e, c⟩, r⟩ := x; exact ⟨mA, ⟨od, es, ep, k _ _ (.inl rfl) e, c⟩, r⟩
  | rng lo hi => obtain ⟨t, u, v, e⟩ := x; exact ⟨t, u, v, k _ _ (.inl rfl) e⟩
  | frz ob u ih => obtain ⟨e, q⟩ := x; exact ⟨k _ _ (.inl rfl) e, ih q⟩
  | tbl ps =>
    have e : h.get? a = some { cls := .none, data := .fields ps } := x
    show h'.get? a = some { cls := .none, data := .fields ps }
    exact k a _ (.inl rfl) e
  | met f y =>
    have e : h.get? a = some (PySem.W.methodObj (.ref f) (.ref y)) := x
    show h'.get? a = some (PySem.W.methodObj (.ref f) (.ref y))
    exact k a _ (.inl rfl) e
  | ext φ => obtain ⟨p, ⟨o, e⟩, st⟩ := x; exact ⟨st _ _ p fun o q => k _ _ (.inl rfl) q, ⟨o, k _ _ (.inl rfl) e⟩, st⟩
theorem HOk.lt (x : HOk P w H h) (e : H a = some o) : a < h.objs.size := (x a o e).lt
theorem HOk.fresh (x : HOk P w H h) (e : h.objs.size ≤ a) : H a = none := by
  cases q : H a with
  | none => rfl
  | some u => exact absurd (Nat.lt_of_lt_of_le (x.lt q) e) (Nat.lt_irrefl _)
/-- every object of the heap is kept -/
theorem HOk.kept (x : HOk P w H h) (k : ∀ b u, h.get? b = some u → h'.get? b = some u) : HOk P w H h' := fun a o e =>
  (x a o e).stay (fun b u _ q => k b u q) (fun _ q => q) fun _ _ q => q
/-- a new object is laid and tracked -/
theorem HOk.laid (x : HOk P w H h) (k : ∀ b u, h.get? b = some u → h'.get? b = some u) (hp : h.objs.size ≤ a) (new : ObjOk P w (upd H a o) h' a o) : HOk P w (upd H a o) h' := fun b u e => by
  have hn := x.fresh hp
  by_cases hb : b = a
  · subst hb; rw [upd_same] at e; cases e; exact new
  · rw [upd_ne hb] at e
    exact (x b u e).stay (fun c v _ q => k c v q) (fun c q => by rw [upd_ne (ne_of_none q hn)]; exact q) fun c xs q => by rw [upd_ne (ne_of_none q hn)]; exact q
end

/-- what may be read as u: it is u, or a known u -/
def Rd (H : Hp) (a : Addr) (u : HO) : Prop := H a = some u ∨ ∃ o, H a = some (.frz o u)
theorem Rd.ok {P : Program} {w : World} {H : Hp} {h : Heap} {a : Addr} {u : HO} (r : Rd H a u) (x : HOk P w H h) : ObjOk P w H h a u := by
  rcases r with r | ⟨o, r⟩
  · exact x a u r
  · obtain ⟨_, q⟩ := x a _ r
    exact q
/-- what may be written -/
def Mut : Option HO → Prop
  | some (.lst _) => True
  | some (.dK _) => True
  | some (.dT _) => True
  | some (.set _ _) => True
  | some (.ins _ _ _) => True
  | some (.ext _) => True
  | _ => False
section
variable {P : Program} {w : World} {H : Hp} {h h' : Heap} {x e : Addr} {o' : HO}
/-- the object at e is changed: x itself, or the dict of the instance x -/
theorem HOk.write (ok : HOk P w H h) (mu : Mut (H x)) (he : e = x ∨ H e = some (.own x)) (k : ∀ b u, b ≠ e → h.get? b = some u → h'.get? b = some u) (heo : ∃ u, h'.get? e = some u)
    (new : ObjOk P w (upd H x o') h' x o') : HOk P w (upd H x o') h' := fun b u q => by
  have nown : ∀ c y, H c = some (.own y) → c ≠ x := fun c y r z => by subst z; rw [r] at mu; exact mu
  have ntup : ∀ c xs, H c = some (.tup xs) → c ≠ x := fun c xs r z => by subst z; rw [r] at mu; exact mu
  by_cases hb : b = x
  · subst hb; rw [upd_same] at q; cases q; exact new
  · rw [upd_ne hb] at q
    by_cases hbe : b = e
    · have q' : H b = some (.own x) := by
        rcases he with z | z
        · exact absurd (hbe.trans z) hb
        · rw [hbe]; exact z
      rw [q] at q'; cases q'
      obtain ⟨v, hv⟩ := heo
      exact ⟨v, by rw [hbe]; exact hv⟩
    · refine (ok b u q).stay (fun c v hc r => k c v ?_ r) (fun c r => by rw [upd_ne (nown c b r)]; exact r) fun c xs r => by rw [upd_ne (ntup c xs r)]; exact r
      rcases hc with rfl | hc
      · exact hbe
      · rintro rfl
        rcases he with z | z
        · exact nown c b hc z
        · rw [hc] at z; cases z; exact hb rfl
end

/-! ### kept unless tracked; of the frames at fs (the callers') the slots may change (an exception that passes writes there); of the records at ex (iterators) nothing is said -/
structure Un (fs ex : List Addr) (H H' : Hp) (h h' : Heap) : Prop where
  keep : ∀ b o, h.get? b = some o → H b = none → b ∉ fs → b ∉ ex → h'.get? b = some o
  slot : ∀ b o, h.get? b = some o → H b = none → b ∈ fs → b ∉ ex → ∃ sl, h'.get? b = some { o with slots := sl }
  free : ∀ b o, h.get? b = some o → H b = none → b ∉ ex → H' b = none
  there : ∀ b o, h.get? b = some o → b ∉ ex → ∃ o', h'.get? b = some o'
  tups : ∀ b xs, H b = some (.tup xs) → H' b = some (.tup xs)
  frzs : ∀ b o u, H b = some (.frz o u) → H' b = some (.frz o u)
  tbls : ∀ b ps, H b = some (.tbl ps) → ∃ more, H' b = some (.tbl (ps ++ more))
section
variable {fs fs' ex ex' : List Addr} {H H1 H2 : Hp} {h h1 h2 h' : Heap} {a x e : Addr} {o : HO}
theorem Un.any (u : Un fs ex H H1 h h1) {b : Addr} {ob : Obj} (q : h.get? b = some ob) (n : H b = none) (hx : b ∉ ex) : ∃ sl, h1.get? b = some { ob with slots := sl } := by
  by_cases hb : b ∈ fs
  · exact u.slot b ob q n hb hx
  · exact ⟨ob.slots, u.keep b ob q n hb hx⟩
theorem Un.kept (k : ∀ b u, h.get? b = some u → h'.get? b = some u) : Un fs ex H H h h' :=
  ⟨fun b ob q _ _ _ => k b ob q, fun b ob q _ _ _ => ⟨ob.slots, k b ob q⟩, fun _ _ _ n _ => n, fun b ob q _ => ⟨ob, k b ob q⟩, fun _ _ q => q, fun _ _ _ q => q, fun _ ps q => ⟨#[], by rw [q]; simp⟩⟩
theorem Un.refl : Un fs ex H H h h := Un.kept fun _ _ q => q
theorem Un.laid (k : ∀ b u, h.get? b = some u → h'.get? b = some u) (hp : h.objs.size ≤ a) (hn : H a = none) : Un fs ex H (upd H a o) h h' where
  keep := fun b u q _ _ _ => k b u q
  slot := fun b u q _ _ _ => ⟨u.slots, k b u q⟩
  free := fun b u q n _ => by rw [upd_ne (Nat.ne_of_lt (Nat.lt_of_lt_of_le (Heap.lt_size q) hp))]; exact n
  there := fun b u q _ => ⟨u, k b u q⟩
  tups := fun b xs q => by rw [upd_ne (ne_of_none q hn)]; exact q
  frzs := fun b u xs q => by rw [upd_ne (ne_of_none q hn)]; exact q
  tbls := fun b ps q => ⟨#[], by rw [upd_ne (ne_of_none q hn), q]; simp⟩
theorem Un.write (mu : Mut (H x)) (he : e = x ∨ H e = some (.own x)) (k : ∀ b u, b ≠ e → h.get? b = some u → h'.get? b = some u) (heo : ∃ u, h'.get? e = some u) : Un fs ex H (upd H x o) h h' := by
  have hx : ∀ b, H b = none → b ≠ x := fun b n z => by subst z; rw [n] at mu; exact mu
  have hb : ∀ b, H b = none → b ≠ e := fun b n z => by
    subst z
    rcases he with r | r
    · exact hx b n r
    · rw [n] at r; cases r
  have hm : ∀ b u, H b = some u → ¬ Mut (some u) → b ≠ x := fun b u q nm z => by subst z; rw [q] at mu; exact nm mu
  refine ⟨fun b u q n _ _ => k b u (hb b n) q, fun b u q n _ _ => ⟨u.slots, k b u (hb b n) q⟩, fun b u q n _ => by rw [upd_ne (hx b n)]; exact n, fun b u q _ => ?_,
    fun b xs q => by rw [upd_ne (hm b _ q fun z => z)]; exact q, fun b u xs q => by rw [upd_ne (hm b _ q fun z => z)]; exact q, fun b ps q => ⟨#[], by rw [upd_ne (hm b _ q fun z => z), q]; simp⟩⟩
  by_cases hbe : b = e
  · subst hbe; exact heo
  · exact ⟨u, k b u hbe q⟩
end

/-! ### the heap without what is tracked -/
def trk (h : Heap) (H : Hp) : List Addr := (List.range h.objs.size).filter fun a => (H a).isSome
def hidT (h : Heap) (H : Hp) : Heap := PySem.W.hideAll h (trk h H)
theorem hidT_size (h : Heap) (H : Hp) : (hidT h H).objs.size = h.objs.size := PySem.W.hideAll_size _ _
theorem hidT_get {h : Heap} {H : Hp} {b : Addr} {o : Obj} (e : h.get? b = some o) (n : H b = none) : (hidT h H).get? b = some o :=
  PySem.W.hideAll_get _ e fun hm => by
    have q : (H b).isSome = true := (List.mem_filter.mp hm).2
    rw [n] at q; simp at q
theorem of_hidT {h : Heap} {H : Hp} {b : Addr} {o : Obj} (e : (hidT h H).get? b = some o) : h.get? b = some o ∧ H b = none := by
  have e' : h.get? b = some o := PySem.W.of_hideAll (trk h H) e
  refine ⟨e', ?_⟩
  cases q : H b with
  | none => rfl
  | some x =>
    have hm : b ∈ trk h H := List.mem_filter.mpr ⟨List.mem_range.mpr (Heap.lt_size e'), by simp [q]⟩
    have z : (hidT h H).get? b = none := PySem.W.hideAll_none (trk h H) hm
    rw [z] at e; cases e

/-! ### OpenK's ledger, filled with every new object but one -/
def allNews (g h : Heap) (L : Addr) : List (Addr × Obj) := (List.range h.objs.size).filterMap fun a => if a = L ∨ (g.get? a).isSome = true then none else (h.get? a).map fun o => (a, o)
def rest (g h : Heap) (L d : Addr) : List (Addr × Obj) := (allNews g h L).filter fun p => decide (p.1 ≠ d)
end L2

namespace L2
open PySem PySem.Spec PyProof.Rows

/-- the module's facts, over the base: the heap at the law's entry without what is tracked there -/
structure Mod (K : PySem.W.Frag) (mg : Str → Option Value) (base : Heap) : Prop where
  kin : K.In base
  glob : base.Ns mainGlobals mg
  blt : ∃ mb, base.Ns builtinsNs mb ∧ ∀ x : Str, x ≠ "__name__" → mb x = bootBuiltins x
  nolimit : base.NoLimit

/-- the context: a def's body (or a comprehension's block) running. base: fixed through the whole law; s₀, H₀: the entry; outer: the frames whose slots others may change (a def's callers); stack: all frames that run;
   ex: iterators that were made ahead of the entry and are walked here (a comprehension's); fn: the names whose cells were made at the entry (a def: all; a comprehension's block: its own); calm: not within an except suite; pn: pins that every state bears; xe: what is wanted of an exception that leaves the code -/
structure Cx where
  prog : Program
  w : World
  K : PySem.W.Frag
  mg : Str → Option Value
  base : Heap
  A : Around
  N : List Str
  s₀ : Shared
  H₀ : Hp
  env : Env
  outer : List Env
  stack : List Env
  ex : List Addr
  fn : Str → Bool
  calm : Bool
  pn : List (Addr × Obj)
  xe : Value → Shared → Prop
/-- the callers' frames -/
def frs (l : List Env) : List Addr := l.filterMap (·.frame)
abbrev Cx.fs (X : Cx) : List Addr := frs X.outer

def Vis (sc : Scope) (x : Str) : Prop := sc.names.lookup x = some .local ∨ sc.names.lookup x = some .cell ∨ sc.names.lookup x = some .free
def Loc (sc : Scope) (x : Str) : Prop := sc.names.lookup x = some .local ∨ sc.names.lookup x = some .cell
def Look (env : Env) (h : Heap) (m : Str → Option Value) (x : Str) (u : Value) : Prop :=
  (env.kindOf x = some .local ∧ m x = some u) ∨ ((env.kindOf x = some .cell ∨ env.kindOf x = some .free) ∧ ∃ c, env.cells.lookup x = some c ∧ h.IsCell c (some u))

structure Cx.Ok (X : Cx) : Prop where
  mod : Mod X.K X.mg X.base
  kind : X.env.scope.kind = .function
  glob : X.env.globals = mainGlobals
  blt : X.env.builtins = builtinsNs
  above : X.s₀.heap.objs.size ≤ X.env.locals
  inj : ∀ x y c, X.env.cells.lookup x = some c → X.env.cells.lookup y = some c → x = y
  has : ∀ x, (X.env.kindOf x = some .cell ∨ X.env.kindOf x = some .free) → ∃ c, X.env.cells.lookup x = some c
  cab : ∀ x c, X.fn x = true → X.env.cells.lookup x = some c → X.s₀.heap.objs.size ≤ c
  hd : X.calm = true → X.A.handled = none
  frames : X.A.frames = some X.stack
  stk : X.stack = X.outer ∨ (X.stack = X.env :: X.outer ∧ X.env.frame = some X.env.locals)
  exf : ∀ b ∈ X.ex, b ≠ X.env.locals ∧ ∀ x c, X.env.cells.lookup x = some c → c ≠ b
  bs : ∀ b o, X.base.get? b = some o → X.s₀.heap.get? b = some o ∧ X.H₀ b = none
  bsz : X.base.objs.size ≤ X.s₀.heap.objs.size
  noex : ∀ b o, X.base.get? b = some o → b ∉ X.ex
  exfs : ∀ b ∈ X.ex, b ∉ X.fs
  funs : X.s₀.heap.FunFrames X.base X.outer
  frf : ∀ b ∈ X.fs, X.H₀ b = none

structure Inv (X : Cx) (pins : List (Addr × Obj)) (σ : List (Option V)) (H : Hp) (s : Shared) : Prop where
  ok : X.Ok
  os : s.os = X.s₀.os
  bare : AllBare s.gens
  base : Un X.fs X.ex X.H₀ H X.s₀.heap s.heap
  loc : ∃ m, s.heap.Ns X.env.locals m ∧ ∀ (i : Nat) (x : Str) (v : V), X.N[i]? = some x → σ[i]? = some (some v) → Vis X.env.scope x → ∃ u, RelV v u ∧ Look X.env s.heap m x u
  cell : ∀ x c, X.env.cells.lookup x = some c → ∃ v, s.heap.IsCell c v
  free : H X.env.locals = none
  freeC : ∀ x c, X.env.cells.lookup x = some c → H c = none
  pin : ∀ p ∈ X.pn ++ pins, s.heap.get? p.1 = some p.2 ∧ H p.1 = none ∧ p.1 ≠ X.env.locals ∧ p.1 ∉ X.fs ∧ ∀ v, p.2.data ≠ .cell v
  hok : HOk X.prog X.w H s.heap
  len : σ.length = X.N.length

section
variable {X : Cx} {pins : List (Addr × Obj)} {σ : List (Option V)} {H H' : Hp} {s : Shared} {h' : Heap}

theorem Cx.Ok.nofr (ok : X.Ok) {b : Addr} {o : Obj} (e : X.base.get? b = some o) : b ∉ X.fs := fun hb => by
  have := (ok.funs.mem hb).1
  rw [e] at this; cases this
theorem Inv.bs (I : Inv X pins σ H s) : ∀ b o, X.base.get? b = some o → s.heap.get? b = some o ∧ H b = none := fun b o e =>
  ⟨I.base.keep b o (I.ok.bs b o e).1 (I.ok.bs b o e).2 (I.ok.nofr e) (I.ok.noex b o e), I.base.free b o (I.ok.bs b o e).1 (I.ok.bs b o e).2 (I.ok.noex b o e)⟩
theorem Inv.bk (I : Inv X pins σ H s) : ∀ b o, X.base.get? b = some o → s.heap.get? b = some o := fun b o e => (I.bs b o e).1
theorem Inv.mod (I : Inv X pins σ H s) : Mod X.K X.mg X.base := I.ok.mod
theorem Inv.kIn (I : Inv X pins σ H s) : X.K.In s.heap := I.ok.mod.kin.keeps I.bk
theorem Inv.lt (I : Inv X pins σ H s) : X.env.locals < s.heap.objs.size := let ⟨_, hn, _⟩ := I.loc; hn.lt
theorem Inv.sz (I : Inv X pins σ H s) : X.s₀.heap.objs.size ≤ s.heap.objs.size := Nat.le_trans I.ok.above (Nat.le_of_lt I.lt)
theorem Inv.nofs (I : Inv X pins σ H s) {a : Addr} (h : s.heap.objs.size ≤ a) : a ∉ X.fs := fun hb => by
  obtain ⟨_, o, ho, _⟩ := I.ok.funs.mem hb
  exact absurd (Nat.lt_of_lt_of_le (Heap.lt_size ho) (Nat.le_trans I.sz h)) (Nat.lt_irrefl _)
theorem Inv.cne (I : Inv X pins σ H s) : ∀ x c, X.env.cells.lookup x = some c → c ≠ X.env.locals := fun x c e z => by
  obtain ⟨v, o, ho, hd⟩ := I.cell x c e
  obtain ⟨m, ⟨o', es, ep, ho', hd', _⟩, _⟩ := I.loc
  rw [z, ho'] at ho; cases ho; rw [hd'] at hd; cases hd
theorem Inv.funs (I : Inv X pins σ H s) : s.heap.FunFrames X.base X.outer := by
  have all : ∀ (l : List Env), (∀ b ∈ frs l, b ∈ X.fs) → X.s₀.heap.FunFrames X.base l → s.heap.FunFrames X.base l := by
    intro l
    induction l with
    | nil => intro _ _; trivial
    | cons env r ih =>
      intro hs hl
      obtain ⟨hk, ⟨L, o, hf, hn, ho, hd⟩, hr⟩ := hl
      have hL : L ∈ X.fs := hs L (by unfold frs; rw [List.filterMap_cons, hf]; exact List.mem_cons_self)
      obtain ⟨sl, e⟩ := I.base.slot L o ho (I.ok.frf L hL) hL fun z => I.ok.exfs L z hL
      exact ⟨hk, ⟨L, _, hf, hn, e, hd⟩, ih (fun b hb => hs b (by unfold frs; rw [List.filterMap_cons, hf]; exact List.mem_cons_of_mem _ hb)) hr⟩
  exact all X.outer (fun _ hb => hb) I.ok.funs

/-- the frames that run, for a call -/
theorem Inv.stack (I : Inv X pins σ H s) : s.heap.FunFrames X.base X.stack := by
  rcases I.ok.stk with e | ⟨e, hf⟩
  · rw [e]; exact I.funs
  · rw [e]
    obtain ⟨m, hn, _⟩ := I.loc
    refine .cons (by rw [I.ok.kind]; decide) hf hn ?_ I.funs
    exact Heap.get?_none_of_le (Nat.le_trans I.ok.bsz I.ok.above)
theorem Inv.stkSub (I : Inv X pins σ H s) : ∀ b ∈ frs X.stack, b ∈ X.env.locals :: X.fs := fun b hb => by
  rcases I.ok.stk with e | ⟨e, hf⟩
  · rw [e] at hb; exact List.mem_cons_of_mem _ hb
  · rw [e] at hb
    unfold frs at hb
    rw [List.filterMap_cons, hf] at hb
    exact hb
theorem Inv.stkFree (I : Inv X pins σ H s) : ∀ b ∈ frs X.stack, H b = none := fun b hb => by
  rcases List.mem_cons.mp (I.stkSub b hb) with e | hb
  · rw [e]; exact I.free
  · obtain ⟨_, o, ho, _⟩ := I.ok.funs.mem hb
    exact I.base.free b o ho (I.ok.frf b hb) fun z => I.ok.exfs b z hb

/-- THE STEP: the untracked objects but the frame and the records at ch are kept (the callers' frames up to slots), the frame's map is kept, the new abstract heap is held -/
theorem Inv.step {g' : Array GenState} {t' : Nat} {d' : Drawn} {ch : List Addr} (I : Inv X pins σ H s)
    (hch : ∀ b ∈ ch, (b ∈ X.ex ∨ X.s₀.heap.objs.size ≤ b) ∧ b ≠ X.env.locals ∧ (∀ x c, X.env.cells.lookup x = some c → c ≠ b) ∧ ∀ p ∈ X.pn ++ pins, p.1 ≠ b)
    (keep : ∀ b o, b ≠ X.env.locals → b ∉ X.fs → b ∉ ch → s.heap.get? b = some o → H b = none → h'.get? b = some o)
    (slot : ∀ b o, b ≠ X.env.locals → b ∈ X.fs → b ∉ ch → s.heap.get? b = some o → H b = none → ∃ sl, h'.get? b = some { o with slots := sl }) (free : ∀ b o, b ∉ ch → s.heap.get? b = some o → H b = none → H' b = none)
    (there : ∀ b o, b ∉ ch → s.heap.get? b = some o → ∃ o', h'.get? b = some o')
    (tups : ∀ b xs, H b = some (.tup xs) → H' b = some (.tup xs)) (frzs : ∀ b o u, H b = some (.frz o u) → H' b = some (.frz o u)) (tbls : ∀ b ps, H b = some (.tbl ps) → ∃ more, H' b = some (.tbl (ps ++ more)))
    (ns : ∀ m, s.heap.Ns X.env.locals m → h'.Ns X.env.locals m) (hok : HOk X.prog X.w H' h') (hg : AllBare g') :
    Inv X pins σ H' { s with heap := h', gens := g', drawn := d', toks := t' } := by
  have neL : ∀ b o, X.s₀.heap.get? b = some o → b ≠ X.env.locals := fun b o e => Nat.ne_of_lt (Nat.lt_of_lt_of_le (Heap.lt_size e) I.ok.above)
  have neC : ∀ b o, X.s₀.heap.get? b = some o → b ∉ X.ex → b ∉ ch := fun b o e hx hb => by
    rcases (hch b hb).1 with z | z
    · exact hx z
    · exact absurd (Nat.lt_of_lt_of_le (Heap.lt_size e) z) (Nat.lt_irrefl _)
  have cellK : ∀ x c, X.env.cells.lookup x = some c → ∀ v, s.heap.IsCell c v → h'.IsCell c v := fun x c e v ⟨o, ho, hd⟩ => by
    have nch : c ∉ ch := fun z => (hch c z).2.2.1 x c e rfl
    by_cases hc : c ∈ X.fs
    · obtain ⟨sl, q⟩ := slot c o (I.cne x c e) hc nch ho (I.freeC x c e)
      exact ⟨_, q, hd⟩
    · exact ⟨o, keep c o (I.cne x c e) hc nch ho (I.freeC x c e), hd⟩
  refine ⟨I.ok, I.os, hg, ⟨fun b o e n hb hx => ?_, fun b o e n hb hx => ?_, fun b o e n hx => ?_, fun b o e hx => ?_, fun b xs e => tups b xs (I.base.tups b xs e), fun b o xs e => frzs b o xs (I.base.frzs b o xs e), fun b ps e => ?_⟩, ?_, fun x c e => ?_, ?_, fun x c e => ?_, fun p hp => ?_, hok, I.len⟩
  · exact keep b o (neL b o e) hb (neC b o e hx) (I.base.keep b o e n hb hx) (I.base.free b o e n hx)
  · obtain ⟨sl, e1⟩ := I.base.slot b o e n hb hx
    obtain ⟨sl', e2⟩ := slot b _ (neL b o e) hb (neC b o e hx) e1 (I.base.free b o e n hx)
    exact ⟨sl', e2⟩
  · obtain ⟨o', e1⟩ := I.base.there b o e hx
    exact free b o' (neC b o e hx) e1 (I.base.free b o e n hx)
  · obtain ⟨o', e1⟩ := I.base.there b o e hx
    exact there b o' (neC b o e hx) e1
  · obtain ⟨m1, e1⟩ := I.base.tbls b ps e
    obtain ⟨m2, e2⟩ := tbls b _ e1
    exact ⟨m1 ++ m2, by rw [e2, Array.append_assoc]⟩
  · obtain ⟨m, hn, hl⟩ := I.loc
    refine ⟨m, ns m hn, fun i x v e1 e2 e3 => ?_⟩
    obtain ⟨u, r, l⟩ := hl i x v e1 e2 e3
    refine ⟨u, r, ?_⟩
    rcases l with l | ⟨k, c, e, z⟩
    · exact .inl l
    · exact .inr ⟨k, c, e, cellK x c e _ z⟩
  · obtain ⟨v, z⟩ := I.cell x c e
    exact ⟨v, cellK x c e v z⟩
  · obtain ⟨m, ⟨o, _, _, ho, _⟩, _⟩ := I.loc
    exact free _ o (fun z => (hch _ z).2.1 rfl) ho I.free
  · obtain ⟨v, o, ho, hd⟩ := I.cell x c e
    exact free c o (fun z => (hch c z).2.2.1 x c e rfl) ho (I.freeC x c e)
  · obtain ⟨e, n, ne, nf, d⟩ := I.pin p hp
    have nch : p.1 ∉ ch := fun z => (hch p.1 z).2.2.2 p hp rfl
    exact ⟨keep p.1 p.2 ne nf nch e n, free p.1 p.2 nch e n, ne, nf, d⟩
/-- .. where the frame's own object is kept too -/
theorem Inv.un {t' : Nat} (I : Inv X pins σ H s) (u : Un X.fs [] H H' s.heap h') (hok : HOk X.prog X.w H' h') : Inv X pins σ H' { s with heap := h', toks := t' } := by
  obtain ⟨m, ⟨o, es, ep, ho, r⟩, _⟩ := id I.loc
  obtain ⟨sl, hL⟩ := u.any ho I.free (by simp)
  exact I.step (g' := s.gens) (d' := s.drawn) (ch := []) (fun _ z => nomatch z) (fun b o _ hb _ e n => u.keep b o e n hb (by simp)) (fun b o _ hb _ e n => u.slot b o e n hb (by simp)) (fun b o _ e n => u.free b o e n (by simp)) (fun b o _ e => u.there b o e (by simp)) u.tups u.frzs u.tbls (fun m' hm => by
    obtain ⟨o', es', ep', ho', r'⟩ := hm
    rw [ho] at ho'; cases ho'
    exact ⟨_, es', ep', hL, r'⟩) hok I.bare
/-- behind a call (or a comprehension's block): the slots of this frame may have changed too, the records at ch may have turned -/
theorem Inv.call {g' : Array GenState} {t' : Nat} {d' : Drawn} {ch : List Addr} (I : Inv X pins σ H s) (u : Un (frs X.stack) ch H H' s.heap h') (hok : HOk X.prog X.w H' h') (hg : AllBare g')
    (hch : ∀ b ∈ ch, (b ∈ X.ex ∨ X.s₀.heap.objs.size ≤ b) ∧ b ≠ X.env.locals ∧ (∀ x c, X.env.cells.lookup x = some c → c ≠ b) ∧ ∀ p ∈ X.pn ++ pins, p.1 ≠ b) :
    Inv X pins σ H' { s with heap := h', gens := g', drawn := d', toks := t' } := by
  obtain ⟨m, ⟨o, es, ep, ho, r⟩, _⟩ := id I.loc
  obtain ⟨sl, hL⟩ := u.any ho I.free fun z => (hch _ z).2.1 rfl
  exact I.step (ch := ch) hch (fun b o hL hb hc e n => u.keep b o e n (fun z => (List.mem_cons.mp (I.stkSub b z)).elim hL hb) hc) (fun b o _ _ hc e n => u.any e n hc) (fun b o hc e n => u.free b o e n hc) (fun b o hc e => u.there b o e hc) u.tups u.frzs u.tbls (fun m' hm => by
    obtain ⟨o', es', ep', ho', r'⟩ := hm
    rw [ho] at ho'; cases ho'
    exact ⟨_, es', ep', hL, r'⟩) hok hg
/-- an untracked record of ours (an iterator) has turned -/
theorem Inv.turned {t' : Nat} {it : Addr} (I : Inv X pins σ H s) (k : ∀ b o, b ≠ it → s.heap.get? b = some o → h'.get? b = some o) (hn : H it = none) (hL : it ≠ X.env.locals)
    (h1 : it ∈ X.ex ∨ X.s₀.heap.objs.size ≤ it) (h2 : ∀ x c, X.env.cells.lookup x = some c → c ≠ it) (h3 : ∀ p ∈ X.pn ++ pins, p.1 ≠ it) : Inv X pins σ H { s with heap := h', toks := t' } := by
  have nit : ∀ b u, H b = some u → b ≠ it := fun b u e z => by rw [z, hn] at e; cases e
  refine I.step (g' := s.gens) (d' := s.drawn) (ch := [it]) (fun b hb => ?_) (fun b o _ _ hc e _ => k b o (fun z => hc (by simp [z])) e) (fun b o _ _ hc e _ => ⟨o.slots, k b o (fun z => hc (by simp [z])) e⟩) (fun _ _ _ _ n => n)
    (fun b o hc e => ⟨o, k b o (fun z => hc (by simp [z])) e⟩) (fun _ _ e => e) (fun _ _ _ e => e) (fun b ps e => ⟨#[], by rw [e]; simp⟩) (fun m hm => ?_) (fun b u e => ?_) I.bare
  · have e : b = it := by simpa using hb
    subst e
    exact ⟨h1, hL, h2, h3⟩
  · obtain ⟨o, es, ep, ho, r⟩ := hm
    exact ⟨o, es, ep, k _ o (Ne.symm hL) ho, r⟩
  · refine (I.hok b u e).stay (fun c v hc q => k c v ?_ q) (fun _ q => q) fun _ _ q => q
    rcases hc with z | z
    · rw [z]; exact nit b u e
    · exact nit c _ z
theorem Inv.tok (I : Inv X pins σ H s) (t : Nat) : Inv X pins σ H { s with toks := t } := I.un (h' := s.heap) (t' := t) Un.refl I.hok
/-- all objects kept -/
theorem Inv.kept {t' : Nat} (I : Inv X pins σ H s) (k : ∀ b u, s.heap.get? b = some u → h'.get? b = some u) : Inv X pins σ H { s with heap := h', toks := t' } := I.un (Un.kept k) (I.hok.kept k)
/-- a new object laid and tracked -/
theorem Inv.laid {a : Addr} {o : HO} {t' : Nat} (I : Inv X pins σ H s) (k : ∀ b u, s.heap.get? b = some u → h'.get? b = some u) (hp : s.heap.objs.size ≤ a) (new : ObjOk X.prog X.w (upd H a o) h' a o) :
    Inv X pins σ (upd H a o) { s with heap := h', toks := t' } := I.un (Un.laid k hp (I.hok.fresh hp)) (I.hok.laid k hp new)
/-- an object written -/
theorem Inv.write {x e : Addr} {o : HO} {t' : Nat} (I : Inv X pins σ H s) (mu : Mut (H x)) (he : e = x ∨ H e = some (.own x)) (k : ∀ b u, b ≠ e → s.heap.get? b = some u → h'.get? b = some u) (heo : ∃ u, h'.get? e = some u)
    (new : ObjOk X.prog X.w (upd H x o) h' x o) : Inv X pins σ (upd H x o) { s with heap := h', toks := t' } := I.un (Un.write mu he k heo) (I.hok.write mu he k heo new)
/-- forgetting slots, pins -/
theorem Inv.weak {σ' : List (Option V)} (I : Inv X pins σ H s) (hl : σ'.length = σ.length) (w : ∀ (i : Nat) v, σ'[i]? = some (some v) → σ[i]? = some (some v)) : Inv X pins σ' H s :=
  ⟨I.ok, I.os, I.bare, I.base, let ⟨m, hn, hl'⟩ := I.loc; ⟨m, hn, fun i x v e1 e2 e3 => hl' i x v e1 (w i v e2) e3⟩, I.cell, I.free, I.freeC, I.pin, I.hok, hl.trans I.len⟩
theorem Inv.pins_of {pins' : List (Addr × Obj)} (I : Inv X pins σ H s) (h : ∀ p ∈ pins', s.heap.get? p.1 = some p.2 ∧ H p.1 = none ∧ p.1 ≠ X.env.locals ∧ p.1 ∉ X.fs ∧ ∀ v, p.2.data ≠ .cell v) : Inv X pins' σ H s :=
  ⟨I.ok, I.os, I.bare, I.base, I.loc, I.cell, I.free, I.freeC, fun p hp => (List.mem_append.mp hp).elim (fun z => I.pin p (List.mem_append_left _ z)) (h p), I.hok, I.len⟩

theorem nodup_ix {N : List Str} (hN : N.Nodup) {i j : Nat} {x : Str} (a : N[i]? = some x) (b : N[j]? = some x) : i = j := by
  obtain ⟨h1, e1⟩ := List.getElem?_eq_some_iff.mp a
  obtain ⟨h2, e2⟩ := List.getElem?_eq_some_iff.mp b
  exact (List.getElem_inj hN).mp (e1.trans e2.symm)

/-- a name is stored; what changed -/
theorem store_ok2 {M : Model} {A : Around} {E : Value → Shared → Prop} {i : Nat} {x : Str} {v : V} {u : Value} {Q : Unit → Shared → Prop} (I : Inv X pins σ H s) (hN : X.N.Nodup) (hi : X.N[i]? = some x) (hx : Loc X.env.scope x) (r : RelV v u)
    (h : ∀ s', Inv X pins (σ.set i (some v)) H s' → (∃ a, Heap.SameBut a s.heap s'.heap ∧ (a = X.env.locals ∨ X.env.cells.lookup x = some a)) → Q () s') (hf : X.fn x = true ∨ X.env.scope.names.lookup x = some .local := by first | exact .inl rfl | exact .inr rfl | assumption) : wpAny M A (storeName X.env x u) Q E s := by
  obtain ⟨m, hn, hl⟩ := id I.loc
  have hcls : (X.env.scope.kind == .class || (X.env.scope.kind == .module && X.env.locals != X.env.globals)) = false := by rw [I.ok.kind]; rfl
  have hiσ : i < σ.length := by rw [I.len]; exact (List.getElem?_eq_some_iff.mp hi).1
  have cne := I.cne
  have tracked : ∀ {a : Addr} {h' : Heap}, (∃ o, s.heap.get? a = some o ∧ H a = none) → Heap.SameBut a s.heap h' → HOk X.prog X.w H h' := fun {a h'} ha hs b ob e => by
    obtain ⟨_, _, hfree⟩ := ha
    refine (I.hok b ob e).stay (fun c w' hc q => (hs.2 c ?_).trans q) (fun _ q => q) fun _ _ q => q
    rintro rfl
    rcases hc with rfl | hc
    · rw [hfree] at e; cases e
    · rw [hfree] at hc; cases hc
  rcases hx with hk | hk
  · refine wpAny_storeName_local hk hn (fun h' hn' hs => ?_) hcls
    obtain ⟨oL, _, _, hoL, _⟩ := id hn
    refine h _ ⟨I.ok, I.os, I.bare, ⟨fun b o e n hb hx => ?_, fun b o e n hb hx => ?_, I.base.free, fun b o e hx => ?_, I.base.tups, I.base.frzs, I.base.tbls⟩, ⟨_, hn', fun j y v' e1 e2 e3 => ?_⟩, fun y c e => ?_, I.free, I.freeC, fun p hp => ?_, tracked ⟨oL, hoL, I.free⟩ hs, by simpa using I.len⟩ ⟨_, hs, .inl rfl⟩
    · exact (hs.2 b (Nat.ne_of_lt (Nat.lt_of_lt_of_le (Heap.lt_size e) I.ok.above))).trans (I.base.keep b o e n hb hx)
    · obtain ⟨sl, e1⟩ := I.base.slot b o e n hb hx
      exact ⟨sl, (hs.2 b (Nat.ne_of_lt (Nat.lt_of_lt_of_le (Heap.lt_size e) I.ok.above))).trans e1⟩
    · obtain ⟨o', e1⟩ := I.base.there b o e hx
      exact ⟨o', (hs.2 b (Nat.ne_of_lt (Nat.lt_of_lt_of_le (Heap.lt_size e) I.ok.above))).trans e1⟩
    · by_cases hj : j = i
      · subst hj
        rw [hi] at e1; cases e1
        rw [List.getElem?_set_self hiσ] at e2
        cases e2
        exact ⟨u, r, .inl ⟨hk, by simp⟩⟩
      · rw [List.getElem?_set_ne (Ne.symm hj)] at e2
        obtain ⟨u', r', q⟩ := hl j y v' e1 e2 e3
        refine ⟨u', r', ?_⟩
        rcases q with ⟨k, e⟩ | ⟨k, c, e, z⟩
        · refine .inl ⟨k, ?_⟩
          have : y ≠ x := fun e => hj (nodup_ix hN e1 (e ▸ hi))
          simp [this, e]
        · exact .inr ⟨k, c, e, z.sameBut hs (cne y c e)⟩
    · obtain ⟨w', z⟩ := I.cell y c e
      exact ⟨w', z.sameBut hs (cne y c e)⟩
    · obtain ⟨e, n, ne, nf, d⟩ := I.pin p hp
      exact ⟨(hs.2 p.1 ne).trans e, n, ne, nf, d⟩
  · have hfn : X.fn x = true := by
      rcases hf with z | z
      · exact z
      · rw [z] at hk; cases hk
    obtain ⟨c, hc⟩ := I.ok.has x (.inl hk)
    obtain ⟨w', z⟩ := I.cell x c hc
    refine wpAny_storeName_cell I.ok.kind hk hc z (fun h' hc' hs => ?_)
    obtain ⟨oc, hoc, hocd⟩ := id z
    refine h { s with heap := h' } ⟨I.ok, I.os, I.bare, ⟨fun b o e n hb hx => ?_, fun b o e n hb hx => ?_, I.base.free, fun b o e hx => ?_, I.base.tups, I.base.frzs, I.base.tbls⟩, ⟨m, hn.sameBut hs (Ne.symm (cne x c hc)), fun j y v' e1 e2 e3 => ?_⟩, fun y c' e => ?_, I.free, I.freeC, fun p hp => ?_, tracked ⟨oc, hoc, I.freeC x c hc⟩ hs, by simpa using I.len⟩ ⟨c, hs, .inr hc⟩
    · exact (hs.2 b (Nat.ne_of_lt (Nat.lt_of_lt_of_le (Heap.lt_size e) (I.ok.cab x c hfn hc)))).trans (I.base.keep b o e n hb hx)
    · obtain ⟨sl, e1⟩ := I.base.slot b o e n hb hx
      exact ⟨sl, (hs.2 b (Nat.ne_of_lt (Nat.lt_of_lt_of_le (Heap.lt_size e) (I.ok.cab x c hfn hc)))).trans e1⟩
    · obtain ⟨o', e1⟩ := I.base.there b o e hx
      exact ⟨o', (hs.2 b (Nat.ne_of_lt (Nat.lt_of_lt_of_le (Heap.lt_size e) (I.ok.cab x c hfn hc)))).trans e1⟩
    · by_cases hj : j = i
      · subst hj
        rw [hi] at e1; cases e1
        rw [List.getElem?_set_self hiσ] at e2
        cases e2
        exact ⟨u, r, .inr ⟨.inl hk, c, hc, hc'⟩⟩
      · rw [List.getElem?_set_ne (Ne.symm hj)] at e2
        obtain ⟨u', r', q⟩ := hl j y v' e1 e2 e3
        refine ⟨u', r', ?_⟩
        rcases q with q | ⟨k, c', e, z'⟩
        · exact .inl q
        · refine .inr ⟨k, c', e, z'.sameBut hs ?_⟩
          rintro rfl
          exact hj (nodup_ix hN e1 (I.ok.inj _ _ _ e hc ▸ hi))
    · by_cases hcc : c' = c
      · subst hcc; exact ⟨_, hc'⟩
      · obtain ⟨w2, z2⟩ := I.cell y c' e
        exact ⟨w2, z2.sameBut hs hcc⟩
    · obtain ⟨e, n, ne, nf, d⟩ := I.pin p hp
      refine ⟨(hs.2 p.1 ?_).trans e, n, ne, nf, d⟩
      intro q
      rw [q, hoc] at e
      have q' : oc = p.2 := Option.some.inj e
      exact d w' (by rw [← q']; exact hocd)
theorem store_ok {M : Model} {A : Around} {E : Value → Shared → Prop} {i : Nat} {x : Str} {v : V} {u : Value} {Q : Unit → Shared → Prop} (I : Inv X pins σ H s) (hN : X.N.Nodup) (hi : X.N[i]? = some x) (hx : Loc X.env.scope x) (r : RelV v u)
    (h : ∀ s', Inv X pins (σ.set i (some v)) H s' → Q () s') (hf : X.fn x = true ∨ X.env.scope.names.lookup x = some .local := by first | exact .inl rfl | exact .inr rfl | assumption) : wpAny M A (storeName X.env x u) Q E s :=
  store_ok2 I hN hi hx r (fun s' I' _ => h s' I') hf
/-- behind a call or a block, the state as it is -/
theorem Inv.call' {s' : Shared} {ch : List Addr} (I : Inv X pins σ H s) (ho : s'.os = s.os) (u : Un (frs X.stack) ch H H' s.heap s'.heap) (hok : HOk X.prog X.w H' s'.heap) (hg : AllBare s'.gens)
    (hch : ∀ b ∈ ch, (b ∈ X.ex ∨ X.s₀.heap.objs.size ≤ b) ∧ b ≠ X.env.locals ∧ (∀ x c, X.env.cells.lookup x = some c → c ≠ b) ∧ ∀ p ∈ X.pn ++ pins, p.1 ≠ b) : Inv X pins σ H' s' := by
  obtain ⟨h', g', d', t', o'⟩ := s'
  have e : o' = s.os := ho
  subst e
  exact I.call (g' := g') (t' := t') (d' := d') u hok hg hch
end

/-! ### the judgements -/
/-- an exception: its class, its own dict's address (where it has one), the abstract heap behind it -/
abbrev XK := Value → Option Addr → Hp → Prop
abbrev St := List (Option V)
abbrev VK := V → Hp → Prop
/-- an expression's reading; a test's; an argument list's -/
abbrev TE := St → Hp → VK → Prop
abbrev TT := St → Hp → (Bool → Hp → Prop) → Prop
abbrev TA := St → Hp → (List V → Hp → Prop) → Prop
/-- what is wanted behind a statement -/
structure Ends where
  nx : St → Hp → Prop
  rt : VK
  bk : St → Hp → Prop := fun _ _ => False
  ct : St → Hp → Prop := fun _ _ => False
abbrev TS := Ends → St → Hp → Prop

def EP (X : Cx) (pins : List (Addr × Obj)) (σ : St) (Q : VK) (u : Value) (s' : Shared) : Prop := ∃ v H', Inv X pins σ H' s' ∧ RelV v u ∧ Q v H'
def TP (X : Cx) (pins : List (Addr × Obj)) (σ : St) (Q : Bool → Hp → Prop) (b : Bool) (s' : Shared) : Prop := ∃ H', Inv X pins σ H' s' ∧ Q b H'
def AP (X : Cx) (pins : List (Addr × Obj)) (σ : St) (Q : List V → Hp → Prop) (us : List Value) (s' : Shared) : Prop := ∃ vs H', Inv X pins σ H' s' ∧ Vals vs us ∧ Q vs H'
def SP (X : Cx) (pins : List (Addr × Obj)) (D : Ends) (f : Flow) (s' : Shared) : Prop :=
  match f with
  | .next => ∃ σ' H', Inv X pins σ' H' s' ∧ D.nx σ' H'
  | .brk => ∃ σ' H', Inv X pins σ' H' s' ∧ D.bk σ' H'
  | .cont => ∃ σ' H', Inv X pins σ' H' s' ∧ D.ct σ' H'
  | .ret u => ∃ v σ' H', Inv X pins σ' H' s' ∧ RelV v u ∧ D.rt v H'

def PE (X : Cx) (e : Expr) (t : TE) : Prop :=
  ∀ (pins : List (Addr × Obj)) (s : Shared) (σ : St) (H : Hp) (Q : VK), Inv X pins σ H s → t σ H Q → wpAny (model X.prog X.w) X.A (eval e X.env) (EP X pins σ Q) X.xe s
def PT (X : Cx) (e : Expr) (t : TT) : Prop :=
  ∀ (pins : List (Addr × Obj)) (s : Shared) (σ : St) (H : Hp) (Q : Bool → Hp → Prop), Inv X pins σ H s → t σ H Q → wpAny (model X.prog X.w) X.A (isTrue e X.env (eval e X.env)) (TP X pins σ Q) X.xe s
/-- a test whatever its 'whole' is (and, or) -/
def PW (X : Cx) (e : Expr) (t : TT) : Prop :=
  ∀ (whole : Sem Value) (pins : List (Addr × Obj)) (s : Shared) (σ : St) (H : Hp) (Q : Bool → Hp → Prop), Inv X pins σ H s → t σ H Q → wpAny (model X.prog X.w) X.A (isTrue e X.env whole) (TP X pins σ Q) X.xe s
theorem PW.pt {X : Cx} {e : Expr} {t : TT} (h : PW X e t) : PT X e t := h _
/-- an argument list (no star), from the left -/
def PA (X : Cx) (es : List Expr) (t : TA) : Prop :=
  ∀ (pos : Pos) (pins : List (Addr × Obj)) (s : Shared) (σ : St) (H : Hp) (Q : List V → Hp → Prop), Inv X pins σ H s → t σ H Q → wpAny (model X.prog X.w) X.A (spliced (backTo pos (starEach es X.env))) (AP X pins σ Q) X.xe s
def PS (X : Cx) (st : Stmt) (t : TS) : Prop :=
  ∀ (pins : List (Addr × Obj)) (s : Shared) (σ : St) (H : Hp) (D : Ends), Inv X pins σ H s → t D σ H → wpAny (model X.prog X.w) X.A (exec st X.env) (SP X pins D) X.xe s
def PSs (X : Cx) (st : List Stmt) (t : TS) : Prop :=
  ∀ (pins : List (Addr × Obj)) (s : Shared) (σ : St) (H : Hp) (D : Ends), Inv X pins σ H s → t D σ H → wpAny (model X.prog X.w) X.A (execs st X.env) (SP X pins D) X.xe s
/-- weaken the end -/
theorem thn {α : Type} {t : Sem α} {Q Q' : α → Shared → Prop} {M : Model} {A : Around} {E : Value → Shared → Prop} {s : Shared} (h : wpAny M A t Q E s) (hQ : ∀ a s, Q a s → Q' a s) : wpAny M A t Q' E s := wpAny_mono h hQ fun _ _ x => x
end L2

namespace L2
open PySem PySem.Spec PyProof.Rows
section
variable {X : Cx}

/-! ### names and constants -/
def tVar (i : Nat) : TE := fun σ H Q => ∃ v, σ[i]? = some (some v) ∧ Q v H
def tC (v : V) : TE := fun _ H Q => Q v H
theorem pe_var {i : Nat} {x : Str} {pos : Pos} (hN : X.N[i]? = some x) (hv : Vis X.env.scope x) (hd : (x == ("__debug__" : Str)) = false := by decide) (hcd : (x == ("__classdict__" : Str)) = false := by decide) : PE X (.Name x pos) (tVar i) := by
  intro pins s σ H Q I h
  obtain ⟨v, e, h⟩ := h
  obtain ⟨m, hn, hl⟩ := I.loc
  obtain ⟨u, r, l⟩ := hl i x v hN e hv
  have fin : EP X pins σ Q u s := ⟨v, H, I, r, h⟩
  rcases l with ⟨hk, hm⟩ | ⟨hk, c, hc, hcell⟩
  · exact wpAny_Name (wpAny_loadName_local I.ok.kind hk hn hm fin) hd
  · rcases hk with hk | hk
    · exact wpAny_Name (wpAny_loadName_cell I.ok.kind hk hc hcell fin) hd
    · exact wpAny_Name (wpAny_loadName_free I.ok.kind hk hc hcell fin hcd) hd
theorem pe_int {i j pos} : PE X (.Constant (.int i) j pos) (tC (.int i)) := fun _ _ _ H _ I h => wpAny_Constant_int ⟨.int i, H, I.tok _, ⟨_, rfl⟩, h⟩
theorem pe_bl {b j pos} : PE X (.Constant (.bool b) j pos) (tC (.bl b)) := fun _ _ _ H _ I h => Constant_bool ⟨.bl b, H, I, rfl, h⟩
theorem pe_non {j pos} : PE X (.Constant .none j pos) (tC .non) := fun _ _ _ H _ I h => Constant_none ⟨.non, H, I, rfl, h⟩
theorem pe_str {x j pos} : PE X (.Constant (.str x) j pos) (tC (.str x)) := fun _ _ _ H _ I h => Calls.Constant_str ⟨.str x, H, I.tok _, ⟨_, rfl⟩, h⟩

/-- a global name of the def -/
def Gl (X : Cx) (x : Str) : Prop := X.env.kindOf x = some .globalImplicit
theorem ld_glob {E : Value → Shared → Prop} {pins : List (Addr × Obj)} {s : Shared} {σ : St} {H : Hp} {x : Str} {u : Value} {pos : Pos} {Q : Value → Shared → Prop} (I : Inv X pins σ H s) (hg : Gl X x) (hm : X.mg x = some u) (h : Q u s)
    (hd : (x == ("__debug__" : Str)) = false := by decide) : wpAny (model X.prog X.w) X.A (eval (.Name x pos) X.env) Q E s :=
  Calls.Name_function_global I.ok.kind hg (Calls.loadGlobal_global (by rw [I.ok.glob]; exact I.mod.glob.keeps I.bk) hm h) hd
theorem ld_blt {E : Value → Shared → Prop} {pins : List (Addr × Obj)} {s : Shared} {σ : St} {H : Hp} {x : Str} {u : Value} {pos : Pos} {Q : Value → Shared → Prop} (I : Inv X pins σ H s) (hg : Gl X x) (hm : X.mg x = none) (hv : bootBuiltins x = some u) (h : Q u s)
    (hn : x ≠ "__name__" := by decide) (hd : (x == ("__debug__" : Str)) = false := by decide) : wpAny (model X.prog X.w) X.A (eval (.Name x pos) X.env) Q E s := by
  obtain ⟨mb, h1, h2⟩ := I.mod.blt
  exact Calls.Name_function_global I.ok.kind hg (Calls.loadGlobal_builtin (by rw [I.ok.glob]; exact I.mod.glob.keeps I.bk) hm (by rw [I.ok.blt]; exact h1.keeps I.bk) ((h2 x hn).trans hv) h) hd
/-- a module's constant, a class, a function, as a value -/
theorem pe_glob {x : Str} {v : V} {u : Value} {pos : Pos} (hg : Gl X x) (hm : X.mg x = some u) (r : RelV v u) (hd : (x == ("__debug__" : Str)) = false := by decide) : PE X (.Name x pos) (tC v) :=
  fun _ _ _ H _ I h => ld_glob I hg hm ⟨v, H, I, r, h⟩ hd
theorem pe_bltn {x : Str} {v : V} {u : Value} {pos : Pos} (hg : Gl X x) (hm : X.mg x = none) (hv : bootBuiltins x = some u) (r : RelV v u) (hn : x ≠ "__name__" := by decide) (hd : (x == ("__debug__" : Str)) = false := by decide) : PE X (.Name x pos) (tC v) :=
  fun _ _ _ H _ I h => ld_blt I hg hm hv ⟨v, H, I, r, h⟩ hn hd

/-! ### arithmetic -/
variable {a b : Expr} {ta tb : TE} {pos : Pos}
/-! ### comparisons -/
/-- a comparison as a value, as a test -/
def tB (t : TE) : TT := fun σ H Q => t σ H fun x H1 => ∃ c, x = .bl c ∧ Q c H1
/-- an expression whose value is a bool, as a test -/
theorem pt_val {e : Expr} {t : TE} (h : PE X e t) (he : ∀ whole, isTrue e X.env whole = (do let v ← whole; standAt e.pos; holding [v] (truthy v)) := by intro _; rfl) : PT X e (tB t) := by
  intro pins s σ H Q I hw
  refine isTrue_plain (thn (h pins s σ H _ I hw) fun v s1 ⟨x, H1, I1, r1, q1⟩ => ?_) (he _)
  obtain ⟨d, rfl, q⟩ := q1
  cases r1
  exact wpAny_truthy_bool ⟨H1, I1, q⟩

/-! ### and, or, not -/
variable {tA tB' : TT} {rest : List Expr}
def tAnd (t u : TT) : TT := fun σ H Q => t σ H fun c H1 => if c = true then u σ H1 Q else Q false H1
def tOr (t u : TT) : TT := fun σ H Q => t σ H fun c H1 => if c = true then Q true H1 else u σ H1 Q
def tNot (t : TT) : TT := fun σ H Q => t σ H fun c H1 => Q (!c) H1
theorem pw_and1 (ha : PT X a tA) : PW X (.BoolOp .And [a] pos) tA := by
  intro wh pins s σ H Q I h
  refine isTrue_and (thn (ha pins s σ H Q I h) fun c s1 e => ?_)
  cases c with
  | true => exact isTrue_and_nil e
  | false => exact e
theorem pw_or1 (ha : PT X a tA) : PW X (.BoolOp .Or [a] pos) tA := by
  intro wh pins s σ H Q I h
  refine isTrue_or (thn (ha pins s σ H Q I h) fun c s1 e => ?_)
  cases c with
  | false => exact isTrue_or_nil e
  | true => exact e
theorem pw_and (ha : PT X a tA) (hb : PW X (.BoolOp .And (b :: rest) pos) tB') : PW X (.BoolOp .And (a :: b :: rest) pos) (tAnd tA tB') := by
  intro wh pins s σ H Q I h
  refine isTrue_and (thn (ha pins s σ H _ I h) fun c s1 ⟨H1, I1, q1⟩ => ?_)
  cases c with
  | true => exact hb wh pins s1 σ H1 Q I1 q1
  | false => exact ⟨H1, I1, q1⟩
theorem pw_or (ha : PT X a tA) (hb : PW X (.BoolOp .Or (b :: rest) pos) tB') : PW X (.BoolOp .Or (a :: b :: rest) pos) (tOr tA tB') := by
  intro wh pins s σ H Q I h
  refine isTrue_or (thn (ha pins s σ H _ I h) fun c s1 ⟨H1, I1, q1⟩ => ?_)
  cases c with
  | true => exact ⟨H1, I1, q1⟩
  | false => exact hb wh pins s1 σ H1 Q I1 q1
theorem pt_not (ha : PT X a tA) : PT X (.UnaryOp .Not a pos) (tNot tA) := by
  intro pins s σ H Q I h
  exact isTrue_not (ha pins s σ H (fun c H1 => Q (!c) H1) I h)
/-- .. as values (bools) -/
def tAndV (ta tb : TE) : TE := fun σ H Q => ta σ H fun x H1 => ∃ c, x = .bl c ∧ if c = true then tb σ H1 Q else Q (.bl false) H1
def tNotV (ta : TE) : TE := fun σ H Q => ta σ H fun x H1 => ∃ c, x = .bl c ∧ Q (.bl (!c)) H1
theorem pe_one {op} {t : TE} (h : PE X a t) : PE X (.BoolOp op [a] pos) t := fun pins s σ H Q I hw => BoolOp_one (h pins s σ H Q I hw)
theorem pe_and (ha : PE X a ta) (hb : PE X (.BoolOp .And (b :: rest) pos) tb) : PE X (.BoolOp .And (a :: b :: rest) pos) (tAndV ta tb) := by
  intro pins s σ H Q I h
  refine BoolOp_and (thn (ha pins s σ H _ I h) fun v s1 ⟨x, H1, I1, r1, q1⟩ => ?_)
  obtain ⟨c, rfl, q1⟩ := q1
  cases r1
  refine wpAny_truthy_bool ?_
  cases c with
  | true => exact hb pins s1 σ H1 Q I1 q1
  | false => exact ⟨.bl false, H1, I1, rfl, q1⟩
theorem pe_not (ha : PE X a ta) : PE X (.UnaryOp .Not a pos) (tNotV ta) := by
  intro pins s σ H Q I h
  refine UnaryOp_ (thn (ha pins s σ H _ I h) fun v s1 ⟨x, H1, I1, r1, q1⟩ => ?_)
  obtain ⟨c, rfl, q1⟩ := q1
  cases r1
  exact not_of (wpAny_truthy_bool ⟨.bl (!c), H1, I1, rfl, q1⟩)
/-- a if t else b -/
def tIf (t : TT) (ta tb : TE) : TE := fun σ H Q => t σ H fun c H1 => if c = true then ta σ H1 Q else tb σ H1 Q
theorem pe_ifExp {c : Expr} (hc : PT X c tA) (ha : PE X a ta) (hb : PE X b tb) : PE X (.IfExp c a b pos) (tIf tA ta tb) := by
  intro pins s σ H Q I h
  refine wpAny_IfExp (thn (hc pins s σ H _ I h) fun d s1 ⟨H1, I1, q1⟩ => ?_)
  cases d with
  | true => exact ha pins s1 σ H1 Q I1 q1
  | false => exact hb pins s1 σ H1 Q I1 q1
end
end L2

namespace L2
open PySem PySem.Spec PyProof.Rows

/-! ### a list, a tuple that is read: tracked, frozen, or an object of the module -/
def SqL (K : PySem.W.Frag) (H : Hp) (a : Addr) (xs : List V) : Prop :=
  Rd H a (.lst xs) ∨
    ∃ (o : Obj) (its : Array Value) (n : Nat), K.lookup a = some o ∧ o.cls = .type "list" ∧ o.dict = none ∧ o.data = .seq its n ∧ its.size ≤ sizeLine ∧ Vals xs its.toList
def SqT (K : PySem.W.Frag) (H : Hp) (a : Addr) (xs : List V) : Prop :=
  Rd H a (.tup xs) ∨
    ∃ (o : Obj) (its : Array Value) (n : Nat), K.lookup a = some o ∧ o.cls = .type "tuple" ∧ o.data = .seq its n ∧ its.size ≤ sizeLine ∧ Vals xs its.toList
def absV : Value → Option V
  | .none => some .non
  | .bool b => some (.bl b)
  | .int i _ => some (.int i)
  | .str x _ => some (.str x)
  | .bytes b _ => some (.byt b)
  | .float b _ => some (.flt b)
  | .ref a => some (.ref a)
  | .type n => some (.ty n)
  | _ => none
theorem RelV.abs {x : V} {u : Value} (r : RelV x u) : absV u = some x := by
  cases x with
  | non => cases r; rfl
  | bl _ => cases r; rfl
  | int _ => obtain ⟨t, rfl⟩ := r; rfl
  | str _ => obtain ⟨t, rfl⟩ := r; rfl
  | byt _ => obtain ⟨t, rfl⟩ := r; rfl
  | flt _ => obtain ⟨t, rfl⟩ := r; rfl
  | ref _ => cases r; rfl
  | ty _ => cases r; rfl
theorem RelV.inj {x y : V} {u : Value} (r : RelV x u) (q : RelV y u) : x = y := Option.some.inj (r.abs.symm.trans q.abs)
theorem Vals.inj : ∀ {xs ys : List V} {us : List Value}, Vals xs us → Vals ys us → xs = ys
  | _, _, _, .nil, .nil => rfl
  | _, _, _, .cons r t, .cons r' t' => by rw [r.inj r', Vals.inj t t']
section
variable {X : Cx} {pins : List (Addr × Obj)} {σ : St} {H : Hp} {s : Shared} {a : Addr} {xs ys : List V}
theorem SqL.of {K : PySem.W.Frag} (h : H a = some (.lst xs)) : SqL K H a xs := .inl (.inl h)
theorem SqT.of {K : PySem.W.Frag} (h : H a = some (.tup xs)) : SqT K H a xs := .inl (.inl h)
theorem Inv.list (I : Inv X pins σ H s) (h : SqL X.K H a xs) : ∃ its : List Value, Vals xs its ∧ PlainL s.heap a its.toArray ∧ xs.length ≤ sizeLine := by
  rcases h with h | ⟨o, its, n, hk, hc, hd, hs, hz, r⟩
  · obtain ⟨z, its, n, r, e⟩ := h.ok I.hok
    exact ⟨its, r, ⟨_, n, e, rfl, rfl, rfl⟩, z⟩
  · refine ⟨its.toList, r, ⟨o, n, I.kIn a o hk, hc, hd, by simpa using hs⟩, ?_⟩
    have e := r.length
    simp only [Array.length_toList] at e
    omega
theorem Inv.tuple (I : Inv X pins σ H s) (h : SqT X.K H a xs) : ∃ its : List Value, Vals xs its ∧ IsTup s.heap a its.toArray ∧ xs.length ≤ sizeLine := by
  rcases h with h | ⟨o, its, n, hk, hc, hs, hz, r⟩
  · obtain ⟨z, its, r, p⟩ := h.ok I.hok
    exact ⟨its, r, p, z⟩
  · refine ⟨its.toList, r, ⟨o, I.kIn a o hk, hc, n, by simpa using hs⟩, ?_⟩
    have e := r.length
    simp only [Array.length_toList] at e
    omega
theorem Inv.list_inj (I : Inv X pins σ H s) (h : SqL X.K H a xs) (h' : SqL X.K H a ys) : xs = ys := by
  obtain ⟨its, r, ⟨o, n, e, _, _, d⟩, _⟩ := I.list h
  obtain ⟨its', r', ⟨o', n', e', _, _, d'⟩, _⟩ := I.list h'
  rw [e] at e'; cases e'
  rw [d] at d'
  injection d' with d1 _
  have : its = its' := by simpa using congrArg Array.toList d1
  subst this
  exact r.inj r'
theorem Inv.tuple_inj (I : Inv X pins σ H s) (h : SqT X.K H a xs) (h' : SqT X.K H a ys) : xs = ys := by
  obtain ⟨its, r, ⟨o, e, _, n, d⟩, _⟩ := I.tuple h
  obtain ⟨its', r', ⟨o', e', _, n', d'⟩, _⟩ := I.tuple h'
  rw [e] at e'; cases e'
  rw [d] at d'
  injection d' with d1 _
  have : its = its' := by simpa using congrArg Array.toList d1
  subst this
  exact r.inj r'
end

/-! ### another wish about exceptions -/
abbrev Cx.wish (X : Cx) (E : Value → Shared → Prop) : Cx := { X with xe := E }
/-- no exception leaves -/
abbrev Cx.nox (X : Cx) : Cx := X.wish fun _ _ => False
theorem Cx.Ok.wish {X : Cx} (ok : X.Ok) (E : Value → Shared → Prop) : (X.wish E).Ok :=
  ⟨ok.mod, ok.kind, ok.glob, ok.blt, ok.above, ok.inj, ok.has, ok.cab, ok.hd, ok.frames, ok.stk, ok.exf, ok.bs, ok.bsz, ok.noex, ok.exfs, ok.funs, ok.frf⟩
theorem Cx.Ok.unwish {X : Cx} {E : Value → Shared → Prop} (ok : (X.wish E).Ok) : X.Ok :=
  ⟨ok.mod, ok.kind, ok.glob, ok.blt, ok.above, ok.inj, ok.has, ok.cab, ok.hd, ok.frames, ok.stk, ok.exf, ok.bs, ok.bsz, ok.noex, ok.exfs, ok.funs, ok.frf⟩
section
variable {X : Cx} {pins : List (Addr × Obj)} {σ : St} {H : Hp} {s : Shared} {E : Value → Shared → Prop}
theorem Inv.wish (I : Inv X pins σ H s) (E : Value → Shared → Prop) : Inv (X.wish E) pins σ H s := ⟨I.ok.wish E, I.os, I.bare, I.base, I.loc, I.cell, I.free, I.freeC, I.pin, I.hok, I.len⟩
theorem Inv.unwish (I : Inv (X.wish E) pins σ H s) : Inv X pins σ H s := ⟨I.ok.unwish, I.os, I.bare, I.base, I.loc, I.cell, I.free, I.freeC, I.pin, I.hok, I.len⟩
theorem SP.unwish {D : Ends} {f : Flow} {s' : Shared} (h : SP (X.wish E) pins D f s') : SP X pins D f s' := by
  cases f with
  | next => obtain ⟨σ', H', I, q⟩ := h; exact ⟨σ', H', I.unwish, q⟩
  | brk => obtain ⟨σ', H', I, q⟩ := h; exact ⟨σ', H', I.unwish, q⟩
  | cont => obtain ⟨σ', H', I, q⟩ := h; exact ⟨σ', H', I.unwish, q⟩
  | ret u => obtain ⟨v, σ', H', I, r, q⟩ := h; exact ⟨v, σ', H', I.unwish, r, q⟩
theorem PSs.nox {st : List Stmt} {t : TS} (h : PSs X.nox st t) : PSs X st t := fun pins s σ H D I hw =>
  wpAny_mono (h pins s σ H D (I.wish _) hw) (fun _ _ q => q.unwish) fun _ _ z => False.elim z
end

/-! ### blocks and small statements -/
section
variable {X : Cx} {st : Stmt} {rest : List Stmt} {t u : TS} {e : Expr} {te : TE} {pos : Pos}
def tNext : TS := fun D σ H => D.nx σ H
def tSeq (t u : TS) : TS := fun D σ H => t { D with nx := u D } σ H
theorem pss_nil : PSs X [] tNext := fun _ _ σ H _ I h => wpAny_execs_nil ⟨σ, H, I, h⟩
theorem pss_cons (h1 : PS X st t) (h2 : PSs X rest u) : PSs X (st :: rest) (tSeq t u) := by
  intro pins s σ H D I h
  refine wpAny_execs_cons (thn (h1 pins s σ H { D with nx := u D } I h) fun f s1 q => ?_)
  cases f with
  | next =>
    obtain ⟨σ', H', I', q⟩ := q
    exact h2 pins s1 σ' H' D I' q
  | ret v => exact q
  | brk => exact q
  | cont => exact q
theorem pss_one (h1 : PS X st t) : PSs X [st] t := by
  intro pins s σ H D I h
  refine wpAny_execs_cons (thn (h1 pins s σ H D I h) fun f s1 q => ?_)
  cases f with
  | next => exact wpAny_execs_nil q
  | ret v => exact q
  | brk => exact q
  | cont => exact q
/-- in a def's body nothing is shown -/
theorem Inv.quiet {pins : List (Addr × Obj)} {σ : St} {H : Hp} {s : Shared} (I : Inv X pins σ H s) : interactive X.env = false := by simp [interactive, I.ok.kind]
/-- an expression whose value is dropped -/
def tDrop (te : TE) : TS := fun D σ H => te σ H fun _ H1 => D.nx σ H1
theorem ps_expr (he : PE X e te) (hs : swapsWith e none pos.line X.env = pure false := by rfl) : PS X (.Expr e pos) (tDrop te) := by
  intro pins s σ H D I h
  exact wpAny_Expr_any (thn (he pins s σ H _ I h) fun v s1 ⟨x, H1, I1, r1, q1⟩ => ⟨σ, H1, I1, q1⟩) I.quiet hs
def tRet (te : TE) : TS := fun D σ H => te σ H D.rt
theorem ps_ret (he : PE X e te) : PS X (.Return (some e) pos) (tRet te) := by
  intro pins s σ H D I h
  exact wpAny_Return_some (thn (he pins s σ H _ I h) fun v s1 ⟨x, H1, I1, r1, q1⟩ => ⟨x, σ, H1, I1, r1, q1⟩)
def tIfS (c : TT) (t u : TS) : TS := fun D σ H => c σ H fun b H1 => if b = true then t D σ H1 else u D σ H1
theorem ps_if {c : Expr} {a b : List Stmt} {tc : TT} (hc : PT X c tc) (ha : PSs X a t) (hb : PSs X b u) : PS X (.If c a b pos) (tIfS tc t u) := by
  intro pins s σ H D I h
  refine wpAny_If (thn (hc pins s σ H _ I h) fun d s1 ⟨H1, I1, q1⟩ => ?_)
  cases d with
  | true => exact ha pins s1 σ H1 D I1 q1
  | false => exact hb pins s1 σ H1 D I1 q1
end

/-! ### targets -/
abbrev TG := V → St → Hp → (St → Hp → Prop) → Prop
abbrev TGs := List V → St → Hp → (St → Hp → Prop) → Prop
def PG (X : Cx) (target : Expr) (t : TG) : Prop :=
  ∀ (pins : List (Addr × Obj)) (s : Shared) (σ : St) (H : Hp) (v : V) (u : Value) (Q : St → Hp → Prop), Inv X pins σ H s → RelV v u → t v σ H Q →
    wpAny (model X.prog X.w) X.A (assign target X.env u) (fun _ s' => ∃ σ' H', Inv X pins σ' H' s' ∧ Q σ' H') X.xe s
/-- several targets, one after another -/
def PGs (X : Cx) (ts : List Expr) (t : TGs) : Prop :=
  ∀ (pins : List (Addr × Obj)) (s : Shared) (σ : St) (H : Hp) (vs : List V) (us : List Value) (Q : St → Hp → Prop), Inv X pins σ H s → Vals vs us → t vs σ H Q →
    wpAny (model X.prog X.w) X.A (assignInOrder ((assignEach ts X.env).map (·.2)) us) (fun _ s' => ∃ σ' H', Inv X pins σ' H' s' ∧ Q σ' H') X.xe s
section
variable {X : Cx} {pos : Pos}
def gName (i : Nat) : TG := fun v σ H Q => Q (σ.set i (some v)) H
theorem pg_name {i : Nat} {x : Str} (hN : X.N.Nodup) (hi : X.N[i]? = some x) (hx : Loc X.env.scope x) (hf : X.fn x = true ∨ X.env.scope.names.lookup x = some .local := by first | exact .inl rfl | exact .inr rfl | assumption) : PG X (.Name x pos) (gName i) := by
  intro pins s σ H v u Q I r h
  exact wpAny_assign_Name (store_ok I hN hi hx r (fun s' I' => ⟨_, H, I', h⟩) hf)
def gNil : TGs := fun vs σ H Q => vs = [] ∧ Q σ H
def gCons (t : TG) (u : TGs) : TGs := fun vs σ H Q => ∃ v r, vs = v :: r ∧ t v σ H fun σ' H' => u r σ' H' Q
theorem pgs_nil : PGs X [] gNil := by
  intro pins s σ H vs us Q I r h
  obtain ⟨e, h⟩ := h
  subst e
  cases r
  exact assignInOrder_nil ⟨σ, H, I, h⟩
theorem pgs_cons {e : Expr} {es : List Expr} {t : TG} {u : TGs} (h1 : PG X e t) (h2 : PGs X es u)
    (hs : (assignEach (e :: es) X.env).map (·.2) = assign e X.env :: (assignEach es X.env).map (·.2) := by rfl) : PGs X (e :: es) (gCons t u) := by
  intro pins s σ H vs us Q I r h
  obtain ⟨v, vr, e1, h⟩ := h
  subst e1
  cases r with
  | cons r rr =>
    rw [hs]
    refine assignInOrder_cons (thn (h1 pins s σ H _ _ _ I r h) fun _ s1 ⟨σ1, H1, I1, q1⟩ => ?_)
    exact h2 pins s1 σ1 H1 _ _ Q I1 rr q1
/-- (a, b, ..) = a tuple of that length -/
def gTup (K : PySem.W.Frag) (n : Nat) (t : TGs) : TG := fun v σ H Q => ∃ a xs, v = .ref a ∧ SqT K H a xs ∧ xs.length = n ∧ t xs σ H Q
theorem pg_tup {es : List Expr} {k : Nat} {t : TGs} {n : Nat} (hc : X.calm = true) (h : PGs X es t)
    (hn : (assignEach es X.env).length = n := by rfl) (hst : (assignEach es X.env).findIdx? (·.1) = none := by rfl) : PG X (.Tuple es k pos) (gTup X.K n t) := by
  intro pins s σ H v u Q I r hw
  obtain ⟨a, xs, e1, hq, hl, hw⟩ := hw
  subst e1
  cases r
  obtain ⟨its, rv, ht, hz⟩ := I.tuple hq
  refine assign_Tuple_tuple (I.ok.hd hc) ht (by simp [hn, ← hl, rv.length]) hst fun h' hx => ?_
  have I1 : Inv X pins σ H { s with heap := h' } := I.kept (t' := s.toks) fun b o e => hx b o (Nat.ne_of_lt (Heap.lt_size e)) e
  exact h pins _ σ H xs _ Q I1 (by simpa using rv) hw
/-- target = value -/
def tAsg (te : TE) (g : TG) : TS := fun D σ H => te σ H fun x H1 => g x σ H1 D.nx
theorem ps_asg {tg e : Expr} {te : TE} {g : TG} (he : PE X e te) (hg : PG X tg g) (hs : swapsWithSole [tg] e pos.line X.env = pure false := by rfl) (hw : swappedStores [tg] e X.env = pure none := by rfl)
    (h1 : (assignEach [tg] X.env).map (·.2) = [assign tg X.env] := by rfl) : PS X (.Assign [tg] e pos) (tAsg te g) := by
  intro pins s σ H D I h
  refine wpAny_Assign_stores (thn (he pins s σ H _ I h) fun v s1 ⟨x, H1, I1, r1, q1⟩ => ?_) hs hw
  rw [h1]
  exact thn (hg pins s1 σ H1 x v _ I1 r1 q1) fun _ s2 q => q
/-- name = value -/
theorem ps_set {i : Nat} {x : Str} {e : Expr} {te : TE} {pos' : Pos} (hN : X.N.Nodup) (hi : X.N[i]? = some x) (hx : Loc X.env.scope x) (he : PE X e te) (hs : swapsWith e (some (.Name x pos')) pos.line X.env = pure false := by rfl) (hf : X.fn x = true ∨ X.env.scope.names.lookup x = some .local := by first | exact .inl rfl | exact .inr rfl | assumption) :
    PS X (.Assign [.Name x pos'] e pos) (tAsg te (gName i)) := by
  intro pins s σ H D I h
  refine wpAny_Assign_Name (thn (he pins s σ H _ I h) fun v s1 ⟨y, H1, I1, r1, q1⟩ => ?_) hs
  exact store_ok I1 hN hi hx r1 (fun s2 I2 => ⟨_, H1, I2, q1⟩) hf
/-- a, b = x, y with plain local names: stored from the right; the pair itself is not tracked (the opening rows as in PyProof/Rows/TupAssign.lean:23) -/
def tPar (i j : Nat) (ta : TA) : TS := fun D σ H => ta σ H fun vs H1 => ∃ v w, vs = [v, w] ∧ D.nx ((σ.set i (some v)).set j (some w)) H1
theorem ps_par {i j : Nat} {x y : Str} {a b : Expr} {ta : TA} {px py pt : Pos} {kt k2 pt2} (hc : X.calm = true) (hN : X.N.Nodup) (hi : X.N[i]? = some x) (hj : X.N[j]? = some y) (hij : i ≠ j)
    (hx : X.env.scope.names.lookup x = some .local) (hy : X.env.scope.names.lookup y = some .local) (ha : PA X [a, b] ta)
    (hw : swappedStores [.Tuple [.Name x px, .Name y py] kt pt] (.Tuple [a, b] k2 pt2) X.env = pure (some [x, y]))
    (hs : swapsWithSole [.Tuple [.Name x px, .Name y py] kt pt] (.Tuple [a, b] k2 pt2) pos.line X.env = pure false := by rfl) :
    PS X (.Assign [.Tuple [.Name x px, .Name y py] kt pt] (.Tuple [a, b] k2 pt2) pos) (tPar i j ta) := by
  intro pins s σ H D I h
  rw [exec_Assign_arm]
  refine wpAny_bind (wpAny_standAt ?_)
  rw [hs]
  refine wpAny_bind (wpAny_pure ?_)
  rw [if_neg (by decide)]
  refine wpAny_bind (Tuple_ (thn (ha _ pins s σ H _ I h) fun us s1 ⟨vs, H1, I1, r1, q1⟩ => ?_))
  obtain ⟨v, w, e1, q1⟩ := q1
  subst e1
  obtain ⟨u1, u2, rfl, rv, rw'⟩ : ∃ u1 u2, us = [u1, u2] ∧ RelV v u1 ∧ RelV w u2 := by
    cases r1 with
    | cons p q =>
      cases q with
      | cons p' q' =>
        cases q'
        exact ⟨_, _, rfl, p, p'⟩
  refine wpAny_newObj_type ?_ (by show 2 ≤ sizeLine; decide)
  have I2 : Inv X pins σ H1 { s1 with heap := s1.heap.push { cls := .type "tuple", data := .seq [u1, u2].toArray } } := I1.kept (t' := s1.toks) fun b o e => Heap.get?_push_of_some _ e
  rw [hw]
  refine wpAny_bind (wpAny_pure ?_)
  show wpAny (model X.prog X.w) X.A (do rule "assign.swapped-stores"; let items ← unpackItems (.ref s1.heap.objs.size) 2 none; assignInOrder [fun v => bindName X.env y v, fun v => bindName X.env x v] items.reverse; pure Flow.next) _ _ _
  refine wpAny_bind (wpAny_rule (wpAny_bind (unpackItems_tuple (items := #[u1, u2]) (I.ok.hd hc) (IsTup.new s1.heap _) fun h' hx' => ?_)))
  have I3 := I2.kept (h' := h') (t' := s1.toks) fun b o e => hx' b o (Nat.ne_of_lt (Heap.lt_size e)) e
  show wpAny _ _ (assignInOrder [fun v => bindName X.env y v, fun v => bindName X.env x v] [u2, u1] >>= fun _ => pure Flow.next) _ _ _
  refine wpAny_bind (assignInOrder_cons (wpAny_bindName (store_ok I3 hN hj (.inl hy) rw' (fun s2 I4 => ?_) (.inr hy))))
  refine assignInOrder_cons (wpAny_bindName (store_ok I4 hN hi (.inl hx) rv (fun s3 I5 => assignInOrder_nil (wpAny_pure ?_)) (.inr hx)))
  rw [List.set_comm _ _ (Ne.symm hij)] at I5
  exact ⟨_, H1, I5, q1⟩
end

/-! ### while -/
section
variable {X : Cx} {pos : Pos}
/-- the invariant W with its measure -/
def tWhile (c : TT) (tb : TS) : TS := fun D σ H => ∃ W : Nat → St → Hp → Prop, (∃ m, W m σ H) ∧ ∀ m σ H, W m σ H →
  c σ H fun b H1 => if b = true then ∃ N : St → Hp → Prop, (∀ σ' H', N σ' H' → ∃ m', m' < m ∧ W m' σ' H') ∧ tb { D with nx := N, ct := N, bk := D.nx } σ H1 else D.nx σ H1
theorem ps_while {c : Expr} {body : List Stmt} {tc : TT} {tb : TS} (hp : PassesOwn (model X.prog X.w) X.A X.env X.xe) (hc : PT X c tc) (hb : PSs X body tb) : PS X (.While c body [] pos) (tWhile tc tb) := by
  intro pins s σ H D I h
  obtain ⟨W, ⟨m0, w0⟩, turn⟩ := h
  refine wpAny_While (codeAny_whileLoop (fun n s' => ∃ σ' H', Inv X pins σ' H' s' ∧ W n σ' H') ?_ m0 ⟨σ, H, I, w0⟩)
  rintro n s1 ⟨σ1, H1, I1, w1⟩
  refine wpAny_passesOwn hp (thn (hc pins s1 σ1 H1 _ I1 (turn n σ1 H1 w1)) fun b s2 ⟨H2, I2, q2⟩ => ?_)
  cases b with
  | true =>
    obtain ⟨N, hN, q2⟩ := q2
    rw [if_pos rfl]
    refine wpAny_passesOwn hp (thn (hb pins s2 σ1 H2 _ I2 q2) fun f s3 q3 => ?_)
    cases f with
    | next =>
      obtain ⟨σ3, H3, I3, n3⟩ := q3
      obtain ⟨m', hm, w3⟩ := hN σ3 H3 n3
      exact ⟨m', hm, σ3, H3, I3, w3⟩
    | cont =>
      obtain ⟨σ3, H3, I3, n3⟩ := q3
      obtain ⟨m', hm, w3⟩ := hN σ3 H3 n3
      exact ⟨m', hm, σ3, H3, I3, w3⟩
    | brk => exact q3
    | ret v => exact q3
  | false =>
    rw [if_neg Bool.false_ne_true]
    exact wpAny_execs_nil ⟨σ1, H2, I2, q2⟩
end

/-! ### what a loop or a comprehension walks -/
/-- at turn i: it yields x (the heap may grow), or it stops -/
structure It where
  go : Nat → Hp → Prop
  yld : Nat → Hp → V → Hp → Prop
  stop : Nat → Hp → Prop
/-- the iterator's own objects may turn: they are not the frame's, not pinned, younger than the entry (or a comprehension's own) -/
def FpOk (X : Cx) (pins : List (Addr × Obj)) (H : Hp) (b : Addr) : Prop :=
  H b = none ∧ b ≠ X.env.locals ∧ b ∉ X.fs ∧ (b ∈ X.ex ∨ X.s₀.heap.objs.size ≤ b) ∧ (∀ x c, X.env.cells.lookup x = some c → c ≠ b) ∧ ∀ p ∈ X.pn ++ pins, p.1 ≠ b
theorem Inv.fpOk {X : Cx} {pins : List (Addr × Obj)} {σ : St} {H H' : Hp} {s : Shared} {b : Addr} (I : Inv X pins σ H s) (hb : s.heap.objs.size ≤ b) (hn : H' b = none) : FpOk X pins H' b := by
  refine ⟨hn, Nat.ne_of_gt (Nat.lt_of_lt_of_le I.lt hb), I.nofs hb, .inr (Nat.le_trans I.sz hb), fun x c e z => ?_, fun p hp z => ?_⟩
  · obtain ⟨v, q⟩ := I.cell x c e
    exact absurd (Nat.lt_of_lt_of_le q.lt (by rw [z]; exact hb)) (Nat.lt_irrefl _)
  · exact absurd (Nat.lt_of_lt_of_le (Heap.lt_size (I.pin p hp).1) (by rw [z]; exact hb)) (Nat.lt_irrefl _)
structure Turn (P : Program) (w : World) (K : PySem.W.Frag) (tg : Expr) (J : It) (fp : List Addr) (it : Addr) (tn : Nat → Heap → Prop) : Prop where
  mem : it ∈ fp
  obj : ∀ i h, tn i h → ∀ b ∈ fp, ∃ o, h.get? b = some o ∧ ∀ v, o.data ≠ .cell v
  keep : ∀ i h h', tn i h → (∀ b ∈ fp, ∀ o, h.get? b = some o → h'.get? b = some o) → tn i h'
  item : ∀ (X : Cx), X.prog = P → X.w = w → X.K = K → X.calm = true → ∀ (i : Nat) (pins : List (Addr × Obj)) (s : Shared) (σ : St) (H : Hp) (E : Value → Shared → Prop), Inv X pins σ H s → (∀ b ∈ fp, FpOk X pins H b) → tn i s.heap → J.go i H →
    wpAny (model P w) X.A (pyNext (.ref it)) (fun r s1 => ∃ u, r = some u ∧
      wpAny (model P w) X.A (letOwnedTupleGo tg (.ref it) u) (fun _ s2 => ∃ x H', Inv X pins σ H' s2 ∧ RelV x u ∧ J.yld i H x H' ∧ tn (i + 1) s2.heap ∧ ∀ b ∈ fp, H' b = none) E s1) E s
  done : ∀ (X : Cx), X.prog = P → X.w = w → X.K = K → X.calm = true → ∀ (i : Nat) (pins : List (Addr × Obj)) (s : Shared) (σ : St) (H : Hp) (E : Value → Shared → Prop), Inv X pins σ H s → (∀ b ∈ fp, FpOk X pins H b) → tn i s.heap → J.stop i H →
    wpAny (model P w) X.A (pyNext (.ref it)) (fun r s1 => r = none ∧ Inv X pins σ H s1) E s
  self : ∀ (A : Around) (i : Nat) (s : Shared) (Q : Value → Shared → Prop) (E : Value → Shared → Prop), tn i s.heap → Q (.ref it) s → wpAny (model P w) A (pyIter (.ref it)) Q E s
abbrev TI := St → Hp → (It → Hp → Prop) → Prop
/-- an iterator has come -/
def PIE (X : Cx) (pins : List (Addr × Obj)) (σ : St) (tg : Expr) (R : It → Hp → Prop) (itv : Value) (s2 : Shared) : Prop :=
  ∃ (it : Addr) (fp : List Addr) (tn : Nat → Heap → Prop) (J : It) (H' : Hp), itv = .ref it ∧ Inv X pins σ H' s2 ∧ Turn X.prog X.w X.K tg J fp it tn ∧ tn 0 s2.heap ∧ (∀ b ∈ fp, FpOk X pins H' b) ∧ R J H'
def PI (X : Cx) (tg iter : Expr) (wi : TI) : Prop :=
  ∀ (pins : List (Addr × Obj)) (s : Shared) (σ : St) (H : Hp) (R : It → Hp → Prop), Inv X pins σ H s → wi σ H R →
    wpAny (model X.prog X.w) X.A (eval iter X.env) (fun v s1 => wpAny (model X.prog X.w) X.A (pyIter v) (PIE X pins σ tg R) X.xe s1) X.xe s

/-- the step ahead of the store is nothing for an iterator that keeps no tuple -/
theorem go_of {M : Model} {A : Around} {E : Value → Shared → Prop} {s : Shared} {tg : Expr} {it : Addr} {u : Value} {o : Obj} {n : String} {vs : Array Value} {Q : Unit → Shared → Prop} (ho : s.heap.get? it = some o) (hc : o.cls = .type n) (hd : o.data = .fields vs)
    (hn : ["enumerate", "zip", "dict_itemiterator", "dict_reverseitemiterator", "odict_iterator", "itertools.zip_longest", "itertools.pairwise"].contains n = false) (hQ : Q () s) : wpAny M A (letOwnedTupleGo tg (.ref it) u) Q E s := by
  unfold letOwnedTupleGo
  cases tg <;> first
    | exact wpAny_pure hQ
    | (cases u <;> first
        | exact wpAny_pure hQ
        | (refine wpAny_bind (wpAny_load ho ?_)
           rw [hc, hd]
           show wpAny M A (if (["enumerate", "zip", "dict_itemiterator", "dict_reverseitemiterator", "odict_iterator", "itertools.zip_longest", "itertools.pairwise"].contains n && vs[0]? == some (rawInt _)) = true then _ else _) Q E s
           rw [if_neg (by intro h; rw [hn, Bool.false_and] at h; cases h)]
           exact wpAny_pure hQ))

/-- the list at a, as it stands at each turn (a loop may append to it) -/
def Itl (K : PySem.W.Frag) (a : Addr) : It :=
  ⟨fun i H => ∃ xs x, SqL K H a xs ∧ xs[i]? = some x, fun i H x H' => H' = H ∧ ∀ xs, SqL K H a xs → xs[i]? = some x, fun i H => ∃ xs, SqL K H a xs ∧ xs.length ≤ i⟩
def Itt (K : PySem.W.Frag) (a : Addr) : It :=
  ⟨fun i H => ∃ xs x, SqT K H a xs ∧ xs[i]? = some x, fun i H x H' => H' = H ∧ ∀ xs, SqT K H a xs → xs[i]? = some x, fun i H => ∃ xs, SqT K H a xs ∧ xs.length ≤ i⟩
/-- lo, lo + 1, .. (n of them) -/
def Itr (lo : Int) (n : Nat) : It := ⟨fun i _ => i < n, fun i H x H' => H' = H ∧ x = .int (lo + i), fun i _ => n ≤ i⟩
theorem turn_list {P : Program} {w : World} {K : PySem.W.Frag} {tg : Expr} (a it : Addr) : Turn P w K tg (Itl K a) [it] it (fun i h => h.IsListIter it a i) where
  mem := by simp
  obj := fun i h st b hb => by
    have e : b = it := by simpa using hb
    subst e
    obtain ⟨o, e, c, d⟩ := st
    exact ⟨o, e, fun v z => by rw [d] at z; cases z⟩
  keep := fun i h h' st k => st.at fun o e => k it (by simp) o e
  item := by
    intro X hP hw hK hc i pins s σ H E I hf st hg
    subst hP hw hK
    obtain ⟨xs, x, hq, hx⟩ := hg
    obtain ⟨its, rv, p, hz⟩ := I.list hq
    obtain ⟨u, hu, ru⟩ := rv.get hx
    obtain ⟨f0, f1, f2, f3, f4, f5⟩ := hf it (by simp)
    refine wpAny_pyNext_list_item st p.isList (x := u) (by simpa using hu) fun h' st' sb => ?_
    have I1 : Inv X pins σ H { s with heap := h' } := I.turned (t' := s.toks) (fun b o hb e => (sb.2 b hb).trans e) f0 f1 f3 f4 f5
    obtain ⟨o, e, c, d⟩ := id st'
    exact ⟨u, rfl, go_of (s := { s with heap := h' }) e c d (by decide) ⟨x, H, I1, ru, ⟨rfl, fun ys hy => by rw [I.list_inj hy hq]; exact hx⟩, st', fun b hb => (hf b hb).1⟩⟩
  done := by
    intro X hP hw hK hc i pins s σ H E I hf st hg
    subst hP hw hK
    obtain ⟨xs, hq, hx⟩ := hg
    obtain ⟨its, rv, p, hz⟩ := I.list hq
    obtain ⟨f0, f1, f2, f3, f4, f5⟩ := hf it (by simp)
    have hl := rv.length
    exact wpAny_pyNext_list_end (I.ok.hd hc) st p.isList (by simp; omega) fun h' eb => ⟨rfl, I.turned (t' := s.toks) (fun b o hb e => eb b o hb e) f0 f1 f3 f4 f5⟩
  self := fun _ _ _ _ _ st h => wpAny_pyIter_listiter st h
theorem turn_tuple {P : Program} {w : World} {K : PySem.W.Frag} {tg : Expr} (a it : Addr) : Turn P w K tg (Itt K a) [it] it (fun i h => h.IsTupleIter it a i) where
  mem := by simp
  obj := fun i h st b hb => by
    have e : b = it := by simpa using hb
    subst e
    obtain ⟨o, e, c, d⟩ := st
    exact ⟨o, e, fun v z => by rw [d] at z; cases z⟩
  keep := fun i h h' st k => st.at fun o e => k it (by simp) o e
  item := by
    intro X hP hw hK hc i pins s σ H E I hf st hg
    subst hP hw hK
    obtain ⟨xs, x, hq, hx⟩ := hg
    obtain ⟨its, rv, p, hz⟩ := I.tuple hq
    obtain ⟨u, hu, ru⟩ := rv.get hx
    obtain ⟨f0, f1, f2, f3, f4, f5⟩ := hf it (by simp)
    refine wpAny_pyNext_tuple_item st (show s.heap.IsTuple a its.toArray from p) (x := u) (by simpa using hu) fun h' st' sb => ?_
    have I1 : Inv X pins σ H { s with heap := h' } := I.turned (t' := s.toks) (fun b o hb e => (sb.2 b hb).trans e) f0 f1 f3 f4 f5
    obtain ⟨o, e, c, d⟩ := id st'
    exact ⟨u, rfl, go_of (s := { s with heap := h' }) e c d (by decide) ⟨x, H, I1, ru, ⟨rfl, fun ys hy => by rw [I.tuple_inj hy hq]; exact hx⟩, st', fun b hb => (hf b hb).1⟩⟩
  done := by
    intro X hP hw hK hc i pins s σ H E I hf st hg
    subst hP hw hK
    obtain ⟨xs, hq, hx⟩ := hg
    obtain ⟨its, rv, p, hz⟩ := I.tuple hq
    obtain ⟨f0, f1, f2, f3, f4, f5⟩ := hf it (by simp)
    have hl := rv.length
    exact wpAny_pyNext_tuple_end (I.ok.hd hc) st (show s.heap.IsTuple a its.toArray from p) (by simp; omega) fun h' eb => ⟨rfl, I.turned (t' := s.toks) (fun b o hb e => eb b o hb e) f0 f1 f3 f4 f5⟩
  self := fun _ _ _ _ _ st h => wpAny_pyIter_tupleiter st h
theorem turn_range {P : Program} {w : World} {K : PySem.W.Frag} {tg : Expr} (it : Addr) (lo : Int) (n : Nat) : Turn P w K tg (Itr lo n) [it] it (fun i h => IsRangeIter h it (lo + (i : Nat) * 1) ((n : Int) - (i : Nat)) 1) where
  mem := by simp
  obj := fun i h st b hb => by
    have e : b = it := by simpa using hb
    subst e
    exact ⟨_, st, fun v z => by
      have z' : Data.fields _ = Data.cell v := z
      cases z'⟩
  keep := fun i h h' st k => k it (by simp) _ st
  item := by
    intro X hP hw hK hc i pins s σ H E I hf st hg
    subst hP hw hK
    obtain ⟨f0, f1, f2, f3, f4, f5⟩ := hf it (by simp)
    have W := Walks.range (prog := X.prog) (w := X.w) (I.ok.hd hc) it lo 1 n
    refine W.item i s _ _ hg st fun v h' tk hv st' kk => ?_
    obtain ⟨t, rfl⟩ := hv
    have I1 : Inv X pins σ H { s with heap := h', toks := tk } := I.turned (fun b o hb e => kk b o (by simpa using hb) e) f0 f1 f3 f4 f5
    refine ⟨_, rfl, go_of (s := { s with heap := h', toks := tk }) (n := "range_iterator") st' rfl rfl (by decide) ⟨.int (lo + i), H, I1, ⟨t, ?_⟩, ⟨rfl, rfl⟩, st', fun b hb => (hf b hb).1⟩⟩
    rw [Int.mul_one]
  done := by
    intro X hP hw hK hc i pins s σ H E I hf st hg
    subst hP hw hK
    obtain ⟨f0, f1, f2, f3, f4, f5⟩ := hf it (by simp)
    exact wpAny_pyNext_range_end (I.ok.hd hc) st (by have : n ≤ i := hg; omega) fun h' eb => ⟨rfl, I.turned (t' := s.toks) (fun b o hb e => eb b o hb e) f0 f1 f3 f4 f5⟩
  self := fun _ _ _ _ _ st h => wpAny_pyIter_rangeiter st h
end L2

namespace L2
open PySem PySem.Spec PyProof.Rows
section
variable {X : Cx} {tg : Expr}
def iList (K : PySem.W.Frag) (tl : TE) : TI := fun σ H R => tl σ H fun x H1 => ∃ a, x = .ref a ∧ (∃ xs, SqL K H1 a xs) ∧ R (Itl K a) H1
def iTup (K : PySem.W.Frag) (tl : TE) : TI := fun σ H R => tl σ H fun x H1 => ∃ a, x = .ref a ∧ (∃ xs, SqT K H1 a xs) ∧ R (Itt K a) H1
theorem pi_list {l : Expr} {tl : TE} (hl : PE X l tl) : PI X tg l (iList X.K tl) := by
  intro pins s σ H R I h
  refine thn (hl pins s σ H _ I h) fun v s1 ⟨x, H1, I1, r1, q1⟩ => ?_
  obtain ⟨a, e, ⟨xs, hq⟩, q⟩ := q1
  subst e
  cases r1
  obtain ⟨its, rv, p, hz⟩ := I1.list hq
  refine wpAny_pyIter_list p.isList ?_
  refine ⟨s1.heap.objs.size, [s1.heap.objs.size], _, _, H1, rfl, I1.kept (t' := s1.toks) fun b o e => Heap.get?_push_of_some _ e, turn_list a _, ⟨_, Heap.get?_push_size _ rfl, rfl, rfl⟩, fun b hb => ?_, q⟩
  have e : b = s1.heap.objs.size := by simpa using hb
  subst e
  exact I1.fpOk (Nat.le_refl _) (I1.hok.fresh (Nat.le_refl _))
theorem pi_tup {l : Expr} {tl : TE} (hl : PE X l tl) : PI X tg l (iTup X.K tl) := by
  intro pins s σ H R I h
  refine thn (hl pins s σ H _ I h) fun v s1 ⟨x, H1, I1, r1, q1⟩ => ?_
  obtain ⟨a, e, ⟨xs, hq⟩, q⟩ := q1
  subst e
  cases r1
  obtain ⟨its, rv, p, hz⟩ := I1.tuple hq
  refine wpAny_pyIter_tuple (show s1.heap.IsTuple a its.toArray from p) ?_
  refine ⟨s1.heap.objs.size, [s1.heap.objs.size], _, _, H1, rfl, I1.kept (t' := s1.toks) fun b o e => Heap.get?_push_of_some _ e, turn_tuple a _, ⟨_, Heap.get?_push_size _ rfl, rfl, rfl⟩, fun b hb => ?_, q⟩
  have e : b = s1.heap.objs.size := by simpa using hb
  subst e
  exact I1.fpOk (Nat.le_refl _) (I1.hok.fresh (Nat.le_refl _))
/-- a range object just made, walked -/
theorem range_it {pins : List (Addr × Obj)} {σ : St} {H : Hp} {s : Shared} {R : It → Hp → Prop} {E : Value → Shared → Prop} {lo hi : Int} {t u v : Tok} {tk : Nat} (I : Inv X pins σ H s) (h1 : -(2 ^ 62) ≤ lo) (h2 : lo < 2 ^ 62) (h3 : -(2 ^ 62) ≤ hi) (h4 : hi < 2 ^ 62)
    (q : R (Itr lo (hi - lo).toNat) H) : wpAny (model X.prog X.w) X.A (pyIter (.ref s.heap.objs.size)) (PIE X pins σ tg R) E { s with heap := s.heap.push { cls := .type "range", data := .fields #[.int lo t, .int hi u, .int 1 v] }, toks := tk } := by
  refine wpAny_pyIter_range (IsRange.new ..) (small_one h1 h2 h3 h4) ?_
  have I1 : Inv X pins σ H { s with heap := s.heap.push { cls := .type "range", data := .fields #[.int lo t, .int hi u, .int 1 v] }, toks := tk } := I.kept fun b o e => Heap.get?_push_of_some _ e
  refine ⟨(s.heap.push { cls := .type "range", data := .fields #[.int lo t, .int hi u, .int 1 v] }).objs.size, [(s.heap.push { cls := .type "range", data := .fields #[.int lo t, .int hi u, .int 1 v] }).objs.size], _, _, H, rfl,
    I1.kept (t' := tk) fun b o e => Heap.get?_push_of_some _ e, turn_range _ lo (hi - lo).toNat, ?_, fun b hb => ?_, q⟩
  · have e1 : lo + ((0 : Nat) : Int) * 1 = lo := by simp
    have e2 : (((hi - lo).toNat : Nat) : Int) - ((0 : Nat) : Int) = Builtin.Range.rangeSize lo hi 1 := by rw [rangeSize_one]; split <;> omega
    show IsRangeIter _ _ (lo + ((0 : Nat) : Int) * 1) ((((hi - lo).toNat : Nat) : Int) - ((0 : Nat) : Int)) 1
    rw [e1, e2]
    exact Heap.get?_push_size _ rfl
  · have e : b = (s.heap.push { cls := .type "range", data := .fields #[.int lo t, .int hi u, .int 1 v] }).objs.size := by simpa using hb
    subst e
    exact I1.fpOk (Nat.le_refl _) (I1.hok.fresh (Nat.le_refl _))
def iRng1 (ta : TA) : TI := fun σ H R => ta σ H fun vs H1 => ∃ j : Int, vs = [.int j] ∧ -(2 ^ 62) ≤ j ∧ j < 2 ^ 62 ∧ R (Itr 0 j.toNat) H1
theorem pi_range1 {a : Expr} {ta : TA} {p pos : Pos} (hg : Gl X "range") (hm : X.mg "range" = none) (ha : PA X [a] ta) (hs : starEach [a] X.env = [(false, eval a X.env)] := by rfl) : PI X tg (.Call (.Name "range" p) [a] [] pos) (iRng1 ta) := by
  intro pins s σ H R I h
  refine Call_ (ld_blt I hg hm boot_range (PyProof.Rows.callWith_type1 (thn (ha pos pins s σ H _ I h) fun us s1 ⟨vs, H1, I1, r1, q1⟩ => ?_) hs rfl))
  obtain ⟨j, e, q1, q2, q⟩ := q1
  subst e
  cases r1 with
  | cons r rr =>
    cases rr
    obtain ⟨t, rfl⟩ := r
    exact call_range_1 (range_it I1 (by omega) (by omega) q1 q2 (by simpa using q))
/-! ### for -/
/-- W: the invariant by the turn and a measure; N: what the body is to reach -/
def tFor (wi : TI) (g : TG) (tb : TS) : TS := fun D σ H => wi σ H fun J H1 => ∃ W : Nat → Nat → St → Hp → Prop, (∃ m, W 0 m σ H1) ∧ ∀ i m σ H, W i m σ H →
  (J.stop i H ∧ D.nx σ H) ∨ (J.go i H ∧ ∃ N : St → Hp → Prop, (∀ σ' H', N σ' H' → ∃ m', m' < m ∧ W (i + 1) m' σ' H') ∧ ∀ x H', J.yld i H x H' → g x σ H' fun σ2 H2 => tb { D with nx := N, ct := N, bk := D.nx } σ2 H2)
/-- the records at fp as they stand -/
def pinsAt (fp : List Addr) (h : Heap) : List (Addr × Obj) := fp.filterMap fun b => (h.get? b).map fun o => (b, o)
theorem mem_pinsAt {fp : List Addr} {h : Heap} {b : Addr} {o : Obj} (hb : b ∈ fp) (e : h.get? b = some o) : (b, o) ∈ pinsAt fp h := List.mem_filterMap.mpr ⟨b, hb, by rw [e]; rfl⟩
theorem of_pinsAt {fp : List Addr} {h : Heap} {p : Addr × Obj} (hp : p ∈ pinsAt fp h) : p.1 ∈ fp ∧ h.get? p.1 = some p.2 := by
  obtain ⟨b, hb, e⟩ := List.mem_filterMap.mp hp
  cases q : h.get? b with
  | none => rw [q] at e; cases e
  | some o =>
    rw [q] at e
    have e' : (b, o) = p := Option.some.inj e
    subst e'
    exact ⟨hb, q⟩
theorem Inv.pinned {pins : List (Addr × Obj)} {σ : St} {H : Hp} {s : Shared} {fp : List Addr} (I : Inv X pins σ H s) (hf : ∀ b ∈ fp, FpOk X pins H b) (ho : ∀ b ∈ fp, ∃ o, s.heap.get? b = some o ∧ ∀ v, o.data ≠ .cell v) : Inv X (pins ++ pinsAt fp s.heap) σ H s :=
  I.pins_of fun p hp => (List.mem_append.mp hp).elim (fun z => I.pin p (List.mem_append_right _ z)) fun z => by
    obtain ⟨hb, e⟩ := of_pinsAt z
    obtain ⟨f0, f1, f2, _⟩ := hf p.1 hb
    obtain ⟨o, e', d⟩ := ho p.1 hb
    rw [e] at e'; cases e'
    exact ⟨e, f0, f1, f2, d⟩
theorem Inv.unpinned {pins pl : List (Addr × Obj)} {σ : St} {H : Hp} {s : Shared} (I : Inv X (pins ++ pl) σ H s) : Inv X pins σ H s := I.pins_of fun p hp => I.pin p (List.mem_append_right _ (List.mem_append_left _ hp))
theorem ps_for {iter : Expr} {body : List Stmt} {wi : TI} {g : TG} {tb : TS} {pos : Pos} (hp : PassesOwn (model X.prog X.w) X.A X.env X.xe) (hc : X.calm = true) (hi : PI X tg iter wi) (hg : PG X tg g) (hb : PSs X body tb)
    (hs : ∀ x, foldedSetIterable iter X.env x = pure x := by intro _; rfl) : PS X (.For tg iter body [] pos) (tFor wi g tb) := by
  intro pins s σ H D I h
  refine wpAny_For (thn (hi pins s σ H _ I h) fun v s1 h1 => thn h1 fun itv s2 h2 => ?_) hs
  obtain ⟨it, fp, tn, J, H2, e, I2, T, st2, f2, W, ⟨m0, w0⟩, turn⟩ := h2
  subst e
  -- what stays true of the iterator's objects through the loop
  have stat : ∀ {H' : Hp}, (∀ b ∈ fp, H' b = none) → ∀ b ∈ fp, FpOk X pins H' b := fun hn b hb => ⟨hn b hb, (f2 b hb).2⟩
  refine codeAny_forLoop_any (fun n s' => ∃ i σ' H', Inv X pins σ' H' s' ∧ tn i s'.heap ∧ (∀ b ∈ fp, H' b = none) ∧ W i n σ' H') ?_ m0 ⟨0, σ, H2, I2, st2, fun b hb => (f2 b hb).1, w0⟩
  rintro n s3 ⟨i, σ3, H3, I3, st3, fr3, w3⟩
  rcases turn i n σ3 H3 w3 with ⟨stop, qn⟩ | ⟨go, N, hN, step⟩
  · refine wpAny_passesOwn hp (thn (T.done X rfl rfl rfl hc i pins s3 σ3 H3 X.xe I3 (stat fr3) st3 stop) fun r s4 ⟨hr, I4⟩ => ?_)
    subst hr
    exact wpAny_execs_nil ⟨σ3, H3, I4, qn⟩
  · refine wpAny_passesOwn hp (thn (T.item X rfl rfl rfl hc i pins s3 σ3 H3 X.xe I3 (stat fr3) st3 go) fun r s4 ⟨u, hr, h4⟩ => ?_)
    subst hr
    refine wpAny_passesOwn hp (thn h4 fun _ s5 ⟨x, H5, I5, r5, y5, st5, fr5⟩ => ?_)
    have I5' := I5.pinned (stat fr5) (T.obj _ _ st5)
    refine wpAny_passesOwn hp (thn (hg _ s5 σ3 H5 x u _ I5' r5 (step x H5 y5)) fun _ s6 ⟨σ6, H6, I6, q6⟩ => ?_)
    refine wpAny_passesOwn hp (thn (hb _ s6 σ6 H6 _ I6 q6) fun f s7 q7 => ?_)
    have again : ∀ {σ7 : St} {H7 : Hp}, Inv X (pins ++ pinsAt fp s5.heap) σ7 H7 s7 → N σ7 H7 → ∃ m, m < n ∧ ∃ i σ' H', Inv X pins σ' H' s7 ∧ tn i s7.heap ∧ (∀ b ∈ fp, H' b = none) ∧ W i m σ' H' := fun {σ7 H7} I7 n7 => by
      obtain ⟨m', hm, w7⟩ := hN σ7 H7 n7
      refine ⟨m', hm, i + 1, σ7, H7, I7.unpinned, T.keep _ _ _ st5 fun b hb o e => (I7.pin (b, o) (List.mem_append_right _ (List.mem_append_right _ (mem_pinsAt hb e)))).1, fun b hb => ?_, w7⟩
      obtain ⟨o, e, d⟩ := T.obj _ _ st5 b hb
      exact (I7.pin (b, o) (List.mem_append_right _ (List.mem_append_right _ (mem_pinsAt hb e)))).2.1
    cases f with
    | next => obtain ⟨σ7, H7, I7, n7⟩ := q7; exact again I7 n7
    | cont => obtain ⟨σ7, H7, I7, n7⟩ := q7; exact again I7 n7
    | brk => obtain ⟨σ7, H7, I7, q7⟩ := q7; exact ⟨σ7, H7, I7.unpinned, q7⟩
    | ret v => obtain ⟨x7, σ7, H7, I7, r7, q7⟩ := q7; exact ⟨x7, σ7, H7, I7.unpinned, r7, q7⟩
end

/-! ### the forms one uses -/
/-- over a list that the body leaves as it is -/
theorem for_list {K : PySem.W.Frag} {a : Addr} {xs : List V} {g : TG} {tb : TS} {D : Ends} {σ : St} {H : Hp} (Pv : Nat → St → Hp → Prop) (h0 : Pv 0 σ H) (hl : ∀ i σ H, i ≤ xs.length → Pv i σ H → SqL K H a xs)
    (hs : ∀ i x σ H, xs[i]? = some x → Pv i σ H → g x σ H fun σ2 H2 => tb { D with nx := Pv (i + 1), ct := Pv (i + 1), bk := D.nx } σ2 H2) (hd : ∀ σ H, Pv xs.length σ H → D.nx σ H) :
    ∃ W : Nat → Nat → St → Hp → Prop, (∃ m, W 0 m σ H) ∧ ∀ i m σ H, W i m σ H →
      ((Itl K a).stop i H ∧ D.nx σ H) ∨ ((Itl K a).go i H ∧ ∃ N : St → Hp → Prop, (∀ σ' H', N σ' H' → ∃ m', m' < m ∧ W (i + 1) m' σ' H') ∧ ∀ x H', (Itl K a).yld i H x H' → g x σ H' fun σ2 H2 => tb { D with nx := N, ct := N, bk := D.nx } σ2 H2) := by
  refine ⟨fun i m σ H => m = xs.length - i ∧ i ≤ xs.length ∧ Pv i σ H, ⟨xs.length, by simp, Nat.zero_le _, h0⟩, ?_⟩
  rintro i m σ H ⟨rfl, hi, p⟩
  have q := hl i σ H hi p
  by_cases hlt : i < xs.length
  · refine .inr ⟨⟨xs, xs[i], q, by simp [hlt]⟩, Pv (i + 1), fun σ' H' p' => ⟨xs.length - (i + 1), by omega, rfl, hlt, p'⟩, fun x H' y => ?_⟩
    obtain ⟨e, y⟩ := y
    subst e
    exact hs i x σ _ (y xs q) p
  · have e : i = xs.length := by omega
    subst e
    exact .inl ⟨⟨xs, q, Nat.le_refl _⟩, hd σ H p⟩
theorem for_tup {K : PySem.W.Frag} {a : Addr} {xs : List V} {g : TG} {tb : TS} {D : Ends} {σ : St} {H : Hp} (Pv : Nat → St → Hp → Prop) (h0 : Pv 0 σ H) (hl : ∀ i σ H, i ≤ xs.length → Pv i σ H → SqT K H a xs)
    (hs : ∀ i x σ H, xs[i]? = some x → Pv i σ H → g x σ H fun σ2 H2 => tb { D with nx := Pv (i + 1), ct := Pv (i + 1), bk := D.nx } σ2 H2) (hd : ∀ σ H, Pv xs.length σ H → D.nx σ H) :
    ∃ W : Nat → Nat → St → Hp → Prop, (∃ m, W 0 m σ H) ∧ ∀ i m σ H, W i m σ H →
      ((Itt K a).stop i H ∧ D.nx σ H) ∨ ((Itt K a).go i H ∧ ∃ N : St → Hp → Prop, (∀ σ' H', N σ' H' → ∃ m', m' < m ∧ W (i + 1) m' σ' H') ∧ ∀ x H', (Itt K a).yld i H x H' → g x σ H' fun σ2 H2 => tb { D with nx := N, ct := N, bk := D.nx } σ2 H2) := by
  refine ⟨fun i m σ H => m = xs.length - i ∧ i ≤ xs.length ∧ Pv i σ H, ⟨xs.length, by simp, Nat.zero_le _, h0⟩, ?_⟩
  rintro i m σ H ⟨rfl, hi, p⟩
  have q := hl i σ H hi p
  by_cases hlt : i < xs.length
  · refine .inr ⟨⟨xs, xs[i], q, by simp [hlt]⟩, Pv (i + 1), fun σ' H' p' => ⟨xs.length - (i + 1), by omega, rfl, hlt, p'⟩, fun x H' y => ?_⟩
    obtain ⟨e, y⟩ := y
    subst e
    exact hs i x σ _ (y xs q) p
  · have e : i = xs.length := by omega
    subst e
    exact .inl ⟨⟨xs, q, Nat.le_refl _⟩, hd σ H p⟩
theorem for_range {lo : Int} {n : Nat} {g : TG} {tb : TS} {D : Ends} {σ : St} {H : Hp} (Pv : Nat → St → Hp → Prop) (h0 : Pv 0 σ H)
    (hs : ∀ i σ H, i < n → Pv i σ H → g (.int (lo + i)) σ H fun σ2 H2 => tb { D with nx := Pv (i + 1), ct := Pv (i + 1), bk := D.nx } σ2 H2) (hd : ∀ σ H, Pv n σ H → D.nx σ H) :
    ∃ W : Nat → Nat → St → Hp → Prop, (∃ m, W 0 m σ H) ∧ ∀ i m σ H, W i m σ H →
      ((Itr lo n).stop i H ∧ D.nx σ H) ∨ ((Itr lo n).go i H ∧ ∃ N : St → Hp → Prop, (∀ σ' H', N σ' H' → ∃ m', m' < m ∧ W (i + 1) m' σ' H') ∧ ∀ x H', (Itr lo n).yld i H x H' → g x σ H' fun σ2 H2 => tb { D with nx := N, ct := N, bk := D.nx } σ2 H2) := by
  refine ⟨fun i m σ H => m = n - i ∧ i ≤ n ∧ Pv i σ H, ⟨n, by simp, Nat.zero_le _, h0⟩, ?_⟩
  rintro i m σ H ⟨rfl, hi, p⟩
  by_cases hlt : i < n
  · refine .inr ⟨hlt, Pv (i + 1), fun σ' H' p' => ⟨n - (i + 1), by omega, rfl, hlt, p'⟩, fun x H' y => ?_⟩
    obtain ⟨e, y⟩ := y
    subst e y
    exact hs i σ _ hlt p
  · have e : i = n := by omega
    subst e
    exact .inl ⟨Nat.le_refl _, hd σ H p⟩
/-- while, by a word and a measure of the state -/
theorem while_by {c : TT} {tb : TS} {D : Ends} {σ : St} {H : Hp} (Pv : St → Hp → Prop) (μ : St → Hp → Nat) (h0 : Pv σ H)
    (hs : ∀ σ H, Pv σ H → c σ H fun b H1 => if b = true then tb { D with nx := fun σ' H' => Pv σ' H' ∧ μ σ' H' < μ σ H, ct := fun σ' H' => Pv σ' H' ∧ μ σ' H' < μ σ H, bk := D.nx } σ H1 else D.nx σ H1)
    (mono : ∀ σ H Q Q', (∀ b H1, Q b H1 → Q' b H1) → c σ H Q → c σ H Q') : tWhile c tb D σ H := by
  refine ⟨fun m σ H => m = μ σ H ∧ Pv σ H, ⟨_, rfl, h0⟩, ?_⟩
  rintro m σ H ⟨rfl, p⟩
  refine mono σ H _ _ (fun b H1 q => ?_) (hs σ H p)
  cases b with
  | true => exact ⟨_, fun σ' H' ⟨p', l⟩ => ⟨_, l, rfl, p'⟩, q⟩
  | false => exact q
end L2

namespace L2
open PySem PySem.Spec PyProof.Rows

abbrev R2 := V → V → Hp → VK → Prop
/-- a two-place operation on values: f is binaryOp op, inplaceOp op or compareOp op -/
def OpR (X : Cx) (f : Value → Value → Sem Value) (r : R2) : Prop :=
  ∀ (pins : List (Addr × Obj)) (s : Shared) (σ : St) (H : Hp) (x y : V) (v u : Value) (Q : VK), Inv X pins σ H s → RelV x v → RelV y u → r x y H Q →
    wpAny (model X.prog X.w) X.A (f v u) (EP X pins σ Q) X.xe s
/-- a one-place operation -/
def UnR (X : Cx) (f : Value → Sem Value) (r : V → Hp → VK → Prop) : Prop :=
  ∀ (pins : List (Addr × Obj)) (s : Shared) (σ : St) (H : Hp) (x : V) (v : Value) (Q : VK), Inv X pins σ H s → RelV x v → r x H Q →
    wpAny (model X.prog X.w) X.A (f v) (EP X pins σ Q) X.xe s
/-- a call of a value that is known (a builtin, a type) with values -/
def CallR (X : Cx) (f : Value) (r : List V → Hp → VK → Prop) : Prop :=
  ∀ (pins : List (Addr × Obj)) (s : Shared) (σ : St) (H : Hp) (xs : List V) (us : List Value) (Q : VK), Inv X pins σ H s → Vals xs us → r xs H Q →
    wpAny (model X.prog X.w) X.A (call f us) (EP X pins σ Q) X.xe s
/-- a value's truth -/
def TruR (X : Cx) (r : V → Hp → (Bool → Hp → Prop) → Prop) : Prop :=
  ∀ (pins : List (Addr × Obj)) (s : Shared) (σ : St) (H : Hp) (x : V) (v : Value) (Q : Bool → Hp → Prop), Inv X pins σ H s → RelV x v → r x H Q →
    wpAny (model X.prog X.w) X.A (truthy v) (TP X pins σ Q) X.xe s

def tOp (r : R2) (ta tb : TE) : TE := fun σ H Q => ta σ H fun x H1 => tb σ H1 fun y H2 => r x y H2 Q
def tUn (r : V → Hp → VK → Prop) (ta : TE) : TE := fun σ H Q => ta σ H fun x H1 => r x H1 Q
/-- ints in, under C, and a value out -/
def rI (C : Int → Int → Prop) (g : Int → Int → V) : R2 := fun x y H Q => ∃ i j, x = .int i ∧ y = .int j ∧ C i j ∧ Q (g i j) H
def rI0 (g : Int → Int → V) : R2 := fun x y H Q => ∃ i j, x = .int i ∧ y = .int j ∧ Q (g i j) H
def rU (g : Int → V) : V → Hp → VK → Prop := fun x H Q => ∃ i, x = .int i ∧ Q (g i) H

section
variable {X : Cx} {a b c : Expr} {ta tb tc : TE} {pos : Pos}

theorem binT (ha : PE X a ta) (hb : PE X b tb) {pins : List (Addr × Obj)} {s : Shared} {σ : St} {H : Hp} {R : V → V → Hp → Prop} (I : Inv X pins σ H s)
    (h : ta σ H fun x H1 => tb σ H1 fun y H2 => R x y H2) {Q : Value → Shared → Prop} {f : Value → Value → Sem Value}
    (hf : ∀ v u s2 x y H2, Inv X pins σ H2 s2 → RelV x v → RelV y u → R x y H2 → wpAny (model X.prog X.w) X.A (f v u) Q X.xe s2) :
    wpAny (model X.prog X.w) X.A (eval a X.env) (fun v s₁ => wpAny (model X.prog X.w) X.A (eval b X.env) (fun u s₂ => wpAny (model X.prog X.w) X.A (f v u) Q X.xe s₂) X.xe s₁) X.xe s := by
  refine thn (ha pins s σ H _ I h) fun v s1 ⟨x, H1, I1, r1, q1⟩ => ?_
  refine thn (hb pins s1 σ H1 _ I1 q1) fun u s2 ⟨y, H2, I2, r2, q2⟩ => ?_
  exact hf v u s2 x y H2 I2 r1 r2 q2

theorem pe_op {op : Operator} {r : R2} (ho : OpR X (binaryOp op) r) (ha : PE X a ta) (hb : PE X b tb) : PE X (.BinOp a op b pos) (tOp r ta tb) := by
  intro pins s σ H Q I h
  exact wpAny_BinOp (binT ha hb I h fun v u s2 x y H2 I2 rx ry q => ho pins s2 σ H2 x y v u Q I2 rx ry q)
theorem pe_un {op : UnaryOp} {r : V → Hp → VK → Prop} (ho : UnR X (unaryOp op) r) (ha : PE X a ta) : PE X (.UnaryOp op a pos) (tUn r ta) := by
  intro pins s σ H Q I h
  exact UnaryOp_ (thn (ha pins s σ H _ I h) fun v s1 ⟨x, H1, I1, r1, q1⟩ => ho pins s1 σ H1 x v Q I1 r1 q1)
/-! ### ints -/
theorem opI {f : Value → Value → Sem Value} {C : Int → Int → Prop} {g : Int → Int → Int}
    (rule : ∀ (i j : Int) (t u : Tok) (s : Shared) (Q : Value → Shared → Prop) (E : Value → Shared → Prop), C i j → Q (.int (g i j) s.toks) { s with toks := s.toks + 1 } → wpAny (model X.prog X.w) X.A (f (.int i t) (.int j u)) Q E s) :
    OpR X f (rI C fun i j => .int (g i j)) := by
  intro pins s σ H x y v u Q I rx ry h
  obtain ⟨i, j, rfl, rfl, hc, q⟩ := h
  obtain ⟨t, rfl⟩ := rx
  obtain ⟨t', rfl⟩ := ry
  exact rule i j t t' s _ _ hc ⟨.int (g i j), H, I.tok _, ⟨_, rfl⟩, q⟩
theorem opI0 {f : Value → Value → Sem Value} {g : Int → Int → Int}
    (rule : ∀ (i j : Int) (t u : Tok) (s : Shared) (Q : Value → Shared → Prop) (E : Value → Shared → Prop), Q (.int (g i j) s.toks) { s with toks := s.toks + 1 } → wpAny (model X.prog X.w) X.A (f (.int i t) (.int j u)) Q E s) :
    OpR X f (rI0 fun i j => .int (g i j)) := by
  intro pins s σ H x y v u Q I rx ry h
  obtain ⟨i, j, rfl, rfl, q⟩ := h
  obtain ⟨t, rfl⟩ := rx
  obtain ⟨t', rfl⟩ := ry
  exact rule i j t t' s _ _ ⟨.int (g i j), H, I.tok _, ⟨_, rfl⟩, q⟩
theorem opB0 {f : Value → Value → Sem Value} {g : Int → Int → Bool}
    (rule : ∀ (i j : Int) (t u : Tok) (s : Shared) (Q : Value → Shared → Prop) (E : Value → Shared → Prop), Q (.bool (g i j)) s → wpAny (model X.prog X.w) X.A (f (.int i t) (.int j u)) Q E s) :
    OpR X f (rI0 fun i j => .bl (g i j)) := by
  intro pins s σ H x y v u Q I rx ry h
  obtain ⟨i, j, rfl, rfl, q⟩ := h
  obtain ⟨t, rfl⟩ := rx
  obtain ⟨t', rfl⟩ := ry
  exact rule i j t t' s _ _ ⟨.bl (g i j), H, I, rfl, q⟩

def CDiv (i j : Int) : Prop := 0 < j ∧ j < 1073741824
def CMul (i j : Int) : Prop := (-(2 ^ 64) < i ∧ i < 2 ^ 64) ∨ (-(2 ^ 64) < j ∧ j < 2 ^ 64)
theorem CMul.ok {i j : Int} (h : CMul i j) : IntMulOk i j := by
  rcases h with ⟨h1, h2⟩ | ⟨h1, h2⟩
  · exact .of_left (intBits_le_64 h1 h2)
  · exact .of_right (intBits_le_64 h1 h2)
theorem two_pow_nn (k : Nat) : (0 : Int) ≤ 2 ^ k := by
  rw [two_pow_cast]
  exact Int.natCast_nonneg _

theorem op_add : OpR X (binaryOp .Add) (rI0 fun i j => .int (i + j)) := opI0 fun _ _ _ _ _ _ _ q => add_int q
theorem op_sub : OpR X (binaryOp .Sub) (rI0 fun i j => .int (i - j)) := opI0 fun _ _ _ _ _ _ _ q => sub_int q
theorem op_mul : OpR X (binaryOp .Mult) (rI CMul fun i j => .int (i * j)) := opI fun _ _ _ _ _ _ _ hc q => mul_int q hc.ok
/-- // by a positive divisor -/
theorem op_fdiv : OpR X (binaryOp .FloorDiv) (rI CDiv fun i j => .int (i / j)) := opI fun i j _ _ _ _ _ hc q => by
  have h1 : (0 : Int) < j := hc.1
  have h2 : j < 1073741824 := hc.2
  exact floordiv_int (by omega) (by rw [Int.fdiv_eq_ediv_of_nonneg i (by omega)]; exact q) (.inl (PyProof.noPylong_small (by omega)))
/-- % by a positive divisor of any size -/
theorem op_mod : OpR X (binaryOp .Mod) (rI (fun _ j => 0 < j) fun i j => .int (i % j)) := opI fun i j _ _ _ _ _ hc q => by
  have h1 : (0 : Int) < j := hc
  exact mod_int' (by omega) (by rw [Int.fmod_eq_emod_of_nonneg i (by omega)]; exact q)
theorem op_shr : OpR X (binaryOp .RShift) (rI (fun _ j => 0 ≤ j) fun i j => .int (i / 2 ^ j.toNat)) := opI fun i j _ _ _ _ _ hc q =>
  rshift_int hc (by rw [Int.fdiv_eq_ediv_of_nonneg i (two_pow_nn _)]; exact q)
theorem op_and : OpR X (binaryOp .BitAnd) (rI0 fun i j => .int (Builtin.bitAnd i j)) := opI0 fun _ _ _ _ _ _ _ q => and_int q
theorem unI {f : Value → Sem Value} {g : Int → Int}
    (rule : ∀ (i : Int) (t : Tok) (s : Shared) (Q : Value → Shared → Prop) (E : Value → Shared → Prop), Q (.int (g i) s.toks) { s with toks := s.toks + 1 } → wpAny (model X.prog X.w) X.A (f (.int i t)) Q E s) :
    UnR X f (rU fun i => .int (g i)) := by
  intro pins s σ H x v Q I rx h
  obtain ⟨i, rfl, q⟩ := h
  obtain ⟨t, rfl⟩ := rx
  exact rule i t s _ _ ⟨.int (g i), H, I.tok _, ⟨_, rfl⟩, q⟩
theorem un_neg : UnR X (unaryOp .USub) (rU fun i => .int (-i)) := unI fun _ _ _ _ _ q => neg_int q
/-! ### bools among ints: n += (a < b) -/
end

/-! ### comparisons -/
/-- the scalars that == tells apart as data does -/
def scal : V → V → Bool
  | .non, .non => true | .non, .int _ => true | .int _, .non => true | .non, .bl _ => true | .bl _, .non => true | .non, .str _ => true | .str _, .non => true
  | .int _, .int _ => true | .bl _, .bl _ => true | .str _, .str _ => true | .byt _, .byt _ => true
  | .int _, .str _ => true | .str _, .int _ => true | .bl _, .str _ => true | .str _, .bl _ => true
  | _, _ => false
def rEq : R2 := fun x y H Q => scal x y = true ∧ Q (.bl (decide (x = y))) H
def rNe : R2 := fun x y H Q => scal x y = true ∧ Q (.bl (!decide (x = y))) H

theorem dec_int {i j : Int} : decide (V.int i = V.int j) = (i == j) := by
  rw [Bool.eq_iff_iff]
  simp
theorem dec_bl {i j : Bool} : decide (V.bl i = V.bl j) = (i == j) := by
  rw [Bool.eq_iff_iff]
  simp
theorem dec_str {i j : Str} : decide (V.str i = V.str j) = (i == j) := by
  rw [Bool.eq_iff_iff]
  simp
theorem dec_byt {i j : Array UInt8} : decide (V.byt i = V.byt j) = (i.toList == j.toList) := by
  rw [Bool.eq_iff_iff]
  cases i
  cases j
  simp

section
variable {X : Cx} {a b c : Expr} {ta tb tc : TE} {pos : Pos}
theorem fin_bl {pins : List (Addr × Obj)} {σ : St} {H : Hp} {s : Shared} {Q : VK} {k k' : Bool} (I : Inv X pins σ H s) (q : Q (.bl k) H) (e : k = k') : EP X pins σ Q (.bool k') s := by
  subst e
  exact ⟨.bl k, H, I, rfl, q⟩
theorem op_eq : OpR X (compareOp .Eq) rEq := by
  intro pins s σ H x y v u Q I rx ry h
  obtain ⟨hs, q⟩ := h
  cases x with
  | non =>
    cases rx
    cases y with
    | non => cases ry; exact PySem.EqNone.eq_none_none (fin_bl I q (by simp))
    | bl j => cases ry; exact PySem.EqNone.eq_none_bool (fin_bl I q (by simp))
    | int j => obtain ⟨t', rfl⟩ := ry; exact PySem.EqNone.eq_none_int (fin_bl I q (by simp))
    | str j => obtain ⟨t', rfl⟩ := ry; exact PySem.EqNone.eq_none_str (fin_bl I q (by simp))
    | _ => exact absurd (show false = true from hs) Bool.false_ne_true
  | bl i =>
    cases rx
    cases y with
    | non => cases ry; exact PySem.EqNone.eq_bool_none (fin_bl I q (by simp))
    | bl j => cases ry; exact eq_bool (fin_bl I q dec_bl)
    | str j => obtain ⟨t', rfl⟩ := ry; exact PySem.EqMixed.eq_bool_str (fin_bl I q (by simp))
    | _ => exact absurd (show false = true from hs) Bool.false_ne_true
  | int i =>
    obtain ⟨t, rfl⟩ := rx
    cases y with
    | non => cases ry; exact PySem.EqNone.eq_int_none (fin_bl I q (by simp))
    | int j => obtain ⟨t', rfl⟩ := ry; exact eq_int (fin_bl I q dec_int)
    | str j => obtain ⟨t', rfl⟩ := ry; exact PySem.EqMixed.eq_int_str (fin_bl I q (by simp))
    | _ => exact absurd (show false = true from hs) Bool.false_ne_true
  | str i =>
    obtain ⟨t, rfl⟩ := rx
    cases y with
    | non => cases ry; exact PySem.EqNone.eq_str_none (fin_bl I q (by simp))
    | bl j => cases ry; exact PySem.EqMixed.eq_str_bool (fin_bl I q (by simp))
    | int j => obtain ⟨t', rfl⟩ := ry; exact PySem.EqMixed.eq_str_int (fin_bl I q (by simp))
    | str j => obtain ⟨t', rfl⟩ := ry; exact eq_str (fin_bl I q dec_str)
    | _ => exact absurd (show false = true from hs) Bool.false_ne_true
  | byt i =>
    obtain ⟨t, rfl⟩ := rx
    cases y with
    | byt j => obtain ⟨t', rfl⟩ := ry; exact PySem.W.eq_bytes (fin_bl I q dec_byt)
    | _ => exact absurd (show false = true from hs) Bool.false_ne_true
  | _ => cases y <;> exact absurd (show false = true from hs) Bool.false_ne_true
theorem op_ne : OpR X (compareOp .NotEq) rNe := by
  intro pins s σ H x y v u Q I rx ry h
  obtain ⟨hs, q⟩ := h
  cases x with
  | non =>
    cases rx
    cases y with
    | non => cases ry; exact PySem.EqNone.ne_none_none (fin_bl I q (by simp))
    | bl j => cases ry; exact PySem.EqNone.ne_none_bool (fin_bl I q (by simp))
    | int j => obtain ⟨t', rfl⟩ := ry; exact PySem.EqNone.ne_none_int (fin_bl I q (by simp))
    | str j => obtain ⟨t', rfl⟩ := ry; exact PySem.EqNone.ne_none_str (fin_bl I q (by simp))
    | _ => exact absurd (show false = true from hs) Bool.false_ne_true
  | bl i =>
    cases rx
    cases y with
    | non => cases ry; exact PySem.EqNone.ne_bool_none (fin_bl I q (by simp))
    | bl j => cases ry; exact ne_bool (fin_bl I q (congrArg not dec_bl))
    | str j => obtain ⟨t', rfl⟩ := ry; exact PySem.EqMixed.ne_bool_str (fin_bl I q (by simp))
    | _ => exact absurd (show false = true from hs) Bool.false_ne_true
  | int i =>
    obtain ⟨t, rfl⟩ := rx
    cases y with
    | non => cases ry; exact PySem.EqNone.ne_int_none (fin_bl I q (by simp))
    | int j => obtain ⟨t', rfl⟩ := ry; exact ne_int (fin_bl I q (congrArg not dec_int))
    | str j => obtain ⟨t', rfl⟩ := ry; exact PySem.EqMixed.ne_int_str (fin_bl I q (by simp))
    | _ => exact absurd (show false = true from hs) Bool.false_ne_true
  | str i =>
    obtain ⟨t, rfl⟩ := rx
    cases y with
    | non => cases ry; exact PySem.EqNone.ne_str_none (fin_bl I q (by simp))
    | bl j => cases ry; exact PySem.EqMixed.ne_str_bool (fin_bl I q (by simp))
    | int j => obtain ⟨t', rfl⟩ := ry; exact PySem.EqMixed.ne_str_int (fin_bl I q (by simp))
    | str j => obtain ⟨t', rfl⟩ := ry; exact ne_str (fin_bl I q (congrArg not dec_str))
    | _ => exact absurd (show false = true from hs) Bool.false_ne_true
  | byt i =>
    obtain ⟨t, rfl⟩ := rx
    cases y with
    | byt j => obtain ⟨t', rfl⟩ := ry; exact PySem.W.ne_bytes (fin_bl I q (congrArg not dec_byt))
    | _ => exact absurd (show false = true from hs) Bool.false_ne_true
  | _ => cases y <;> exact absurd (show false = true from hs) Bool.false_ne_true

theorem op_lt : OpR X (compareOp .Lt) (rI0 fun i j => .bl (decide (i < j))) := opB0 fun _ _ _ _ _ _ _ q => lt_int q
theorem op_gt : OpR X (compareOp .Gt) (rI0 fun i j => .bl (decide (j < i))) := opB0 fun _ _ _ _ _ _ _ q => gt_int q
theorem op_ge : OpR X (compareOp .GtE) (rI0 fun i j => .bl (decide (j ≤ i))) := opB0 fun _ _ _ _ _ _ _ q => ge_int q
/-- is None, is not None: the right side a value none -/
theorem op_isN : OpR X (compareOp .Is) (fun x y H Q => y = .non ∧ Q (.bl (decide (x = .non))) H) := by
  intro pins s σ H x y v u Q I rx ry h
  obtain ⟨rfl, q⟩ := h
  cases ry
  refine is_none_gen (fin_bl I q ?_)
  cases x <;> first
    | (cases rx; rfl)
    | (obtain ⟨t, rfl⟩ := rx; rfl)
theorem op_notN : OpR X (compareOp .IsNot) (fun x y H Q => y = .non ∧ Q (.bl (!decide (x = .non))) H) := by
  intro pins s σ H x y v u Q I rx ry h
  obtain ⟨rfl, q⟩ := h
  cases ry
  refine isnot_none_gen (fin_bl I q ?_)
  cases x <;> first
    | (cases rx; rfl)
    | (obtain ⟨t, rfl⟩ := rx; rfl)

/-- two rules for one operation: by cases -/
theorem OpR.or {f : Value → Value → Sem Value} {r r' : R2} (h : OpR X f r) (h' : OpR X f r') : OpR X f (fun x y H Q => r x y H Q ∨ r' x y H Q) := by
  intro pins s σ H x y v u Q I rx ry q
  rcases q with q | q
  · exact h pins s σ H x y v u Q I rx ry q
  · exact h' pins s σ H x y v u Q I rx ry q

theorem nomark (b : Expr) {op : CmpOp} (h : op ≠ .In := by decide) (h2 : op ≠ .NotIn := by decide) : behindInMarks op b = false := by
  have e1 : (op == CmpOp.In) = false := by cases op <;> first | rfl | exact absurd rfl h
  have e2 : (op == CmpOp.NotIn) = false := by cases op <;> first | rfl | exact absurd rfl h2
  cases b <;> simp [behindInMarks, e1, e2]
/-- a comparison as a value; hm: nomark b, or (for in, not in) by with_unfolding_all rfl -/
theorem pe_cmpR {op : CmpOp} {r : R2} (ho : OpR X (compareOp op) r) (ha : PE X a ta) (hb : PE X b tb) (hm : behindInMarks op b = false) : PE X (.Compare a [op] [b] pos) (tOp r ta tb) := by
  intro pins s σ H Q I h
  exact wpAny_Compare1 (binT ha hb I h fun v u s2 x y H2 I2 rx ry q => ho pins s2 σ H2 x y v u Q I2 rx ry q) hm
/-- a reading of a value as a test -/
def tTest (t : TE) : TT := fun σ H Q => t σ H fun x H' => ∃ k, x = .bl k ∧ Q k H'
theorem pt_cmpR {op : CmpOp} {r : R2} (ho : OpR X (compareOp op) r) (ha : PE X a ta) (hb : PE X b tb) (hm : behindInMarks op b = false) : PT X (.Compare a [op] [b] pos) (tTest (tOp r ta tb)) := by
  intro pins s σ H Q I h
  refine wpAny_isTrue_Compare1 (thn (ha pins s σ H _ I h) fun v s1 ⟨x, H1, I1, r1, q1⟩ => thn (hb pins s1 σ H1 _ I1 q1) fun u s2 ⟨y, H2, I2, r2, q2⟩ =>
    thn (ho pins s2 σ H2 x y v u _ I2 r1 r2 q2) fun c s3 ⟨z, H3, I3, r3, k, e, q3⟩ => ?_) hm
  subst e
  cases r3
  exact wpAny_truthy_bool ⟨H3, I3, q3⟩
/-! ### truth -/
/-- a value's truth by the abstract heap -/
def TruV (K : PySem.W.Frag) (x : V) (H : Hp) (k : Bool) : Prop :=
  match x with
  | .non => k = false
  | .bl b => k = b
  | .int i => k = (i != 0)
  | .str y => y.length ≤ sizeLine ∧ k = ((y.length : Int) != 0)
  | .byt y => y.size ≤ sizeLine ∧ k = ((y.size : Int) != 0)
  | .ref p => (∃ xs, SqL K H p xs ∧ k = !xs.isEmpty) ∨ (∃ xs, SqT K H p xs ∧ k = !xs.isEmpty) ∨ ∃ kvs, H p = some (.dK kvs) ∧ k = !kvs.isEmpty
  | _ => False
theorem isEmpty_kv {κ : Type} {kvs : List (κ × V)} {vs : List (κ × Value)} (r : KV kvs vs) : (!vs.isEmpty) = !kvs.isEmpty := by
  cases r <;> rfl
theorem isEmpty_of {xs : List V} {its : List Value} (r : Vals xs its) : (!its.toArray.isEmpty) = !xs.isEmpty := by
  cases r <;> simp
theorem line63 : (sizeLine : Nat) < 2 ^ 63 := by rw [sizeLine_eq]; decide
theorem tru_ok : TruR X (fun x H Q => ∃ k, TruV X.K x H k ∧ Q k H) := by
  intro pins s σ H x v Q I rx h
  obtain ⟨k, e, q⟩ := h
  have hl := line63
  have hs : sizeLine = 16777216 := sizeLine_eq
  cases x with
  | non =>
    cases rx
    have e' : k = false := e
    subst e'
    exact truthy_none ⟨H, I, q⟩
  | bl b =>
    cases rx
    have e' : k = b := e
    subst e'
    exact wpAny_truthy_bool ⟨H, I, q⟩
  | int i =>
    obtain ⟨t, rfl⟩ := rx
    have e' : k = (i != 0) := e
    subst e'
    exact PySem.P.truthy_int ⟨H, I, q⟩
  | str y =>
    obtain ⟨t, rfl⟩ := rx
    obtain ⟨hy, e'⟩ : y.length ≤ sizeLine ∧ k = ((y.length : Int) != 0) := e
    subst e'
    exact PySem.P.truthy_str (by omega) ⟨H, I.tok _, q⟩
  | byt y =>
    obtain ⟨t, rfl⟩ := rx
    obtain ⟨hy, e'⟩ : y.size ≤ sizeLine ∧ k = ((y.size : Int) != 0) := e
    subst e'
    exact PySem.W.truthy_bytes (by omega) ⟨H, I.tok _, q⟩
  | ref p =>
    cases rx
    have e' : (∃ xs, SqL X.K H p xs ∧ k = !xs.isEmpty) ∨ (∃ xs, SqT X.K H p xs ∧ k = !xs.isEmpty) ∨ ∃ kvs, H p = some (.dK kvs) ∧ k = !kvs.isEmpty := e
    rcases e' with ⟨xs, hx, e'⟩ | ⟨xs, hx, e'⟩ | ⟨kvs, hx, e'⟩
    · subst e'
      obtain ⟨its, r, pl, hz⟩ := I.list hx
      have hlen := r.length
      exact wpAny_truthy_list pl.isList (by simp only [List.size_toArray]; omega) ⟨H, I.tok _, by rw [isEmpty_of r]; exact q⟩
    · subst e'
      obtain ⟨its, r, pl, hz⟩ := I.tuple hx
      have hlen := r.length
      exact truthy_tuple pl (by simp only [List.size_toArray]; omega) ⟨H, I.tok _, by rw [isEmpty_of r]; exact q⟩
    · subst e'
      obtain ⟨hz, hS, vs, r, m⟩ : kvs.length ≤ sizeLine ∧ (p == sysModules) = false ∧ ∃ vs, KV kvs vs ∧ s.heap.DictOf (mixKind X.prog X.w) p vs := I.hok p _ hx
      have hlen : kvs.length = vs.length := Paired.length r
      exact wpAny_truthy_dict hS m (by omega) ⟨H, I.tok _, by rw [isEmpty_kv r]; exact q⟩
  | _ => exact (show False from e).elim
/-- any expression whose test is its value's truth (a name, a call, a subscript, a field ..: he by fun _ => rfl) -/
theorem pt_truth (ha : PE X a ta) (he : ∀ whole, isTrue a X.env whole = (do let v ← whole; standAt a.pos; holding [v] (truthy v))) :
    PT X a (fun σ H Q => ta σ H fun x H' => ∃ k, TruV X.K x H' k ∧ Q k H') := by
  intro pins s σ H Q I h
  exact isTrue_plain (thn (ha pins s σ H _ I h) fun v s1 ⟨x, H1, I1, r1, q1⟩ => tru_ok pins s1 σ H1 x v Q I1 r1 q1) (he _)

/-! ### strs and bytes -/
/-! ### scalar builtins, by CallR -/
theorem vals1 {x : V} {us : List Value} (r : Vals [x] us) : ∃ u, us = [u] ∧ RelV x u := by
  cases r with
  | cons r1 r2 => cases r2; exact ⟨_, rfl, r1⟩
theorem vals2 {x y : V} {us : List Value} (r : Vals [x, y] us) : ∃ u w', us = [u, w'] ∧ RelV x u ∧ RelV y w' := by
  cases r with
  | cons r1 r2 =>
    cases r2 with
    | cons r3 r4 => cases r4; exact ⟨_, _, rfl, r1, r3⟩
theorem call_max2 (hc : X.calm = true) : CallR X (.builtin "max") (fun xs H Q => ∃ i j, xs = [.int i, .int j] ∧ Q (.int (if j > i then j else i)) H) := by
  intro pins s σ H xs us Q I r h
  obtain ⟨i, j, rfl, q⟩ := h
  obtain ⟨u, w', rfl, ⟨t, rfl⟩, ⟨t', rfl⟩⟩ := vals2 r
  refine max_two_ints (I.ok.hd hc) fun h' tk k => ⟨_, H, I.kept k, ?_, q⟩
  by_cases hj : j > i
  · rw [if_pos hj, if_pos hj]; exact ⟨_, rfl⟩
  · rw [if_neg hj, if_neg hj]; exact ⟨_, rfl⟩
theorem call_min2 (hc : X.calm = true) : CallR X (.builtin "min") (fun xs H Q => ∃ i j, xs = [.int i, .int j] ∧ Q (.int (if j < i then j else i)) H) := by
  intro pins s σ H xs us Q I r h
  obtain ⟨i, j, rfl, q⟩ := h
  obtain ⟨u, w', rfl, ⟨t, rfl⟩, ⟨t', rfl⟩⟩ := vals2 r
  refine min_two_ints (I.ok.hd hc) fun h' tk k => ⟨_, H, I.kept k, ?_, q⟩
  by_cases hj : j < i
  · rw [if_pos hj, if_pos hj]; exact ⟨_, rfl⟩
  · rw [if_neg hj, if_neg hj]; exact ⟨_, rfl⟩
theorem call_int1 : CallR X (.type "int") (fun xs H Q => (∃ i, xs = [.int i] ∧ Q (.int i) H) ∨ ∃ k, xs = [.bl k] ∧ Q (.int (if k then 1 else 0)) H) := by
  intro pins s σ H xs us Q I r h
  rcases h with ⟨i, rfl, q⟩ | ⟨k, rfl, q⟩
  · obtain ⟨u, rfl, t, rfl⟩ := vals1 r
    exact call_int_int ⟨.int i, H, I, ⟨_, rfl⟩, q⟩
  · obtain ⟨u, rfl, r1⟩ := vals1 r
    cases r1
    exact call_int_bool ⟨.int (if k then 1 else 0), H, I.tok _, ⟨_, rfl⟩, q⟩
/-- divmod: a new tuple -/
theorem call_divmod : CallR X (.builtin "divmod") (fun xs H Q => ∃ i j, xs = [.int i, .int j] ∧ CDiv i j ∧ ∀ p, H p = none → Q (.ref p) (upd H p (.tup [.int (i / j), .int (i % j)]))) := by
  intro pins s σ H xs us Q I r h
  obtain ⟨i, j, rfl, ⟨h1, h2⟩, q⟩ := h
  obtain ⟨u, w', rfl, ⟨t, rfl⟩, ⟨t', rfl⟩⟩ := vals2 r
  refine divmod_int (by omega) ?_ (.inl (PyProof.noPylong_small (by omega)))
  rw [Int.fdiv_eq_ediv_of_nonneg i (by omega), Int.fmod_eq_emod_of_nonneg i (by omega)]
  have hn : H s.heap.objs.size = none := I.hok.fresh (Nat.le_refl _)
  refine ⟨.ref s.heap.objs.size, _, ?_, rfl, q _ hn⟩
  refine I.laid (fun b o e => Heap.get?_push_of_some _ e) (Nat.le_refl _) ⟨by simp only [List.length_cons, List.length_nil]; rw [sizeLine_eq]; decide, [.int (i / j) s.toks, .int (i % j) (s.toks + 1)], .cons ⟨_, rfl⟩ (.cons ⟨_, rfl⟩ .nil), ?_⟩
  exact ⟨_, Heap.get?_push_size s.heap rfl, rfl, 0, rfl⟩
end
end L2

namespace L2
open PySem PySem.Spec PyProof.Rows

/-! ### an instance, its attributes a map -/
structure ObjM (h : Heap) (x dx C : Addr) (mA : Str → Option Value) : Prop where
  obj : h.get? x = some (PySem.W.instObj C dx)
  ns : h.Ns1 dx mA
  ne : dx ≠ x

theorem lookIn_ns {h : Heap} {dx : Addr} {mA : Str → Option Value} (n : h.Ns1 dx mA) : ∃ od, h.get? dx = some od ∧ ∀ name, PySem.W.lookIn name od = some (mA name) := by
  obtain ⟨o, es, ep, ho, hd, hk, _, hm⟩ := n
  refine ⟨o, ho, fun name => ?_⟩
  have e := hm name
  unfold nsFind findBy at e
  rw [← Array.find?_toList] at e
  unfold PySem.W.lookIn
  rw [hd]
  dsimp only
  split
  · rename_i y q
    rw [q] at e
    exact congrArg some e
  · rename_i q
    rw [q] at e
    have a : es.toList.any (·.refKey) = false := by
      rw [List.any_eq_false]
      intro y hy
      obtain ⟨z, t, hkey⟩ := hk y (Array.mem_toList_iff.mp hy)
      simp [DictEntry.refKey, hkey]
    have a' : ¬ es.toList.any (·.refKey) = true := by rw [a]; exact Bool.false_ne_true
    rw [if_neg a']
    exact congrArg some e

theorem ObjM.look {h : Heap} {x dx C : Addr} {mA : Str → Option Value} (I : ObjM h x dx C mA) : ∃ od, PySem.W.InstAt h x (PySem.W.instObj C dx) C (some od) ∧ ∀ name, PySem.W.lookIn name od = some (mA name) :=
  let ⟨od, ho, hl⟩ := lookIn_ns I.ns
  ⟨od, ⟨I.obj, rfl, rfl, ho⟩, hl⟩

section
variable {prog : Program} {w : World} {A : Around} {E : Value → Shared → Prop} {s : Shared} {K : PySem.W.Frag} {x dx C f : Addr} {mA : Str → Option Value} {name : Str} {v : Value}

end

/-! ### the attributes as a list of pairs -/
section
variable {P : Program} {w : World} {H H' : Hp} {h h' : Heap} {a C dx : Addr} {fs fs' : List (Str × V)}
theorem ins_get (hok : HOk P w H h) (e : H a = some (.ins C dx fs)) : ∃ mA, ObjM h a dx C mA ∧ (∀ f, RelO (fs.lookup f) (mA f)) ∧ PySem.Within mA (fs.map (·.1)) ∧ fs.length ≤ 1000 ∧ H dx = some (.own a) := by
  obtain ⟨d, z, ne, ob, mA, n, r, q⟩ := (show ObjOk P w H h a (.ins C dx fs) from hok a _ e)
  exact ⟨mA, ⟨ob, n, ne⟩, r, q, z, d⟩
end

/-! ### what of the text a class must have -/
structure Cls (K : PySem.W.Frag) (C : Addr) : Prop where
  pg : PySem.W.plainGet K C Str.empty = true
  hd : PySem.W.hasDictIn K C = true
  po : PySem.W.plainOver K C = true
  sa : PySem.W.findIn K (.ref C) "__setattr__" = some (some (.builtin "object.__setattr__"))
theorem Cls.get {K : PySem.W.Frag} {C : Addr} (c : Cls K C) (f : Str) : PySem.W.plainGet K C f = true := c.pg
section
variable {X : Cx} {pins : List (Addr × Obj)} {σ : St} {H : Hp} {s : Shared} {a C dx : Addr} {fs : List (Str × V)} {f : Str} {v : V} {A : Around} {E : Value → Shared → Prop}

end

/-! ### readings and rules -/
section
variable {X : Cx} {o e value : Expr} {f : Str} {pos pos' tpos : Pos} {ta tv : TE}
end

/-! ### isinstance -/
section
variable {X : Cx} {pins : List (Addr × Obj)} {σ : St} {H : Hp} {s : Shared} {A : Around} {E : Value → Shared → Prop} {Q : Value → Shared → Prop} {c : Value} {b : Bool}
/-- the type of a value, as the fragment's deciders take it; for an instance its class -/
inductive TyOf (K : PySem.W.Frag) (H : Hp) : V → Value → Prop where
  | non : TyOf K H .non (.type "NoneType")
  | bl (x : Bool) : TyOf K H (.bl x) (.type "bool")
  | int (i : Int) : TyOf K H (.int i) (.type "int")
  | str (x : Str) : TyOf K H (.str x) (.type "str")
  | flt (x : UInt64) : TyOf K H (.flt x) (.type "float")
  | lst {a : Addr} {xs : List V} (e : H a = some (.lst xs)) : TyOf K H (.ref a) (.type "list")
  | frz {a : Addr} {o : Obj} {xs : List V} (e : H a = some (.frz o (.lst xs))) : TyOf K H (.ref a) (.type "list")
  | tup {a : Addr} {xs : List V} (e : H a = some (.tup xs)) : TyOf K H (.ref a) (.type "tuple")
  | dK {a : Addr} {kvs : List (Key × V)} (e : H a = some (.dK kvs)) : TyOf K H (.ref a) (.type "dict")
  | dT {a : Addr} {kvs : List (List Key × V)} (e : H a = some (.dT kvs)) : TyOf K H (.ref a) (.type "dict")
  | ins {a C dx : Addr} {fs : List (Str × V)} (e : H a = some (.ins C dx fs)) (cl : Cls K C) (ha : PySem.W.findIn K (.ref C) "__class__" = some (some (.builtin "object.__class__")))
      (hn : PySem.W.specialIn K (.builtin "object.__class__") "__get__" = some (some (.builtin "getset_descriptor.__get__"))) (htk : PySem.W.takesIn K (.builtin "object.__class__") = some true)
      (hm : PySem.W.mroIn K C (.type "object") = some true) : TyOf K H (.ref a) (.ref C)
/-- isinstance(x, c) for one class c, a built-in or an own one: kitOne's answer -/
theorem isinst_ok {x : V} {u t : Value} (I : Inv X pins σ H s) (rx : RelV x u) (ty : TyOf X.K H x t) (e : PySem.W.kitOne X.K t c = some b) (h : ∀ tk, Q (.bool b) { s with toks := tk }) :
    wpAny (model X.prog X.w) A (call (.builtin "isinstance") [u, c]) Q E s := by
  cases ty with
  | non => cases (show u = Value.none from rx); exact PySem.W.kia_one PySem.W.kitx_none I.kIn True.intro e (fun z => nomatch z) h
  | bl y => cases (show u = Value.bool y from rx); exact PySem.W.kia_one PySem.W.kitx_bool I.kIn True.intro e (fun z => nomatch z) h
  | int i => obtain ⟨t, q⟩ := (show ∃ t, u = Value.int i t from rx); cases q; exact PySem.W.kia_one PySem.W.kitx_int I.kIn True.intro e (fun z => nomatch z) h
  | str y => obtain ⟨t, q⟩ := (show ∃ t, u = Value.str y t from rx); cases q; exact PySem.W.kia_one PySem.W.kitx_str I.kIn True.intro e (fun z => nomatch z) h
  | flt y => obtain ⟨t, q⟩ := (show ∃ t, u = Value.float y t from rx); cases q; exact PySem.W.kia_one PySem.W.kitx_float I.kIn True.intro e (fun z => nomatch z) h
  | @lst a xs ea =>
    cases (show u = Value.ref a from rx)
    obtain ⟨_, _, n, _, h1⟩ := (show ObjOk X.prog X.w H s.heap a (.lst xs) from I.hok a _ ea)
    exact PySem.W.kia_one PySem.W.kitx_list I.kIn ⟨_, h1, rfl⟩ e (fun z => nomatch z) h
  | @frz a ob xs ea =>
    cases (show u = Value.ref a from rx)
    obtain ⟨_, _, _, n, _, h1⟩ := (show ObjOk X.prog X.w H s.heap a (.frz ob (.lst xs)) from I.hok a _ ea)
    exact PySem.W.kia_one PySem.W.kitx_list I.kIn ⟨_, h1, rfl⟩ e (fun z => nomatch z) h
  | @tup a xs ea =>
    cases (show u = Value.ref a from rx)
    obtain ⟨_, _, _, p⟩ := (show ObjOk X.prog X.w H s.heap a (.tup xs) from I.hok a _ ea)
    obtain ⟨o, h1, h2, _⟩ := p
    exact PySem.W.kia_one PySem.W.kitx_tuple I.kIn ⟨o, h1, h2⟩ e (fun z => nomatch z) h
  | @dK a kvs ea =>
    cases (show u = Value.ref a from rx)
    obtain ⟨_, _, vs, _, p⟩ := (show ObjOk X.prog X.w H s.heap a (.dK kvs) from I.hok a _ ea)
    obtain ⟨o, es, ep, h1, h2, _⟩ := p
    exact PySem.W.kia_one PySem.W.kitx_dict I.kIn ⟨o, h1, h2.1⟩ e (fun z => nomatch z) h
  | @dT a kvs ea =>
    cases (show u = Value.ref a from rx)
    obtain ⟨_, _, xs, _, o, es, ep, h1, h2, _⟩ := (show ObjOk X.prog X.w H s.heap a (.dT kvs) from I.hok a _ ea)
    exact PySem.W.kia_one PySem.W.kitx_dict I.kIn ⟨o, h1, h2.1⟩ e (fun z => nomatch z) h
  | @ins a C dx fs ea cl ha hn htk hm =>
    cases (show u = Value.ref a from rx)
    obtain ⟨mA, O, _⟩ := ins_get I.hok ea
    obtain ⟨od, J, _⟩ := O.look
    exact PySem.W.kia_one (PySem.W.kitx_own (cl.get _) cl.hd ha hn htk hm) I.kIn J e (fun z => nomatch z) h
end
end L2

namespace L2
open PySem PySem.Spec PyProof.Rows

/-! ### room -/
structure Room (k : Nat) (A : Around) : Prop where
  hd : A.handled = none
  dp : A.depth + 3 * k + 5 < recursionLimit
  un : A.units + 16 * k + 200 < cLine
theorem Room.mono {j k : Nat} {A : Around} (r : Room k A) (h : j ≤ k) : Room j A := ⟨r.hd, by have := r.dp; omega, by have := r.un; omega⟩
theorem Room.deeper {k : Nat} {A : Around} (r : Room (k + 1) A) (env : Env) : Room k (A.deeper env) :=
  ⟨r.hd, by have := r.dp; show A.depth + 1 + 3 * k + 5 < _; omega, by have := r.un; show A.units + 3 + 16 * k + 200 < _; omega⟩
theorem Room.depth {k : Nat} {A : Around} (r : Room k A) : A.depth < recursionLimit := by have := r.dp; omega
theorem Room.units {k : Nat} {A : Around} (r : Room k A) : A.units + 64 < cLine := by have := r.un; omega
theorem Room.units0 {k : Nat} {A : Around} (r : Room k A) : A.units < cLine := by have := r.un; omega

/-! ### argument lists and displays -/
def tNil : TA := fun _ H Q => Q [] H
def tCons (ta : TE) (tr : TA) : TA := fun σ H Q => ta σ H fun x H1 => tr σ H1 fun xs H2 => Q (x :: xs) H2
section
variable {X : Cx} {e : Expr} {es : List Expr} {te : TE} {t : TA} {pos : Pos}
theorem pa_nil : PA X [] tNil := fun _ _ _ _ H Q I h => Calls.spliced_nil ⟨[], H, I, .nil, h⟩
theorem pa_cons (ha : PE X e te) (hr : PA X es t) (hs : starEach (e :: es) X.env = (false, eval e X.env) :: starEach es X.env := by rfl) : PA X (e :: es) (tCons te t) := by
  intro pos pins s σ H Q I h
  rw [hs]
  show wpAny _ _ (spliced ((false, eval e X.env) :: backTo pos (starEach es X.env))) _ _ s
  refine Calls.spliced_cons (thn (ha pins s σ H _ I h) fun u s1 ⟨x, H1, I1, r1, q1⟩ => ?_)
  exact thn (hr pos pins s1 σ H1 _ I1 q1) fun us s2 ⟨xs, H2, I2, r2, q2⟩ => ⟨x :: xs, H2, I2, .cons r1 r2, q2⟩

/-- a tuple, a list of written items -/
def tTup (t : TA) : TE := fun σ H Q => t σ H fun xs H1 => xs.length ≤ sizeLine ∧ ∀ p, H1 p = none → Q (.ref p) (upd H1 p (.tup xs))
def tLst (t : TA) : TE := fun σ H Q => t σ H fun xs H1 => xs.length ≤ sizeLine ∧ ∀ p, H1 p = none → Q (.ref p) (upd H1 p (.lst xs))
theorem pe_tup {x1} (h : PA X es t) : PE X (.Tuple es x1 pos) (tTup t) := by
  intro pins s σ H Q I hq
  refine wpAny_Tuple_spliced (thn (h pos pins s σ H _ I hq) fun us s1 ⟨xs, H1, I1, r, z, q⟩ => ⟨by rw [← r.length]; exact z, ?_⟩)
  have hf : H1 s1.heap.objs.size = none := I1.hok.fresh (Nat.le_refl _)
  refine ⟨.ref s1.heap.objs.size, upd H1 s1.heap.objs.size (.tup xs), I1.laid (t' := s1.toks) (fun b u e => Heap.get?_push_of_some _ e) (Nat.le_refl _) ?_, rfl, q _ hf⟩
  exact ⟨z, us, r, ⟨_, Heap.get?_push_size _ rfl, rfl, _, rfl⟩⟩
theorem pe_lst (h : PA X es t) : PE X (.List es pos) (tLst t) := by
  intro pins s σ H Q I hq
  refine wpAny_List_spliced (thn (h pos pins s σ H _ I hq) fun us s1 ⟨xs, H1, I1, r, z, q⟩ => ⟨by rw [← r.length]; exact z, ?_⟩)
  have hf : H1 s1.heap.objs.size = none := I1.hok.fresh (Nat.le_refl _)
  refine ⟨.ref s1.heap.objs.size, upd H1 s1.heap.objs.size (.lst xs), I1.laid (t' := s1.toks) (fun b u e => Heap.get?_push_of_some _ e) (Nat.le_refl _) ?_, rfl, q _ hf⟩
  exact ⟨z, us, 0, r, Heap.get?_push_size _ rfl⟩
end

/-! ### what a def promises -/
/-- a def's promise: the bound arguments in the parameters' order, the heap, the wanted end, the wanted exception -/
abbrev Sp := List V → Hp → VK → XK → Prop
/-- how an exception lies behind a call (file 08 gives it): the callers' frames, abstract heap and state ahead of the call, the wish, the exception, the state -/
abbrev CXT := List Env → Hp → Shared → XK → Value → Shared → Prop

/-- the state at a call -/
structure Env0 (P : Program) (w : World) (K : PySem.W.Frag) (mg : Str → Option Value) (base : Heap) (A : Around) (outer : List Env) (s : Shared) (H : Hp) : Prop where
  frames : A.frames = some outer
  mod : Mod K mg base
  bs : ∀ b o, base.get? b = some o → s.heap.get? b = some o ∧ H b = none
  bsz : base.objs.size ≤ s.heap.objs.size
  funs : s.heap.FunFrames base outer
  frf : ∀ b ∈ frs outer, H b = none
  hok : HOk P w H s.heap
  bare : AllBare s.gens
/-- a call's end -/
def CE (outer : List Env) (P : Program) (w : World) (H : Hp) (s : Shared) (Q : VK) (u : Value) (s' : Shared) : Prop :=
  ∃ v H', s'.os = s.os ∧ AllBare s'.gens ∧ Un (frs outer) [] H H' s.heap s'.heap ∧ HOk P w H' s'.heap ∧ RelV v u ∧ Q v H'
def CR (CX : CXT) (outer : List Env) (P : Program) (w : World) (H : Hp) (s : Shared) (Q : VK) (E : XK) (r : Result) (s' : Shared) : Prop :=
  match r with
  | .ok (.ret u) => CE outer P w H s Q u s'
  | .ok _ => False
  | .error e => CX outer H s E e s'
structure FnOk (P : Program) (w : World) (K : PySem.W.Frag) (mg : Str → Option Value) (base : Heap) (CX : CXT) (k : Nat) (f : Addr) (fd : FuncData) (ps : List Str) (sp : Sp) : Prop where
  len : ∀ vs H Q E, sp vs H Q E → vs.length = ps.length
  run : ∀ (A : Around) (outer : List Env) (s : Shared) (H : Hp) (args : Args) (us : List Value) (vs : List V) (Q : VK) (E : XK), Room k A → Env0 P w K mg base A outer s H → BindsTo s fd args (ps.zip us) → Vals vs us → sp vs H Q E →
    codeAny (model P w) A (.call (.ref f) args) (CR CX outer P w H s Q E) s
theorem FnOk.mono {P : Program} {w : World} {K : PySem.W.Frag} {mg : Str → Option Value} {base : Heap} {CX : CXT} {j k : Nat} {f : Addr} {fd : FuncData} {ps : List Str} {sp : Sp} (F : FnOk P w K mg base CX j f fd ps sp) (h : j ≤ k) :
    FnOk P w K mg base CX k f fd ps sp := ⟨F.len, fun A outer s H args us vs Q E hr => F.run A outer s H args us vs Q E (hr.mono h)⟩
/-- a weaker promise -/
theorem FnOk.imp {P : Program} {w : World} {K : PySem.W.Frag} {mg : Str → Option Value} {base : Heap} {CX : CXT} {k : Nat} {f : Addr} {fd : FuncData} {ps : List Str} {sp sp' : Sp} (F : FnOk P w K mg base CX k f fd ps sp)
    (h : ∀ vs H Q E, sp' vs H Q E → sp vs H Q E) : FnOk P w K mg base CX k f fd ps sp' :=
  ⟨fun vs H Q E q => F.len vs H Q E (h _ _ _ _ q), fun A outer s H args us vs Q E hr he hb hv hs => F.run A outer s H args us vs Q E hr he hb hv (h _ _ _ _ hs)⟩

section
variable {X : Cx} {pins : List (Addr × Obj)} {σ : St} {H : Hp} {s s' : Shared}
/-- from a body: what a callee wants -/
theorem Inv.env0 (I : Inv X pins σ H s) : Env0 X.prog X.w X.K X.mg X.base X.A X.stack s H :=
  ⟨I.ok.frames, I.ok.mod, I.bs, Nat.le_trans I.ok.bsz I.sz, I.stack, I.stkFree, I.hok, I.bare⟩
/-- behind a call -/
theorem Inv.after {Q : VK} {u : Value} (I : Inv X pins σ H s) (h : CE X.stack X.prog X.w H s Q u s') : EP X pins σ Q u s' := by
  obtain ⟨v, H', os, bare, un, hok, r, q⟩ := h
  obtain ⟨hh, g, d, t, os'⟩ := s'
  obtain rfl : os' = s.os := os
  exact ⟨v, H', I.call (h' := hh) (g' := g) (d' := d) (t' := t) (ch := []) un hok bare (fun b z => absurd z (by simp)), r, q⟩
end

/-! ### calls -/
/-- f(..): the written arguments, then the defaults dvs; E: what is wanted of an exception -/
def tCall (sp : Sp) (dvs : List V) (E : XK) (t : TA) : TE := fun σ H Q => t σ H fun vs H1 => sp (vs ++ dvs) H1 Q E
/-- how the parameters are bound: us the positional arguments, kw the keywords' values by name, ds the defaults that fill up -/
def Binds (K : PySem.W.Frag) (fd : FuncData) (ps : List Str) (ds : List Value) : Prop :=
  ∀ (s : Shared) (us : List Value), K.In s.heap → (us ++ ds).length = ps.length → BindsTo s fd ⟨us, []⟩ (ps.zip (us ++ ds))
/-- every parameter is given -/
theorem Binds.all {K : PySem.W.Frag} {fd : FuncData} {ps : List Str} (h : ∀ us : List Value, us.length = ps.length → bindArgs fd ⟨us, []⟩ = pure (ps.zip us)) : Binds K fd ps [] := fun s us _ hl => by
  rw [List.append_nil] at hl ⊢
  exact .of_eq (h us hl)

/-- an exception of a callee reaches what this body wants of exceptions -/
def Passes (CX : CXT) (X : Cx) (E : XK) : Prop := ∀ (pins : List (Addr × Obj)) (σ : St) (H : Hp) (s : Shared) (e : Value) (s' : Shared), Inv X pins σ H s → CX X.stack H s E e s' → X.xe e s'

section
variable {X : Cx} {CX : CXT} {k : Nat} {f C : Addr} {fd : FuncData} {ps : List Str} {sp : Sp} {dvs : List V} {ds : List Value} {E : XK} {x m : Str} {p pos apos : Pos} {e o : Expr} {es : List Expr} {ta : TE} {t : TA}

/-- the callee runs -/
theorem run_fn {pins : List (Addr × Obj)} {σ : St} {H : Hp} {s : Shared} {Q : VK} {us : List Value} {vs : List V} (F : FnOk X.prog X.w X.K X.mg X.base CX k f fd ps sp) (hr : Room k X.A) (hb : Binds X.K fd ps ds) (hd : Vals dvs ds) (hx : Passes CX X E)
    (I : Inv X pins σ H s) (r : Vals vs us) (h : sp (vs ++ dvs) H Q E) : wpAny (model X.prog X.w) X.A (call (.ref f) us) (EP X pins σ Q) X.xe s := by
  have r2 : Vals (vs ++ dvs) (us ++ ds) := r.append hd
  have hl : (us ++ ds).length = ps.length := by rw [← r2.length]; exact F.len _ _ _ _ h
  refine wpAny_call (codeAny_mono (F.run X.A X.stack s H ⟨us, []⟩ (us ++ ds) (vs ++ dvs) Q E hr I.env0 (hb s us I.kIn hl) r2 h) fun r s' hq => ?_)
  cases r with
  | error e => exact hx pins σ H s e s' I hq
  | ok fl =>
    cases fl with
    | ret u => exact I.after hq
    | next => exact False.elim hq
    | brk => exact False.elim hq
    | cont => exact False.elim hq

theorem pe_call (F : FnOk X.prog X.w X.K X.mg X.base CX k f fd ps sp) (hr : Room k X.A) (hg : Gl X x) (hm : X.mg x = some (.ref f)) (hk : PySem.W.keepIn X.K (.ref f) = true) (hb : Binds X.K fd ps ds) (hd : Vals dvs ds) (hx : Passes CX X E)
    (ha : PA X (e :: es) t) (hdb : (x == ("__debug__" : Str)) = false := by decide) (he : starEach (e :: es) X.env = (false, eval e X.env) :: starEach es X.env := by rfl) (hpl : (backTo pos (starEach es X.env)).any (·.1) = false := by rfl) :
    PE X (.Call (.Name x p) (e :: es) [] pos) (tCall sp dvs E t) := by
  intro pins s σ H Q I h
  refine wpAny_Call_Name_kw (ld_glob I hg hm ?_ hdb)
  refine PySem.W.callWith_K (h₀ := X.base) I.ok.mod.kin hk (thn (ha pos pins s σ H _ I h) fun us s1 ⟨vs, H1, I1, r, q⟩ => ⟨I1.kIn, ?_⟩) he hpl
  exact run_fn F hr hb hd hx I1 r q
end

/-! ### keywords -/
section
variable {X : Cx} {CX : CXT} {k : Nat} {f C : Addr} {fd : FuncData} {ps ks : List Str} {sp : Sp} {E : XK} {x m : Str} {p pos apos kpos : Pos} {e o : Expr} {es : List Expr} {kws : List Keyword} {te ta : TE} {t tk : TA} {nm : Option Str}
variable {g : List Value → List Value → List Value} {gV : List V → List V → List V}
end

/-! ### a def's body keeps its promise -/
/-- names: the parameters first -/
structure FnScope (N P : List Str) (sc : Scope) : Prop where
  kind : sc.kind = .function
  co : sc.isCoroutine = false
  gen : sc.isGenerator = false
  nd : N.Nodup
  pre : N.take P.length = P
  par : ∀ x ∈ P, sc.names.lookup x = some .local ∨ sc.names.lookup x = some .cell
  nofree : ∀ y ∈ sc.names, y.2 ≠ .free

theorem bindL_out {kindOf : Str → Option NameKind} {x : Str} : ∀ {binds : List (Str × Value)} {m : Str → Option Value}, (∀ v, (x, v) ∉ binds) → bindL kindOf binds m x = m x
  | [], _, _ => rfl
  | (n, v) :: r, m, h => by
    unfold bindL
    rw [bindL_out fun w hw => h w (List.mem_cons_of_mem _ hw)]
    split
    · have : x ≠ n := by rintro rfl; exact h v List.mem_cons_self
      simp [this]
    · rfl
theorem bindC_out {kindOf : Str → Option NameKind} {x : Str} : ∀ {binds : List (Str × Value)} {m : Str → Option Value}, (∀ v, (x, v) ∉ binds) → bindC kindOf binds m x = m x
  | [], _, _ => rfl
  | (n, v) :: r, m, h => by
    unfold bindC
    rw [bindC_out fun w hw => h w (List.mem_cons_of_mem _ hw)]
    split
    · rfl
    · have : x ≠ n := by rintro rfl; exact h v List.mem_cons_self
      simp [this]
theorem bindL_get {kindOf : Str → Option NameKind} {x : Str} {v : Value} : ∀ {P : List Str} {vs : List Value} {i : Nat} {m : Str → Option Value}, P.Nodup → P[i]? = some x → vs[i]? = some v → kindOf x = some .local →
    bindL kindOf (P.zip vs) m x = some v
  | [], _, _, _, _, h, _, _ => by simp at h
  | _ :: _, [], _, _, _, _, h, _ => by simp at h
  | p :: P, w :: vs, 0, m, nd, h1, h2, hk => by
    simp at h1 h2; subst h1; subst h2
    show bindL kindOf ((p, w) :: P.zip vs) m p = _
    unfold bindL
    rw [bindL_out fun v hv => (List.nodup_cons.mp nd).1 (List.of_mem_zip hv).1, if_pos hk]
    simp
  | p :: P, w :: vs, i + 1, m, nd, h1, h2, hk => by
    show bindL kindOf ((p, w) :: P.zip vs) m x = _
    unfold bindL
    exact bindL_get (i := i) (List.nodup_cons.mp nd).2 (by simpa using h1) (by simpa using h2) hk
theorem bindC_get {kindOf : Str → Option NameKind} {x : Str} {v : Value} : ∀ {P : List Str} {vs : List Value} {i : Nat} {m : Str → Option Value}, P.Nodup → P[i]? = some x → vs[i]? = some v → kindOf x ≠ some .local →
    bindC kindOf (P.zip vs) m x = some v
  | [], _, _, _, _, h, _, _ => by simp at h
  | _ :: _, [], _, _, _, _, h, _ => by simp at h
  | p :: P, w :: vs, 0, m, nd, h1, h2, hk => by
    simp at h1 h2; subst h1; subst h2
    show bindC kindOf ((p, w) :: P.zip vs) m p = _
    unfold bindC
    rw [bindC_out fun v hv => (List.nodup_cons.mp nd).1 (List.of_mem_zip hv).1, if_neg hk]
    simp
  | p :: P, w :: vs, i + 1, m, nd, h1, h2, hk => by
    show bindC kindOf ((p, w) :: P.zip vs) m x = _
    unfold bindC
    exact bindC_get (i := i) (List.nodup_cons.mp nd).2 (by simpa using h1) (by simpa using h2) hk

/-- the names' values at the entry -/
def start (N : List Str) (vs : List V) : St := vs.map some ++ List.replicate (N.length - vs.length) none

/-- the context of a def's body, at its entry; an exception leaves the frame, then lies as CX says -/
def cxOf (CX : CXT) (P : Program) (w : World) (K : PySem.W.Frag) (mg : Str → Option Value) (base : Heap) (N : List Str) (qual : Str) (scope : Scope) (f : Addr) (cd : Value) (A : Around) (outer : List Env) (s : Shared) (H : Hp) (E : XK) : Cx where
  prog := P
  w := w
  K := K
  mg := mg
  base := base
  A := A.deeper (envOfC qual scope s.heap.objs.size f cd)
  N := N
  s₀ := s
  H₀ := H
  env := envOfC qual scope s.heap.objs.size f cd
  outer := outer
  stack := envOfC qual scope s.heap.objs.size f cd :: outer
  ex := []
  calm := true
  fn := fun _ => true
  pn := []
  xe := fun e s' => wpAny (model P w) (A.deeper (envOfC qual scope s.heap.objs.size f cd)) (leaving (envOfC qual scope s.heap.objs.size f cd) e) (fun _ s'' => CX outer H s E e s'') (fun e' s'' => CX outer H s E e' s'') s'

theorem cell_has {sc : Scope} {n : Nat} {x : Str} (h : sc.names.lookup x = some .cell) : ∃ c, (cellsFrom n sc.names []).lookup x = some c := by
  have q := PySem.W.cellsFrom_some sc.names n [] (.inl h)
  exact Option.isSome_iff_exists.mp q

theorem inv_start {CX : CXT} {P : Program} {w : World} {K : PySem.W.Frag} {mg : Str → Option Value} {base : Heap} {N ps : List Str} {qual : Str} {scope : Scope} {f : Addr} {cd : Value} {A : Around} {outer : List Env} {s s1 : Shared} {H : Hp} {E : XK} {us : List Value} {vs : List V}
    (S : FnScope N ps scope) (hd : A.handled = none) (e0 : Env0 P w K mg base A outer s H) (hl : vs.length = ps.length) (r : Vals vs us)
    (x : InCallC s s.heap.objs.size (bindL (envOfC qual scope s.heap.objs.size f cd).kindOf (ps.zip us) fun _ => none) (cellsFrom (s.heap.objs.size + 1) scope.names []) (bindC (envOfC qual scope s.heap.objs.size f cd).kindOf (ps.zip us) fun _ => none) s1) :
    Inv (cxOf CX P w K mg base N qual scope f cd A outer s H E) [] (start N vs) H s1 := by
  have hpl : ps.length ≤ N.length := by have := congrArg List.length S.pre; rw [List.length_take] at this; omega
  obtain ⟨h1, tk, rfl, hk⟩ := x.done
  have noA : ∀ b : Addr, b ∉ (cxOf CX P w K mg base N qual scope f cd A outer s H E).ex := fun b z => absurd (show b ∈ ([] : List Addr) from z) (by simp)
  refine ⟨⟨e0.mod, S.kind, rfl, rfl, Nat.le_refl _, fun y z c h1 h2 => ?_, fun y hy => ?_, fun y c _ h => ?_, fun _ => hd, Around.frames_deeper e0.frames, .inr ⟨rfl, rfl⟩, fun b z => absurd z (noA b), e0.bs, e0.bsz, fun b _ _ => noA b, fun b z => absurd z (noA b), e0.funs, e0.frf⟩,
    rfl, e0.bare, Un.kept hk, ⟨_, x.toInCall.ns, fun i y v h1 h2 h3 => ?_⟩, fun y c h => ⟨_, x.cell y c h⟩, e0.hok.fresh (Nat.le_refl _), fun y c h => ?_, fun p hp => absurd (show p ∈ ([] : List (Addr × Obj)) from hp) (by simp), e0.hok.kept hk, ?_⟩
  · exact name_of_addr x.apart (PySem.mem_of_lookup h1) (PySem.mem_of_lookup h2)
  · have hy : scope.names.lookup y = some .cell ∨ scope.names.lookup y = some .free := hy
    rcases hy with hy | hy
    · exact cell_has hy
    · exact absurd rfl (S.nofree _ (PySem.mem_of_lookup hy))
  · exact Nat.le_of_lt (x.above y c (PySem.mem_of_lookup h))
  · have hi : i < vs.length := by
      unfold start at h2
      by_cases hi : i < vs.length
      · exact hi
      · rw [List.getElem?_append_right (by simpa using hi)] at h2
        rw [List.getElem?_replicate] at h2
        split at h2 <;> cases h2
    have ha : vs[i]? = some v := by
      unfold start at h2
      rw [List.getElem?_append_left (by simpa using hi), List.getElem?_map] at h2
      cases e : vs[i]? with
      | none => rw [e] at h2; cases h2
      | some a => rw [e] at h2; cases h2; rfl
    obtain ⟨u, hu, rv⟩ := r.get ha
    have hp : ps[i]? = some y := by
      rw [← S.pre, List.getElem?_take_of_lt (by omega)]; exact h1
    have ndP : ps.Nodup := by rw [← S.pre]; exact S.nd.sublist (List.take_sublist _ _)
    refine ⟨u, rv, ?_⟩
    rcases S.par y (List.mem_of_getElem? hp) with k | k
    · exact .inl ⟨k, bindL_get ndP hp hu k⟩
    · obtain ⟨c, e⟩ := cell_has (n := s.heap.objs.size + 1) k
      refine .inr ⟨.inl k, c, e, ?_⟩
      have q := x.cell y c e
      rw [bindC_get ndP hp hu (by show scope.names.lookup y ≠ _; rw [k]; decide)] at q
      exact q
  · exact e0.hok.fresh (Nat.le_of_lt (x.above y c (PySem.mem_of_lookup h)))
  · unfold start
    show _ = N.length
    rw [List.length_append, List.length_map, List.length_replicate]
    omega

/-- THE RULE: a def (or a method) of the text, by its body. The body's reading t is chosen for each entry; it is run at the parameters' values -/
theorem fn_of {CX : CXT} {P : Program} {w : World} {K : PySem.W.Frag} {mg : Str → Option Value} {base : Heap} {k : Nat} {f : Addr} {name qual : Str} {params : Arguments} {body : List Stmt} {scope : Scope} {dV kV doc pm cdv ct oc : Value} {an od : Option Addr}
    {osl : Array (Option Value)} {N ps : List Str} {sp : Sp} (lk : K.lookup f = some ⟨oc, od, .func (PySem.W.fnOf name qual params body scope dV kV doc pm an cdv ct), osl⟩) (hcd : PySem.W.codeIn K cdv qual = true) (S : FnScope N ps scope)
    (len : ∀ vs H Q E, sp vs H Q E → vs.length = ps.length)
    (hbody : ∀ (A : Around) (outer : List Env) (s : Shared) (H : Hp) (vs : List V) (Q : VK) (E : XK), Room k (A.deeper (envOfC qual scope s.heap.objs.size f cdv)) → sp vs H Q E →
      ∃ t, PSs (cxOf CX P w K mg base N qual scope f cdv A outer s H E) body t ∧ t { nx := fun _ H' => Q .non H', rt := Q } (start N vs) H) :
    FnOk P w K mg base CX (k + 1) f (PySem.W.fnOf name qual params body scope dV kV doc pm an cdv ct) ps sp := by
  refine ⟨len, fun A outer s H args us vs Q E hr e0 hb r hsp => ?_⟩
  have hl := len _ _ _ _ hsp
  have KX : K.In s.heap := e0.mod.kin.keeps fun b o e => (e0.bs b o e).1
  have lim : s.heap.NoLimit := e0.mod.nolimit.keeps fun b o e => (e0.bs b o e).1
  have hkind : ∀ y ∈ ps.zip us, scope.names.lookup y.1 = some .local ∨ (scope.names.lookup y.1 = some .cell ∧ ((cellsFrom (s.heap.objs.size + 1) scope.names []).lookup y.1).isSome = true) := fun ⟨n, v⟩ hy => by
    rcases S.par n (List.of_mem_zip hy).1 with q | q
    · exact .inl q
    · exact .inr ⟨q, PySem.W.cellsFrom_some _ _ _ (.inl q)⟩
  refine codeAny_call_function hr.depth (KX _ _ lk) rfl S.co S.gen rfl (PySem.W.codeRec_of KX hcd) (hb _ _ _ _ ?_)
  refine wpAny_newFunctionEnv_cells S.kind hkind fun env he s1 x => ?_
  subst he
  refine ⟨lim.keeps x.toInCall.keep, codeAny_func ?_⟩
  obtain ⟨t, ht, hq⟩ := hbody A outer s H vs Q E (hr.deeper _) hsp
  have I : Inv (cxOf CX P w K mg base N qual scope f cdv A outer s H E) [] (start N vs) H s1 := inv_start S hr.hd e0 hl r x
  refine wpAny_mono (ht [] s1 (start N vs) H _ I hq) (fun fl s' hs => ?_) fun e s' hs => hs
  have fin : ∀ {σ' : St} {H' : Hp} {v : V} {u : Value}, Inv (cxOf CX P w K mg base N qual scope f cdv A outer s H E) [] σ' H' s' → RelV v u → Q v H' → CE outer P w H s Q u s' :=
    fun {σ' H' v u} J rv q => ⟨v, H', J.os, J.bare, J.base, J.hok, rv, q⟩
  cases fl with
  | ret u =>
    obtain ⟨v, σ', H', J, rv, q⟩ := hs
    exact fin J rv q
  | next =>
    obtain ⟨σ', H', J, q⟩ := hs
    exact fin (v := V.non) (u := Value.none) J rfl q
  | brk =>
    obtain ⟨_, _, _, q⟩ := hs
    exact False.elim q
  | cont =>
    obtain ⟨_, _, _, q⟩ := hs
    exact False.elim q
end L2

namespace L2
open PySem PySem.Spec PyProof.Rows
section
variable {X : Cx} {x : Str} {p pos : Pos} {e : Expr} {es : List Expr} {t : TA} {id T : String} {r : List V → Hp → VK → Prop}

def tCB (r : List V → Hp → VK → Prop) (t : TA) : TE := fun σ H Q => t σ H fun vs H1 => r vs H1 Q
/-- f(e, ..), f a built-in function -/
theorem pe_callB (hc : CallR X (.builtin id) r) (hg : Gl X x) (hm : X.mg x = none) (hv : bootBuiltins x = some (.builtin id)) (ha : PA X (e :: es) t) (hn : x ≠ "__name__" := by decide) (hdb : (x == ("__debug__" : Str)) = false := by decide)
    (he : starEach (e :: es) X.env = (false, eval e X.env) :: starEach es X.env := by rfl) (hpl : (backTo pos (starEach es X.env)).any (·.1) = false := by rfl) : PE X (.Call (.Name x p) (e :: es) [] pos) (tCB r t) := by
  intro pins s σ H Q I h
  refine wpAny_Call_Name_kw (ld_blt I hg hm hv ?_ hn hdb)
  exact PyProof.Rows.callWith_builtin1 (thn (ha pos pins s σ H _ I h) fun us s1 ⟨vs, H1, I1, r1, q1⟩ => hc pins s1 σ H1 vs us Q I1 r1 q1) he hpl
/-- T(e, ..), T a built-in type -/
theorem pe_callTy (hc : CallR X (.type T) r) (hg : Gl X x) (hm : X.mg x = none) (hv : bootBuiltins x = some (.type T)) (ha : PA X (e :: es) t) (hn : x ≠ "__name__" := by decide) (hdb : (x == ("__debug__" : Str)) = false := by decide)
    (he : starEach (e :: es) X.env = (false, eval e X.env) :: starEach es X.env := by rfl) (hpl : (backTo pos (starEach es X.env)).any (·.1) = false := by rfl) : PE X (.Call (.Name x p) (e :: es) [] pos) (tCB r t) := by
  intro pins s σ H Q I h
  refine wpAny_Call_Name_kw (ld_blt I hg hm hv ?_ hn hdb)
  exact PyProof.Rows.callWith_type1 (thn (ha pos pins s σ H _ I h) fun us s1 ⟨vs, H1, I1, r1, q1⟩ => hc pins s1 σ H1 vs us Q I1 r1 q1) he hpl
end
end L2

namespace HT
open PySem PyProof.Rows

section
open PySem.SeqAt
open PySem.AutoSeq1 (wpAny_loadPart')
open PySem.MeetsSeq PySem.MeetsSeq2 PySem.MeetsSeq3

end

section
variable {prog : Program} {w : World} {A : Around} {E : Value → Shared → Prop} {s : Shared}

/-! ### t[a:b], not the whole -/
/-- a slice's bound as a place among n (d where it is left out) -/
def sIx (n d : Nat) : Option Int → Nat
  | none => d
  | some v => if v < 0 then (v + (n : Int)).toNat else min v.toNat n
theorem sIx_none (n d : Nat) : sIx n d none = d := rfl
theorem sIx_nat (n d k : Nat) : sIx n d (some (k : Int)) = min k n := by
  show (if (k : Int) < 0 then ((k : Int) + (n : Int)).toNat else min (k : Int).toNat n) = min k n
  rw [if_neg (by omega), Int.toNat_natCast]
theorem sIx_le (n d : Nat) (hd : d ≤ n) (o : Option Int) : sIx n d o ≤ n := by
  cases o with
  | none => exact hd
  | some v =>
    show (if v < 0 then (v + (n : Int)).toNat else min v.toNat n) ≤ n
    by_cases hv : v < 0
    · rw [if_pos hv]; omega
    · rw [if_neg hv]; exact Nat.min_le_right _ _
theorem clip_eq (v : Int) (n d : Nat) : (if v < 0 then max (v + (n : Int)) 0 else min v (n : Int)) = ((sIx n d (some v) : Nat) : Int) := by
  show (if v < 0 then max (v + (n : Int)) 0 else min v (n : Int)) = (((if v < 0 then (v + (n : Int)).toNat else min v.toNat n) : Nat) : Int)
  by_cases hv : v < 0
  · simp only [if_pos hv]; omega
  · simp only [if_neg hv]; omega
theorem adjust_gen (lo hi : Option Int) (n : Nat) : Builtin.Slice.sliceAdjust lo hi 1 (n : Int) = (((sIx n 0 lo : Nat) : Int), ((sIx n n hi : Nat) : Int)) := by
  have h1 : ¬ ((1 : Int) < 0) := by omega
  unfold Builtin.Slice.sliceAdjust
  simp only [h1, if_false]
  refine Prod.ext ?_ ?_
  · cases lo with
    | none => rfl
    | some v => exact clip_eq v n 0
  · cases hi with
    | none => rfl
    | some v => exact clip_eq v n n
theorem places_gen (i j : Nat) : Builtin.Slice.slicePlaces (i : Int) (j : Int) 1 = j - i := by
  unfold Builtin.Slice.slicePlaces
  have h1 : (1 : Int) > 0 := by omega
  simp only [h1, if_true, Int.ediv_one]
  split <;> omega
theorem slicePart_ {v : Value} {o : Option Int} {Q : Option Int → Shared → Prop} (p : IsPart v o) (h : Q o s) : wpAny (model prog w) A (Builtin.Slice.slicePartIndex v) Q E s := by
  cases p with
  | none => exact slicePart_none h
  | int i t => exact slicePart_int h
theorem sliceApplied_gen {sl : Addr} {vl vu : Value} {lo hi : Option Int} {n : Nat} {Q : Int × Int × Nat → Shared → Prop} (hs : s.heap.IsSliceOf sl vl vu .none) (pl : IsPart vl lo) (pu : IsPart vu hi)
    (h : Q (((sIx n 0 lo : Nat) : Int), 1, sIx n n hi - sIx n 0 lo) s) : wpAny (model prog w) A (Builtin.Slice.sliceApplied (.ref sl) (pure (n : Int))) Q E s := by
  obtain ⟨os, hos, hcs, hds⟩ := id hs
  unfold Builtin.Slice.sliceApplied Builtin.Slice.sliceFields
  refine wpAny_bind (wpAny_bind (wpAny_field hos hds (x := vl) rfl (wpAny_bind (wpAny_field hos hds (x := vu) rfl (wpAny_bind (wpAny_field hos hds (x := .none) rfl (wpAny_pure ?_)))))))
  refine wpAny_bind (slicePart_none ?_)
  show wpAny _ _ (if ((1 : Int) == 0) = true then _ else _) _ _ s
  rw [if_neg (by decide)]
  refine wpAny_bind (slicePart_ pl (wpAny_bind (slicePart_ pu (wpAny_bind (wpAny_pure ?_)))))
  show wpAny _ _ (match Builtin.Slice.sliceAdjust lo hi 1 (n : Int) with | (lo, hi) => pure (lo, (1 : Int), Builtin.Slice.slicePlaces lo hi 1)) _ _ s
  rw [adjust_gen lo hi n]
  show wpAny _ _ (pure (((sIx n 0 lo : Nat) : Int), (1 : Int), Builtin.Slice.slicePlaces ((sIx n 0 lo : Nat) : Int) ((sIx n n hi : Nat) : Int) 1)) _ _ s
  rw [places_gen]
  exact wpAny_pure h
theorem pick_gen (xs : Array Value) (i k : Nat) : ((List.range k).filterMap fun (m : Nat) => xs[((i : Int) + (m : Int) * 1).toNat]?).toArray = ((xs.toList.drop i).take k).toArray := by
  have e : (fun (m : Nat) => xs[((i : Int) + (m : Int) * 1).toNat]?) = fun m => xs[i + m]? := by
    funext m
    have : ((i : Int) + (m : Int) * 1).toNat = i + m := by omega
    rw [this]
  rw [e]
  have := pick_run xs i k
  rw [List.filterMap_map] at this
  have e2 : ((fun x => xs[x]?) ∘ fun x => i + x) = fun m => xs[i + m]? := rfl
  rw [e2] at this
  rw [this]

theorem getItem_tuple_cut {t sl : Addr} {items : Array Value} {vl vu : Value} {lo hi : Option Int} {Q : Value → Shared → Prop} (ht : IsTup s.heap t items) (hs : s.heap.IsSliceOf sl vl vu .none) (pl : IsPart vl lo) (pu : IsPart vu hi)
    (hw : ¬ (sIx items.size 0 lo = 0 ∧ sIx items.size items.size hi = items.size))
    (h : Q (.ref s.heap.objs.size) { s with heap := s.heap.push { cls := .type "tuple", data := .seq ((items.toList.drop (sIx items.size 0 lo)).take (sIx items.size items.size hi - sIx items.size 0 lo)).toArray } })
    (hsz : items.size ≤ sizeLine) : wpAny (model prog w) A (getItem (.ref t) (.ref sl)) Q E s := by
  have htake : sizeOk (.seq ((items.toList.drop (sIx items.size 0 lo)).take (sIx items.size items.size hi - sIx items.size 0 lo)).toArray) := by
    show ((items.toList.drop (sIx items.size 0 lo)).take (sIx items.size items.size hi - sIx items.size 0 lo)).toArray.size ≤ sizeLine
    rw [List.size_toArray, List.length_take, List.length_drop, Array.length_toList]
    omega
  have hj : sIx items.size items.size hi ≤ items.size := sIx_le _ _ (Nat.le_refl _) hi
  obtain ⟨os, hos, hcs, hds⟩ := id hs
  have hTs : s.TypeIs (.ref sl) "slice" := ⟨os, hos, hcs⟩
  unfold getItem
  try with_reducible refine wpAny_holding ?_
  first | refine wpAny_bind (wpAny_pure ?_) | skip
  refine wpAny_bind (wpAny_sequenceKey ht.typeIs (by decide) ?_)
  refine wpAny_bind (wpAny_callSpecial?_slot (name := Str.ofString "__getitem__") ht.typeIs PyProof.Rows.slot_tuple_getitem
    (wpAny_call_entry PyProof.Rows.slot_tuple_getitem ht.typeIs entry_tuple_getitem ?_ (args_tuple_getitem _ _)))
  show wpAny _ _ (Builtin.Tuple.tupleItemsOf (.ref t) >>= _) _ _ s
  refine wpAny_bind (tupleItemsOf_ ht ?_)
  refine wpAny_bind (wpAny_typeOf hTs ?_)
  rw [if_pos (by decide)]
  refine wpAny_bind (sliceApplied_gen hs pl pu ?_)
  have hno : ¬ ((((sIx items.size 0 lo : Nat) : Int) == 0 && (1 : Int) == 1 && (sIx items.size items.size hi - sIx items.size 0 lo) == items.size) = true) := by
    intro q
    rw [Bool.and_eq_true, Bool.and_eq_true] at q
    have q1 : ((sIx items.size 0 lo : Nat) : Int) = 0 := eq_of_beq q.1.1
    have q2 : sIx items.size items.size hi - sIx items.size 0 lo = items.size := eq_of_beq q.2
    exact hw ⟨by omega, by omega⟩
  show wpAny _ _ (if (((sIx items.size 0 lo : Nat) : Int) == 0 && (1 : Int) == 1 && (sIx items.size items.size hi - sIx items.size 0 lo) == items.size) = true then _ else _) _ _ s
  rw [if_neg hno, pick_gen]
  first
    | exact wpAny_bind (m := Builtin.Tuple.tupleExact _) (wpAny_newObj_type (wpAny_pure ⟨_, rfl, wpAny_pure h⟩) htake)
    | exact wpAny_bind (m := Builtin.Tuple.tupleExact _) (wpAny_newObj_type (wpAny_bind (wpAny_pure (wpAny_pure ⟨_, rfl, wpAny_pure h⟩))) htake)
    | exact wpAny_bind (wpAny_bind (m := Builtin.Tuple.tupleExact _) (wpAny_newObj_type (wpAny_pure (wpAny_pure ⟨_, rfl, wpAny_pure h⟩)) htake))
    | exact wpAny_bind (wpAny_bind (m := Builtin.Tuple.tupleExact _) (wpAny_newObj_type (wpAny_pure ⟨_, rfl, wpAny_pure h⟩) htake))
end
end HT

namespace L2
open PySem PySem.Spec PyProof.Rows

/-! ### the parts of a slice -/
abbrev TO := St → Hp → (Option Int → Hp → Prop) → Prop
/-- a slice's part (left out, or an int) -/
def PO (X : Cx) (e : Option Expr) (t : TO) : Prop :=
  ∀ (pins : List (Addr × Obj)) (s : Shared) (σ : St) (H : Hp) (Q : Option Int → Hp → Prop), Inv X pins σ H s → t σ H Q →
    wpAny (model X.prog X.w) X.A (evalPart e X.env) (fun u s' => ∃ o H', Inv X pins σ H' s' ∧ IsPart u o ∧ Q o H') X.xe s
def tNoPart : TO := fun _ H Q => Q none H
def tPart (t : TE) : TO := fun σ H Q => t σ H fun x H1 => ∃ i, x = .int i ∧ Q (some i) H1

theorem intsAre_of {ns : List Int} : ∀ {us : List Value}, Vals (ns.map V.int) us → IntsAre us ns := by
  induction ns with
  | nil => intro us r; rw [List.map_nil] at r; cases r; exact .nil
  | cons n ns ih =>
    intro us r
    rw [List.map_cons] at r
    cases r with
    | cons r1 r2 =>
      obtain ⟨t, e⟩ := r1
      subst e
      exact .cons n t (ih r2)

section
variable {X : Cx} {e : Expr} {te : TE} {lo hi : Option Expr} {tl th : TO} {pos p2 : Pos}

theorem po_none : PO X none tNoPart := by
  intro pins s σ H Q I h
  rw [evalPart_none]
  exact wpAny_pure ⟨none, H, I, .none, h⟩
theorem po_some (h : PE X e te) : PO X (some e) (tPart te) := by
  intro pins s σ H Q I hw
  rw [evalPart_some]
  refine thn (h pins s σ H _ I hw) fun u s1 ⟨x, H1, I1, r1, q1⟩ => ?_
  obtain ⟨i, rfl, q⟩ := q1
  obtain ⟨t, rfl⟩ := r1
  exact ⟨some i, H1, I1, .int i t, q⟩

/-- what a slice of a value is, by values: the slice object stands at sl -/
def SlR (X : Cx) (r : V → Option Int → Option Int → Hp → VK → Prop) : Prop :=
  ∀ (pins : List (Addr × Obj)) (s : Shared) (σ : St) (H : Hp) (x : V) (v vl vu : Value) (lo hi : Option Int) (sl : Addr) (Q : VK), Inv X pins σ H s → RelV x v → s.heap.IsSliceOf sl vl vu .none → IsPart vl lo → IsPart vu hi → r x lo hi H Q →
    ∃ T id, typeLookup (.type T) "__getitem__" = pure (some (.builtin id)) ∧ s.TypeIs v T ∧ wpAny (model X.prog X.w) X.A (getItem v (.ref sl)) (EP X pins σ Q) X.xe s
def tSl (r : V → Option Int → Option Int → Hp → VK → Prop) (te : TE) (tl th : TO) : TE := fun σ H Q => te σ H fun x H1 => tl σ H1 fun l H2 => th σ H2 fun u H3 => r x l u H3 Q
/-- a[lo:hi], any a -/
theorem pe_slice {r : V → Option Int → Option Int → Hp → VK → Prop} (hr : SlR X r) (he : PE X e te) (hl : PO X lo tl) (hu : PO X hi th) : PE X (.Subscript e (.Slice lo hi none p2) pos) (tSl r te tl th) := by
  intro pins s σ H Q I h
  refine Subscript_ (thn (he pins s σ H _ I h) fun v s1 ⟨x, H1, I1, r1, q1⟩ => ?_)
  refine wpAny_Slice (thn (hl pins s1 σ H1 _ I1 q1) fun vl s2 ⟨l, H2, I2, pl, q2⟩ => thn (hu pins s2 σ H2 _ I2 q2) fun vu s3 ⟨u, H3, I3, pu, q3⟩ => ?_)
  rw [evalPart_none]
  refine wpAny_pure ?_
  have I4 : Inv X pins σ H3 { s3 with heap := s3.heap.push { cls := .type "slice", data := .fields #[vl, vu, .none] } } := I3.kept (t' := s3.toks) fun b ob q => Heap.get?_push_of_some _ q
  obtain ⟨T, id, hT, ht, hg⟩ := hr pins { s3 with heap := s3.heap.push { cls := .type "slice", data := .fields #[vl, vu, .none] } } σ H3 x v vl vu l u s3.heap.objs.size Q I4 r1 (Heap.IsSliceOf.new ..) pl pu q3
  show wpAny (model X.prog X.w) X.A (subscriptTail e (.Slice lo hi none p2) v (.ref s3.heap.objs.size)) (EP X pins σ Q) X.xe { s3 with heap := s3.heap.push { cls := .type "slice", data := .fields #[vl, vu, .none] } }
  exact tail_any (ops := [.ref s3.heap.objs.size, v]) ht hT hg (by with_unfolding_all rfl)

/-- the items of xs[lo:hi] -/
def cutV (xs : List V) (lo hi : Option Int) : List V := (xs.drop (HT.sIx xs.length 0 lo)).take (HT.sIx xs.length xs.length hi - HT.sIx xs.length 0 lo)
theorem cutV_length (xs : List V) (lo hi : Option Int) : (cutV xs lo hi).length ≤ xs.length := by
  unfold cutV
  rw [List.length_take, List.length_drop]
  omega
/-- t[lo:hi], not the whole of it (the whole would be t itself) -/
def rSlT (K : PySem.W.Frag) : V → Option Int → Option Int → Hp → VK → Prop := fun x lo hi H Q => ∃ a xs, x = .ref a ∧ SqT K H a xs ∧
  ¬ (HT.sIx xs.length 0 lo = 0 ∧ HT.sIx xs.length xs.length hi = xs.length) ∧ ∀ p, H p = none → Q (.ref p) (upd H p (.tup (cutV xs lo hi)))
theorem sl_tup : SlR X (rSlT X.K) := by
  intro pins s σ H x v vl vu lo hi sl Q I rx hs pl pu h
  obtain ⟨a, xs, rfl, hx, hw, q⟩ := h
  cases rx
  obtain ⟨its, r, ht, hz⟩ := I.tuple hx
  have hlen : its.toArray.size = xs.length := by rw [List.size_toArray]; exact r.length.symm
  refine ⟨"tuple", _, PyProof.Rows.slot_tuple_getitem.lookup, ht.typeIs, ?_⟩
  refine HT.getItem_tuple_cut ht hs pl pu (by rw [hlen]; exact hw) ?_ (by rw [hlen]; exact hz)
  rw [hlen]
  refine ⟨.ref s.heap.objs.size, _, I.laid (t' := s.toks) (o := .tup (cutV xs lo hi)) (fun b ob q => Heap.get?_push_of_some _ q) (Nat.le_refl _) ?_, rfl, q _ (I.hok.fresh (Nat.le_refl _))⟩
  exact ⟨Nat.le_trans (cutV_length xs lo hi) hz, _, (r.drop (HT.sIx xs.length 0 lo)).take (HT.sIx xs.length xs.length hi - HT.sIx xs.length 0 lo), IsTup.new _ _⟩

/-! ### t < u, t + u -/
end
end L2

namespace L2
open PySem PySem.Spec PyProof.Rows

/-! ### places -/
/-- the place that an index of any sign means -/
def ixN (n : Nat) (i : Int) : Option Nat := if 0 ≤ i then (if i < n then some i.toNat else none) else if -(n : Int) ≤ i then some (i + n).toNat else none
def atI {α : Type} (xs : List α) (i : Int) : Option α := (ixN xs.length i).bind fun j => xs[j]?
theorem ixN_seq {n : Nat} {i : Int} {j : Nat} (h : ixN n i = some j) : seqIndex? i n = some j ∧ j < n ∧ -(n : Int) ≤ i ∧ i < n := by
  unfold ixN at h
  by_cases h0 : 0 ≤ i
  · rw [if_pos h0] at h
    by_cases h1 : i < n
    · rw [if_pos h1] at h
      have e : i.toNat = j := Option.some.inj h
      exact ⟨by rw [seqIndex_of h0 h1, e], by omega, by omega, h1⟩
    · rw [if_neg h1] at h; cases h
  · rw [if_neg h0] at h
    by_cases h1 : -(n : Int) ≤ i
    · rw [if_pos h1] at h
      have e : (i + n).toNat = j := Option.some.inj h
      exact ⟨by rw [seqIndex_neg (by omega) h1, e], by omega, h1, by omega⟩
    · rw [if_neg h1] at h; cases h
theorem atI_get {α : Type} {xs : List α} {i : Int} {v : α} (h : atI xs i = some v) : ∃ j, seqIndex? i xs.length = some j ∧ xs[j]? = some v ∧ j < xs.length ∧ -(xs.length : Int) ≤ i ∧ i < xs.length := by
  unfold atI at h
  cases e : ixN xs.length i with
  | none => rw [e] at h; cases h
  | some j =>
    rw [e] at h
    obtain ⟨h1, h2, h3, h4⟩ := ixN_seq e
    exact ⟨j, h1, h, h2, h3, h4⟩
theorem atI_nat {α : Type} {xs : List α} {j : Nat} {v : α} (h : xs[j]? = some v) : atI xs (j : Int) = some v := by
  have hj : j < xs.length := (List.getElem?_eq_some_iff.mp h).1
  have e : ixN xs.length (j : Int) = some j := by
    unfold ixN
    rw [if_pos (by omega), if_pos (by omega)]; simp
  unfold atI; rw [e]; exact h
/-! ### what may be subscripted -/
/-- what stands as an index of a plain subscript -/
def PlainIx (b : Expr) : Prop := ∀ o i, subscripted b false o i = operate [o, i] (getItem o i)
/-- a subscript by values -/
def IxR (X : Cx) (r : R2) : Prop :=
  ∀ (value slice : Expr) (pins : List (Addr × Obj)) (s : Shared) (σ : St) (H : Hp) (x y : V) (v u : Value) (Q : VK), Inv X pins σ H s → RelV x v → RelV y u → r x y H Q →
    subscripted slice false v u = operate [v, u] (getItem v u) → wpAny (model X.prog X.w) X.A (subscriptTail value slice v u) (EP X pins σ Q) X.xe s
/-- a call of a builtin's method by values: the receiver, the arguments -/
def MtR (X : Cx) (id : String) (r : V → List V → Hp → VK → Prop) : Prop :=
  ∀ (pins : List (Addr × Obj)) (s : Shared) (σ : St) (H : Hp) (x : V) (xs : List V) (v : Value) (us : List Value) (Q : VK), Inv X pins σ H s → RelV x v → Vals xs us → r x xs H Q →
    wpAny (model X.prog X.w) X.A (call (.builtin id) (v :: us)) (EP X pins σ Q) X.xe s
section
variable {X : Cx} {a b : Expr} {ta tb : TE} {pos : Pos}
/-- a[b] -/
theorem pe_ix {r : R2} (hr : IxR X r) (ha : PE X a ta) (hb : PE X b tb) (hs : PlainIx b) : PE X (.Subscript a b pos) (tOp r ta tb) := by
  intro pins s σ H Q I h
  exact Subscript_ (binT ha hb I h fun v u s2 x y H2 I2 rx ry q => hr a b pins s2 σ H2 x y v u Q I2 rx ry q (hs _ _))

def rIxL (K : PySem.W.Frag) : R2 := fun x y H Q => ∃ p xs i v, x = .ref p ∧ y = .int i ∧ SqL K H p xs ∧ atI xs i = some v ∧ Q v H
def rIxT (K : PySem.W.Frag) : R2 := fun x y H Q => ∃ p xs i v, x = .ref p ∧ y = .int i ∧ SqT K H p xs ∧ atI xs i = some v ∧ Q v H
theorem ix_list : IxR X (rIxL X.K) := by
  intro value slice pins s σ H x y v u Q I rx ry h hs
  obtain ⟨p, xs, i, z, rfl, rfl, hq, he, q⟩ := h
  cases rx
  obtain ⟨t, rfl⟩ := ry
  obtain ⟨its, r, pl, hz⟩ := I.list hq
  obtain ⟨j, h1, h2, h3, h4, h5⟩ := atI_get he
  obtain ⟨w, ew, rw'⟩ := r.get h2
  have hl := r.length
  have hn := line63
  have fin : EP X pins σ Q w s := ⟨z, H, I, rw', q⟩
  by_cases h0 : 0 ≤ i
  · have hj : i.toNat = j := by
      rw [seqIndex_of h0 h5] at h1
      exact Option.some.inj h1
    exact item_listR pl.isList h0 (by omega) (by rw [hj]; simpa using ew) fin hs
  · have hj : (i + (its.toArray.size : Int)).toNat = j := by
      rw [seqIndex_neg (by omega) h4] at h1
      rw [List.size_toArray, ← hl]
      exact Option.some.inj h1
    exact subscriptTail_builtinR (x := w) pl.isList.typeIs slot_list_getitem.lookup
      (wpAny_getItem_list_neg (Q := fun r s' => r = w ∧ EP X pins σ Q r s') pl.isList (by omega) (by rw [List.size_toArray] <;> omega) (by omega) (by rw [hj]; simpa using ew) ⟨rfl, fin⟩) hs
theorem ix_tup : IxR X (rIxT X.K) := by
  intro value slice pins s σ H x y v u Q I rx ry h hs
  obtain ⟨p, xs, i, z, rfl, rfl, hq, he, q⟩ := h
  cases rx
  obtain ⟨t, rfl⟩ := ry
  obtain ⟨its, r, pl, hz⟩ := I.tuple hq
  obtain ⟨j, h1, h2, h3, h4, h5⟩ := atI_get he
  obtain ⟨w, ew, rw'⟩ := r.get h2
  have hl := r.length
  have hn := line63
  have fin : EP X pins σ Q w s := ⟨z, H, I, rw', q⟩
  exact subscriptTail_builtinR (x := w) pl.typeIs slot_tuple_getitem.lookup
    (getItem_tuple (j := j) (Q := fun r s' => r = w ∧ EP X pins σ Q r s') pl (by omega) (by omega) (by rw [List.size_toArray, ← hl]; exact h1) (by simpa using ew) ⟨rfl, fin⟩) hs
/-! ### xs[i] = v, any sign -/
/-! ### slices -/
theorem slice_bounds (lo hi : Option Int) (n : Nat) : (sliceBounds lo hi none n).1 = ((HT.sIx n 0 lo : Nat) : Int) ∧ (sliceBounds lo hi none n).2.1 = ((HT.sIx n n hi : Nat) : Int) ∧ (sliceBounds lo hi none n).2.2 = 1 := by
  refine ⟨?_, ?_, rfl⟩
  · cases lo with
    | none => simp [sliceBounds, HT.sIx]
    | some i =>
      simp only [sliceBounds, HT.sIx, Option.getD_none, show (1 : Int) > 0 by decide, if_true]
      by_cases h : i < 0
      · simp only [h, if_true] <;> omega
      · simp only [h, if_false] <;> omega
  · cases hi with
    | none => simp [sliceBounds, HT.sIx]
    | some i =>
      simp only [sliceBounds, HT.sIx, Option.getD_none, show (1 : Int) > 0 by decide, if_true]
      by_cases h : i < 0
      · simp only [h, if_true] <;> omega
      · simp only [h, if_false] <;> omega
theorem slicePick_cut (its : List Value) (lo hi : Option Int) : slicePick its.toArray lo hi none = ((its.drop (HT.sIx its.length 0 lo)).take (HT.sIx its.length its.length hi - HT.sIx its.length 0 lo)).toArray := by
  obtain ⟨h1, h2, h3⟩ := slice_bounds lo hi its.toArray.size
  unfold slicePick
  rw [h1, h2, h3]
  simp only [sliceRange_one, pick_run, List.size_toArray] <;> rfl
/-- xs[lo:hi] of a list: a new list -/
def rSlL (K : PySem.W.Frag) : V → Option Int → Option Int → Hp → VK → Prop := fun x lo hi H Q => ∃ a xs, x = .ref a ∧ SqL K H a xs ∧ ∀ p, H p = none → Q (.ref p) (upd H p (.lst (cutV xs lo hi)))
theorem sl_list : SlR X (rSlL X.K) := by
  intro pins s σ H x v vl vu lo hi sl Q I rx hs pl pu h
  obtain ⟨a, xs, rfl, hx, q⟩ := h
  cases rx
  obtain ⟨its, r, ht, hz⟩ := I.list hx
  have hlen := r.length
  refine ⟨"list", _, slot_list_getitem.lookup, ht.isList.typeIs, ?_⟩
  refine wpAny_getItem_list_slice ht.isList hs pl pu .none (by simp) ?_ (by rw [List.size_toArray] <;> omega)
  rw [slicePick_cut, ← hlen]
  refine ⟨.ref s.heap.objs.size, _, I.laid (t' := s.toks) (o := .lst (cutV xs lo hi)) (fun b ob q => Heap.get?_push_of_some _ q) (Nat.le_refl _) ?_, rfl, q _ (I.hok.fresh (Nat.le_refl _))⟩
  exact ⟨Nat.le_trans (cutV_length xs lo hi) hz, _, 0, (r.drop (HT.sIx xs.length 0 lo)).take (HT.sIx xs.length xs.length hi - HT.sIx xs.length 0 lo), Heap.get?_push_size _ rfl⟩

/-! ### in, not in: flat items -/
def flatV : V → Bool
  | .non => true
  | .bl _ => true
  | .int _ => true
  | .str _ => true
  | _ => false
/-- == of flat values -/
def eqV : V → V → Bool
  | .non, .non => true
  | .bl a, .bl b => a == b
  | .bl a, .int b => (if a then 1 else 0) == b
  | .int a, .bl b => a == (if b then 1 else 0)
  | .int a, .int b => a == b
  | .str a, .str b => a == b
  | _, _ => false
theorem eqAt_V {A : Around} {s : Shared} {y x : V} {u v : Value} (ry : RelV y u) (rx : RelV x v) (fy : flatV y = true) (fx : flatV x = true) : SeqAt.EqAt A s u v (eqV y x) := by
  cases y with
  | non =>
    cases ry
    cases x with
    | non => cases rx; exact SeqAt.EqAt.same _
    | bl b => cases rx; exact SeqAt.EqAt.none_bool b
    | int b => obtain ⟨t, rfl⟩ := rx; exact SeqAt.EqAt.none_int b t
    | str b => obtain ⟨t, rfl⟩ := rx; exact SeqAt.EqAt.none_str b t
    | _ => exact absurd (show false = true from fx) Bool.false_ne_true
  | bl a =>
    cases ry
    cases x with
    | non => cases rx; exact SeqAt.EqAt.bool_none a
    | bl b => cases rx; exact SeqAt.EqAt.bool_bool a b
    | int b => obtain ⟨t, rfl⟩ := rx; exact SeqAt.EqAt.bool_int a b t
    | str b => obtain ⟨t, rfl⟩ := rx; exact SeqAt.EqAt.bool_str a b t
    | _ => exact absurd (show false = true from fx) Bool.false_ne_true
  | int a =>
    obtain ⟨t', rfl⟩ := ry
    cases x with
    | non => cases rx; exact SeqAt.EqAt.int_none a t'
    | bl b => cases rx; exact SeqAt.EqAt.int_bool a t' b
    | int b => obtain ⟨t, rfl⟩ := rx; exact SeqAt.EqAt.int_int a t' b t
    | str b => obtain ⟨t, rfl⟩ := rx; exact SeqAt.EqAt.int_str a t' b t
    | _ => exact absurd (show false = true from fx) Bool.false_ne_true
  | str a =>
    obtain ⟨t', rfl⟩ := ry
    cases x with
    | non => cases rx; exact SeqAt.EqAt.str_none a t'
    | bl b => cases rx; exact SeqAt.EqAt.str_bool a t' b
    | int b => obtain ⟨t, rfl⟩ := rx; exact SeqAt.EqAt.str_int a t' b t
    | str b => obtain ⟨t, rfl⟩ := rx; exact SeqAt.EqAt.str_str a t' b t
    | _ => exact absurd (show false = true from fx) Bool.false_ne_true
  | _ => exact absurd (show false = true from fy) Bool.false_ne_true
/-- the items' answers, read off the values (a value's own answer does not lean on its token) -/
def eqU (x : V) (u : Value) : Bool := match u with
  | .none => eqV .non x
  | .bool b => eqV (.bl b) x
  | .int i _ => eqV (.int i) x
  | .str z _ => eqV (.str z) x
  | _ => false
theorem eqU_of {x y : V} {u : Value} (r : RelV y u) (f : flatV y = true) : eqU x u = eqV y x := by
  cases y with
  | non => cases r; rfl
  | bl b => cases r; rfl
  | int i => obtain ⟨t, rfl⟩ := r; rfl
  | str z => obtain ⟨t, rfl⟩ := r; rfl
  | _ => exact absurd (show false = true from f) Bool.false_ne_true
theorem any_eqU {x : V} : ∀ {xs : List V} {us : List Value}, Vals xs us → xs.all flatV = true → us.any (eqU x) = xs.any fun y => eqV y x
  | _, _, .nil, _ => rfl
  | y :: xs, u :: us, .cons r t, f => by
    rw [List.all_cons, Bool.and_eq_true] at f
    rw [List.any_cons, List.any_cons, eqU_of r f.1, any_eqU t f.2]
theorem mem_eqAt {A : Around} {s : Shared} {x : V} {v : Value} (rx : RelV x v) (fx : flatV x = true) : ∀ {xs : List V} {us : List Value}, Vals xs us → xs.all flatV = true → ∀ u ∈ us, SeqAt.EqAt A s u v (eqU x u)
  | _, _, .nil, _ => fun u hu => by cases hu
  | y :: xs, u :: us, .cons r t, f => fun u' hu => by
    rw [List.all_cons, Bool.and_eq_true] at f
    rcases List.mem_cons.mp hu with rfl | hu
    · rw [eqU_of r f.1]; exact eqAt_V r rx f.1 fx
    · exact mem_eqAt rx fx t f.2 u' hu
def inV (x : V) (xs : List V) : Bool := xs.any fun y => eqV y x
/-- x in a list or tuple of flat items -/
def rIn (K : PySem.W.Frag) (neg : Bool) : R2 := fun x y H Q => ∃ p xs, y = .ref p ∧ (SqL K H p xs ∨ SqT K H p xs) ∧ flatV x = true ∧ xs.all flatV = true ∧ Q (.bl (if neg then !inV x xs else inV x xs)) H
theorem op_in_seq : OpR X (compareOp .In) (rIn X.K false) := by
  intro pins s σ H x y v u Q I rx ry h
  obtain ⟨p, xs, rfl, hq, fx, fs, q⟩ := h
  cases ry
  rcases hq with hq | hq
  · obtain ⟨its, r, pl, hz⟩ := I.list hq
    refine SeqAt.in_listAt (eqU x) pl.isList (fun w hw => mem_eqAt rx fx r fs w (by simpa using hw)) ⟨.bl _, H, I, rfl, ?_⟩
    rw [show its.toArray.any (eqU x) = its.any (eqU x) by simp, any_eqU r fs]
    exact q
  · obtain ⟨its, r, pl, hz⟩ := I.tuple hq
    refine SeqAt.in_tupleAt (eqU x) pl (fun w hw => mem_eqAt rx fx r fs w (by simpa using hw)) ⟨.bl _, H, I, rfl, ?_⟩
    rw [show its.toArray.any (eqU x) = its.any (eqU x) by simp, any_eqU r fs]
    exact q
theorem op_notIn_seq : OpR X (compareOp .NotIn) (rIn X.K true) := by
  intro pins s σ H x y v u Q I rx ry h
  obtain ⟨p, xs, rfl, hq, fx, fs, q⟩ := h
  cases ry
  rcases hq with hq | hq
  · obtain ⟨its, r, pl, hz⟩ := I.list hq
    refine SeqAt.notIn_listAt (eqU x) pl.isList (fun w hw => mem_eqAt rx fx r fs w (by simpa using hw)) ⟨.bl _, H, I, rfl, ?_⟩
    rw [show its.toArray.any (eqU x) = its.any (eqU x) by simp, any_eqU r fs]
    exact q
  · obtain ⟨its, r, pl, hz⟩ := I.tuple hq
    refine SeqAt.notIn_tupleAt (eqU x) pl (fun w hw => mem_eqAt rx fx r fs w (by simpa using hw)) ⟨.bl _, H, I, rfl, ?_⟩
    rw [show its.toArray.any (eqU x) = its.any (eqU x) by simp, any_eqU r fs]
    exact q
/-! ### len, list(x), tuple(x) of any list or tuple that is read -/
theorem call_len_seq : CallR X (.builtin "len") (fun xs H Q => ∃ p ys, xs = [.ref p] ∧ (SqL X.K H p ys ∨ SqT X.K H p ys) ∧ Q (.int ys.length) H) := by
  intro pins s σ H xs us Q I r h
  obtain ⟨p, ys, rfl, hq, q⟩ := h
  obtain ⟨u, rfl, rx⟩ := vals1 r
  cases rx
  have hn := line63
  rcases hq with hq | hq
  · obtain ⟨its, r', pl, hz⟩ := I.list hq
    have hlen := r'.length
    exact Calls.call_len_list pl.isList (by simp only [List.size_toArray] <;> omega) ⟨.int ys.length, H, I.tok _, ⟨s.toks + 1, by rw [List.size_toArray, hlen]⟩, q⟩
  · obtain ⟨its, r', pl, hz⟩ := I.tuple hq
    have hlen := r'.length
    exact len_tuple pl (by simp only [List.size_toArray] <;> omega) ⟨.int ys.length, H, I.tok _, ⟨s.toks + 1, by rw [List.size_toArray, hlen]⟩, q⟩
theorem call_list_of : CallR X (.type "list") (fun xs H Q => ∃ p ys, xs = [.ref p] ∧ (SqL X.K H p ys ∨ SqT X.K H p ys) ∧ ∀ l, H l = none → Q (.ref l) (upd H l (.lst ys))) := by
  intro pins s σ H xs us Q I r h
  obtain ⟨p, ys, rfl, hq, q⟩ := h
  obtain ⟨u, rfl, rx⟩ := vals1 r
  cases rx
  have fin : ∀ (its : List Value), Vals ys its → ys.length ≤ sizeLine → ∀ (h' : Heap) (c' : Nat), (∀ b o', s.heap.get? b = some o' → h'.get? b = some o') →
      h'.get? s.heap.objs.size = some { cls := .type "list", dict := none, data := .seq its.toArray c', slots := #[] } → EP X pins σ Q (.ref s.heap.objs.size) { s with heap := h' } := fun its r' hz h' c' kp e =>
    ⟨.ref s.heap.objs.size, _, I.laid (t' := s.toks) kp (Nat.le_refl _) (show ObjOk X.prog X.w _ h' _ (.lst ys) from ⟨hz, its, c', r', e⟩), rfl, q _ (I.hok.fresh (Nat.le_refl _))⟩
  rcases hq with hq | hq
  · obtain ⟨its, r', pl, hz⟩ := I.list hq
    have hlen := r'.length
    obtain ⟨o, ho, hc, n, hd⟩ := pl.isList
    exact call_list_seq p (.inl rfl) ho hc hd (fun h' c' kp e => fin its r' hz h' c' kp e) (by simp only [List.size_toArray] <;> omega)
  · obtain ⟨its, r', pl, hz⟩ := I.tuple hq
    have hlen := r'.length
    obtain ⟨o, ho, hc, n, hd⟩ := pl
    exact call_list_seq p (.inr rfl) ho hc hd (fun h' c' kp e => fin its r' hz h' c' kp e) (by simp only [List.size_toArray] <;> omega)
theorem call_tuple_of : CallR X (.type "tuple") (fun xs H Q => ∃ p ys, xs = [.ref p] ∧ ((SqL X.K H p ys ∧ ∀ l, H l = none → Q (.ref l) (upd H l (.tup ys))) ∨ (SqT X.K H p ys ∧ Q (.ref p) H))) := by
  intro pins s σ H xs us Q I r h
  obtain ⟨p, ys, rfl, h⟩ := h
  obtain ⟨u, rfl, rx⟩ := vals1 r
  cases rx
  rcases h with ⟨hq, q⟩ | ⟨hq, q⟩
  · obtain ⟨its, r', pl, hz⟩ := I.list hq
    have hlen := r'.length
    refine call_tuple_list pl.isList (fun h' kp => ?_) (by simp only [List.size_toArray] <;> omega)
    have I1 : Inv X pins σ H { s with heap := h' } := I.kept (t' := s.toks) kp
    have I2 : Inv X pins σ (upd H h'.objs.size (.tup ys)) { s with heap := h'.push { cls := .type "tuple", data := .seq its.toArray } } :=
      I1.laid (t' := s.toks) (fun b o e => Heap.get?_push_of_some _ e) (Nat.le_refl _) (show ObjOk X.prog X.w _ _ _ (.tup ys) from ⟨hz, its, r', IsTup.new _ _⟩)
    exact ⟨.ref h'.objs.size, _, I2, rfl, q _ (I1.hok.fresh (Nat.le_refl _))⟩
  · obtain ⟨its, r', pl, hz⟩ := I.tuple hq
    exact call_tuple_same pl ⟨.ref p, H, I, rfl, q⟩

/-! ### the call of a builtin's method: o.m(..) -/
/-- the value is of that builtin type -/
def tyV (K : PySem.W.Frag) (T : String) (x : V) (H : Hp) : Prop := match x with
  | .str _ => T = "str"
  | .int _ => T = "int"
  | .ref p => (T = "list" ∧ ∃ xs, SqL K H p xs) ∨ (T = "tuple" ∧ ∃ o, K.lookup p = some o ∧ o.cls = .type "tuple" ∧ o.dict = none) ∨
      (T = "dict" ∧ ((∃ kvs, H p = some (.dK kvs)) ∨ ∃ kvs, H p = some (.dT kvs))) ∨ (T = "set" ∧ ∃ S n, H p = some (.set S n))
  | _ => False
theorem tyV_is {pins : List (Addr × Obj)} {σ : St} {H : Hp} {s : Shared} {T : String} {x : V} {v : Value} (I : Inv X pins σ H s) (r : RelV x v) (ty : tyV X.K T x H) :
    s.TypeIs v T ∧ ∀ a, v = .ref a → ∃ ob, s.heap.get? a = some ob ∧ ob.dict = none := by
  cases x with
  | str z =>
    obtain ⟨t, rfl⟩ := r
    cases (show T = "str" from ty)
    exact ⟨typeIs_str s z t, fun _ e => nomatch e⟩
  | int i =>
    obtain ⟨t, rfl⟩ := r
    cases (show T = "int" from ty)
    exact ⟨typeIs_int s i t, fun _ e => nomatch e⟩
  | ref p =>
    cases r
    rcases ty with ⟨rfl, xs, hq⟩ | ⟨rfl, o, hk, hc, hd⟩ | ⟨rfl, hk⟩ | ⟨rfl, S, n, hk⟩
    · obtain ⟨its, _, pl, _⟩ := I.list hq
      refine ⟨pl.isList.typeIs, fun a e => ?_⟩
      cases e
      obtain ⟨o, n, e, c, hd, _⟩ := pl
      exact ⟨o, e, hd⟩
    · refine ⟨⟨o, I.kIn p o hk, hc⟩, fun a e => ?_⟩
      cases e
      exact ⟨o, I.kIn _ o hk, hd⟩
    · have z : ∃ o, s.heap.get? p = some o ∧ o.ExactDict := by
        rcases hk with ⟨kvs, hk⟩ | ⟨kvs, hk⟩
        · obtain ⟨_, _, _, _, o, _, _, e, ex, _⟩ := I.hok p _ hk
          exact ⟨o, e, ex⟩
        · obtain ⟨_, _, _, _, o, _, _, e, ex, _⟩ := I.hok p _ hk
          exact ⟨o, e, ex⟩
      obtain ⟨o, e, ex⟩ := z
      refine ⟨⟨o, e, ex.1⟩, fun a e2 => ?_⟩
      cases e2
      exact ⟨o, e, ex.2.1⟩
    · obtain ⟨o, _, _, _, e, ex, _⟩ := I.hok p _ hk
      refine ⟨⟨o, e, ex.1⟩, fun a e2 => ?_⟩
      cases e2
      exact ⟨o, e, ex.2.1⟩
  | _ => exact False.elim ty
def tBM0 (K : PySem.W.Frag) (T : String) (r : V → List V → Hp → VK → Prop) (to : TE) : TE := fun σ H Q => to σ H fun x H1 => tyV K T x H1 ∧ r x [] H1 Q
def tBM (K : PySem.W.Frag) (T : String) (r : V → List V → Hp → VK → Prop) (to : TE) (t : TA) : TE := fun σ H Q => to σ H fun x H1 => tyV K T x H1 ∧ t σ H1 fun xs H2 => r x xs H2 Q
variable {o e : Expr} {es : List Expr} {to : TE} {t : TA} {name : Str} {apos cpos : Pos} {T id : String} {r : V → List V → Hp → VK → Prop}
theorem pe_bm0 (pa : PlainAttrs T) (slot : Slot T name id) (hty : typeOf (.builtin id) = pure (.type "method_descriptor")) (hm : MtR X id r) (ho : PE X o to)
    (hbase : attributeBase o name X.env (eval o X.env) = eval o X.env := by rfl) (hline : (apos.endLine == cpos.line) = true := by rfl) : PE X (.Call (.Attribute o name apos) [] [] cpos) (tBM0 X.K T r to) := by
  intro pins s σ H Q I h
  refine wpAny_Call_method0_late hbase hline (thn (ho pins s σ H _ I h) fun v s1 ⟨x, H1, I1, r1, ty, q1⟩ => ?_)
  obtain ⟨h1, h2⟩ := tyV_is I1 r1 ty
  exact ⟨T, id, pa, slot, hty, h1, h2, Calls.callWith_builtin rfl (PySem.evalArgs_none (hm pins s1 σ H1 x [] v [] Q I1 r1 .nil q1))⟩
theorem pe_bm (pa : PlainAttrs T) (slot : Slot T name id) (hty : typeOf (.builtin id) = pure (.type "method_descriptor")) (hm : MtR X id r) (ho : PE X o to) (ha : PA X (e :: es) t)
    (hbase : attributeBase o name X.env (eval o X.env) = eval o X.env := by rfl)
    (hfew : ((backTo cpos (starEach (e :: es) X.env)).all (fun x => !x.1) && (backToKw cpos (keywordEach [] X.env)).all (fun x => x.1.isSome)
      && decide ((e :: es).length + ([] : List Keyword).length + (if ([] : List Keyword).isEmpty then 0 else 1) < 30)) = true := by rfl)
    (hline : (apos.endLine == cpos.line) = true := by rfl) (hs : starEach (e :: es) X.env = (false, eval e X.env) :: starEach es X.env := by rfl) (hplain : (backTo cpos (starEach es X.env)).any (·.1) = false := by rfl) :
    PE X (.Call (.Attribute o name apos) (e :: es) [] cpos) (tBM X.K T r to t) := by
  intro pins s σ H Q I h
  refine wpAny_Call_method_late hbase hfew hline rfl (thn (ho pins s σ H _ I h) fun v s1 ⟨x, H1, I1, r1, ty, q1⟩ => ?_)
  obtain ⟨h1, h2⟩ := tyV_is I1 r1 ty
  refine ⟨T, id, pa, slot, hty, h1, h2, ?_⟩
  have hA := ha cpos pins s1 σ H1 _ I1 q1
  rw [hs] at hA ⊢
  refine Calls.callWith_builtin (by show (false || (backTo cpos (starEach es X.env)).any (·.1)) = false; rw [hplain] <;> rfl) (Calls.evalArgs_plain ?_)
  exact thn hA fun us s2 ⟨vs, H2, I2, r2, q2⟩ => hm pins s2 σ H2 x vs v us Q I2 r1 r2 q2
/- xs.append(e), list.index on a module's tuple .. are MtR facts of 06m -/
end
end L2

namespace L2
open PySem PySem.Spec PyProof.Rows

def MtM (X : Cx) (id : String) (r : V → List V → Hp → VK → Prop) : Prop :=
  ∀ (pins : List (Addr × Obj)) (s : Shared) (σ : St) (H : Hp) (x : V) (xs : List V) (v : Value) (us : List Value) (Q : VK), Inv X pins σ H s → RelV x v → Vals xs us → r x xs H Q →
    wpAny (model X.prog X.w) X.A (call (.builtin id) (v :: us)) (EP X pins σ Q) X.xe s

/-! ### lists of values -/
theorem Vals.one : ∀ {x : V} {us : List Value}, Vals [x] us → ∃ u, us = [u] ∧ RelV x u
  | _, _, .cons r .nil => ⟨_, rfl, r⟩
theorem Vals.two : ∀ {x y : V} {us : List Value}, Vals [x, y] us → ∃ u v, us = [u, v] ∧ RelV x u ∧ RelV y v
  | _, _, _, .cons r (.cons q .nil) => ⟨_, _, rfl, r, q⟩
theorem Vals.zero : ∀ {us : List Value}, Vals [] us → us = []
  | _, .nil => rfl
theorem Vals.dropLast {xs : List V} {us : List Value} (h : Vals xs us) : Vals xs.dropLast us.dropLast := by
  induction h with
  | nil => exact .nil
  | cons r t ih =>
    cases t with
    | nil => exact .nil
    | cons q t' => exact .cons r ih
theorem erase_last {α : Type} (l : List α) : l.eraseIdx (l.length - 1) = l.dropLast := by
  induction l with
  | nil => rfl
  | cons a r ih =>
    cases r with
    | nil => rfl
    | cons b r =>
      have e : (a :: b :: r).length - 1 = ((b :: r).length - 1) + 1 := by
        have h1 : (a :: b :: r).length = r.length + 2 := rfl
        have h2 : (b :: r).length = r.length + 1 := rfl
        omega
      rw [e, List.eraseIdx_cons_succ, ih]
      all_goals rfl
section
variable {X : Cx} {pins : List (Addr × Obj)} {σ : St} {H : Hp} {s : Shared} {l b : Addr} {xs ys zs : List V}

/-! ### the two steps: a tracked list is rewritten, a new list is laid -/
theorem Inv.lset {its its' : List Value} {n : Nat} {f : Array Value → Array Value} {t' : Nat} (I : Inv X pins σ H s) (hH : H l = some (.lst xs))
    (e : s.heap.get? l = some { cls := .type "list", data := .seq its.toArray n }) (hf : f its.toArray = its'.toArray) (hv : Vals ys its') (hz : ys.length ≤ sizeLine) :
    Inv X pins σ (upd H l (.lst ys)) { s with heap := s.heap.update l (Obj.mapSeq f), toks := t' } := by
  have q := PySem.IsL.update e f
  rw [hf] at q
  refine I.write (x := l) (e := l) (by rw [hH]; exact trivial) (.inl rfl) (fun b' u hb hu => (Heap.get?_update_other s.heap (Obj.mapSeq f) (Ne.symm hb)).trans hu) ⟨_, q⟩ ?_
  exact ⟨hz, its', _, hv, q⟩
theorem Inv.lnew {its : List Value} {t' : Nat} (I : Inv X pins σ H s) (hv : Vals ys its) (hz : ys.length ≤ sizeLine) :
    Inv X pins σ (upd H s.heap.objs.size (.lst ys)) { s with heap := s.heap.push { cls := .type "list", data := .seq its.toArray }, toks := t' } :=
  I.laid (fun _ _ q => Heap.get?_push_of_some _ q) (Nat.le_refl _) ⟨hz, its, 0, hv, Heap.get?_push_size _ rfl⟩
theorem Inv.fresh (I : Inv X pins σ H s) : H s.heap.objs.size = none := I.hok.fresh (Nat.le_refl _)
theorem Inv.lstM (I : Inv X pins σ H s) (hH : H l = some (.lst xs)) : xs.length ≤ sizeLine ∧ ∃ (its : List Value) (n : Nat), Vals xs its ∧ xs.length = its.length ∧ s.heap.get? l = some { cls := .type "list", data := .seq its.toArray n } := by
  obtain ⟨z, its, n, r, e⟩ := I.hok l _ hH
  exact ⟨z, its, n, r, r.length, e⟩

end

section
variable {X : Cx}

/-! ### methods -/
def rAppend : V → List V → Hp → VK → Prop := fun x vs H Q => ∃ l xs y, x = .ref l ∧ vs = [y] ∧ H l = some (.lst xs) ∧ xs.length < sizeLine ∧ Q .non (upd H l (.lst (xs ++ [y])))
theorem mt_append : MtM X "list.append" rAppend := by
  intro pins s σ H x vs v us Q I rx rv h
  obtain ⟨l, xs, y, rfl, rfl, hH, hz, q⟩ := h
  cases rx
  obtain ⟨u, rfl, ru⟩ := rv.one
  obtain ⟨z, its, n, r, hl, e⟩ := I.lstM hH
  refine call_meets F.slot_list_append ⟨_, e, rfl⟩ F.entry_list_append (F.args_list_append_2 _ _) (PySem.list_append l its.toArray n u (by rw [List.size_toArray]; omega)) ⟨e, ?_⟩
  refine ⟨.non, _, I.lset (its' := its ++ [u]) hH e (by simp) (r.append (.cons ru .nil)) ?_, rfl, q⟩
  rw [List.length_append, List.length_singleton]
  omega

def rPop : V → List V → Hp → VK → Prop := fun x vs H Q => ∃ l xs y, x = .ref l ∧ vs = [] ∧ H l = some (.lst xs) ∧ xs[xs.length - 1]? = some y ∧ Q y (upd H l (.lst xs.dropLast))
theorem mt_pop : MtM X "list.pop" rPop := by
  intro pins s σ H x vs v us Q I rx rv h
  obtain ⟨l, xs, y, rfl, rfl, hH, hy, q⟩ := h
  cases rx
  have hus := rv.zero
  subst hus
  obtain ⟨z, its, n, r, hl, e⟩ := I.lstM hH
  obtain ⟨u, hu, ru⟩ := r.get hy
  have hy' : its.toArray[its.toArray.size - 1]? = some u := by
    show its.toArray[its.length - 1]? = some u
    rw [← Array.getElem?_toList, ← hl]
    exact hu
  refine call_meets F.slot_list_pop ⟨_, e, rfl⟩ F.entry_list_pop (F.args_list_pop_1 _) (MeetsSeq.list_pop_last l its.toArray n u hy' (by rw [List.size_toArray]; omega)) ⟨e, ?_⟩
  refine ⟨y, _, I.lset (its' := its.dropLast) hH e ?_ r.dropLast ?_, ru, q⟩
  · show its.toArray.eraseIdxIfInBounds (its.toArray.size - 1) = its.dropLast.toArray
    rw [List.size_toArray, List.eraseIdxIfInBounds_toArray, erase_last]
  · rw [List.length_dropLast]
    omega

/-! ### list + list, list += list, list * int -/
def rCat : R2 := fun x y H Q => ∃ l b xs zs, x = .ref l ∧ y = .ref b ∧ H l = some (.lst xs) ∧ H b = some (.lst zs) ∧ xs.length + zs.length ≤ sizeLine ∧ ∀ p, H p = none → Q (.ref p) (upd H p (.lst (xs ++ zs)))
theorem op_cat : OpR X (binaryOp .Add) rCat := by
  intro pins s σ H x y v u Q I rx ry h
  obtain ⟨l, b, xs, zs, rfl, rfl, hH, hB, hz, q⟩ := h
  cases rx
  cases ry
  obtain ⟨z, its, n, r, hl, e⟩ := I.lstM hH
  obtain ⟨z2, its2, n2, r2, hl2, e2⟩ := I.lstM hB
  refine PySem.P.add_list e e2 ?_ (by rw [List.size_toArray, List.size_toArray]; omega)
  have ea : its.toArray ++ its2.toArray = (its ++ its2).toArray := by simp
  rw [ea]
  exact ⟨.ref _, _, I.lnew (t' := s.toks) (r.append r2) (by rw [List.length_append]; omega), rfl, q _ I.fresh⟩
/-! ### del xs[i] -/
end

/-! ### xs[a:b] = ys -/
section
variable {prog : Program} {w : World} {A : Around} {E : Value → Shared → Prop} {s : Shared}
end

section
variable {X : Cx}
end
end L2

namespace Att
open PySem PySem.W PySem.Calls PyProof.Rows

/-! ### the script -/
theorem ints_of_wellAll {P : Params} {h : Heap} : ∀ (ns : List Int) (vs : List Value), WellAll P h vs (ns.map WData.int) → IntsAre vs ns := by
  intro ns
  induction ns with
  | nil =>
    intro vs w
    rw [List.map_nil] at w
    cases w
    exact .nil
  | cons n ns ih =>
    intro vs w
    rw [List.map_cons] at w
    cases w with
    | cons a b =>
      cases a
      exact .cons _ _ (ih _ b)

theorem script_of {l : OpenLaw} {n : Nat} (hn : l.most = some n) {P : Params} {h : Heap} {args : List WData} {vals : List Value}
    (hpre : l.row.toRowW.claim.pre args = true) (hwl : WellAll P h vals args) :
    ∃ a vs ns, vals = [Value.ref a] ∧ args = [WData.list (ns.map WData.int)] ∧ h.get? a = some { cls := .type "list", data := .seq vs.toArray } ∧ IntsAre vs ns ∧ ns.length ≤ n := by
  have hsh : WShape.hasAll [] args [.list .int] = true := (pre_splitW hpre).1
  have hc : l.pre.holds [] { args := args } = true := (pre_splitW hpre).2
  obtain ⟨d, r, rfl, h1, h2⟩ := hasAllW_cons hsh
  obtain rfl := hasAllW_nil h2
  obtain ⟨xs, rfl, h3⟩ := hasW_list h1
  obtain ⟨ns, rfl⟩ := items_int h3
  have hlen : ns.length ≤ n := by
    unfold OpenLaw.pre at hc
    have h4 : (WTm.not (.lt (.lit (.int (n : Int))) (.len (.arg 0)))).holds [] { args := [.list (ns.map .int)] } = true := by
      have h4 := (holds_andW hc).1
      rw [hn] at h4
      exact h4
    have h5 := condW_of h4 (w_not (w_lt w_lit (w_len_list (w_arg rfl))))
    rw [List.length_map] at h5
    refine Nat.le_of_not_lt fun q => ?_
    have q' : (n : Int) < ((ns.length : Nat) : Int) := by omega
    first
      | (rw [decide_eq_true q'] at h5; exact absurd h5 (by decide))
      | (simp at h5; omega)
  cases hwl with
  | cons w1 w2 =>
    cases w2
    cases w1 with
    | list ho hall => exact ⟨_, _, ns, rfl, rfl, ho, ints_of_wellAll ns _ hall, hlen⟩

theorem post_true (l : OpenLaw) (args : List WData) : l.row.toRowW.claim.post args (.bool true) args = true :=
  postW_of (r := l.row.toRowW) (X := (true == true))
    (show WShape.has [] (.bool true) .bool = true by first | rfl | decide | simp [WShape.has, WShape.arms, WShape.armsAll])
    (show (WTm.eq .res (.lit (.bool true))).value [] { args := args, res := some (.bool true), after := args } = some (.bool (true == true)) from w_eq_bool (w_res rfl) w_lit) rfl

/-! ### the attachment: holds_open's last premise (the goal 'hc' behind k_head) from a wpAny of the law's body -/
/-- the same from a codeAny of the CALL (for a layer whose function contracts speak of calls) -/
theorem attach_call {l : OpenLaw} {n : Nat} {q : Program} {loose : List Str} {XP : (Str → Option Value) → Heap → Prop} {YP : World → Heap → Prop} {d : DefRec}
    (hn : l.most = some n) (hdf : d.params.defaults = [])
    (call : ∀ (w : World) (s₀ s₁ : Shared) (mg mb : Str → Option Value) (fa : Addr) (o : Obj) (pm cd doc : Value) (a : Addr) (vs : List Value) (ns : List Int),
      Ground q loose [] XP w s₀ mg mb s₁.heap → YP w s₁.heap →
      s₁.heap.get? fa = some o → o.data = .func (docDef d.name d.params d.body d.scope pm cd doc) → s₁.heap.CodeRec cd d.name → mg d.name = some (.ref fa) →
      s₁.heap.get? a = some { cls := .type "list", data := .seq vs.toArray } → IntsAre vs ns → ns.length ≤ n → s₁.gens = #[] →
      codeAny (model l.prog w) callerA (.call (.ref fa) ⟨[.ref a], []⟩) (fun r s' => r = .ok (.ret (.bool true)) ∧ OldK s₁.heap s'.heap ∧ s'.os = s₁.os ∧ AllBare s'.gens) s₁) :
    WalkO q loose XP YP l.row.toRowW d [] (fun f vs => PySem.call f vs) := by
  intro w s₀ s₁ mg mb G Y fa o pm cd doc dV kV ho hd hcd hD hmg hg args vals as hpre hlay hrd hwl hlo
  obtain rfl : dV = .none := Dflts.none hD hdf
  obtain rfl : kV = .none := Dflts.noKw hD
  obtain ⟨a, vs, ns, rfl, rfl, hobj, hints, hlen⟩ := script_of hn hpre hwl
  refine enter_call (codeAny_mono (call w s₀ s₁ mg mb fa o pm cd doc a vs ns G Y ho (fd_plain hd) hcd hmg hobj hints hlen hg) fun r s' hq => ?_)
  obtain ⟨rfl, h2, h3, h4⟩ := hq
  exact ⟨.inl ⟨.bool true, .bool true, [], rfl, fun _ => rfl, .bool true, post_true l _, fun _ => ⟨List.Pairwise.nil, fun _ hm => (nomatch hm)⟩⟩, h2, h3, h4⟩

/-! ### rules over ANY heap (no ledger) from facts about the written part K: the library's own take a ledger (News) for what they write -/
section
variable {prog : Program} {w : World} {A : Around} {E : Value → Shared → Prop} {s : Shared} {K : Frag}

/-! the whole heap as the ledger: makes every rule that writes through a ledger a rule over any heap -/
def ledger (h : Heap) (L d : Addr) : List (Addr × Obj) := (List.range h.objs.size).filterMap fun a => if a = L ∨ a = d then none else (h.get? a).map fun o => (a, o)
end
end Att

namespace L2
open PySem PySem.Spec PyProof.Rows

theorem vals_ints : ∀ {vs : List Value} {ns : List Int}, IntsAre vs ns → Vals (ns.map V.int) vs
  | _, _, .nil => .nil
  | _, _, .cons n t h => .cons ⟨t, rfl⟩ (vals_ints h)

/-- nothing is tracked but the script, known to the object (or it is an object of the module) -/
def Only (H : Hp) : Prop := ∀ b, H b = none ∨ ∃ o xs, H b = some (.frz o (.lst xs))

/-- THE HEAD: the law's promise, at the heap behind the top. F, the promise of the law's def, may use that base is part of the heap (so K.In base, base.Ns mainGlobals mg stand in Mod) -/
theorem law_call {P : Program} {w : World} {K : PySem.W.Frag} {mg mb : Str → Option Value} {CX : CXT} {k : Nat} {fa a : Addr} {fd : FuncData} {x : Str} {sp : Sp} {s₁ : Shared} {vs : List Value} {ns : List Int}
    (KX : K.In s₁.heap) (hns : s₁.heap.Ns mainGlobals mg) (hb : s₁.heap.Ns builtinsNs mb) (hbb : ∀ x : Str, x ≠ "__name__" → mb x = bootBuiltins x) (hlim : s₁.heap.NoLimit) (hg : s₁.gens = #[])
    (ha : s₁.heap.get? a = some { cls := .type "list", data := .seq vs.toArray }) (hi : IntsAre vs ns) (hl : ns.length ≤ sizeLine) (hr : Room k callerA)
    (F : ∀ base : Heap, K.In base → base.Ns mainGlobals mg → FnOk P w K mg base CX k fa fd [x] sp) (hbind : ∀ (s : Shared) (u : Value), BindsTo s fd ⟨[u], []⟩ [(x, u)])
    (hsp : ∀ H : Hp, Only H → SqL K H a (ns.map V.int) → sp [.ref a] H (fun v _ => v = .bl true) fun _ _ _ => False)
    (hCX : ∀ H e s', CX [] H s₁ (fun _ _ _ => False) e s' → False) :
    codeAny (model P w) callerA (.call (.ref fa) ⟨[.ref a], []⟩) (fun r s' => r = .ok (.ret (.bool true)) ∧ OldK s₁.heap s'.heap ∧ s'.os = s₁.os ∧ AllBare s'.gens) s₁ := by
  have rv := vals_ints hi
  have lenV := hi.length
  -- from an abstract heap in which nothing but the script may be tracked
  have core : ∀ H : Hp, Only H → SqL K H a (ns.map V.int) → HOk P w H s₁.heap → (∀ b, H b ≠ none → b = a) → (H a ≠ none → K.lookup a = none) →
      codeAny (model P w) callerA (.call (.ref fa) ⟨[.ref a], []⟩) (fun r s' => r = .ok (.ret (.bool true)) ∧ OldK s₁.heap s'.heap ∧ s'.os = s₁.os ∧ AllBare s'.gens) s₁ := by
    intro H hO hS hok hA hK
    have base_of : ∀ {b : Addr} {o : Obj}, s₁.heap.get? b = some o → H b = none → (hidT s₁.heap H).get? b = some o := fun e n => hidT_get e n
    have noA : ∀ {b : Addr} {o : Obj} {es : Array DictEntry} {ep : Nat}, s₁.heap.get? b = some o → o.data = .dict es ep → H b = none := fun {b o es ep} e d => by
      cases q : H b with
      | none => rfl
      | some u =>
        have e' : b = a := hA b (by rw [q]; simp)
        subst e'
        rw [ha] at e; cases e
        have d' : Data.seq vs.toArray _ = Data.dict es ep := d
        cases d'
    have nsK : ∀ {b : Addr} {m : Str → Option Value}, s₁.heap.Ns b m → (hidT s₁.heap H).Ns b m := fun {b m} ⟨o, es, ep, e, d, r⟩ => ⟨o, es, ep, base_of e (noA e d), d, r⟩
    have hKb : K.In (hidT s₁.heap H) := fun b o e => base_of (KX b o e) (by
      cases q : H b with
      | none => rfl
      | some u =>
        have e' : b = a := hA b (by rw [q]; simp)
        subst e'
        rw [hK (by rw [q]; simp)] at e; cases e)
    have hM : Mod K mg (hidT s₁.heap H) := ⟨hKb, nsK hns, ⟨mb, nsK hb, hbb⟩, let ⟨mc, h1, h2⟩ := hlim; ⟨mc, nsK h1, h2⟩⟩
    have e0 : Env0 P w K mg (hidT s₁.heap H) callerA [] s₁ H := ⟨rfl, hM, fun b o e => of_hidT e, Nat.le_of_eq (hidT_size _ _), trivial, fun b hb => absurd (show b ∈ ([] : List Addr) from hb) (by simp), hok, .of_eq hg⟩
    refine codeAny_mono ((F _ hKb (nsK hns)).run callerA [] s₁ H ⟨[.ref a], []⟩ [.ref a] [.ref a] _ _ hr e0 (hbind s₁ (.ref a)) (.cons rfl .nil) (hsp H hO hS)) fun r s' h => ?_
    cases r with
    | error e => exact (hCX H e s' h).elim
    | ok fl =>
      cases fl with
      | next => exact False.elim h
      | brk => exact False.elim h
      | cont => exact False.elim h
      | ret u =>
        obtain ⟨v, H', os, bare, un, hok', r', q⟩ := h
        have q' : v = .bl true := q
        subst q'
        obtain rfl : u = Value.bool true := r'
        refine ⟨rfl, OldK.of_keep fun b o e => ?_, os, bare⟩
        cases q : H b with
        | none => exact un.keep b o e q (by intro z; exact absurd (show b ∈ ([] : List Addr) from z) (by simp)) (by simp)
        | some u =>
          rcases hO b with z | ⟨ob, xs, z⟩
          · rw [q] at z; cases z
          · have z2 := un.frzs b ob _ z
            obtain ⟨e1, _⟩ := hok b _ z
            obtain ⟨e2, _⟩ := hok' b _ z2
            rw [e] at e1; cases e1
            exact e2
  cases hk : K.lookup a with
  | some o =>
    -- the script is one of the module's own objects
    have e := KX a o hk
    rw [ha] at e
    cases e
    refine core (fun _ => none) (fun _ => .inl rfl) (.inr ⟨_, vs.toArray, _, hk, rfl, rfl, rfl, by rw [List.size_toArray, lenV]; exact hl, by simpa using rv⟩) (fun b u z => by have z' : (none : Option HO) = some u := z; cases z') (fun b z => absurd rfl z) fun z => absurd rfl z
  | none =>
    refine core (fun b => if b = a then some (.frz { cls := .type "list", data := .seq vs.toArray } (.lst (ns.map V.int))) else none) (fun b => ?_) (.inl (.inr ⟨{ cls := .type "list", data := .seq vs.toArray }, if_pos rfl⟩)) (fun b u z => ?_) (fun b z => ?_) fun _ => hk
    · by_cases hb : b = a
      · exact .inr ⟨_, _, if_pos hb⟩
      · exact .inl (if_neg hb)
    · by_cases hb : b = a
      · have z' := (if_pos hb).symm.trans z
        cases z'
        subst hb
        exact ⟨ha, by rw [List.length_map]; exact hl, vs, _, rv, ha⟩
      · have z' := (if_neg hb).symm.trans z
        cases z'
    · by_cases hb : b = a
      · exact hb
      · exact absurd (if_neg hb) z
end L2

namespace L2
open PySem PySem.Spec PyProof.Rows

abbrev KOf {K : PySem.W.Frag} {h : Heap} (_ : K.In h) : PySem.W.Frag := K

/-- the goal that k_head leaves (case hc), from the law's promise. F gives the function object fd (K's own) once, then the promise over every base -/
theorem walk_of {l : PySem.W.OpenLaw} {n k : Nat} {q : Program} {loose : List Str} {XP : (Str → Option Value) → Heap → Prop} {YP : World → Heap → Prop} {d : DefRec} {K : Params → PySem.W.Frag} {CX : World → CXT} {sp : World → Sp} {x : Str}
    (hn : l.most = some n) (hn2 : n ≤ sizeLine) (hdf : d.params.defaults = []) (hr : Room k callerA)
    (hY : ∀ (w : World) (h : Heap), YP w h → (K w.params).In h)
    (F : ∀ (w : World) (mg : Str → Option Value) (fa : Addr) (h : Heap), (K w.params).In h → h.Ns mainGlobals mg → mg d.name = some (.ref fa) →
      ∃ fd : FuncData, (∀ (s : Shared) (u : Value), BindsTo s fd ⟨[u], []⟩ [(x, u)]) ∧
        ∀ base : Heap, (K w.params).In base → base.Ns mainGlobals mg → FnOk l.prog w (K w.params) mg base (CX w) k fa fd [x] (sp w))
    (hsp : ∀ (w : World) (H : Hp) (a : Addr) (ns : List Int), ns.length ≤ n → Only H → SqL (K w.params) H a (ns.map V.int) → sp w [.ref a] H (fun v _ => v = .bl true) fun _ _ _ => False)
    (hCX : ∀ (w : World) (H : Hp) (s : Shared) (e : Value) (s' : Shared), CX w [] H s (fun _ _ _ => False) e s' → False) :
    PySem.W.WalkO q loose XP YP l.row.toRowW d [] (fun f vs => PySem.call f vs) := by
  refine Att.attach_call hn hdf fun w s₀ s₁ mg mb fa o pm cd doc a vs ns G Y ho hd hcd hmg hobj hints hlen hg => ?_
  have KX := hY w _ Y
  obtain ⟨fd, hb, hF⟩ := F w mg fa _ KX G.T.g hmg
  exact law_call KX G.T.g G.T.b G.T.builtins G.T.nolimit hg hobj hints (Nat.le_trans hlen hn2) hr hF hb (fun H hO hS => hsp w H a ns hlen hO hS) fun H e s' => hCX w H s₁ e s'
end L2

/- THE LAST THEOREM (shape; LID, My.* are yours):
   My.Adr: a structure of the addresses that your layer names (classes, functions); My.Txt K t: a structure (Prop) of the equations over K;
   My.txt_mk : {K} {implicit addresses ..} (e1 : nsIn K mainGlobals "law" = some (some (.ref f))) (e2 : K.lookup f = some ⟨oc, od, .func (fnOf "law" "law" params body scope dV kV doc pm an cdv ct), sl⟩) (e3 : codeIn K cdv "law" = true) .. : ∃ t, My.Txt K t

set_option maxRecDepth 100000 in
set_option maxHeartbeats 0 in
theorem PySem.Challenge.cw_LID_holds : PySem.Challenge.rw_LID.Holds := by
  w_on; o_law; k_head; (case hw => w_witness2)
  k_fill
  refine L2.walk_of (l := PySem.Challenge.rw_LID) (n := 63) (k := 40) (x := "script") (CX := fun w => ..) (sp := fun _ => My.sp_law) rfl (by decide) rfl ⟨rfl, by decide, by decide⟩ (fun w h Y => PySem.W.kIn_of Y) ?F ?S ?C
  case F =>
    intro w mg fa h KX G hmg
    have T : ∃ t, My.Txt (L2.KOf KX) t := by
      dsimp only [L2.KOf]                          -- K must stand as «<heap const> w.params» for k_is
      refine' My.txt_mk ?e1 ?e2 ?e3 ..
      (case e1 => PySem.W.k_is)                    -- in the order: a name -> its address -> its object -> its parts
      (case e2 => PySem.W.k_is)
      ..
    obtain ⟨t, T⟩ := T
    have e0 := hmg.symm.trans (PySem.W.mg_of KX G T.law)
    cases e0                                       -- fa is the law's own address
    exact ⟨_, fun s u => .of_eq rfl, fun base kb nb => My.law_fn T kb nb⟩     -- if «.of_eq rfl» comes too early: refine' ⟨_, ?b, fun base kb nb => My.law_fn T kb nb⟩; exact fun s u => .of_eq rfl
  case S => exact fun w H a ns hl hO hS => ..
  case C => exact ..
(the tactic k_is has no namespace: write k_is) -/

/-! SHORT WORDS over the layer: a def of the text, its body, what a loop and a test want. -/
namespace L2
open PySem PySem.Spec PyProof.Rows

/-! ### the text by places -/
def defArgs (s : Stmt) : Arguments := match s with
  | .FunctionDef _ a _ _ _ _ _ _ _ _ => a
  | _ => { posonlyargs := [], args := [], vararg := none, kwonlyargs := [], kw_defaults := [], kwarg := none, defaults := [] }
def defBody (s : Stmt) : List Stmt := match s with
  | .FunctionDef _ _ b _ _ _ _ _ _ _ => b
  | _ => []
def defScope (s : Stmt) : Scope := match s with
  | .FunctionDef _ _ _ _ _ _ sc _ _ _ => sc
  | _ => { kind := .function, names := [], isGenerator := false, isCoroutine := false }

/-! ### no exception leaves a def -/
abbrev CX0 : CXT := fun _ _ _ _ _ _ => False
abbrev E0 : XK := fun _ _ _ => False
theorem pass0 {X : Cx} : Passes CX0 X E0 := fun _ _ _ _ _ _ _ h => h.elim

/-! ### a def (or method) of the text as it stands behind the top -/
structure Fun (K : PySem.W.Frag) (x qual : Str) (st : Stmt) (f : Addr) (fd : FuncData) : Prop where
  ex : ∃ (oc : Value) (od : Option Addr) (kV doc pm : Value) (an : Option Addr) (cdv ct : Value) (osl : Array (Option Value)),
    fd = PySem.W.fnOf x qual (defArgs st) (defBody st) (defScope st) .none kV doc pm an cdv ct ∧ K.lookup f = some ⟨oc, od, .func fd, osl⟩ ∧ PySem.W.codeIn K cdv qual = true
  kp : PySem.W.keepIn K (.ref f) = true
section
variable {P : Program} {w : World} {K : PySem.W.Frag} {mg : Str → Option Value} {base : Heap}
/-- THE RULE for a def: its body as a term of rules, and the reading of that term -/
theorem Fun.ok {x qual : Str} {st : Stmt} {f : Addr} {fd : FuncData} {N ps : List Str} {k : Nat} {sp : Sp} (F : Fun K x qual st f fd) (S : FnScope N ps (defScope st)) (len : ∀ vs H Q E, sp vs H Q E → vs.length = ps.length)
    (hbody : ∀ (cdv : Value) (A : Around) (outer : List Env) (s : Shared) (H : Hp) (vs : List V) (Q : VK) (E : XK), Room k (A.deeper (envOfC qual (defScope st) s.heap.objs.size f cdv)) → sp vs H Q E →
      ∃ t, PSs (cxOf CX0 P w K mg base N qual (defScope st) f cdv A outer s H E).nox (defBody st) t ∧ t { nx := fun _ H' => Q .non H', rt := Q } (start N vs) H) : FnOk P w K mg base CX0 (k + 1) f fd ps sp := by
  obtain ⟨oc, od, kV, doc, pm, an, cdv, ct, osl, rfl, lk, hcd⟩ := F.ex
  refine fn_of lk hcd S len fun A outer s H vs Q E hr hsp => ?_
  obtain ⟨t, h, q⟩ := hbody cdv A outer s H vs Q E hr hsp
  exact ⟨t, h.nox, q⟩
/-- how its arguments bind (no defaults): h is «fun _ _ _ _ _ _ us hl => match us, hl with | [_, _], _ => rfl», one _ a parameter -/
theorem Fun.binds {x qual : Str} {st : Stmt} {f : Addr} {fd : FuncData} {ps : List Str} (F : Fun K x qual st f fd)
    (h : ∀ (kV doc pm : Value) (an : Option Addr) (cdv ct : Value) (us : List Value), us.length = ps.length → bindArgs (PySem.W.fnOf x qual (defArgs st) (defBody st) (defScope st) .none kV doc pm an cdv ct) ⟨us, []⟩ = pure (ps.zip us)) : Binds K fd ps [] := by
  obtain ⟨oc, od, kV, doc, pm, an, cdv, ct, osl, rfl, lk, hcd⟩ := F.ex
  exact .all (h kV doc pm an cdv ct)
theorem fun_mk {x qual : Str} {st : Stmt} {f : Addr} {oc : Value} {od an : Option Addr} {osl : Array (Option Value)} {kV doc pm cdv ct : Value} (l : K.lookup f = some ⟨oc, od, .func (PySem.W.fnOf x qual (defArgs st) (defBody st) (defScope st) .none kV doc pm an cdv ct), osl⟩)
    (c : PySem.W.codeIn K cdv qual = true) (k : PySem.W.keepIn K (.ref f) = true) : Fun K x qual st f (PySem.W.fnOf x qual (defArgs st) (defBody st) (defScope st) .none kV doc pm an cdv ct) := ⟨⟨oc, od, kV, doc, pm, an, cdv, ct, osl, rfl, l, c⟩, k⟩
end
theorem small1000 {n : Nat} (h : n ≤ 1000) : n < sizeLine := Nat.lt_of_le_of_lt h (by decide)

/-! ### expressions in short: the name that stands in the i-th slot -/
section
variable {X : Cx}
theorem pv (i : Nat) {x : Str} {pos : Pos} (hN : X.N[i]? = some x := by rfl) (hv : Vis X.env.scope x := by first | exact Or.inl rfl | exact Or.inr (Or.inl rfl) | exact Or.inr (Or.inr rfl)) (hd : (x == ("__debug__" : Str)) = false := by decide)
    (hcd : (x == ("__classdict__" : Str)) = false := by decide) : PE X (.Name x pos) (tVar i) := pe_var hN hv hd hcd
end

/-! ### tests -/
theorem iteF {A B : Prop} (h : B) : if false = true then A else B := by
  rw [if_neg Bool.false_ne_true]
  exact h
theorem iteT {A B : Prop} (h : A) : if true = true then A else B := by
  rw [if_pos rfl]
  exact h
theorem ite2 {c A B : Prop} [Decidable c] (h1 : c → A) (h2 : ¬ c → B) : if c then A else B := by
  by_cases h : c
  · rw [if_pos h]
    exact h1 h
  · rw [if_neg h]
    exact h2 h
/-! ### heaps -/
/-- all that was tracked is as it was -/
def Same (H H' : Hp) : Prop := ∀ b o, H b = some o → H' b = some o
theorem Same.refl (H : Hp) : Same H H := fun _ _ h => h
theorem Same.trans {H H1 H2 : Hp} (a : Same H H1) (b : Same H1 H2) : Same H H2 := fun c o h => b c o (a c o h)
theorem Same.free {H H' : Hp} (e : Same H H') {l : Addr} (h : H' l = Option.none) : H l = Option.none := by
  cases q : H l with
  | none => rfl
  | some o =>
    rw [e l o q] at h
    cases h
theorem Same.seq {K : PySem.W.Frag} {H H' : Hp} {a : Addr} {xs : List V} (e : Same H H') (h : SqL K H a xs) : SqL K H' a xs := by
  rcases h with (h | ⟨o, h⟩) | h
  · exact .inl (.inl (e _ _ h))
  · exact .inl (.inr ⟨o, e _ _ h⟩)
  · exact .inr h

end L2

section
set_option Elab.async false
set_option linter.all false
set_option maxRecDepth 100000
set_option maxHeartbeats 4000000
namespace L2
open PySem PySem.Spec PyProof.Rows

/-! ### list comprehensions -/
theorem compLoopG {prog : Program} {w : World} {A : Around} {R : Result → Shared → Prop} {s : Shared} {elt target iter : Expr} {ifs : List Expr} {scope : Scope} {pos : Pos} {it acc : Value} {env : Env} (I : Nat → Shared → Prop)
    (turn : ∀ n s, I n s → wpAny (model prog w) A (pyNext it) (fun r s₁ => match r with
      | none => R (.ok .next) s₁
      | some v => wpAny (model prog w) A (letOwnedTupleGo target it v) (fun _ s₀ => wpAny (model prog w) A (assign target env v) (fun _ s₂ =>
          wpAny (model prog w) A (forIn ifs true fun c r => if r = true then do let ok ← isTrue c env (eval c env); pure (ForInStep.yield ok) else pure (ForInStep.yield r)) (fun ok s₃ =>
            if ok = true then wpAny (model prog w) A (eval elt env) (fun x s₄ =>
              wpAny (model prog w) A (call (.builtin "list.append") [acc, x]) (fun _ s₅ => ∃ m, m < n ∧ I m s₅) (fun _ _ => False) s₄) (fun _ _ => False) s₃
            else ∃ m, m < n ∧ I m s₃) (fun _ _ => False) s₂) (fun _ _ => False) s₀) (fun _ _ => False) s₁) (fun _ _ => False) s)
    (n : Nat) (h : I n s) :
    codeAny (model prog w) A (.compLoop (.ListComp elt [⟨target, iter, ifs, 0⟩] scope pos) 0 it acc env) R s := by
  refine codeAny_loop rfl I (fun n s hI => ?_) n h
  show wpAny _ A ((compTurn (.ListComp elt [⟨target, iter, ifs, 0⟩] scope pos) 0 it acc env).onRaise (fun x => do noteFrame x env; theTreesLotGoes x)) _ _ s
  refine wpAny_noted ?_
  rw [compTurn_list]
  refine wpAny_bind (wpAny_standAt (wpAny_bind (wpAny_mono (turn n s hI) (fun r s₁ h₁ => ?_) fun _ _ h' => h'.elim)))
  cases r with
  | none => exact wpAny_pure h₁
  | some v =>
    refine wpAny_bind (wpAny_mono h₁ (fun _ s₀ h₀ => ?_) fun _ _ h' => h'.elim)
    refine wpAny_bind (wpAny_mono h₀ (fun _ s₂ h₂ => wpAny_bind (wpAny_mono h₂ (fun ok s₃ h₃ => ?_) fun _ _ h' => h'.elim)) fun _ _ h' => h'.elim)
    cases ok with
    | false => exact wpAny_pure ⟨rfl, h₃⟩
    | true =>
      exact wpAny_bind (wpAny_bind (wpAny_mono h₃ (fun x s₄ h₄ => wpAny_bind (wpAny_mono h₄ (fun _ s₅ h₅ => wpAny_pure (wpAny_pure ⟨rfl, h₅⟩)) fun _ _ h' => h'.elim)) fun _ _ h' => h'.elim))

/-- the cells that a block's free names take along -/
theorem closure_ex {scope : Scope} {env : Env} (hf : ∀ y ∈ scope.names, y.2 = .free → ∃ c, env.cells.lookup y.1 = some c) :
    ∃ cl, closureFor scope env = pure cl ∧ (∀ x c, cl.lookup x = some c → env.cells.lookup x = some c) ∧ ∀ x, (x, NameKind.free) ∈ scope.names → ∃ c, cl.lookup x = some c := by
  have go : ∀ (l : List (Str × NameKind)) (acc : List (Str × Addr)), (∀ y ∈ l, y.2 = .free → ∃ c, env.cells.lookup y.1 = some c) → (∀ x c, acc.lookup x = some c → env.cells.lookup x = some c) →
      ∃ cl : List (Str × Addr), (forIn l acc (fun x (r : List (Str × Addr)) => match x with | (name, kind) => if (kind == NameKind.free) = true then do let a ← cellOf env name; pure (ForInStep.yield ((name, a) :: r)) else pure (ForInStep.yield r)) : Sem (List (Str × Addr))) = pure cl ∧
        (∀ x c, cl.lookup x = some c → env.cells.lookup x = some c) ∧ (∀ x, (x, NameKind.free) ∈ l → ∃ c, cl.lookup x = some c) ∧ ∀ x c, acc.lookup x = some c → ∃ c', cl.lookup x = some c' := by
    intro l
    induction l with
    | nil => intro acc _ ha; exact ⟨acc, rfl, ha, fun x h => absurd h (by simp), fun x c h => ⟨c, h⟩⟩
    | cons y r ih =>
      intro acc hl ha
      obtain ⟨name, kind⟩ := y
      by_cases hk : kind = .free
      · subst hk
        obtain ⟨c, hc⟩ := hl (name, .free) List.mem_cons_self rfl
        have ha' : ∀ x c', ((name, c) :: acc).lookup x = some c' → env.cells.lookup x = some c' := fun x c' h => by
          rw [List.lookup_cons] at h
          cases e : x == name with
          | true => rw [e] at h; cases h; rw [eq_of_beq e]; exact hc
          | false => rw [e] at h; exact ha x c' h
        obtain ⟨cl, e, h1, h2, h3⟩ := ih ((name, c) :: acc) (fun y hy => hl y (List.mem_cons_of_mem _ hy)) ha'
        refine ⟨cl, ?_, h1, fun x hx => ?_, fun x c' h => ?_⟩
        · rw [List.forIn_cons, ← e]
          have ec : cellOf env name = pure c := by unfold cellOf; rw [hc]
          show (if (NameKind.free == NameKind.free) = true then _ else _) >>= _ = _
          rw [if_pos (by rfl), ec]
          rfl
        · rcases List.mem_cons.mp hx with z | z
          · cases z
            exact h3 name c (by rw [List.lookup_cons]; simp)
          · exact h2 x z
        · cases e : x == name with
          | true => exact h3 x c (by rw [List.lookup_cons, e])
          | false => exact h3 x c' (by rw [List.lookup_cons, e]; exact h)
      · have hb : (kind == NameKind.free) = false := by simpa using hk
        obtain ⟨cl, e, h1, h2, h3⟩ := ih acc (fun y hy => hl y (List.mem_cons_of_mem _ hy)) ha
        refine ⟨cl, ?_, h1, fun x hx => ?_, h3⟩
        · rw [List.forIn_cons, ← e]
          show (if (kind == NameKind.free) = true then _ else _) >>= _ = _
          rw [if_neg (by rw [hb]; decide)]
          rfl
        · rcases List.mem_cons.mp hx with z | z
          · cases z; exact absurd rfl hk
          · exact h2 x z
  obtain ⟨cl, e, h1, h2, _⟩ := go scope.names [] hf (fun x c h => by simp at h)
  refine ⟨cl, ?_, h1, h2⟩
  unfold closureFor
  show (forIn scope.names [] _ >>= fun cs => pure cs) = _
  refine Eq.trans (congrArg (fun t => t >>= fun cs => pure cs) e) ?_
  rfl

theorem relabel_lookup {env : Env} : ∀ {names : List (Str × NameKind)} {x : Str} {k' : NameKind},
    (names.map fun (n, k) => if (k == NameKind.free && env.scope.kind == .function && env.kindOf n == some .cell) then (n, NameKind.cell) else (n, k)).lookup x = some k' →
    ∃ k, names.lookup x = some k ∧ (k' = k ∨ (k = .free ∧ k' = .cell))
  | [], _, _, h => by simp at h
  | (n, k) :: r, x, k', h => by
    have ih := @relabel_lookup env r x k'
    have h : List.lookup x ((if (k == NameKind.free && env.scope.kind == .function && env.kindOf n == some .cell) = true then (n, NameKind.cell) else (n, k)) :: r.map fun (n, k) => if (k == NameKind.free && env.scope.kind == .function && env.kindOf n == some .cell) then (n, NameKind.cell) else (n, k)) = some k' := h
    by_cases hc : (k == NameKind.free && env.scope.kind == .function && env.kindOf n == some .cell) = true
    · rw [if_pos hc, List.lookup_cons] at h
      rw [List.lookup_cons]
      cases e : x == n with
      | true =>
        rw [e] at h
        cases h
        refine ⟨k, rfl, .inr ⟨?_, rfl⟩⟩
        simp only [Bool.and_eq_true, beq_iff_eq] at hc
        exact hc.1.1
      | false => rw [e] at h; exact ih h
    · rw [if_neg hc, List.lookup_cons] at h
      rw [List.lookup_cons]
      cases e : x == n with
      | true => rw [e] at h; cases h; exact ⟨k, rfl, .inl rfl⟩
      | false => rw [e] at h; exact ih h

/-- a comprehension's block: its own frame of names at C, the names of the function round it by their cells -/
def cxComp (X : Cx) (s2 : Shared) (H2 : Hp) (fp : List Addr) (N : List Str) (scope : Scope) (cl : List (Str × Addr)) (C : Addr) : Cx where
  prog := X.prog
  w := X.w
  K := X.K
  mg := X.mg
  base := X.base
  A := X.A
  N := N
  s₀ := s2
  H₀ := H2
  env := compEnvC scope cl C X.env
  outer := X.stack
  stack := X.stack
  ex := fp
  fn := fun _ => false
  calm := X.calm
  pn := []
  xe := fun _ _ => False

/-- a target that stores into the first k names alone -/
def GKeep (k : Nat) (g : TG) : Prop := ∀ x σ H Q, g x σ H Q → g x σ H fun σ2 H2 => (∀ i, k ≤ i → σ2[i]? = σ[i]?) ∧ Q σ2 H2
theorem gkeep_name {k i : Nat} (h : i < k) : GKeep k (gName i) := fun x σ H Q q => ⟨fun j hj => by rw [List.getElem?_set_ne (by omega)], q⟩
/-- the tests of a clause -/
def PIfs (X : Cx) (ifs : List Expr) (t : TT) : Prop :=
  ∀ (pins : List (Addr × Obj)) (s : Shared) (σ : St) (H : Hp) (Q : Bool → Hp → Prop), Inv X pins σ H s → t σ H Q →
    wpAny (model X.prog X.w) X.A (forIn ifs true fun c r => if r = true then do let ok ← isTrue c X.env (eval c X.env); pure (ForInStep.yield ok) else pure (ForInStep.yield r)) (TP X pins σ Q) X.xe s
def tAlways : TT := fun _ H Q => Q true H
theorem pif_nil {X : Cx} : PIfs X [] tAlways := fun pins s σ H Q I h => wpAny_tests_nil ⟨H, I, h⟩
theorem pif_one {X : Cx} {c : Expr} {t : TT} (h : PT X c t) : PIfs X [c] t := fun pins s σ H Q I q => wpAny_tests_one (h pins s σ H Q I q)

/-- the names' values in a comprehension's block: its own none, then those of the function's names at js -/
def compSt (k : Nat) (js : List Nat) (σ : St) : St := List.replicate k none ++ js.map fun j => (σ[j]?).join
def tComp (k : Nat) (js : List Nat) (wi : TI) (g : TG) (tc : TT) (te : TE) : TE := fun σ H Q => wi σ H fun J H1 => ∃ W : Nat → Nat → List V → Hp → Prop, (∃ m, W 0 m [] H1) ∧ ∀ i m ys H, W i m ys H →
  (J.stop i H ∧ ∀ D, H D = none → Q (.ref D) (upd H D (.lst ys))) ∨
  (J.go i H ∧ ys.length < sizeLine ∧ ∀ x H', J.yld i H x H' → g x (compSt k js σ) H' fun σ2 H2 => tc σ2 H2 fun b H3 => if b = true then te σ2 H3 fun y H4 => ∃ m', m' < m ∧ W (i + 1) m' (ys ++ [y]) H4 else ∃ m', m' < m ∧ W (i + 1) m' ys H3)

theorem Un.later {P : Program} {w : World} {fs ex : List Addr} {H H1 H2 : Hp} {h h1 h2 : Heap} (u : Un fs ex H H1 h h1) (ok : HOk P w H h) (ag : ∀ b, b < h.objs.size → H2 b = H1 b) (k : ∀ b o, b < h.objs.size → h1.get? b = some o → h2.get? b = some o) : Un fs ex H H2 h h2 where
  keep := fun b o e n hb hx => k b o (Heap.lt_size e) (u.keep b o e n hb hx)
  slot := fun b o e n hb hx => let ⟨sl, q⟩ := u.slot b o e n hb hx; ⟨sl, k b _ (Heap.lt_size e) q⟩
  free := fun b o e n hx => by rw [ag b (Heap.lt_size e)]; exact u.free b o e n hx
  there := fun b o e hx => let ⟨o', q⟩ := u.there b o e hx; ⟨o', k b _ (Heap.lt_size e) q⟩
  tups := fun b xs e => by rw [ag b (ok.lt e)]; exact u.tups b xs e
  frzs := fun b o x e => by rw [ag b (ok.lt e)]; exact u.frzs b o x e
  tbls := fun b ps e => by rw [ag b (ok.lt e)]; exact u.tbls b ps e

section
variable {X : Cx} {elt tg iter : Expr} {ifs : List Expr} {scope : Scope} {pos : Pos} {wi : TI} {g : TG} {tc : TT} {te : TE}

/-- what a comprehension asks of its scope. own: its own names that are read; fr: the names of the function round it, with their slots there -/
structure CompOk (X : Cx) (scope : Scope) (own : List Str) (fr : List (Str × Nat)) : Prop where
  kind : scope.kind = .function
  cell : ∀ y ∈ scope.names, y.2 ≠ .cell
  loc : ∀ y ∈ scope.names, y.2 = .local → scope.names.lookup y.1 = some .local
  free : ∀ y ∈ scope.names, y.2 = .free → X.env.kindOf y.1 = some .cell
  fr : ∀ p ∈ fr, scope.names.lookup p.1 = some .free ∧ X.N[p.2]? = some p.1

def compChk (sc scope : Scope) (N : List Str) (fr : List (Str × Nat)) : Bool :=
  (decide (scope.kind = .function) && scope.names.all (fun y => decide (y.2 ≠ .cell)) && scope.names.all (fun y => decide (y.2 = .local → scope.names.lookup y.1 = some .local)) &&
    scope.names.all (fun y => decide (y.2 = .free → sc.names.lookup y.1 = some .cell)) && fr.all fun p => decide (scope.names.lookup p.1 = some .free) && decide (N[p.2]? = some p.1))
theorem compOk {own : List Str} {fr : List (Str × Nat)} (sc : Scope) (N : List Str) (h : compChk sc scope N fr = true) (hs : X.env.scope = sc := by rfl) (hN : X.N = N := by rfl) : CompOk X scope own fr := by
  subst hs hN
  unfold compChk at h
  simp only [Bool.and_eq_true, List.all_eq_true, decide_eq_true_eq] at h
  obtain ⟨⟨⟨⟨h1, h2⟩, h3⟩, h4⟩, h5⟩ := h
  exact ⟨h1, h2, h3, h4, h5⟩
theorem comp_core {own : List Str} {fr : List (Str × Nat)} {pins : List (Addr × Obj)} {s2 : Shared} {σ : St} {H2 : Hp} {it : Addr} {fp : List Addr} {tn : Nat → Heap → Prop} {J : It} {cl : List (Str × Addr)} {E : Value → Shared → Prop}
    {W : Nat → Nat → List V → Hp → Prop} {m0 : Nat} {RR : Value → Addr → Result → Shared → Prop} {Fin : Addr → List V → Hp → Prop}
    (hc : X.calm = true) (S : CompOk X scope own fr) (cl1 : ∀ x c, cl.lookup x = some c → X.env.cells.lookup x = some c) (cl2 : ∀ x, (x, NameKind.free) ∈ scope.names → ∃ c, cl.lookup x = some c)
    (hg : ∀ s2 H2 fp cl C, PG (cxComp X s2 H2 fp (own ++ fr.map (·.1)) scope cl C) tg g) (hk : GKeep own.length g)
    (hi : ∀ s2 H2 fp cl C, PIfs (cxComp X s2 H2 fp (own ++ fr.map (·.1)) scope cl C) ifs tc) (he : ∀ s2 H2 fp cl C, PE (cxComp X s2 H2 fp (own ++ fr.map (·.1)) scope cl C) elt te)
    (I2 : Inv X pins σ H2 s2) (T : Turn X.prog X.w X.K tg J fp it tn) (st2 : tn 0 s2.heap) (f2 : ∀ b ∈ fp, FpOk X pins H2 b) (w0 : W 0 m0 [] H2)
    (turn : ∀ i m ys H, W i m ys H →
      (J.stop i H ∧ ∀ D, H D = none → Fin D ys H) ∨
      (J.go i H ∧ ys.length < sizeLine ∧ ∀ x H', J.yld i H x H' → g x (compSt own.length (fr.map (·.2)) σ) H' fun σ2 H2 => tc σ2 H2 fun b H3 => if b = true then te σ2 H3 fun y H4 => ∃ m', m' < m ∧ W (i + 1) m' (ys ++ [y]) H4 else ∃ m', m' < m ∧ W (i + 1) m' ys H3))
    (hRR : ∀ D C oC mC s4 H4 ys, Fin D ys H4 → Inv X (pins ++ [(C, oC)]) σ (upd H4 D (.lst ys)) s4 → s4.heap.Ns C mC → FpOk X pins (upd H4 D (.lst ys)) C → RR (.ref D) C (.ok .next) s4) :
    wpAny (model X.prog X.w) X.A (newList []) (fun acc s₃ => wpAny (model X.prog X.w) X.A (newFunctionEnv scope X.env.globals cl [] X.env.qual none .none (some X.env)) (fun cenv s₄ =>
      codeAny (model X.prog X.w) X.A (.compStart (.ListComp elt [⟨tg, iter, ifs, 0⟩] scope pos) 0 (.ref it) acc { cenv with scope := relabel scope X.env }) (RR acc cenv.locals) s₄) E s₃) E s2 := by
  refine wpAny_newObj_type (wpAny_newFunctionEnv S.cell (by intro y hy; simp at hy) (fun h₁ hns₁ hsb₁ => ?_) S.kind)
  dsimp only at hns₁ hsb₁ ⊢
  generalize hH2 : s2.heap.push { cls := .type "list", dict := none, data := .seq ([] : List Value).toArray } = Hh at hns₁ hsb₁ ⊢
  have hC : Hh.objs.size = s2.heap.objs.size + 1 := by rw [← hH2, Heap.size_push]
  have hDC : s2.heap.objs.size ≠ Hh.objs.size := by rw [hC]; exact Nat.ne_of_lt (Nat.lt_succ_self _)
  have hCle : s2.heap.objs.size ≤ Hh.objs.size := by rw [hC]; exact Nat.le_succ _
  have old : ∀ b o, s2.heap.get? b = some o → h₁.get? b = some o := fun b o e => hsb₁.extBut b o (Nat.ne_of_lt (Nat.lt_of_lt_of_le (Heap.lt_size e) hCle)) (Heap.get?_push_of_some _ (hH2 ▸ Heap.get?_push_of_some _ e))
  have hacc : h₁.get? s2.heap.objs.size = some (LCg.lst []) := hsb₁.extBut _ _ hDC (Heap.get?_push_of_some _ (hH2 ▸ Heap.get?_push_size _ rfl))
  -- the block's context
  let Y : Cx := cxComp X s2 H2 fp (own ++ fr.map (·.1)) scope cl Hh.objs.size
  let D := s2.heap.objs.size
  let σY : St := compSt own.length (fr.map (·.2)) σ
  have fpl : ∀ b ∈ fp, b < s2.heap.objs.size := fun b hb => let ⟨o, e, _⟩ := T.obj 0 _ st2 b hb; Heap.lt_size e
  have nfs : ∀ b, s2.heap.objs.size ≤ b → b ∉ Y.fs := fun b hb z => by
    rcases List.mem_cons.mp (I2.stkSub b z) with e | e
    · rw [e] at hb; exact absurd I2.lt (Nat.not_lt.mpr hb)
    · exact I2.nofs hb e
  have hkY : ∀ x, (Y.env.kindOf x = some .cell ∨ Y.env.kindOf x = some .free) → scope.names.lookup x = some .free := fun x hx => by
    have q : ∃ k', (relabel scope X.env).names.lookup x = some k' ∧ (k' = .cell ∨ k' = .free) := by
      rcases hx with z | z
      · exact ⟨_, z, .inl rfl⟩
      · exact ⟨_, z, .inr rfl⟩
    obtain ⟨k', e, hk'⟩ := q
    obtain ⟨k, e', h'⟩ := relabel_lookup e
    have nc : k ≠ .cell := S.cell (x, k) (PySem.mem_of_lookup e')
    rcases h' with z | ⟨z, _⟩
    · subst z
      rcases hk' with z | z
      · exact absurd z nc
      · rw [z] at e'; exact e'
    · rw [z] at e'; exact e'
  have okY : Y.Ok := by
    refine ⟨I2.ok.mod, S.kind, I2.ok.glob, I2.ok.blt, hCle, fun x y c h1 h2 => I2.ok.inj x y c (cl1 x c h1) (cl1 y c h2), fun x hx => cl2 x (PySem.mem_of_lookup (hkY x hx)), (fun x c z _ => nomatch z), I2.ok.hd, I2.ok.frames, .inl rfl, fun b hb => ⟨?_, fun x c e => (f2 b hb).2.2.2.2.1 x c (cl1 x c e)⟩,
      fun b o e => I2.bs b o e, Nat.le_trans I2.ok.bsz I2.sz, fun b o e hb => ?_, fun b hb z => ?_, I2.stack, I2.stkFree⟩
    · exact Nat.ne_of_lt (Nat.lt_of_lt_of_le (fpl b hb) hCle)
    · rcases (f2 b hb).2.2.2.1 with z | z
      · exact I2.ok.noex b o e z
      · exact absurd (Nat.lt_of_lt_of_le (Heap.lt_size e) (Nat.le_trans I2.ok.bsz z)) (Nat.lt_irrefl _)
    · rcases List.mem_cons.mp (I2.stkSub b z) with e | e
      · exact (f2 b hb).2.1 e
      · exact (f2 b hb).2.2.1 e
  have σYl : σY.length = Y.N.length := by
    show (compSt own.length (fr.map (·.2)) σ).length = (own ++ fr.map (·.1)).length
    unfold compSt
    rw [List.length_append, List.length_append, List.length_replicate, List.length_map, List.length_map, List.length_map]
  have lookY : ∀ (h : Heap) (m : Str → Option Value), (∀ c v, (∃ x, X.env.cells.lookup x = some c) → s2.heap.IsCell c v → h.IsCell c v) → ∀ (i : Nat) (x : Str) (v : V), Y.N[i]? = some x → σY[i]? = some (some v) → Vis Y.env.scope x → ∃ u, RelV v u ∧ Look Y.env h m x u := by
    intro h m hcells i x v hN hσ hv
    have hN : (own ++ fr.map (·.1))[i]? = some x := hN
    have hσ : (List.replicate own.length none ++ (fr.map (·.2)).map fun j => (σ[j]?).join)[i]? = some (some v) := hσ
    by_cases hio : i < own.length
    · rw [List.getElem?_append_left (by simpa using hio), List.getElem?_replicate, if_pos hio] at hσ
      cases hσ
    · rw [List.getElem?_append_right (by simpa using hio)] at hσ
      rw [List.getElem?_append_right (by simpa using hio)] at hN
      rw [List.length_replicate] at hσ
      rw [List.getElem?_map] at hN
      rw [List.getElem?_map, List.getElem?_map] at hσ
      cases ep : fr[i - own.length]? with
      | none => rw [ep] at hN; cases hN
      | some p =>
        rw [ep] at hN hσ
        cases hN
        have hσ : (σ[p.2]?).join = some v := Option.some.inj hσ
        obtain ⟨hfree, hXN⟩ := S.fr p (List.mem_of_getElem? ep)
        have hXk : X.env.kindOf p.1 = some .cell := S.free (p.1, .free) (PySem.mem_of_lookup hfree) rfl
        obtain ⟨m', hn', hl'⟩ := I2.loc
        have hσ' : σ[p.2]? = some (some v) := by
          cases e : σ[p.2]? with
          | none => rw [e] at hσ; cases hσ
          | some o => rw [e] at hσ; cases o with
            | none => cases hσ
            | some v' => cases hσ; rfl
        obtain ⟨u, r, l⟩ := hl' p.2 p.1 v hXN hσ' (.inr (.inl hXk))
        refine ⟨u, r, ?_⟩
        rcases l with ⟨l, _⟩ | ⟨_, c, hcl, hcell⟩
        · rw [hXk] at l; cases l
        · obtain ⟨c', hc'⟩ := cl2 p.1 (PySem.mem_of_lookup hfree)
          have e2 := cl1 _ _ hc'
          rw [hcl] at e2
          cases e2
          refine .inr ⟨?_, c, hc', hcells c _ ⟨_, hcl⟩ hcell⟩
          rcases hv with z | z | z
          · obtain ⟨k, e1, e3⟩ := relabel_lookup z
            rw [hfree] at e1
            cases e1
            rcases e3 with e3 | ⟨_, e3⟩
            · exact .inr (by cases e3)
            · exact .inr (by cases e3)
          · exact .inl z
          · exact .inr z
  have IY : Inv Y [(D, LCg.lst [])] σY H2 { s2 with heap := h₁, toks := s2.toks + ([] : List (Str × Value)).length } := by
    refine ⟨okY, rfl, I2.bare, Un.kept old, ⟨_, hns₁, lookY _ _ fun c v _ ⟨o, e, d⟩ => ⟨o, old c o e, d⟩⟩, fun x c e => ?_, I2.hok.fresh hCle, fun x c e => I2.freeC x c (cl1 x c e), fun p hp => ?_, I2.hok.kept old, σYl⟩
    · obtain ⟨v, o, e1, d⟩ := I2.cell x c (cl1 x c e)
      exact ⟨v, o, old c o e1, d⟩
    · have hp : p ∈ [(D, LCg.lst [])] := by simpa [Y, cxComp] using hp
      rw [List.mem_singleton.mp hp]
      exact ⟨hacc, I2.hok.fresh (Nat.le_refl _), hDC, nfs _ (Nat.le_refl _), fun v z => nomatch z⟩
  have stat : ∀ {us : List Value} {H' : Hp}, (∀ b ∈ fp, H' b = none) → ∀ b ∈ fp, FpOk Y [(D, LCg.lst us)] H' b := fun {us H'} hn b hb => by
    refine ⟨hn b hb, Nat.ne_of_lt (Nat.lt_of_lt_of_le (fpl b hb) hCle), fun z => ?_, .inl hb, fun x c e => (f2 b hb).2.2.2.2.1 x c (cl1 x c e), fun p hp => ?_⟩
    · exact okY.exfs b hb z
    · have hp : p ∈ [(D, LCg.lst us)] := by simpa [Y, cxComp] using hp
      rw [List.mem_singleton.mp hp]
      exact fun z => absurd (fpl b hb) (by rw [← z]; exact Nat.lt_irrefl _)
  have loop : ∀ s₃ : Shared, s₃ = { s2 with heap := h₁, toks := s2.toks + ([] : List (Str × Value)).length } →
      codeAny (model X.prog X.w) X.A (.compLoop (.ListComp elt [⟨tg, iter, ifs, 0⟩] scope pos) 0 (.ref it) (.ref s2.heap.objs.size) (compEnvC scope cl Hh.objs.size X.env))
        (RR (.ref s2.heap.objs.size) Hh.objs.size) s₃ := by
    rintro s₃ rfl
    refine compLoopG (fun n s' => ∃ i ys us H', Inv Y [(D, LCg.lst us)] σY H' s' ∧ Vals ys us ∧ ys.length ≤ sizeLine ∧ tn i s'.heap ∧ (∀ b ∈ fp, H' b = none) ∧ W i n ys H') ?_ m0
      ⟨0, [], [], H2, IY, .nil, Nat.zero_le _, T.keep _ _ _ st2 fun b _ o e => old b o e, fun b hb => (f2 b hb).1, w0⟩
    rintro n s3 ⟨i, ys, us, H3, I3, rv, hsz, st3, fr3, w3⟩
    rcases turn i n ys H3 w3 with ⟨stop, qn⟩ | ⟨go, hlt, step⟩
    · refine thn (T.done Y rfl rfl rfl hc i _ s3 σY H3 _ I3 (stat fr3) st3 stop) fun r s4 ⟨hr, I4⟩ => ?_
      subst hr
      have pinD := I4.pin (D, LCg.lst us) (List.mem_append_right _ (List.mem_singleton.mpr rfl))
      obtain ⟨mC, hnC, _⟩ := I4.loc
      obtain ⟨oC, esC, epC, hoC, hdC, hxC⟩ := id hnC
      have hDn : H3 D = none := pinD.2.1
      have ag : ∀ b, b < s2.heap.objs.size → (upd H3 D (.lst ys)) b = H3 b := fun b hb => upd_ne (Nat.ne_of_lt hb)
      have hokU : HOk X.prog X.w (upd H3 D (.lst ys)) s4.heap := fun a o e => by
        by_cases ha : a = D
        · subst ha
          rw [upd_same] at e
          cases e
          exact ⟨hsz, us, _, rv, pinD.1⟩
        · rw [upd_ne ha] at e
          refine (I4.hok a o e).stay (fun _ _ _ q => q) (fun b q => ?_) (fun b xs q => ?_)
          · rw [upd_ne (ne_of_none q hDn)]; exact q
          · rw [upd_ne (ne_of_none q hDn)]; exact q
      have IX : Inv X pins σ (upd H3 D (.lst ys)) s4 := I2.call' (ch := fp) I4.os (I4.base.later I2.hok ag fun b o _ e => e) hokU I4.bare fun b hb => ⟨(f2 b hb).2.2.2.1, (f2 b hb).2.1, (f2 b hb).2.2.2.2.1, (f2 b hb).2.2.2.2.2⟩
      have hCn : (upd H3 D (.lst ys)) Hh.objs.size = none := by rw [upd_ne (Ne.symm hDC)]; exact I4.free
      have fC : FpOk X pins (upd H3 D (.lst ys)) Hh.objs.size := I2.fpOk hCle hCn
      refine hRR D Hh.objs.size oC mC s4 H3 ys (qn D hDn) (IX.pins_of fun p hp => ?_) hnC fC
      rcases List.mem_append.mp hp with z | z
      · exact IX.pin p (List.mem_append_right _ z)
      · rw [List.mem_singleton.mp z]
        exact ⟨hoC, hCn, fC.2.1, fC.2.2.1, fun v z => by rw [hdC] at z; cases z⟩
    · refine thn (T.item Y rfl rfl rfl hc i _ s3 σY H3 _ I3 (stat fr3) st3 go) fun r s4 ⟨u, hr, h4⟩ => ?_
      subst hr
      refine thn h4 fun _ s5 ⟨x, H5, I5, r5, y5, st5, fr5⟩ => ?_
      have I5' := I5.pinned (stat fr5) (T.obj _ _ st5)
      refine thn (hg _ _ _ _ _ _ s5 σY H5 x u _ I5' r5 (hk _ _ _ _ (step x H5 y5))) fun _ s6 ⟨σ6, H6, I6, hext, q6⟩ => ?_
      refine thn (hi _ _ _ _ _ _ s6 σ6 H6 _ I6 q6) fun b s7 ⟨H7, I7, q7⟩ => ?_
      have back : ∀ {s8 : Shared} {H8 : Hp} {us8 : List Value}, Inv Y ([(D, LCg.lst us8)] ++ pinsAt fp s5.heap) σ6 H8 s8 → Inv Y [(D, LCg.lst us8)] σY H8 s8 ∧ tn (i + 1) s8.heap ∧ ∀ b ∈ fp, H8 b = none := fun {s8 H8 us8} I8 => by
        refine ⟨I8.unpinned.weak (σYl.trans I8.len.symm) fun j v hj => ?_, T.keep _ _ _ st5 fun b hb o e => (I8.pin (b, o) (List.mem_append_right _ (List.mem_append_right _ (mem_pinsAt hb e)))).1, fun b hb => ?_⟩
        · have hjo : own.length ≤ j := by
            rcases Nat.lt_or_ge j own.length with z | z
            · have hj : (List.replicate own.length none ++ (fr.map (·.2)).map fun j => (σ[j]?).join)[j]? = some (some v) := hj
              rw [List.getElem?_append_left (by simpa using z), List.getElem?_replicate, if_pos z] at hj
              cases hj
            · exact z
          rw [hext j hjo]
          exact hj
        · obtain ⟨o, e, d⟩ := T.obj _ _ st5 b hb
          exact (I8.pin (b, o) (List.mem_append_right _ (List.mem_append_right _ (mem_pinsAt hb e)))).2.1
      cases b with
      | false =>
        rw [if_neg Bool.false_ne_true] at q7 ⊢
        obtain ⟨m', hm, w7⟩ := q7
        obtain ⟨I8, t8, f8⟩ := back I7
        exact ⟨m', hm, i + 1, ys, us, H7, I8, rv, hsz, t8, f8, w7⟩
      | true =>
        rw [if_pos rfl] at q7 ⊢
        refine thn (he _ _ _ _ _ _ s7 σ6 H7 _ I7 q7) fun vy s8 ⟨y, H8, I8, ry, m', hm, w8⟩ => ?_
        have pinD := I8.pin (D, LCg.lst us) (List.mem_append_right _ (List.mem_append_left _ (List.mem_singleton.mpr rfl)))
        refine append_at (hsz := by rw [List.size_toArray, ← rv.length]; exact hsz) pinD.1 fun h₅ hs₅ hD₅ => ?_
        have hD₅' : h₅.get? D = some (LCg.lst (us ++ [vy])) := hD₅.trans (congrArg some (LCg.lst_snoc us vy))
        have Ia : Inv Y (pinsAt fp s5.heap) σ6 H8 s8 := I8.pins_of fun p hp => I8.pin p (List.mem_append_right _ (List.mem_append_right _ hp))
        have Ib : Inv Y (pinsAt fp s5.heap) σ6 H8 { s8 with heap := h₅ } := Ia.turned (it := D) (t' := s8.toks) (fun b o hb e => hs₅.extBut b o hb e) pinD.2.1 hDC (.inr (Nat.le_refl _))
          (fun x c e z => by
            obtain ⟨v, q⟩ := I2.cell x c (cl1 x c e)
            exact absurd q.lt (by rw [z]; exact Nat.lt_irrefl _))
          (fun p hp => by
            have hp : p ∈ pinsAt fp s5.heap := by simpa [Y, cxComp] using hp
            exact fun z => absurd (fpl p.1 (of_pinsAt hp).1) (by rw [z]; exact Nat.lt_irrefl _))
        have Ic : Inv Y ([(D, LCg.lst (us ++ [vy]))] ++ pinsAt fp s5.heap) σ6 H8 { s8 with heap := h₅ } := Ib.pins_of fun p hp => by
          rcases List.mem_append.mp hp with z | z
          · rw [List.mem_singleton.mp z]
            exact ⟨hD₅', pinD.2.1, hDC, nfs _ (Nat.le_refl _), fun v z => nomatch z⟩
          · exact Ib.pin p (List.mem_append_right _ z)
        obtain ⟨I9, t9, f9⟩ := back Ic
        exact ⟨m', hm, i + 1, ys ++ [y], us ++ [vy], H8, I9, rv.append (.cons ry .nil), by rw [List.length_append, List.length_singleton]; omega, t9, f9, w8⟩
  exact codeAny_compStart_list (loop _ rfl) (T.self X.A 0 _ _ _ (T.keep _ _ _ st2 fun b _ o e => old b o e) (loop _ rfl))

theorem comp_cells {own : List Str} {fr : List (Str × Nat)} {pins : List (Addr × Obj)} {s : Shared} {σ : St} {H : Hp} (S : CompOk X scope own fr) (I : Inv X pins σ H s) : ∀ y ∈ scope.names, y.2 = .free → ∃ c, X.env.cells.lookup y.1 = some c :=
  fun y hy e => I.ok.has y.1 (.inl (S.free y hy e))

/-- [e for x in it if c]: as a value -/
theorem pe_comp (own : List Str) (fr : List (Str × Nat)) (hc : X.calm = true) (S : CompOk X scope own fr) (hit : PI X tg iter wi)
    (hg : ∀ s2 H2 fp cl C, PG (cxComp X s2 H2 fp (own ++ fr.map (·.1)) scope cl C) tg g) (hk : GKeep own.length g)
    (hi : ∀ s2 H2 fp cl C, PIfs (cxComp X s2 H2 fp (own ++ fr.map (·.1)) scope cl C) ifs tc) (he : ∀ s2 H2 fp cl C, PE (cxComp X s2 H2 fp (own ++ fr.map (·.1)) scope cl C) elt te)
    (hs : ∀ x, foldedSetIterable iter X.env x = pure x := by intro _; rfl) :
    PE X (.ListComp elt [⟨tg, iter, ifs, 0⟩] scope pos) (tComp own.length (fr.map (·.2)) wi g tc te) := by
  intro pins s σ H Q I h
  obtain ⟨cl, hclos, cl1, cl2⟩ := closure_ex (comp_cells S I)
  rw [eval_ListComp]
  refine wpAny_comprehension_free (use := none) rfl hs hclos S.kind S.loc (thn (hit pins s σ H _ I h) fun v s1 h1 => thn h1 fun itv s2 h2 => ?_)
  obtain ⟨it, fp, tn, J, H2, e, I2, T, st2, f2, W, ⟨m0, w0⟩, turn⟩ := h2
  subst e
  refine comp_core (RR := fun acc C => compPost (model X.prog X.w) X.A X.xe none (EP X pins σ Q) acc C) (Fin := fun D ys H => Q (.ref D) (upd H D (.lst ys))) hc S cl1 cl2 hg hk hi he I2 T st2 f2 w0 turn ?_
  intro D C oC mC s4 H4 ys fin IC hn fC
  refine ⟨mC, hn, fun h' hs' => ⟨.ref D, _, ?_, rfl, fin⟩⟩
  exact IC.unpinned.turned (t' := s4.toks) (fun b o hb e => hs'.extBut b o hb e) fC.1 fC.2.1 fC.2.2.2.1 fC.2.2.2.2.1 fC.2.2.2.2.2

/-- x = [e for .. in it if c] -/
def tSetComp (j k : Nat) (js : List Nat) (wi : TI) (g : TG) (tc : TT) (te : TE) : TS := fun D σ H => tComp k js wi g tc te σ H fun v H' => D.nx (σ.set j (some v)) H'
theorem ps_setComp {j : Nat} {y : Str} {py spos : Pos} (own : List Str) (fr : List (Str × Nat)) (hN : X.N.Nodup) (hj : X.N[j]? = some y) (hy : Loc X.env.scope y) (hc : X.calm = true) (S : CompOk X scope own fr) (hit : PI X tg iter wi)
    (hg : ∀ s2 H2 fp cl C, PG (cxComp X s2 H2 fp (own ++ fr.map (·.1)) scope cl C) tg g) (hk : GKeep own.length g)
    (hi : ∀ s2 H2 fp cl C, PIfs (cxComp X s2 H2 fp (own ++ fr.map (·.1)) scope cl C) ifs tc) (he : ∀ s2 H2 fp cl C, PE (cxComp X s2 H2 fp (own ++ fr.map (·.1)) scope cl C) elt te)
    (hsw : swapsWith (.ListComp elt [⟨tg, iter, ifs, 0⟩] scope pos) (some (.Name y py)) spos.line X.env = pure true := by rfl)
    (hs : ∀ x, foldedSetIterable iter X.env x = pure x := by intro _; rfl)
    (hf : X.fn y = true ∨ X.env.scope.names.lookup y = some .local := by first | exact .inl rfl | exact .inr rfl | assumption) :
    PS X (.Assign [.Name y py] (.ListComp elt [⟨tg, iter, ifs, 0⟩] scope pos) spos) (tSetComp j own.length (fr.map (·.2)) wi g tc te) := by
  intro pins s σ H Dn I h
  obtain ⟨cl, hclos, cl1, cl2⟩ := closure_ex (comp_cells S I)
  rw [exec_Assign_Name_used _ _ _ _ hsw]
  refine wpAny_bind (wpAny_standAt (wpAny_bind ?_))
  show wpAny _ X.A (do let _ ← comprehension (.ListComp elt [⟨tg, iter, ifs, 0⟩] scope pos) scope X.env _ (newList []) false (eval iter X.env) (some (assign (.Name y py) X.env))) _ _ s
  refine wpAny_bind (wpAny_mono (wpAny_comprehension_free (use := some (assign (.Name y py) X.env)) (Q := fun _ s' => SP X pins Dn .next s') rfl hs hclos S.kind S.loc
    (thn (hit pins s σ H _ I h) fun v s1 h1 => thn h1 fun itv s2 h2 => ?_)) (fun _ s' hq => wpAny_pure (wpAny_pure hq)) fun _ _ e => e)
  obtain ⟨it, fp, tn, J, H2, e, I2, T, st2, f2, W, ⟨m0, w0⟩, turn⟩ := h2
  subst e
  refine comp_core (RR := fun acc C => compPost (model X.prog X.w) X.A X.xe (some (assign (.Name y py) X.env)) (fun _ s' => SP X pins Dn .next s') acc C) (Fin := fun D ys H => Dn.nx (σ.set j (some (.ref D))) (upd H D (.lst ys))) hc S cl1 cl2 hg hk hi he I2 T st2 f2 w0 turn ?_
  intro D C oC mC s4 H4 ys fin IC hn fC
  show wpAny _ X.A (assign (.Name y py) X.env (.ref D)) _ _ _
  refine wpAny_assign_Name (store_ok (v := .ref D) IC hN hj hy rfl (fun s5 I5 => ?_) hf)
  have pC := I5.pin (C, oC) (List.mem_append_right _ (List.mem_append_right _ (List.mem_singleton.mpr rfl)))
  have pC4 := IC.pin (C, oC) (List.mem_append_right _ (List.mem_append_right _ (List.mem_singleton.mpr rfl)))
  refine ⟨mC, hn.at' fun o e => ?_, fun h' hs' => ⟨_, _, ?_, fin⟩⟩
  · have e' := pC4.1
    rw [e] at e'
    cases e'
    exact pC.1
  · exact I5.unpinned.turned (t' := s5.toks) (fun b o hb e => hs'.extBut b o hb e) fC.1 fC.2.1 fC.2.2.2.1 fC.2.2.2.2.1 fC.2.2.2.2.2
end

end L2
end

section
set_option Elab.async false
set_option linter.all false
set_option maxRecDepth 100000
set_option maxHeartbeats 4000000
namespace L2
open PySem PySem.Spec PyProof.Rows
section
variable {X : Cx} {pins : List (Addr × Obj)} {σ : St} {H H' : Hp} {s : Shared} {h' : Heap}
end

/-! ### zip of two lists, enumerate of a list, into two names -/
section
variable {X : Cx}
end
/-- a slice of a list of ints -/
theorem cut_ints (ns : List Int) (i j : Nat) : ∃ ms : List Int, cutV (ns.map V.int) (some (i : Int)) (some (j : Int)) = ms.map V.int ∧ ms.length ≤ j - i ∧ ms = (ns.drop i).take (j - i) := by
  refine ⟨(ns.drop i).take (j - i), ?_, List.length_take_le _ _, rfl⟩
  unfold cutV
  rw [HT.sIx_nat, HT.sIx_nat, List.length_map, List.map_take, List.map_drop]
  rcases Nat.lt_or_ge ns.length i with h | h
  · rw [List.drop_eq_nil_of_le (by rw [List.length_map]; omega), List.drop_eq_nil_of_le (by rw [List.length_map]; omega)]
    simp
  · rw [Nat.min_eq_left h]
    rcases Nat.lt_or_ge ns.length j with h2 | h2
    · rw [Nat.min_eq_right (by omega), List.take_of_length_le (by simp), List.take_of_length_le (by simp; omega)]
    · rw [Nat.min_eq_left h2]
end L2
end

section
set_option Elab.async false
set_option linter.all false
set_option maxRecDepth 100000
set_option maxHeartbeats 4000000
namespace L2
open PySem PySem.Spec PyProof.Rows
/-! ### data of texts, ints and tuples, and how an abstract heap bears it -/
inductive Nd where
  | s (x : Str)
  | i (n : Int)
  | t (xs : List Nd)
mutual
def At (H : Hp) : Nd → V → Prop
  | .s x, v => v = .str x
  | .i n, v => v = .int n
  | .t xs, v => ∃ a vs, v = .ref a ∧ H a = some (.tup vs) ∧ AtL H xs vs
def AtL (H : Hp) : List Nd → List V → Prop
  | [], vs => vs = []
  | x :: xs, vs => ∃ v r, vs = v :: r ∧ At H x v ∧ AtL H xs r
end
/-- tuples stay -/
def Tp (H H' : Hp) : Prop := ∀ b xs, H b = some (.tup xs) → H' b = some (.tup xs)
theorem Tp.trans {H H1 H2 : Hp} (a : Tp H H1) (b : Tp H1 H2) : Tp H H2 := fun c xs h => b c xs (a c xs h)
theorem Same.tp {H H' : Hp} (h : Same H H') : Tp H H' := fun b xs e => h b _ e
theorem Tp.lst {H : Hp} {a : Addr} {o : HO} {ys : List V} (h : H a = some (.lst ys)) : Tp H (upd H a o) := fun b xs e => by rw [upd_ne (ne_of e h (by intro z; cases z))]; exact e
theorem same_new {H : Hp} {p : Addr} (h : H p = none) (o : HO) : Same H (upd H p o) := fun b u q => by rw [upd_ne (ne_of_none q h)]; exact q
/-- what stood ahead stays, though a younger one is rewritten -/
theorem Same.young {H H1 : Hp} {p : Addr} (g : Same H H1) (h : H p = none) (o : HO) : Same H (upd H1 p o) := fun b u q => by rw [upd_ne (ne_of_none q h)]; exact g b u q
mutual
theorem At.mono {H H' : Hp} (T : Tp H H') : ∀ {n : Nd} {v : V}, At H n v → At H' n v
  | .s x, v, h => h
  | .i n, v, h => h
  | .t xs, v, h => by
    obtain ⟨a, vs, e, q, r⟩ := h
    exact ⟨a, vs, e, T a vs q, AtL.mono T r⟩
theorem AtL.mono {H H' : Hp} (T : Tp H H') : ∀ {xs : List Nd} {vs : List V}, AtL H xs vs → AtL H' xs vs
  | [], vs, h => h
  | x :: xs, vs, h => by
    obtain ⟨v, r, e, q, l⟩ := h
    exact ⟨v, r, e, At.mono T q, AtL.mono T l⟩
end
/-! ### the tuples of a datum -/
def isT : Nd → Bool
  | .t _ => true
  | _ => false
mutual
/-- its tuples as every_part tells them: itself, then those of its last item, .. -/
def pre : Nd → List Nd
  | .t xs => .t xs :: preL xs
  | .s _ => []
  | .i _ => []
def preL : List Nd → List Nd
  | [] => []
  | x :: r => preL r ++ pre x
end
def inner (xs : List Nd) : List Nd := xs.filter isT
theorem small {n : Nat} (h : n ≤ 1000) : n ≤ sizeLine := Nat.le_of_lt (small1000 h)
/-- an index from the end -/
theorem atI_neg1 {α : Type} {xs : List α} {v : α} (h : xs[xs.length - 1]? = some v) : atI xs (-1) = some v := by
  have hl : 0 < xs.length := by
    rcases Nat.eq_zero_or_pos xs.length with z | z
    · rw [List.length_eq_zero_iff.mp z] at h; simp at h
    · exact z
  unfold atI ixN
  rw [if_neg (by omega), if_pos (by omega)]
  show xs[((-1 : Int) + xs.length).toNat]? = some v
  rw [show ((-1 : Int) + (xs.length : Int)).toNat = xs.length - 1 by omega]
  exact h
theorem atI_neg2 {α : Type} {xs : List α} {v : α} (h1 : 2 ≤ xs.length) (h : xs[xs.length - 2]? = some v) : atI xs (-2) = some v := by
  unfold atI ixN
  rw [if_neg (by omega), if_pos (by omega)]
  show xs[((-2 : Int) + xs.length).toNat]? = some v
  rw [show ((-2 : Int) + (xs.length : Int)).toNat = xs.length - 2 by omega]
  exact h
/-! ### items of written tables, chains of new objects -/
theorem new2 {H : Hp} {p q : Addr} {a b : HO} (h : H p = none) (h2 : (upd H p a) q = none) : Same H (upd (upd H p a) q b) ∧ (upd (upd H p a) q b) p = some a ∧ (upd (upd H p a) q b) q = some b :=
  ⟨(same_new h a).trans (same_new h2 b), same_new h2 b _ _ upd_same, upd_same⟩
end L2
end

section
set_option Elab.async false
set_option linter.all false
set_option maxRecDepth 100000
set_option maxHeartbeats 4000000
namespace L2
open PySem PySem.Spec PyProof.Rows
/-! ### defs of the text by name -/
def FunM (K : PySem.W.Frag) (mg : Str → Option Value) (x : Str) (ps : List Str) (st : Stmt) : Prop := ∃ f fd, Fun K x x st f fd ∧ mg x = some (.ref f) ∧ Binds K fd ps []
def Callee (P : Program) (w : World) (K : PySem.W.Frag) (mg : Str → Option Value) (base : Heap) (k : Nat) (x : Str) (ps : List Str) (sp : Sp) : Prop :=
  ∃ f fd, FnOk P w K mg base CX0 k f fd ps sp ∧ Binds K fd ps [] ∧ PySem.W.keepIn K (.ref f) = true ∧ mg x = some (.ref f)
section
variable {P : Program} {w : World} {K : PySem.W.Frag} {mg : Str → Option Value} {base : Heap}
theorem Callee.mono {j k : Nat} {x : Str} {ps : List Str} {sp : Sp} (C : Callee P w K mg base j x ps sp) (h : j ≤ k) : Callee P w K mg base k x ps sp := by
  obtain ⟨f, fd, F, b, kp, m⟩ := C
  exact ⟨f, fd, F.mono h, b, kp, m⟩
theorem Callee.imp {k : Nat} {x : Str} {ps : List Str} {sp sp' : Sp} (C : Callee P w K mg base k x ps sp) (h : ∀ vs H Q E, sp' vs H Q E → sp vs H Q E) : Callee P w K mg base k x ps sp' := by
  obtain ⟨f, fd, F, b, kp, m⟩ := C
  exact ⟨f, fd, F.imp h, b, kp, m⟩
theorem FunM.ok {x : Str} {st : Stmt} {N ps : List Str} {k : Nat} {sp : Sp} (F : FunM K mg x ps st) (S : FnScope N ps (defScope st)) (len : ∀ vs H Q E, sp vs H Q E → vs.length = ps.length)
    (hbody : ∀ (f : Addr) (cdv : Value) (A : Around) (outer : List Env) (s : Shared) (H : Hp) (vs : List V) (Q : VK) (E : XK), Room k (A.deeper (envOfC x (defScope st) s.heap.objs.size f cdv)) → sp vs H Q E →
      ∃ t, PSs (cxOf CX0 P w K mg base N x (defScope st) f cdv A outer s H E).nox (defBody st) t ∧ t { nx := fun _ H' => Q .non H', rt := Q } (start N vs) H) : Callee P w K mg base (k + 1) x ps sp := by
  obtain ⟨f, fd, F, m, b⟩ := F
  exact ⟨f, fd, F.ok S len (hbody f), b, F.kp, m⟩
/-- a recursion: nothing is asked with no calls left -/
theorem FunM.zero {x : Str} {st : Stmt} {ps : List Str} {sp : Sp} (F : FunM K mg x ps st) (no : ∀ vs H Q E, ¬ sp vs H Q E) : Callee P w K mg base 0 x ps sp := by
  obtain ⟨f, fd, F, m, b⟩ := F
  exact ⟨f, fd, ⟨fun vs H Q E h => absurd h (no vs H Q E), fun A outer s H args us vs Q E _ _ _ _ h => absurd h (no vs H Q E)⟩, b, F.kp, m⟩
end
section
variable {X : Cx} {x : Str} {p pos : Pos} {e : Expr} {es : List Expr} {t : TA} {k j : Nat} {ps : List Str} {sp : Sp} {E : XK}
theorem pe_callC (C : Callee X.prog X.w X.K X.mg X.base j x ps sp) (hr : Room k X.A) (hg : Gl X x) (hx : Passes CX0 X E) (ha : PA X (e :: es) t) (hj : j ≤ k := by first | decide | omega)
    (hdb : (x == ("__debug__" : Str)) = false := by decide) (he : starEach (e :: es) X.env = (false, eval e X.env) :: starEach es X.env := by rfl) (hpl : (backTo pos (starEach es X.env)).any (·.1) = false := by rfl) :
    PE X (.Call (.Name x p) (e :: es) [] pos) (tCall sp [] E t) := by
  obtain ⟨f, fd, F, b, kp, m⟩ := C
  exact pe_call (F.mono hj) hr hg m kp b .nil hx ha hdb he hpl
end
end L2
end

section
set_option Elab.async false
set_option linter.all false
set_option maxRecDepth 100000
set_option maxHeartbeats 4000000
namespace L2
open PySem PySem.Spec PyProof.Rows
section
variable {X : Cx}
def rLen (K : PySem.W.Frag) : List V → Hp → VK → Prop := fun xs H Q => ∃ p ys, xs = [.ref p] ∧ (SqL K H p ys ∨ SqT K H p ys) ∧ Q (.int ys.length) H
theorem call_lenK : CallR X (.builtin "len") (rLen X.K) := call_len_seq
def rInt1 : List V → Hp → VK → Prop := fun xs H Q => (∃ i, xs = [.int i] ∧ Q (.int i) H) ∨ ∃ k, xs = [.bl k] ∧ Q (.int (if k then 1 else 0)) H
theorem call_intK : CallR X (.type "int") rInt1 := call_int1
/-! ### sorted, any, all; lists of ints compared -/
theorem call_sorted : CallR X (.builtin "sorted") (fun xs H Q => ∃ p ns, xs = [.ref p] ∧ SqL X.K H p ((ns : List Int).map V.int) ∧ ns.length < 64 ∧
    ∀ r (ms : List Int), H r = none → ms.Perm ns → ms.Pairwise (· ≤ ·) → Q (.ref r) (upd H r (.lst (ms.map V.int)))) := by
  intro pins s σ H xs us Q I r h
  obtain ⟨p, ns, rfl, hS, hl, q⟩ := h
  obtain ⟨u, rfl, ru⟩ := r.one
  cases ru
  obtain ⟨its, rv, pl, hz⟩ := I.list hS
  have hI := intsAre_of rv
  have el := rv.length
  rw [List.length_map] at el
  refine sorted_ints pl.isList hI (by omega) fun out ns' a1 a2 a3 => ?_
  obtain ⟨e, he⟩ := sortedAll_at s.heap its out
  have hlen := a2.length_eq
  have hn : H (s.heap.objs.size + 1) = none := I.hok.fresh (Nat.le_succ _)
  refine ⟨.ref (s.heap.objs.size + 1), _, I.laid (t' := s.toks) (o := .lst (ns'.map V.int)) (fun b o e => sortedAll_old e) (Nat.le_succ _) ?_, rfl, q _ ns' hn a2 a3⟩
  refine ⟨by rw [List.length_map]; exact small (by omega), out.toList, e, vals_ints a1, ?_⟩
  rw [he]
theorem bools_of : ∀ {bs : List Bool} {us : List Value}, Vals (bs.map V.bl) us → LSm.BoolsAre us bs := by
  intro bs us h
  induction bs generalizing us with
  | nil => cases h; exact .nil
  | cons b r ih =>
    cases h with
    | cons a t =>
      cases (show _ = Value.bool b from a)
      exact .cons _ (ih t)
theorem call_any (hc : X.calm = true) : CallR X (.builtin "any") (fun xs H Q => ∃ p bs, xs = [.ref p] ∧ SqL X.K H p ((bs : List Bool).map V.bl) ∧ Q (.bl (bs.any id)) H) := by
  intro pins s σ H xs us Q I r h
  obtain ⟨p, bs, rfl, hS, q⟩ := h
  obtain ⟨u, rfl, ru⟩ := r.one
  cases ru
  obtain ⟨its, rv, pl, hz⟩ := I.list hS
  have hh : X.A.handled = none := I.ok.hd hc
  have hb := bools_of rv
  have hlt : p < s.heap.objs.size := by obtain ⟨_, e, _⟩ := pl.isList; exact Heap.lt_size e
  refine call_any_walk (wpAny_pyIter_list pl.isList ?_)
  refine ⟨s.heap.objs.size, [s.heap.objs.size, p], [s.heap.objs.size], its.toArray.size, _, _, fun i => (bs[i]?).getD false, rfl, Walks.list (A := X.A.in1) hh _ p (Nat.ne_of_lt hlt) its.toArray,
    ⟨⟨_, Heap.get?_push_size _ rfl, rfl, rfl⟩, pl.isList.push _⟩, fun i v s' Q' E' hP hQ => ?_, fun h' tk hk => ?_⟩
  · obtain ⟨b, e, rfl⟩ := hb.get i v (by simpa using hP)
    simp only [e, Option.getD_some] at hQ
    exact wpAny_truthy_bool hQ
  · have e : ((List.range its.toArray.size).any fun i => (bs[i]?).getD false) = bs.any id := by
      rw [List.size_toArray, hb.length]; exact LSm.range_any bs
    rw [e]
    exact ⟨.bl _, H, I.kept (t' := tk) (LSm.kept_iter hk), rfl, q⟩
theorem call_all (hc : X.calm = true) : CallR X (.builtin "all") (fun xs H Q => ∃ p bs, xs = [.ref p] ∧ SqL X.K H p ((bs : List Bool).map V.bl) ∧ Q (.bl (bs.all id)) H) := by
  intro pins s σ H xs us Q I r h
  obtain ⟨p, bs, rfl, hS, q⟩ := h
  obtain ⟨u, rfl, ru⟩ := r.one
  cases ru
  obtain ⟨its, rv, pl, hz⟩ := I.list hS
  have hh : X.A.handled = none := I.ok.hd hc
  have hb := bools_of rv
  have hlt : p < s.heap.objs.size := by obtain ⟨_, e, _⟩ := pl.isList; exact Heap.lt_size e
  refine call_all_walk (wpAny_pyIter_list pl.isList ?_)
  refine ⟨s.heap.objs.size, [s.heap.objs.size, p], [s.heap.objs.size], its.toArray.size, _, _, fun i => (bs[i]?).getD true, rfl, Walks.list (A := X.A.in1) hh _ p (Nat.ne_of_lt hlt) its.toArray,
    ⟨⟨_, Heap.get?_push_size _ rfl, rfl, rfl⟩, pl.isList.push _⟩, fun i v s' Q' E' hP hQ => ?_, fun h' tk hk => ?_⟩
  · obtain ⟨b, e, rfl⟩ := hb.get i v (by simpa using hP)
    simp only [e, Option.getD_some] at hQ
    exact wpAny_truthy_bool hQ
  · have e : ((List.range its.toArray.size).all fun i => (bs[i]?).getD true) = bs.all id := by
      rw [List.size_toArray, hb.length]; exact LSm.range_all bs
    rw [e]
    exact ⟨.bl _, H, I.kept (t' := tk) (LSm.kept_iter hk), rfl, q⟩
/-- the ints of two lists, place by place -/
theorem ints_all {ns ms : List Int} (h : ns.length = ms.length) : ((List.range ns.length).all fun j => decide (ns[j]? = ms[j]?)) = decide (ns = ms) := by
  by_cases e : ns = ms
  · subst e; simp
  · rw [decide_eq_false e]
    refine Bool.eq_false_iff.mpr fun z => e ?_
    rw [List.all_eq_true] at z
    refine List.ext_getElem? fun i => ?_
    by_cases hi : i < ns.length
    · exact of_decide_eq_true (z i (List.mem_range.mpr hi))
    · rw [List.getElem?_eq_none_iff.mpr (by omega), List.getElem?_eq_none_iff.mpr (by omega)]
theorem ints_at {A : Around} {s : Shared} {ns ms : List Int} {us ws : List Value} (r : Vals (ns.map V.int) us) (r' : Vals (ms.map V.int) ws) : ∀ j (h1 : j < us.toArray.size) (h2 : j < ws.toArray.size), SeqAt.EqAt A s us.toArray[j] ws.toArray[j] (decide (ns[j]? = ms[j]?)) := by
  intro j h1 h2
  have l1 := r.length
  have l2 := r'.length
  rw [List.length_map] at l1 l2
  have h1' : j < ns.length := by simpa [l1] using h1
  have h2' : j < ms.length := by simpa [l2] using h2
  obtain ⟨u, eu, ru⟩ := r.get (i := j) (x := V.int ns[j]) (by rw [List.getElem?_map, List.getElem?_eq_getElem h1']; rfl)
  obtain ⟨v, ev, rv⟩ := r'.get (i := j) (x := V.int ms[j]) (by rw [List.getElem?_map, List.getElem?_eq_getElem h2']; rfl)
  have e1 : us.toArray[j] = u := by
    have : us[j]? = some us.toArray[j] := by simp
    rw [eu] at this
    exact (Option.some.inj this).symm
  have e2 : ws.toArray[j] = v := by
    have : ws[j]? = some ws.toArray[j] := by simp
    rw [ev] at this
    exact (Option.some.inj this).symm
  rw [e1, e2]
  have z := eqAt_V (A := A) (s := s) ru rv rfl rfl
  have e3 : eqV (V.int ns[j]) (V.int ms[j]) = decide (ns[j]? = ms[j]?) := by
    rw [List.getElem?_eq_getElem h1', List.getElem?_eq_getElem h2']
    show (ns[j] == ms[j]) = _
    by_cases q : ns[j] = ms[j]
    · rw [q]; simp
    · rw [decide_eq_false fun z => q (Option.some.inj z)]; simpa using q
  rw [← e3]
  exact z
inductive C_rEqI (K : PySem.W.Frag) (neg : Bool) (x y : V) (H : Hp) (Q : VK) : Prop
  | mk (p) (q) (ns) (ms) (c0 : x = .ref p) (c1 : y = .ref q) (c2 : SqL K H p ((ns : List Int).map V.int)) (c3 : SqL K H q ((ms : List Int).map V.int)) (c4 : Q (.bl (if neg then !decide (ns = ms) else decide (ns = ms))) H) : C_rEqI K neg x y H Q
def rEqI (K : PySem.W.Frag) (neg : Bool) : R2 := fun x y H Q => C_rEqI K neg x y H Q
theorem op_eqI (hu : X.A.units < cLine) : OpR X (compareOp .Eq) (rEqI X.K false) := by
  intro pins s σ H x y v u Q I rx ry h
  obtain ⟨p, q, ns, ms, rfl, rfl, h1, h2, hq⟩ := h
  cases rx
  cases ry
  obtain ⟨us, r1, p1, z1⟩ := I.list h1
  obtain ⟨ws, r2, p2, z2⟩ := I.list h2
  have l1 := r1.length
  have l2 := r2.length
  rw [List.length_map] at l1 l2
  by_cases e : ns.length = ms.length
  · refine SeqAt.eq_listAt p1.isList p2.isList (by simp; omega) hu (ints_at r1 r2) ?_
    rw [List.size_toArray, ← l1, ints_all e]
    exact ⟨.bl _, H, I, rfl, hq⟩
  · refine SeqAt.eq_list_lengthsAt p1.isList p2.isList (by simp; omega) hu ?_
    have d : decide (ns = ms) = false := decide_eq_false fun z => e (by rw [z])
    rw [d] at hq
    exact ⟨.bl _, H, I, rfl, hq⟩
theorem op_neI (hu : X.A.units < cLine) : OpR X (compareOp .NotEq) (rEqI X.K true) := by
  intro pins s σ H x y v u Q I rx ry h
  obtain ⟨p, q, ns, ms, rfl, rfl, h1, h2, hq⟩ := h
  cases rx
  cases ry
  obtain ⟨us, r1, p1, z1⟩ := I.list h1
  obtain ⟨ws, r2, p2, z2⟩ := I.list h2
  have l1 := r1.length
  have l2 := r2.length
  rw [List.length_map] at l1 l2
  by_cases e : ns.length = ms.length
  · refine SeqAt.RcNeAt.lists p1.isList p2.isList (by simp; omega) hu (ints_at r1 r2) X.prog X.w X.xe _ ?_
    rw [List.size_toArray, ← l1, ints_all e]
    exact ⟨.bl _, H, I, rfl, hq⟩
  · refine SeqAt.RcNeAt.lists_lengths p1.isList p2.isList (by simp; omega) hu X.prog X.w X.xe _ ?_
    have d : decide (ns = ms) = false := decide_eq_false fun z => e (by rw [z])
    rw [d] at hq
    exact ⟨.bl _, H, I, rfl, hq⟩
theorem inV_ints {n : Int} {ns : List Int} : inV (.int n) (ns.map V.int) = decide (n ∈ ns) := by
  unfold inV
  rw [List.any_map]
  by_cases e : n ∈ ns
  · rw [decide_eq_true e, List.any_eq_true]
    exact ⟨n, e, by show (n == n) = true; simp⟩
  · rw [decide_eq_false e]
    refine Bool.eq_false_iff.mpr fun z => e ?_
    rw [List.any_eq_true] at z
    obtain ⟨m, hm, h⟩ := z
    have : (m == n) = true := h
    rw [← eq_of_beq this]
    exact hm
theorem flat_ints (ns : List Int) : (ns.map V.int).all flatV = true := by
  rw [List.all_eq_true]
  intro x hx
  obtain ⟨n, _, rfl⟩ := List.mem_map.mp hx
  rfl
end

/-! ### comprehensions, in the forms one uses -/
/-- what a comprehension's loop asks (J the iterator, k the items' number) -/
abbrev CompW (J : It) (g : TG) (tc : TT) (te : TE) (σY : St) (F : Addr → List V → Hp → Prop) (H : Hp) : Prop :=
  ∃ W : Nat → Nat → List V → Hp → Prop, (∃ m, W 0 m [] H) ∧ ∀ i m ys H, W i m ys H →
      (J.stop i H ∧ ∀ D, H D = none → F D ys H) ∨
      (J.go i H ∧ ys.length < sizeLine ∧ ∀ x H', J.yld i H x H' → g x σY H' fun σ2 H2 => tc σ2 H2 fun b H3 => if b = true then te σ2 H3 fun y H4 => ∃ m', m' < m ∧ W (i + 1) m' (ys ++ [y]) H4 else ∃ m', m' < m ∧ W (i + 1) m' ys H3)
theorem comp_gen {J : It} {k : Nat} {g : TG} {tc : TT} {te : TE} {σY : St} {H : Hp} {F : Addr → List V → Hp → Prop} (Pv : Nat → List V → Hp → Prop) (h0 : Pv 0 [] H) (hz : k ≤ sizeLine)
    (hgo : ∀ i ys H, i < k → Pv i ys H → J.go i H) (hst : ∀ ys H, Pv k ys H → J.stop k H)
    (hs : ∀ i x ys H H' (N : List V → Hp → Prop), i < k → Pv i ys H → J.yld i H x H' → ys.length ≤ i → (∀ ys' H', ys'.length ≤ i + 1 → Pv (i + 1) ys' H' → N ys' H') → g x σY H' fun σ2 H2 => tc σ2 H2 fun b H3 => if b = true then te σ2 H3 fun y H4 => N (ys ++ [y]) H4 else N ys H3)
    (hd : ∀ ys H, ys.length ≤ k → Pv k ys H → ∀ D, H D = none → F D ys H) : CompW J g tc te σY F H := by
  refine ⟨fun i m ys H => m = k - i ∧ i ≤ k ∧ ys.length ≤ i ∧ Pv i ys H, ⟨k, by simp, Nat.zero_le _, Nat.le_refl _, h0⟩, ?_⟩
  rintro i m ys H ⟨rfl, hi, hyl, p⟩
  by_cases hlt : i < k
  · refine .inr ⟨hgo i ys H hlt p, by omega, fun x H' y => ?_⟩
    exact hs i x ys H H' (fun ys' H4 => ∃ m', m' < k - i ∧ m' = k - (i + 1) ∧ i + 1 ≤ k ∧ ys'.length ≤ i + 1 ∧ Pv (i + 1) ys' H4) hlt p y hyl fun ys' H4 l q => ⟨k - (i + 1), by omega, rfl, hlt, l, q⟩
  · have e : i = k := by omega
    subst e
    exact .inl ⟨hst ys H p, hd ys H hyl p⟩
theorem comp_list {K : PySem.W.Frag} {a : Addr} {xs : List V} {g : TG} {tc : TT} {te : TE} {σY : St} {H : Hp} {F : Addr → List V → Hp → Prop} (Pv : Nat → List V → Hp → Prop) (h0 : Pv 0 [] H) (hz : xs.length ≤ sizeLine) (hl : ∀ i ys H, Pv i ys H → SqL K H a xs)
    (hs : ∀ i x ys H (N : List V → Hp → Prop), xs[i]? = some x → Pv i ys H → (∀ ys' H', ys'.length ≤ i + 1 → Pv (i + 1) ys' H' → N ys' H') → ys.length ≤ i → g x σY H fun σ2 H2 => tc σ2 H2 fun b H3 => if b = true then te σ2 H3 fun y H4 => N (ys ++ [y]) H4 else N ys H3)
    (hd : ∀ ys H, ys.length ≤ xs.length → Pv xs.length ys H → ∀ D, H D = none → F D ys H) : CompW (Itl K a) g tc te σY F H :=
  comp_gen Pv h0 hz (fun i ys H hi p => ⟨xs, xs[i], hl i ys H p, by simp [hi]⟩) (fun ys H p => ⟨xs, hl _ ys H p, Nat.le_refl _⟩)
    (fun i x ys H H' N hi p ⟨e, y⟩ hyl k => by subst e; exact hs i x ys _ N (y xs (hl i ys _ p)) p k hyl) hd
theorem comp_range {lo : Int} {n : Nat} {g : TG} {tc : TT} {te : TE} {σY : St} {H : Hp} {F : Addr → List V → Hp → Prop} (Pv : Nat → List V → Hp → Prop) (h0 : Pv 0 [] H) (hz : n ≤ sizeLine)
    (hs : ∀ i ys H (N : List V → Hp → Prop), i < n → Pv i ys H → (∀ ys' H', ys'.length ≤ i + 1 → Pv (i + 1) ys' H' → N ys' H') → ys.length ≤ i → g (.int (lo + i)) σY H fun σ2 H2 => tc σ2 H2 fun b H3 => if b = true then te σ2 H3 fun y H4 => N (ys ++ [y]) H4 else N ys H3)
    (hd : ∀ ys H, ys.length ≤ n → Pv n ys H → ∀ D, H D = none → F D ys H) : CompW (Itr lo n) g tc te σY F H :=
  comp_gen Pv h0 hz (fun i ys H hi p => hi) (fun ys H p => Nat.le_refl _)
    (fun i x ys H H' N hi p ⟨e, y⟩ hyl k => by subst e y; exact hs i ys _ N hi p k hyl) hd
end L2
end

section
set_option Elab.async false
set_option linter.all false
set_option maxRecDepth 100000
namespace L2
open PySem PySem.Spec PyProof.Rows

/-! ### lists of pairs as tables -/
section
variable {κ : Type} [DecidableEq κ]
end


/-! ### a tracked dict, its keys ints and texts or tuples of these -/
section
variable {P : Program} {w : World} {H : Hp} {h : Heap} {a : Addr}
end

section
variable {X : Cx} {pins : List (Addr × Obj)} {σ : St} {H : Hp} {s : Shared} {a : Addr} {y v : V} {u r : Value} {o : Option V} {A : Around} {E : Value → Shared → Prop}

end

section
variable {X : Cx} {pins : List (Addr × Obj)} {σ : St} {H : Hp} {s : Shared} {a : Addr} {kvs : List (Key × V)} {k : Key} {u : Value} {A : Around} {E : Value → Shared → Prop}
end


/-! ### readings and rules -/
section
variable {X : Cx} {o i e value : Expr} {pos pos' tpos : Pos} {td ty tv : TE}
end


/-! ### displays -/
section
variable {X : Cx} {pos : Pos}
end

/-! ### methods -/
/-- a method call o.m(e) of a built-in, with one argument: what must be seen of the text -/
structure M1 (X : Cx) (o : Expr) (m : Str) (apos : Pos) (e : Expr) (cpos : Pos) : Prop where
  base : attributeBase o m X.env (eval o X.env) = eval o X.env
  few : ((backTo cpos (starEach [e] X.env)).all (fun x => !x.1) && (backToKw cpos (keywordEach [] X.env)).all (fun x => x.1.isSome)
    && decide (([e] : List Expr).length + ([] : List Keyword).length + (if ([] : List Keyword).isEmpty then 0 else 1) < 30)) = true
  line : (apos.endLine == cpos.line) = true
  trees : backTo cpos (starEach [e] X.env) = [(false, eval e X.env)]
structure M2 (X : Cx) (o : Expr) (m : Str) (apos : Pos) (e f : Expr) (cpos : Pos) : Prop where
  base : attributeBase o m X.env (eval o X.env) = eval o X.env
  few : ((backTo cpos (starEach [e, f] X.env)).all (fun x => !x.1) && (backToKw cpos (keywordEach [] X.env)).all (fun x => x.1.isSome)
    && decide (([e, f] : List Expr).length + ([] : List Keyword).length + (if ([] : List Keyword).isEmpty then 0 else 1) < 30)) = true
  line : (apos.endLine == cpos.line) = true
  trees : backTo cpos (starEach [e, f] X.env) = [(false, eval e X.env), (false, eval f X.env)]

section
variable {X : Cx} {pins : List (Addr × Obj)} {σ : St} {H : Hp} {s : Shared} {a : Addr} {y d : V} {u r : Value} {o : Option V} {A : Around} {E : Value → Shared → Prop}
end

section
variable {X : Cx} {o e f : Expr} {apos cpos : Pos} {td ty tx : TE}
end

/-! ### dict(d): a copy -/
section
variable {X : Cx} {pins : List (Addr × Obj)} {σ : St} {H : Hp} {s : Shared} {a : Addr} {kvs : List (Key × V)} {A : Around} {E : Value → Shared → Prop}
end


section
variable {X : Cx} {pins : List (Addr × Obj)} {σ : St} {H : Hp} {s : Shared} {a : Addr} {y : V} {u : Value} {A : Around} {E : Value → Shared → Prop}
end
end L2

namespace L2
open PySem PySem.Spec PyProof.Rows
section
variable {X : Cx}
end
end L2

namespace L2
open PySem PySem.Spec PyProof.Rows
/-! ### a dict's pairs: keys that differ -/
section
variable {κ : Type} [DecidableEq κ]
end
end L2

end

section
set_option Elab.async false
set_option linter.all false
set_option maxRecDepth 100000
set_option maxHeartbeats 4000000
namespace L2
open PySem PySem.Spec PyProof.Rows
/-! ### data, where tuples of the module may be parts too -/
def ModT (K : PySem.W.Frag) (a : Addr) (vs : List V) : Prop := ∃ (o : Obj) (its : Array Value) (n : Nat), K.lookup a = some o ∧ o.cls = .type "tuple" ∧ o.data = .seq its n ∧ its.size ≤ sizeLine ∧ Vals vs its.toList
def TupAt (K : PySem.W.Frag) (H : Hp) (a : Addr) (vs : List V) : Prop := H a = some (.tup vs) ∨ ModT K a vs
theorem TupAt.mono {K : PySem.W.Frag} {H H' : Hp} (T : Tp H H') {a : Addr} {vs : List V} (h : TupAt K H a vs) : TupAt K H' a vs := h.elim (fun z => .inl (T a vs z)) .inr
theorem TupAt.sq {K : PySem.W.Frag} {H : Hp} {a : Addr} {vs : List V} (h : TupAt K H a vs) : SqT K H a vs := h.elim SqT.of .inr
mutual
def PAt (K : PySem.W.Frag) (H : Hp) : Nd → V → Prop
  | .s x, v => v = .str x
  | .i n, v => v = .int n
  | .t xs, v => ∃ a vs, v = .ref a ∧ TupAt K H a vs ∧ PAtL K H xs vs
def PAtL (K : PySem.W.Frag) (H : Hp) : List Nd → List V → Prop
  | [], vs => vs = []
  | x :: xs, vs => ∃ v r, vs = v :: r ∧ PAt K H x v ∧ PAtL K H xs r
end
mutual
theorem PAt.mono {K : PySem.W.Frag} {H H' : Hp} (T : Tp H H') : ∀ {n : Nd} {v : V}, PAt K H n v → PAt K H' n v
  | .s x, v, h => h
  | .i n, v, h => h
  | .t xs, v, h => by
    obtain ⟨a, vs, e, q, r⟩ := h
    exact ⟨a, vs, e, q.mono T, PAtL.mono T r⟩
theorem PAtL.mono {K : PySem.W.Frag} {H H' : Hp} (T : Tp H H') : ∀ {xs : List Nd} {vs : List V}, PAtL K H xs vs → PAtL K H' xs vs
  | [], vs, h => h
  | x :: xs, vs, h => by
    obtain ⟨v, r, e, q, l⟩ := h
    exact ⟨v, r, e, PAt.mono T q, PAtL.mono T l⟩
end
theorem PAtL.nil {K : PySem.W.Frag} {H : Hp} : PAtL K H [] [] := by unfold PAtL; rfl
theorem PAtL.cons {K : PySem.W.Frag} {H : Hp} {x : Nd} {xs : List Nd} {v : V} {r : List V} (a : PAt K H x v) (l : PAtL K H xs r) : PAtL K H (x :: xs) (v :: r) := by unfold PAtL; exact ⟨v, r, rfl, a, l⟩
theorem PAt.s {K : PySem.W.Frag} {H : Hp} {x : Str} : PAt K H (.s x) (.str x) := by unfold PAt; rfl
theorem PAt.i {K : PySem.W.Frag} {H : Hp} {x : Int} : PAt K H (.i x) (.int x) := by unfold PAt; rfl
theorem PAt.t {K : PySem.W.Frag} {H : Hp} {a : Addr} {xs : List Nd} {vs : List V} (h : TupAt K H a vs) (l : PAtL K H xs vs) : PAt K H (.t xs) (.ref a) := by unfold PAt; exact ⟨a, vs, rfl, h, l⟩
theorem PAt.get {K : PySem.W.Frag} {H : Hp} {xs : List Nd} {v : V} (h : PAt K H (.t xs) v) : ∃ a vs, v = .ref a ∧ TupAt K H a vs ∧ PAtL K H xs vs := by unfold PAt at h; exact h
theorem PAt.str {K : PySem.W.Frag} {H : Hp} {x : Str} {v : V} (h : PAt K H (.s x) v) : v = .str x := by unfold PAt at h; exact h
theorem PAt.int {K : PySem.W.Frag} {H : Hp} {x : Int} {v : V} (h : PAt K H (.i x) v) : v = .int x := by unfold PAt at h; exact h
theorem PAtL.one {K : PySem.W.Frag} {H : Hp} {x : Nd} {vs : List V} (h : PAtL K H [x] vs) : ∃ v, vs = [v] ∧ PAt K H x v := by
  unfold PAtL at h
  obtain ⟨v, r, rfl, q, l⟩ := h
  unfold PAtL at l
  subst l
  exact ⟨v, rfl, q⟩
theorem PAtL.two {K : PySem.W.Frag} {H : Hp} {x y : Nd} {vs : List V} (h : PAtL K H [x, y] vs) : ∃ v w, vs = [v, w] ∧ PAt K H x v ∧ PAt K H y w := by
  unfold PAtL at h
  obtain ⟨v, r, rfl, q, l⟩ := h
  obtain ⟨w, rfl, q'⟩ := l.one
  exact ⟨v, w, rfl, q, q'⟩


def TyK (K : PySem.W.Frag) (H : Hp) (x : V) (t : Value) : Prop := TyOf K H x t ∨ ∃ a vs, x = .ref a ∧ ModT K a vs ∧ t = .type "tuple"
theorem tyk_of {K : PySem.W.Frag} {H : Hp} {n : Nd} {v : V} (h : PAt K H n v) : ∃ t, TyK K H v t ∧ PySem.W.kitOne K t (.type "tuple") = some (isT n) := by
  cases n with
  | s x => cases h.str; exact ⟨_, .inl (.str x), rfl⟩
  | i x => cases h.int; exact ⟨_, .inl (.int x), rfl⟩
  | t xs =>
    obtain ⟨a, vs, rfl, q, _⟩ := h.get
    rcases q with q | q
    · exact ⟨_, .inl (.tup q), rfl⟩
    · exact ⟨_, .inr ⟨a, vs, rfl, q, rfl⟩, rfl⟩
def rIsiK (K : PySem.W.Frag) : List V → Hp → VK → Prop := fun xs H Q => ∃ x T t b, xs = [x, .ty T] ∧ TyK K H x t ∧ PySem.W.kitOne K t (.type T) = some b ∧ Q (.bl b) H
section
variable {X : Cx}
theorem call_isinstK : CallR X (.builtin "isinstance") (rIsiK X.K) := by
  intro pins s σ H xs us Q I r h
  obtain ⟨x, T, t, b, rfl, ty, e, q⟩ := h
  obtain ⟨u, v, rfl, ru, rv⟩ := r.two
  cases rv
  rcases ty with ty | ⟨a, vs, rfl, ⟨o, its, n, lk, hc, hd, hz, rr⟩, rfl⟩
  · exact isinst_ok I ru ty e fun tk => ⟨.bl b, H, I.tok _, rfl, q⟩
  · cases ru
    exact PySem.W.kia_one PySem.W.kitx_tuple I.kIn ⟨o, I.kIn _ _ lk, hc⟩ e (fun z => nomatch z) fun tk => ⟨.bl b, H, I.tok _, rfl, q⟩
end
/-! ### methods of a class of the text -/
section
variable {X : Cx} {o e : Expr} {es : List Expr} {m : Str} {apos pos : Pos} {k j : Nat} {ps : List Str} {sp : Sp} {E : XK} {C : Addr} {ta : TE} {t : TA}
end
/-! ### one object changes -/
/-- all but the object at r stay -/
def Kp (r : Addr) (H H' : Hp) : Prop := ∀ b o, b ≠ r → H b = some o → H' b = some o
theorem Kp.trans {r : Addr} {H H1 H2 : Hp} (a : Kp r H H1) (b : Kp r H1 H2) : Kp r H H2 := fun c o h e => b c o h (a c o h e)
theorem Same.kp {r : Addr} {H H' : Hp} (g : Same H H') : Kp r H H' := fun b o _ e => g b o e
theorem Kp.upd {r : Addr} {H : Hp} {o : HO} : Kp r H (L2.upd H r o) := fun b u h e => by rw [upd_ne h]; exact e
/-- what a block does to an object that is younger than H -/
theorem Same.byKp {r : Addr} {H H1 H2 : Hp} (g : Same H H1) (h : H r = none) (k : Kp r H1 H2) : Same H H2 := fun b o e => k b o (ne_of_none e h) (g b o e)
theorem iteNe {x y : Str} {A B : Prop} (h : ¬ x = y) (hB : B) : if decide (V.str x = V.str y) = true then A else B := by
  rw [decide_eq_false fun z => h (V.str.inj z), if_neg Bool.false_ne_true]; exact hB
theorem iteEq {x : Str} {A B : Prop} (hA : A) : if decide (V.str x = V.str x) = true then A else B := by
  rw [decide_eq_true rfl, if_pos rfl]; exact hA
theorem PAtL.three {K : PySem.W.Frag} {H : Hp} {x y z : Nd} {vs : List V} (h : PAtL K H [x, y, z] vs) : ∃ v w u, vs = [v, w, u] ∧ PAt K H x v ∧ PAt K H y w ∧ PAt K H z u := by
  unfold PAtL at h
  obtain ⟨v, r, rfl, q, l⟩ := h
  obtain ⟨w, u, rfl, q', q''⟩ := l.two
  exact ⟨v, w, u, rfl, q, q', q''⟩
theorem PAtL.four {K : PySem.W.Frag} {H : Hp} {x y z z' : Nd} {vs : List V} (h : PAtL K H [x, y, z, z'] vs) : ∃ v w u u', vs = [v, w, u, u'] ∧ PAt K H x v ∧ PAt K H y w ∧ PAt K H z u ∧ PAt K H z' u' := by
  unfold PAtL at h
  obtain ⟨v, r, rfl, q, l⟩ := h
  obtain ⟨w, u, u', rfl, q', q'', q3⟩ := l.three
  exact ⟨v, w, u, u', rfl, q, q', q'', q3⟩
end L2
end

section
set_option Elab.async false
set_option linter.all false
set_option maxRecDepth 100000
set_option maxHeartbeats 4000000
namespace L2
open PySem PySem.Spec PyProof.Rows
section
variable {X : Cx}
end
theorem tail_cut {v : V} {vs : List V} : cutV (v :: vs) (some 1) none = vs := by
  unfold cutV
  rw [show HT.sIx (v :: vs).length 0 (some 1) = 1 from HT.sIx_nat _ _ 1 |>.trans (by simp)]
  rw [HT.sIx_none]
  simp
theorem tail_not {v : V} {vs : List V} : ¬ (HT.sIx (v :: vs).length 0 (some 1) = 0 ∧ HT.sIx (v :: vs).length (v :: vs).length none = (v :: vs).length) := by
  rw [show HT.sIx (v :: vs).length 0 (some 1) = 1 from HT.sIx_nat _ _ 1 |>.trans (by simp)]
  simp
end L2
end

section
set_option Elab.async false
set_option linter.all false
set_option maxRecDepth 100000
set_option maxHeartbeats 4000000
namespace L2
open PySem PySem.Spec PyProof.Rows
section
variable {X : Cx}
/-! ### data that are equal, at a depth -/
inductive EqD (K : PySem.W.Frag) (H : Hp) : Nat → V → V → Prop where
  | flat {d : Nat} {x y : V} : flatV x = true → flatV y = true → eqV x y = true → EqD K H d x y
  | same {d : Nat} {a : Addr} : EqD K H d (.ref a) (.ref a)
  | lst {d : Nat} {a b : Addr} {xs ys : List V} : SqL K H a xs → SqL K H b ys → xs.length = ys.length → (∀ (i : Nat) (x y : V), xs[i]? = some x → ys[i]? = some y → EqD K H d x y) → EqD K H (d + 1) (.ref a) (.ref b)
  | tup {d : Nat} {a b : Addr} {xs ys : List V} : SqT K H a xs → SqT K H b ys → xs.length = ys.length → (∀ (i : Nat) (x y : V), xs[i]? = some x → ys[i]? = some y → EqD K H d x y) → EqD K H (d + 1) (.ref a) (.ref b)
theorem all_true (n : Nat) : ((List.range n).all fun _ => true) = true := by simp
theorem items_at {xs ys : List V} {us ws : List Value} {pins : List (Addr × Obj)} {σ : St} {H : Hp} {s : Shared} {A : Around} {K : PySem.W.Frag} {d : Nat} (r1 : Vals xs us) (r2 : Vals ys ws) (hl : xs.length = ys.length)
    (h : ∀ (i : Nat) (x y : V), xs[i]? = some x → ys[i]? = some y → ∀ u v, RelV x u → RelV y v → SeqAt.EqAt A s u v true) :
    ∀ j (h1 : j < us.toArray.size) (h2 : j < ws.toArray.size), SeqAt.EqAt A s us.toArray[j] ws.toArray[j] true := by
  intro j h1 h2
  have l1 := r1.length
  have l2 := r2.length
  have h1' : j < xs.length := by simpa [l1] using h1
  have h2' : j < ys.length := by simpa [l2] using h2
  obtain ⟨u, eu, ru⟩ := r1.get (i := j) (x := xs[j]) (List.getElem?_eq_getElem h1')
  obtain ⟨v, ev, rv⟩ := r2.get (i := j) (x := ys[j]) (List.getElem?_eq_getElem h2')
  have e1 : us.toArray[j] = u := by
    have : us[j]? = some us.toArray[j] := by simp
    rw [eu] at this
    exact (Option.some.inj this).symm
  have e2 : ws.toArray[j] = v := by
    have : ws[j]? = some ws.toArray[j] := by simp
    rw [ev] at this
    exact (Option.some.inj this).symm
  rw [e1, e2]
  exact h j _ _ (List.getElem?_eq_getElem h1') (List.getElem?_eq_getElem h2') u v ru rv
theorem eqd_at {pins : List (Addr × Obj)} {σ : St} {H : Hp} {s : Shared} (I : Inv X pins σ H s) : ∀ {d : Nat} {x y : V}, EqD X.K H d x y → ∀ (A : Around), A.units + d < cLine → ∀ u v, RelV x u → RelV y v → SeqAt.EqAt A s u v true := by
  intro d x y h
  induction h with
  | flat f1 f2 e =>
    intro A hA u v ru rv
    have z := eqAt_V (A := A) (s := s) ru rv f1 f2
    rw [e] at z
    exact z
  | same =>
    intro A hA u v ru rv
    cases ru
    cases rv
    exact SeqAt.EqAt.same _
  | @lst d a b xs ys h1 h2 hl hi ih =>
    intro A hA u v ru rv
    cases ru
    cases rv
    by_cases hab : a = b
    · subst hab; exact SeqAt.EqAt.same _
    obtain ⟨us, r1, p1, z1⟩ := I.list h1
    obtain ⟨ws, r2, p2, z2⟩ := I.list h2
    have l1 := r1.length
    have l2 := r2.length
    refine SeqAt.EqAt.of_refs hab ?_
    have q := SeqAt.RcAt.lists (A := A) (e := fun _ => true) p1.isList p2.isList (by simp; omega) (by omega) (items_at (pins := pins) (σ := σ) (H := H) (K := X.K) (d := d) r1 r2 hl fun i x y hx hy u v ru rv => ih i x y hx hy A.in1 (by show A.units + 1 + d < cLine; omega) u v ru rv)
    rw [all_true] at q
    exact q
  | @tup d a b xs ys h1 h2 hl hi ih =>
    intro A hA u v ru rv
    cases ru
    cases rv
    by_cases hab : a = b
    · subst hab; exact SeqAt.EqAt.same _
    obtain ⟨us, r1, p1, z1⟩ := I.tuple h1
    obtain ⟨ws, r2, p2, z2⟩ := I.tuple h2
    have l1 := r1.length
    have l2 := r2.length
    refine SeqAt.EqAt.of_refs hab ?_
    have q := SeqAt.RcAt.tuples (A := A) (e := fun _ => true) (show s.heap.IsTuple a us.toArray from p1) (show s.heap.IsTuple b ws.toArray from p2) (by omega) (items_at (pins := pins) (σ := σ) (H := H) (K := X.K) (d := d) r1 r2 hl fun i x y hx hy u v ru rv => ih i x y hx hy A.in1 (by show A.units + 1 + d < cLine; omega) u v ru rv)
    rw [all_true, show (us.toArray.size == ws.toArray.size) = true by simp; omega] at q
    exact q
/-- == and != of two tuples that are equal -/
inductive C_rEqT (K : PySem.W.Frag) (b : Bool) (x y : V) (H : Hp) (Q : VK) : Prop
  | mk (d) (p) (q) (xs) (ys) (c0 : d ≤ 60) (c1 : x = .ref p) (c2 : y = .ref q) (c3 : SqT K H p xs) (c4 : SqT K H q ys) (c5 : xs.length = ys.length) (c6 : (∀ (i : Nat) (x y : V), xs[i]? = some x → ys[i]? = some y → EqD K H d x y)) (c7 : Q (.bl b) H) : C_rEqT K b x y H Q
def rEqT (K : PySem.W.Frag) (b : Bool) : R2 := fun x y H Q => C_rEqT K b x y H Q
theorem op_neT (hu : X.A.units + 64 < cLine) : OpR X (compareOp .NotEq) (rEqT X.K false) := by
  intro pins s σ H x y v u Q I rx ry h
  obtain ⟨d, p, q, xs, ys, hd, rfl, rfl, h1, h2, hl, hi, hq⟩ := h
  cases rx
  cases ry
  obtain ⟨us, r1, p1, z1⟩ := I.tuple h1
  obtain ⟨ws, r2, p2, z2⟩ := I.tuple h2
  have l1 := r1.length
  have l2 := r2.length
  refine SeqAt.RcNeAt.tuples (e := fun _ => true) (show s.heap.IsTuple p us.toArray from p1) (show s.heap.IsTuple q ws.toArray from p2) (by omega) (items_at (pins := pins) (σ := σ) (H := H) (K := X.K) (d := d) r1 r2 hl fun i x y hx hy u v ru rv => eqd_at I (hi i x y hx hy) X.A.in1 (by show X.A.units + 1 + d < cLine; omega) u v ru rv) X.prog X.w X.xe _ ?_
  rw [all_true, show (us.toArray.size == ws.toArray.size) = true by simp; omega]
  exact ⟨.bl false, H, I, rfl, hq⟩
end
end L2
end

section
set_option Elab.async false
set_option linter.all false
set_option maxRecDepth 100000
set_option maxHeartbeats 4000000
namespace L2
open PySem PySem.Spec PyProof.Rows
/-! ### tables of sets: places rise, none was given up -/
def Rise (xs : Array Nat) : Prop := xs.toList.Pairwise (· < ·)
structure TabOk (led : Bool) (t : SetTable) : Prop where
  led : t.led = led
  dum : t.dummies = #[]
  rise : Rise t.place
theorem Rise.lt {xs : Array Nat} (h : Rise xs) {i j : Nat} (hj : j < xs.size) (hij : i < j) : xs[i]'(by omega) < xs[j] := by
  have z := List.pairwise_iff_getElem.mp h i j (by simp; omega) (by simpa using hj) hij
  simpa using z
theorem below_go {xs : Array Nat} {j : Nat} (h : Rise xs) : ∀ (fuel lo hi : Nat), lo ≤ hi → hi ≤ xs.size → hi - lo ≤ fuel → (∀ i (q : i < xs.size), i < lo → xs[i] < j) → (∀ i (q : i < xs.size), hi ≤ i → j ≤ xs[i]) →
    SetTable.below.go xs j fuel lo hi ≤ xs.size ∧ (∀ i (q : i < xs.size), i < SetTable.below.go xs j fuel lo hi → xs[i] < j) ∧ (∀ i (q : i < xs.size), SetTable.below.go xs j fuel lo hi ≤ i → j ≤ xs[i]) := by
  intro fuel
  induction fuel with
  | zero =>
    intro lo hi h1 h2 h3 h4 h5
    have e : lo = hi := by omega
    subst e
    unfold SetTable.below.go
    exact ⟨h2, h4, h5⟩
  | succ fuel ih =>
    intro lo hi h1 h2 h3 h4 h5
    unfold SetTable.below.go
    by_cases c : lo < hi
    · rw [if_pos c]
      dsimp only
      have hm : (lo + hi) / 2 < xs.size := by omega
      have eg : xs.getD ((lo + hi) / 2) j = xs[(lo + hi) / 2] := by simp [Array.getD, hm]
      by_cases d : xs.getD ((lo + hi) / 2) j < j
      · rw [if_pos d]
        rw [eg] at d
        refine ih _ _ (by omega) h2 (by omega) (fun i hi' hl => ?_) h5
        rcases Nat.lt_or_ge i ((lo + hi) / 2) with z | z
        · exact Nat.lt_trans (h.lt hm z) d
        · have : i = (lo + hi) / 2 := by omega
          subst this
          exact d
      · rw [if_neg d]
        rw [eg] at d
        refine ih _ _ (by omega) (by omega) (by omega) h4 (fun i hi' hl => ?_)
        rcases Nat.lt_or_ge ((lo + hi) / 2) i with z | z
        · have := h.lt hi' z; omega
        · have : i = (lo + hi) / 2 := by omega
          subst this
          omega
    · rw [if_neg c]
      have e : lo = hi := by omega
      subst e
      exact ⟨h2, h4, h5⟩
theorem below_ok {xs : Array Nat} (h : Rise xs) (j : Nat) : SetTable.below xs j ≤ xs.size ∧ (∀ i (hi : i < xs.size), i < SetTable.below xs j → xs[i] < j) ∧ (∀ i (hi' : i < xs.size), SetTable.below xs j ≤ i → j ≤ xs[i]) :=
  below_go h xs.size 0 xs.size (Nat.zero_le _) (Nat.le_refl _) (by omega) (fun _ _ z => by omega) (fun i hi z => by omega)
/-- the place behind the i-th -/
theorem below_next {xs : Array Nat} (h : Rise xs) {i : Nat} (hi : i < xs.size) : SetTable.below xs (xs[i] + 1) = i + 1 := by
  obtain ⟨h1, h2, h3⟩ := below_ok h (xs[i] + 1)
  rcases Nat.lt_trichotomy (SetTable.below xs (xs[i] + 1)) (i + 1) with z | z | z
  · have := h3 i hi (by omega); omega
  · exact z
  · have a := h2 (i + 1) (by omega) (by omega)
    have b := h.lt (i := i) (j := i + 1) (by omega) (by omega)
    omega
theorem below_zero {xs : Array Nat} (h : Rise xs) : SetTable.below xs 0 = 0 := by
  obtain ⟨h1, h2, h3⟩ := below_ok h 0
  rcases Nat.eq_zero_or_pos (SetTable.below xs 0) with z | z
  · exact z
  · have := h2 0 (by omega) z; omega
theorem rise_range (n : Nat) : Rise (Array.range n) := by
  unfold Rise
  rw [Array.toList_range]
  exact List.pairwise_lt_range
theorem rise_put {xs : Array Nat} {j : Nat} (h : Rise xs) (hn : xs[SetTable.below xs j]? ≠ some j) : Rise (SetTable.insertAt xs (SetTable.below xs j) j) := by
  obtain ⟨h1, h2, h3⟩ := below_ok h j
  unfold Rise
  rw [SetTable.toList_insertAt, List.pairwise_append]
  refine ⟨List.Pairwise.sublist (List.take_sublist _ _) h, ?_, ?_⟩
  · rw [List.pairwise_cons]
    refine ⟨fun y hy => ?_, List.Pairwise.sublist (List.drop_sublist _ _) h⟩
    obtain ⟨i, hi, rfl⟩ := List.mem_iff_getElem.mp hy
    rw [List.length_drop, Array.length_toList] at hi
    rw [List.getElem_drop, Array.getElem_toList]
    have a := h3 (SetTable.below xs j + i) (by omega) (by omega)
    rcases Nat.eq_zero_or_pos i with z | z
    · subst z
      rcases Nat.lt_or_ge j (xs[SetTable.below xs j + 0]'(by omega)) with y | y
      · exact y
      · exact absurd (by rw [Array.getElem?_eq_getElem (by omega)]; congr 1; simp at a y ⊢; omega) hn
    · have b := h3 (SetTable.below xs j) (by omega) (Nat.le_refl _)
      have c := h.lt (i := SetTable.below xs j) (j := SetTable.below xs j + i) (by omega) (by omega)
      omega
  · intro a ha b hb
    obtain ⟨i, hi, rfl⟩ := List.mem_iff_getElem.mp ha
    rw [List.length_take, Array.length_toList] at hi
    rw [List.getElem_take, Array.getElem_toList]
    have q := h2 i (by omega) (by omega)
    rcases List.mem_cons.mp hb with z | z
    · omega
    · obtain ⟨l, hl, rfl⟩ := List.mem_iff_getElem.mp z
      rw [List.length_drop, Array.length_toList] at hl
      rw [List.getElem_drop, Array.getElem_toList]
      have := h3 (SetTable.below xs j + l) (by omega) (by omega)
      omega
theorem has_empty (j : Nat) : SetTable.has #[] j = false := by
  unfold SetTable.has
  simp
theorem probe_ok {t : SetTable} {f : Nat → Int} {h : Int} (hd : t.dummies = #[]) : ∀ (fuel : Nat) (p : SetTable.Probe) (j : Nat) (d : Option Nat), p.dummy = none → SetTable.probe.go t f h fuel p = some (.empty j d) → d = none ∧ t.place[SetTable.below t.place j]? ≠ some j := by
  intro fuel
  induction fuel with
  | zero => intro p j d _ e; unfold SetTable.probe.go at e; cases e
  | succ fuel ih =>
    intro p j d hp e
    unfold SetTable.probe.go at e
    have hs : t.slot p.j = (if t.place[SetTable.below t.place p.j]? == some p.j then SetTable.Slot.live (SetTable.below t.place p.j) else SetTable.Slot.empty) := by
      unfold SetTable.slot
      dsimp only
      rw [hd, has_empty]
      rfl
    rw [hs] at e
    have adv : (t.advance p).dummy = none := by
      unfold SetTable.advance
      split
      · exact hp
      · exact hp
    by_cases c : (t.place[SetTable.below t.place p.j]? == some p.j) = true
    · rw [if_pos c] at e
      dsimp only at e
      split at e
      · cases e
      · exact ih _ _ _ adv e
    · rw [if_neg c] at e
      dsimp only at e
      cases e
      exact ⟨hp, fun z => c (by rw [z]; simp)⟩
theorem free_ok {t : SetTable} {h : Int} {j : Nat} {b : Bool} (hd : t.dummies = #[]) (e : t.freeSlot h = some (j, b)) : t.place[SetTable.below t.place j]? ≠ some j := by
  unfold SetTable.freeSlot SetTable.probe at e
  split at e
  · rename_i j' d hq
    obtain ⟨rfl, z⟩ := probe_ok hd _ _ _ _ rfl hq
    cases e
    exact z
  · cases e
theorem TabOk.standIn {led : Bool} {t : SetTable} (h : TabOk led t) (n : Nat) : TabOk led (t.standIn n) := ⟨h.led, rfl, rise_range n⟩
theorem TabOk.plainOff {led : Bool} {t : SetTable} (h : TabOk led t) : TabOk led { t with plain := false } := ⟨h.led, h.dum, h.rise⟩
theorem TabOk.layNew {led : Bool} {t : SetTable} (h : TabOk led t) (es : Array (Int × Value)) (k : Int) (x : Value) : TabOk led (layNew t es k x).2.1 := by
  unfold PySem.layNew
  split
  · rename_i j b e
    dsimp only
    have z := free_ok h.dum e
    have q : TabOk led (t.put j).1 := by
      unfold SetTable.put
      refine ⟨h.led, ?_, rise_put h.rise z⟩
      dsimp only
      rw [h.dum, has_empty]
      rfl
    unfold SetTable.orStandIn
    split
    · exact q
    · exact q.standIn _
  · exact h.standIn _
theorem rise_live (owner : Array (Option Nat)) (m : Nat) : Rise (((List.range m).filterMap fun j => (owner.getD j none).map (j, ·)).map (·.1)).toArray := by
  unfold Rise
  have e : ((List.range m).filterMap fun j => (owner.getD j none).map (j, ·)).map (·.1) = (List.range m).filter fun j => (owner.getD j none).isSome := by
    induction List.range m with
    | nil => rfl
    | cons a l ih =>
      rw [List.filterMap_cons, List.filter_cons]
      cases q : owner.getD a none with
      | none => simpa [q] using ih
      | some y => simpa [q] using ih
  simp only [e]
  exact List.Pairwise.sublist List.filter_sublist List.pairwise_lt_range
theorem TabOk.relay {led : Bool} {t : SetTable} (h : TabOk led t) (es : Array (Int × Value)) (n : Nat) : TabOk led (relayAll t es n).2.1 := by
  unfold relayAll
  split
  · rename_i t' order e
    dsimp only
    split
    · unfold SetTable.relaid SetTable.laid at e
      simp only [Option.bind_eq_bind, Option.bind_eq_some_iff] at e
      obtain ⟨owner, _, e2⟩ := e
      cases e2
      exact ⟨h.led, rfl, rise_live owner _⟩
    · exact h.standIn _
  · exact h.standIn _
/-! ### orders -/
theorem erase_perm {α : Type} : ∀ (l : List α) (i : Nat) (h : i < l.length), (l[i] :: l.eraseIdx i).Perm l
  | [], i, h => by simp at h
  | a :: l, 0, h => by simp
  | a :: l, i + 1, h => by
    have hi : i < l.length := by simpa using h
    have := erase_perm l i hi
    simp only [List.getElem_cons_succ, List.eraseIdx_cons_succ]
    exact (List.Perm.swap _ _ _).trans (this.cons a)
theorem pick_go {α : Type} (next : Nat → Nat) : ∀ (fuel k : Nat) (left : List α) (out : Array α), left.length = fuel → (pickOrder.go next fuel k left out).toList.Perm (out.toList ++ left) := by
  intro fuel
  induction fuel with
  | zero =>
    intro k left out hl
    rw [List.length_eq_zero_iff.mp hl]
    unfold pickOrder.go
    simp
  | succ fuel ih =>
    intro k left out hl
    have hi : next k % left.length < left.length := Nat.mod_lt _ (by omega)
    unfold pickOrder.go
    rw [List.getElem?_eq_getElem hi]
    dsimp only
    refine (ih _ _ _ (by rw [List.length_eraseIdx_of_lt hi]; omega)).trans ?_
    rw [Array.toList_push, List.append_assoc]
    refine List.Perm.append_left _ ?_
    exact erase_perm _ _ hi
theorem pick_perm {α : Type} (next : Nat → Nat) (xs : Array α) : (pickOrder next xs).toList.Perm xs.toList := by
  have := pick_go next xs.size 0 xs.toList #[] (by simp)
  unfold pickOrder
  simpa using this
theorem draw_ok {M : Model} {A : Around} {E : Value → Shared → Prop} {α : Type} : ∀ (n : Nat) (xs : List α) (s : Shared) (Q : List α → Shared → Prop), xs.length = n →
    (∀ ys d, List.Perm ys xs → Q ys { s with drawn := d }) → wpAny M A (drawOrder n xs) Q E s := by
  intro n
  induction n with
  | zero =>
    intro xs s Q hl h
    unfold drawOrder
    have e : xs = [] := List.length_eq_zero_iff.mp hl
    subst e
    exact wpAny_pure (h [] s.drawn .nil)
  | succ n ih =>
    intro xs s Q hl h
    cases xs with
    | nil => cases hl
    | cons x r =>
      unfold drawOrder
      refine wpAny_bind (m := choose .order (x :: r).length) ?_
      intro Γ p hΓ
      show Sem.wp M Γ (.choose .order (x :: r).length .pure) _ _ p s
      rw [Sem.wp_choose]
      refine ⟨by simp, ?_⟩
      generalize hg : M.w.draws .order (s.drawn.get .order) % (x :: r).length = i
      have hi : i < (x :: r).length := by rw [← hg]; exact Nat.mod_lt _ (by simp)
      have g : wpAny M A (do
          match (x :: r)[i]? with
          | some y => return y :: (← drawOrder n ((x :: r).eraseIdx i))
          | none => unsupported "internal:drawOrder") Q E { s with drawn := s.drawn.bump .order } := by
        rw [List.getElem?_eq_getElem hi]
        dsimp only
        refine wpAny_bind (ih _ _ _ (by rw [List.length_eraseIdx_of_lt hi]; simp at hl ⊢; omega) fun ys d hp => wpAny_pure ?_)
        exact h _ d ((List.Perm.cons _ hp).trans (erase_perm _ _ hi))
      trace_state
      exact g
end L2
end

section
set_option Elab.async false
set_option linter.all false
set_option maxRecDepth 100000
set_option maxHeartbeats 4000000
namespace L2
open PySem PySem.Spec PyProof.Rows
theorem paired_perm {α β : Type} {F : α → β → Prop} {l l' : List α} (p : List.Perm l' l) : ∀ {ms : List β}, PySem.Paired F l ms → ∃ ms', List.Perm ms' ms ∧ PySem.Paired F l' ms' := by
  replace p := p.symm
  induction p with
  | nil => intro ms h; exact ⟨ms, .refl _, h⟩
  | cons x _ ih =>
    intro ms h
    cases h with
    | cons f t =>
      obtain ⟨ms', q, r⟩ := ih t
      exact ⟨_ :: ms', q.cons _, .cons f r⟩
  | swap x y l =>
    intro ms h
    cases h with
    | cons f t =>
      cases t with
      | cons g u => exact ⟨_, List.Perm.swap _ _ _, .cons g (.cons f u)⟩
  | trans _ _ ih1 ih2 =>
    intro ms h
    obtain ⟨m1, p1, r1⟩ := ih1 h
    obtain ⟨m2, p2, r2⟩ := ih2 r1
    exact ⟨m2, p2.trans p1, r2⟩
theorem nodup_len {κ : Type} [DecidableEq κ] : ∀ {l l' : List κ}, l.Nodup → (∀ x ∈ l, x ∈ l') → l.length ≤ l'.length
  | [], _, _, _ => Nat.zero_le _
  | a :: t, l', n, h => by
    have n := List.nodup_cons.mp n
    have ha := h a List.mem_cons_self
    have := nodup_len (l := t) (l' := l'.erase a) n.2 fun x hx => (List.mem_erase_of_ne (show x ≠ a from fun e => n.1 (e ▸ hx))).mpr (h x (List.mem_cons_of_mem _ hx))
    rw [List.length_erase_of_mem ha] at this
    have hp : 0 < l'.length := List.length_pos_of_mem ha
    rw [List.length_cons]
    omega
section
variable {prog : Program} {w : World} {κ : Type} [DecidableEq κ] (knd : PySem.KeyKind prog w κ)
/-- a set of the kinds of ks, with a table that is known -/
structure SetD (h : Heap) (a : Addr) (ks : List κ) (o : Obj) (es : Array (Int × Value)) (ep : Nat) (t : SetTable) (ms : List κ) : Prop where
  at' : h.get? a = some o
  ex : o.ExactSet
  dat : o.data = .set es ep t
  el : ElemsOf knd es.toList
  pr : PySem.Paired (fun e k => knd.is k e.2 = true) es.toList ms
  nd : ms.Nodup
  mem : ∀ k, k ∈ ms ↔ k ∈ ks
  sm : es.size < scanBound
  fit : t.fits es.size = true
  tab : TabOk (!w.params.followText "set-order") t
def SetT (h : Heap) (a : Addr) (ks : List κ) : Prop := ∃ o es ep t ms, SetD knd h a ks o es ep t ms
variable {knd}
variable {A : Around} {E : Value → Shared → Prop} {s : Shared} {a : Addr} {ks : List κ} {k : κ} {x : Value}
theorem SetD.keep {h h' : Heap} {o es ep t ms} (S : SetD knd h a ks o es ep t ms) (k : h'.get? a = some o) : SetD knd h' a ks o es ep t ms := ⟨k, S.ex, S.dat, S.el, S.pr, S.nd, S.mem, S.sm, S.fit, S.tab⟩
theorem SetT.keep {h h' : Heap} (S : SetT knd h a ks) (k : ∀ o, h.get? a = some o → h'.get? a = some o) : SetT knd h' a ks := by
  obtain ⟨o, es, ep, t, ms, D⟩ := S
  exact ⟨o, es, ep, t, ms, D.keep (k o D.at')⟩
theorem SetT.congr {h : Heap} {ks' : List κ} (S : SetT knd h a ks) (e : ∀ k, k ∈ ks ↔ k ∈ ks') : SetT knd h a ks' := by
  obtain ⟨o, es, ep, t, ms, D⟩ := S
  exact ⟨o, es, ep, t, ms, ⟨D.at', D.ex, D.dat, D.el, D.pr, D.nd, fun k => (D.mem k).trans (e k), D.sm, D.fit, D.tab⟩⟩
theorem SetD.size {h : Heap} {o es ep t ms} (S : SetD knd h a ks o es ep t ms) : es.size = ms.length := by rw [← PySem.Paired.length S.pr]; simp
theorem SetD.put {h : Heap} {o es ep t ms} (S : SetD knd h a ks o es ep t ms) {es' : Array (Int × Value)} {t' : SetTable} {ms' ks' : List κ} (e1 : ElemsOf knd es'.toList) (e2 : PySem.Paired (fun e k => knd.is k e.2 = true) es'.toList ms') (e3 : ms'.Nodup)
    (e4 : ∀ k, k ∈ ms' ↔ k ∈ ks') (e5 : es'.size < scanBound) (e6 : t'.fits es'.size = true) (e7 : TabOk (!w.params.followText "set-order") t') :
    ∃ o', SetD knd (h.update a (Obj.putSet es' t')) a ks' o' es' (ep + 1) t' ms' := by
  have hg := Heap.get?_update_self (Obj.putSet es' t') S.at' (by rw [putSet_of es' t' S.dat]; rfl)
  rw [putSet_of es' t' S.dat] at hg
  exact ⟨_, hg, S.ex, rfl, e1, e2, e3, e4, e5, e6, e7⟩
theorem is_in {l : List (Int × Value)} {ms : List κ} (p : PySem.Paired (fun e k => knd.is k e.2 = true) l ms) : k ∈ ms ↔ ∃ e ∈ l, knd.is k e.2 = true := by
  induction p with
  | nil => simp
  | cons f _ ih =>
    rename_i e m l ms _
    rw [List.mem_cons, ih]
    constructor
    · rintro (rfl | ⟨e', h1, h2⟩)
      · exact ⟨e, List.mem_cons_self, f⟩
      · exact ⟨e', List.mem_cons_of_mem _ h1, h2⟩
    · rintro ⟨e', h1, h2⟩
      rcases List.mem_cons.mp h1 with rfl | h1
      · exact .inl (knd.inj _ _ _ h2 f)
      · exact .inr ⟨e', h1, h2⟩
/-- the end of an add: stored, and laid anew where the table is too full -/
theorem add_tail {g : Bool → Sem Unit} (hg : ∀ (b : Bool) (s₁ : Shared) (Q' : Unit → Shared → Prop), Q' () s₁ → wpAny (model prog w) A (g b) Q' E s₁) {o es ep t ms} (S : SetD knd s.heap a ks o es ep t ms)
    {es1 : Array (Int × Value)} {t1 : SetTable} {ms1 ks1 : List κ} (e1 : ElemsOf knd es1.toList) (e2 : PySem.Paired (fun e k => knd.is k e.2 = true) es1.toList ms1) (e3 : ms1.Nodup)
    (e4 : ∀ k, k ∈ ms1 ↔ k ∈ ks1) (e5 : es1.size < scanBound) (e6 : t1.fits es1.size = true) (e7 : TabOk (!w.params.followText "set-order") t1) {dm : Bool} {R : Option Bool → Shared → Prop}
    (h : ∀ h', Heap.SameBut a s.heap h' → SetT knd h' a ks1 → R (some true) { s with heap := h' }) :
    wpAny (model prog w) A (do
      storeSet a es1 t1
      if (!dm && t1.tooFull) = true then do
        g (relayAll t1 es1 (SetTable.grown es1.size)).2.2
        storeSet a (relayAll t1 es1 (SetTable.grown es1.size)).1 (relayAll t1 es1 (SetTable.grown es1.size)).2.1
        pure (some true)
      else pure (some true)) R E s := by
  refine wpAny_bind (wpAny_storeSet_of S.at' S.dat ?_ (fits_of_scanBound e5))
  obtain ⟨o1, S1⟩ := S.put e1 e2 e3 e4 e5 e6 e7
  have b1 := Heap.SameBut.update s.heap a (Obj.putSet es1 t1)
  by_cases c : (!dm && t1.tooFull) = true
  · rw [if_pos c]
    have p2 := relayAll_perm t1 es1 (SetTable.grown es1.size)
    have f2 := relayAll_fits t1 es1 (SetTable.grown es1.size)
    have q2 := e7.relay es1 (SetTable.grown es1.size)
    generalize relayAll t1 es1 (SetTable.grown es1.size) = Rl at p2 f2 q2 ⊢
    obtain ⟨es2, t2, gv⟩ := Rl
    dsimp only at p2 f2 q2 ⊢
    obtain ⟨ms2, pm, r2⟩ := paired_perm p2 e2
    have hz : es2.size = es1.size := by have := p2.length_eq; simpa using this
    refine wpAny_bind (hg _ _ _ ?_)
    refine wpAny_bind (wpAny_storeSet_of S1.at' S1.dat ?_ (fits_of_scanBound (by omega)))
    obtain ⟨o2, S2⟩ := S1.put (e1.perm p2) r2 (pm.nodup_iff.mpr e3) (fun k => pm.mem_iff.trans (e4 k)) (by omega) f2 q2
    exact wpAny_pure (h _ (b1.trans (Heap.SameBut.update _ a _)) ⟨_, _, _, _, _, S2⟩)
  · rw [if_neg c]
    exact wpAny_pure (h _ b1 ⟨_, _, _, _, _, S1⟩)
theorem add_hashed {Q : Bool → Shared → Prop} (hk : knd.is k x = true) (hx : x.scannable = true) (S : SetT knd s.heap a ks) (hr : ks.length + 1 < scanBound)
    (h : ∀ b h', Heap.SameBut a s.heap h' → SetT knd h' a (ks ++ [k]) → Q b { s with heap := h' }) : wpAny (model prog w) A (setAddHashed a x (knd.hash k)) Q E s := by
  obtain ⟨o, es, ep, t, ms, D⟩ := S
  have hz := D.size
  have hml : ms.length ≤ ks.length := nodup_len D.nd fun k hk => (D.mem k).mp hk
  unfold setAddHashed setAddHashedIn
  refine wpAny_holding (wpAny_bind (wpAny_setState_of D.at' D.dat D.fit ?_))
  dsimp only
  rw [byScan_of hx D.sm D.el, if_pos rfl]
  unfold setAddByScan
  refine wpAny_bind (wpAny_bind (wpAny_rule (wpAny_bind (wpAny_setScan_of hk D.at' D.dat D.fit D.el ?_))))
  cases hf : List.findIdx? (fun e => knd.is k e.2) es.toList with
  | some j =>
    dsimp only
    obtain ⟨hj, pj, _⟩ := List.findIdx?_eq_some_iff_getElem.mp hf
    have hin : k ∈ ms := (is_in D.pr).mpr ⟨_, List.getElem_mem hj, pj⟩
    refine wpAny_pure (wpAny_pure ?_)
    have q := h false s.heap (Heap.SameBut.refl a s.heap) (SetT.congr ⟨o, es, ep, t, ms, D⟩ fun k' => ?_)
    · cases s; exact q
    · rw [List.mem_append, List.mem_singleton]
      exact ⟨.inl, fun z => z.elim id fun z => by subst z; exact (D.mem _).mp hin⟩
  | none =>
    dsimp only
    have hout : ¬ k ∈ ms := fun z => by
      obtain ⟨e, he, q⟩ := (is_in D.pr).mp z
      have := List.findIdx?_eq_none_iff.mp hf e he
      rw [q] at this; cases this
    have p1 := layNew_perm t es (knd.hash k) x
    have f1 := layNew_fits t es (knd.hash k) x
    have q1 := D.tab.layNew es (knd.hash k) x
    generalize layNew t es (knd.hash k) x = L at p1 f1 q1 ⊢
    obtain ⟨es1, t1, dm, gv⟩ := L
    dsimp only at p1 f1 q1 ⊢
    rw [Array.toList_push] at p1
    have e1 := (D.el.push hk hx).perm p1
    obtain ⟨ms1, pm, r1⟩ := paired_perm p1 (D.pr.snoc (F := fun (e : Int × Value) k => knd.is k e.2 = true) hk)
    have z1 : es1.size = es.size + 1 := by have := p1.length_eq; simpa using this
    have e3 : ms1.Nodup := pm.nodup_iff.mpr (List.nodup_append.mpr ⟨D.nd, by simp, fun y hy z hz => by rw [List.mem_singleton] at hz; subst hz; exact fun e => hout (e ▸ hy)⟩)
    have e4 : ∀ k', k' ∈ ms1 ↔ k' ∈ ks ++ [k] := fun k' => by rw [pm.mem_iff, List.mem_append, List.mem_append, D.mem]
    have gw : ∀ (b : Bool) (s₁ : Shared) (Q' : Unit → Shared → Prop), Q' () s₁ → wpAny (model prog w) A (match b with | true => rule "set.scan.the-table-gave-way" | false => pure ()) Q' E s₁ := fun b s₁ Q' q => by
      cases b
      · exact wpAny_pure q
      · exact wpAny_rule q
    refine wpAny_bind (gw _ _ _ ?_)
    have fin : ∀ h', Heap.SameBut a s.heap h' → SetT knd h' a (ks ++ [k]) → wpAny (model prog w) A (pure true) Q E { s with heap := h' } := fun h' b S' => wpAny_pure (h true h' b S')
    split
    · refine wpAny_bind ?_
      rw [hashByValue_scannable 8 hx]
      refine wpAny_pure ?_
      refine add_tail gw D e1 r1 e3 e4 (by omega) (by split; exact f1; exact SetTable.fits_plain_off f1) (by split; exact q1; exact q1.plainOff) ?_
      intro h' b S'
      exact fin h' b S'
    · refine wpAny_bind (wpAny_pure ?_)
      rw [if_pos rfl]
      refine add_tail gw D e1 r1 e3 e4 (by omega) f1 q1 ?_
      intro h' b S'
      exact fin h' b S'
end
end L2
end

section
set_option Elab.async false
set_option linter.all false
set_option maxRecDepth 100000
set_option maxHeartbeats 4000000
namespace L2
open PySem PySem.Spec PyProof.Rows
section
variable {prog : Program} {w : World} {κ : Type} [DecidableEq κ] {knd : PySem.KeyKind prog w κ}
theorem set_loop {A : Around} {R : Result → Shared → Prop} {I : Addr} {fp wr : List Addr} {G : Array GenState → Array GenState → Prop} {n : Nat} {P : Nat → Value → Prop} {St : Nat → Shared → Prop} (W : WalksS prog w A.in1 I fp wr G n P St) (S : Addr) (hSf : S ∉ fp)
    (ks : List κ) (hn : ks.length = n) (hv : ∀ i v, P i v → ∃ k, ks[i]? = some k ∧ knd.is k v = true ∧ v.scannable = true) (hb : n + 1 < scanBound) :
    ∀ (j i : Nat) (s : Shared), n - i = j → i ≤ n → St i s → SetT knd s.heap S (ks.take i) → (∀ s', Moved (S :: wr) G s s' → SetT knd s'.heap S ks → R (.ok (.ret .none)) s') →
      codeAny (model prog w) A (.builtin "set.update.loop" ⟨[.ref S, .ref I], []⟩) R s := by
  have hSw : S ∉ wr := fun h => hSf (W.sub _ h)
  have sub : ∀ b ∈ wr, b ∈ S :: wr := fun b hb => List.mem_cons_of_mem _ hb
  intro j
  induction j with
  | zero =>
    intro i s hj hi st hS hR
    have e : i = n := by omega
    subst e
    refine codeAny_builtin PyProof.Rows.F.entry_set_update_loop ?_
    rw [Around.under_plainId PyProof.Rows.F.plain_set_update_loop _]
    refine wpAny_bind (m := pyNext (.ref I)) (W.done s _ _ st fun s' mv => ?_)
    refine wpAny_pure (hR s' (mv.mono sub) ?_)
    rw [List.take_of_length_le (by omega)] at hS
    exact hS.keep fun o q => mv.heap S o hSw q
  | succ j ih =>
    intro i s hj hi st hS hR
    have hlt : i < n := by omega
    refine codeAny_builtin PyProof.Rows.F.entry_set_update_loop ?_
    rw [Around.under_plainId PyProof.Rows.F.plain_set_update_loop _]
    refine wpAny_bind (m := pyNext (.ref I)) (W.item i s _ _ hlt st fun v s' hP st' mv => ?_)
    obtain ⟨k, ek, hk, hx⟩ := hv i v hP
    have hS' : SetT knd s'.heap S (ks.take i) := hS.keep fun o q => mv.heap S o hSw q
    show wpAny _ A.in1 (holding [v] (setAdd S v) >>= _) _ _ s'
    refine wpAny_bind (wpAny_holding ?_)
    unfold setAdd
    refine wpAny_holding (wpAny_bind (knd.pyHash (k := k) hk ?_))
    refine add_hashed (s := { s' with toks := s'.toks + 1 }) hk hx hS' (by rw [List.length_take]; omega) fun b h' sb S2 => ?_
    have et : ks.take (i + 1) = ks.take i ++ [k] := by rw [List.take_add_one, ek]; rfl
    refine wpAny_pure ⟨plainId_quiet PyProof.Rows.F.plain_set_update_loop _, ih (i + 1) _ (by omega) hlt (W.frame _ s' _ _ st' (Nat.le_succ _) fun b hb o q => ?_) (by rw [et]; exact S2) fun s'' mv'' S'' => ?_⟩
    · exact (sb.2 b (fun z : b = S => hSf (z ▸ hb))).trans q
    · refine hR s'' (Moved.trans W.gtrans ((mv.mono sub).then_heap (Nat.le_succ _) fun b o hb q => ?_) mv'') S''
      exact (sb.2 b (fun z : b = S => hb (by rw [z]; exact List.mem_cons_self))).trans q
variable {A : Around} {E : Value → Shared → Prop} {s : Shared}
abbrev setNew (w : World) : Obj := { cls := .type "set", dict := none, data := .set #[] 0 (.fresh 0 0 (!w.params.followText "set-order")) }
theorem code_setNew (a : Value) {Q : Value → Shared → Prop} (h : Q (.ref s.heap.objs.size) { s with heap := s.heap.push (setNew w) }) :
    codeAny (model prog w) A (.call (.builtin "set.__new__") ⟨[.type "set", a], []⟩) (wants Q E) s := by
  refine codeAny_of_tree ?_
  refine wpAny_bind (m := checkBuiltinCall "set.__new__" ⟨[.type "set", a], []⟩) (wpAny_of_eq (PySem.F.newCall_set_1 a) (wpAny_pure ⟨plainId_quiet PySem.F.plain_set_new _, codeAny_builtin PySem.F.entry_set_new ?_⟩))
  rw [Around.under_plainId PySem.F.plain_set_new _]
  unfold Builtin.«set.__new__» Builtin.Frozenset.newClass
  have hsub := sub_set_self
  obtain ⟨hp, g, d, tk, os⟩ := s
  dsimp only
  wp_walk
  refine wpAny_askSetting (wpAny_pure ?_)
  dsimp only
  simp only [newObj]
  refine wpAny_bind (wpAny_alloc (wpAny_pure ?_))
  exact wpAny_pure h
theorem setNew_ok {h : Heap} {a : Addr} (e : h.get? a = some (setNew w)) : SetT knd h a [] :=
  ⟨_, #[], 0, _, [], e, ⟨rfl, rfl, rfl⟩, rfl, fun e he => by simp at he, .nil, by simp, fun k => Iff.rfl, by decide, rfl, ⟨rfl, rfl, by unfold Rise; exact .nil⟩⟩
end
end L2
end

section
set_option Elab.async false
set_option linter.all false
set_option maxRecDepth 100000
set_option maxHeartbeats 4000000
namespace L2
open PySem PySem.Spec PyProof.Rows
section
variable {prog : Program} {w : World} {κ : Type} [DecidableEq κ] {knd : PySem.KeyKind prog w κ} {A : Around} {E : Value → Shared → Prop} {s : Shared}
/-- what set(l) leaves -/
def MadeSet (knd : PySem.KeyKind prog w κ) (s : Shared) (ks : List κ) (s2 : Shared) : Prop := ∃ h' tk, s2 = { s with heap := h', toks := tk } ∧ SetT knd h' s.heap.objs.size ks ∧ ∀ b o, b < s.heap.objs.size → s.heap.get? b = some o → h'.get? b = some o
theorem init_set {l : Addr} {items : Array Value} {ks : List κ} (hh : A.handled = none) (hl : s.heap.IsList l items) (hn : ks.length = items.size) (hv : ∀ (i : Nat) (v : Value), items[i]? = some v → ∃ k, ks[i]? = some k ∧ knd.is k v = true ∧ v.scannable = true) (hb : items.size + 1 < scanBound)
    {Q : Unit → Shared → Prop} (h : ∀ s2, MadeSet knd s ks s2 → Q () s2) :
    wpAny (model prog w) A (Builtin.Frozenset.updateFrom "set.__init__" s.heap.objs.size (.ref l)) Q E { s with heap := s.heap.push (setNew w) } := by
  obtain ⟨ol, hol, hcl, nl, hdl⟩ := id hl
  have hol' := Heap.get?_push_of_some (setNew w) hol
  have ty : Shared.TypeIs { s with heap := s.heap.push (setNew w) } (.ref l) "list" := ⟨ol, hol', hcl⟩
  have hll : l < s.heap.objs.size := Heap.lt_size hol
  have hl1 : (s.heap.push (setNew w)).IsList l items := ⟨_, hol', hcl, nl, hdl⟩
  have f1 := PySem.F.sub_list_set
  have f2 := PySem.F.sub_list_frozenset
  unfold Builtin.Frozenset.updateFrom
  refine wpAny_bind (m := Builtin.Frozenset.isAnySet (.ref l)) ?_
  have e0 : Builtin.Frozenset.isAnySet (.ref l) = (isInstance (.ref l) (.type "set") >>= fun b => if b = true then pure true else isInstance (.ref l) (.type "frozenset")) := by
    unfold Builtin.Frozenset.isAnySet orM toBool
    congr 1
    funext b
    cases b <;> rfl
  rw [e0]
  refine wpAny_bind (wpAny_isInstance ty f1 ?_)
  rw [if_neg Bool.false_ne_true]
  refine wpAny_isInstance ty f2 ?_
  rw [if_neg Bool.false_ne_true]
  refine wpAny_bind (wpAny_typeOf ty ?_)
  rw [if_neg (by decide)]
  refine wpAny_bind (wpAny_pyIter_list hl1 ?_)
  refine wpAny_bind (wpAny_runValue ?_)
  have hh3 : A.in1.handled = none := hh
  have hne : l ≠ (s.heap.push (setNew w)).objs.size := by rw [Heap.size_push]; exact Nat.ne_of_lt (Nat.lt_succ_of_lt hll)
  have hSf : s.heap.objs.size ∉ [(s.heap.push (setNew w)).objs.size, l] := by
    rw [Heap.size_push]
    simp only [List.mem_cons, List.not_mem_nil, or_false, not_or]
    exact ⟨Nat.ne_of_lt (Nat.lt_succ_self _), Nat.ne_of_gt hll⟩
  refine set_loop (knd := knd) ((Walks.list hh3 _ l hne items).toS) s.heap.objs.size hSf ks hn hv hb (items.size - 0) 0 _ (by omega) (Nat.zero_le _) ⟨⟨_, Heap.get?_push_size _ rfl, rfl, rfl⟩, hl1.push _⟩ ?_ ?_
  · exact setNew_ok (Heap.get?_push_of_some _ (Heap.get?_push_size _ rfl))
  · intro s' mv S'
    refine wpAny_pure (h _ ⟨s'.heap, s'.toks, ?_, S', fun b o hb e => ?_⟩)
    · obtain ⟨h', g', d', tk', os'⟩ := s'
      have eg : g' = s.gens := mv.gens
      have ed : d' = s.drawn := mv.drawn
      have eo : os' = s.os := mv.os
      subst eg ed eo
      rfl
    · refine mv.heap b o ?_ (Heap.get?_push_of_some _ (Heap.get?_push_of_some _ e))
      rw [Heap.size_push]
      simp only [List.mem_cons, List.not_mem_nil, or_false, not_or]
      exact ⟨Nat.ne_of_lt hb, Nat.ne_of_lt (Nat.lt_succ_of_lt hb)⟩
theorem call_setT {l : Addr} {items : Array Value} {ks : List κ} {Q : Value → Shared → Prop} (hh : A.handled = none) (hl : s.heap.IsList l items) (hn : ks.length = items.size) (hv : ∀ (i : Nat) (v : Value), items[i]? = some v → ∃ k, ks[i]? = some k ∧ knd.is k v = true ∧ v.scannable = true)
    (hb : items.size + 1 < scanBound) (h : ∀ s2, MadeSet knd s ks s2 → Q (.ref s.heap.objs.size) s2) : wpAny (model prog w) A (call (.type "set") [.ref l]) Q E s := by
  obtain ⟨c, tl, hm⟩ := PySem.F.called_set.mro
  have q1 := PySem.F.called_set.made
  have q2 := PySem.F.called_set.sub
  refine wpAny_call (codeAny_of_tree ?_)
  refine wpAny_pure ⟨Code.quiet_builtin _ (by decide +kernel), codeAny_builtin PySem.F.entry_type_call ?_⟩
  rw [Around.under_plain (weight_type_call_type "set" [.ref l] []) rfl]
  have q3 := PySem.F.called_set.notType
  have q4 := PySem.F.called_set.canCreate
  have q5 := PySem.F.typeCall_set_1 (.ref l)
  repeat any_goals (first | wp_step | assumption)
  refine codeAny_mono (code_setNew (w := w) (.ref l) (E := E) (Q := fun obj s₁ => obj = .ref s.heap.objs.size ∧ s₁ = { s with heap := s.heap.push (setNew w) }) ⟨rfl, rfl⟩) fun r s₁ hr => ?_
  cases r with
  | error e => exact hr
  | ok fl =>
    cases fl with
    | ret obj =>
      obtain ⟨rfl, rfl⟩ := hr
      have hS : (s.heap.push (setNew w)).get? s.heap.objs.size = some (setNew w) := Heap.get?_push_size _ rfl
      have ty : Shared.TypeIs { s with heap := s.heap.push (setNew w) } (.ref s.heap.objs.size) "set" := ⟨_, hS, rfl⟩
      have q6 := PySem.F.called_set.init.lookup
      have q7 := PySem.F.called_set.init.bind (.ref s.heap.objs.size)
      repeat any_goals (first | wp_step | assumption)
      refine codeAny_mono (codeAny_call_builtin (R := wants (fun r s₂ => r = .none ∧ MadeSet knd s ks s₂) E) PySem.F.called_set.init.plain PySem.F.entry_set_init (check_set_init_1 ty ?_)) fun r₂ s₂ hr₂ => ?_
      · unfold Builtin.«set.__init__» noKeywords
        generalize hU : Builtin.Frozenset.updateFrom = U
        have ready : wpAny (model prog w) A.in1.in1 (U "set.__init__" s.heap.objs.size (.ref l)) (fun _ s2 => MadeSet knd s ks s2) (fun e s' => wants (fun r s₂ => r = .none ∧ MadeSet knd s ks s₂) E (.error e) s') { s with heap := s.heap.push (setNew w) } := by
          rw [← hU]
          exact init_set (A := A.in1.in1) hh hl hn hv hb fun s2 m => m
        wp_walk
        refine wpAny_mono ready (fun _ s2 m => ?_) fun _ _ q => q
        exact wpAny_pure ⟨rfl, m⟩
      · cases r₂ with
        | error e => exact hr₂
        | ok fl₂ =>
          cases fl₂ with
          | ret r =>
            obtain ⟨rfl, m⟩ := hr₂
            have z := h _ m
            repeat any_goals (first | wp_step | assumption)
          | _ => exact hr₂.elim
    | _ => exact hr.elim
end
end L2
end

section
set_option Elab.async false
set_option linter.all false
set_option maxRecDepth 100000
set_option maxHeartbeats 4000000
namespace L2
open PySem PySem.Spec PyProof.Rows
theorem slot_seti_next : Slot "set_iterator" "__next__" "set_iterator.__next__" :=
  .of (owner := "set_iterator") (n := "__next__") (by rw [typeLookup_type, builtinLookup_eq_fast]; kernel_rfl) (by decide +kernel) (by decide +kernel) (by decide +kernel)
    (by first | exact .inl (by decide +kernel) | exact .inr (by decide +kernel)) (by rw [isSubtype_type]; kernel_rfl)
theorem entry_seti_next : entryFor table "set_iterator.__next__" = some Builtin.«set_iterator.__next__» := entryFor_of_tree (by kernel_rfl)
theorem owner_seti : Manifest.owners.lookup (String.ofList ['r', 'o', 't', 'a', 'r', 'e', 't', 'i', '_', 't', 'e', 's'].reverse) = some Manifest.sig_set_iterator := by kernel_rfl
theorem args_seti_next (a : Value) : argsOk "set_iterator.__next__" ⟨[a], []⟩ := by
  unfold argsOk
  rw [signature?_of (id := "set_iterator.__next__") (n := ['_', '_', 't', 'x', 'e', 'n', '_', '_']) (o := ['r', 'o', 't', 'a', 'r', 'e', 't', 'i', '_', 't', 'e', 's']) (by kernel_rfl) owner_seti]
  kernel_rfl
theorem entry_set_iter : entryFor table "set.__iter__" = some Builtin.«frozenset.__iter__» :=
  entryFor_alias (id' := "frozenset.__iter__") (by kernel_rfl) rfl (by decide +kernel) (by kernel_rfl)
abbrev itObj (first : Value) (i : Nat) (a : Addr) (n ep : Nat) : Obj := { cls := .type "set_iterator", dict := none, data := .fields #[first, .int i 0, .ref a, .int n 0, .int ep 0], slots := #[] }
section
variable {prog : Program} {w : World} {A : Around} {E : Value → Shared → Prop} {s : Shared} {I a : Addr} {i n ep : Nat} {Q : Option Value → Shared → Prop}
theorem stop_now {o : Obj} {vs : Array Value} {m : Nat} (hh : A.handled = none) (ho : s.heap.get? I = some o) (hd : o.data = .fields vs) (hm : m < vs.size) {R : PySem.Fin → Shared → Prop} {E' : Value → Shared → Prop}
    (h : ∀ x h', (⟨h', s.gens, s.drawn, s.toks, s.os⟩ : Shared).TypeIs x "StopIteration" → Heap.ExtBut I s.heap h' → E' x { s with heap := h' }) :
    wpAny (model prog w) A (do setField (.ref I) m .none; raiseNew (← newExc (.type "StopIteration") [])) R E' s := by
  refine wpAny_bind (wpAny_setField ho hd hm ?_)
  refine wpAny_bind (m := newExc (.type "StopIteration") []) ?_
  simp only [newExc, newTuple]
  refine wpAny_bind (wpAny_newObj_type ?_ (by size_fits))
  refine wpAny_bind (m := firstArgMember _ _) (wpAny_of_eq (a := Value.none) (by first | rfl | (simp only [firstArgMember]; rfl)) ?_)
  refine wpAny_newObj_type ?_ (by size_fits)
  simp only [raiseNew]
  refine wpAny_bind (wpAny_handled ?_)
  rw [hh]
  refine wpAny_bind (wpAny_pure (wpAny_throw ?_))
  exact h _ _ ⟨_, Heap.get?_push_size _ rfl, rfl⟩ (((Heap.SameBut.update ..).extBut.push _).push _)
theorem next_int {slot nx : Nat} {x : Value} (ho : s.heap.get? I = some (itObj (.int slot 0) i a n ep)) (hz : ∀ (A : Around) (E : Value → Shared → Prop) (Q : Array (Int × Value) → Shared → Prop), (∀ es, es.size = n → Q es s) → wpAny (model prog w) A (setEntries a) Q E s)
    (hN : ∀ (A : Around) (E : Value → Shared → Prop) (Q : Option (Value × Nat) → Shared → Prop), Q (some (x, nx)) s → wpAny (model prog w) A (setNext a slot i ep) Q E s)
    (hQ : ∀ h', h'.get? I = some (itObj (.int nx 0) (i + 1) a n ep) → Heap.SameBut I s.heap h' → Q (some x) { s with heap := h' }) : wpAny (model prog w) A (pyNext (.ref I)) Q E s := by
  have ty : s.TypeIs (.ref I) "set_iterator" := ⟨_, ho, rfl⟩
  unfold pyNext
  refine wpAny_bind (wpAny_attempt (wpAny_callSpecial?_slot (name := Str.ofString "__next__") ty slot_seti_next (wpAny_call_entry slot_seti_next ty entry_seti_next ?_ (args_seti_next _))))
  unfold Builtin.«set_iterator.__next__»
  refine wpAny_bind (m := slotArgs "__next__" 0 _) (wpAny_pure ?_)
  refine wpAny_bind (wpAny_fieldsOf ho rfl ?_)
  show wpAny _ _ (setEntries a >>= _) _ _ s
  refine wpAny_bind (hz _ _ _ fun es e => ?_)
  rw [if_neg (by rw [e]; simp)]
  show wpAny _ _ (setNext a (slot : Int).toNat (i : Int).toNat (ep : Int).toNat >>= _) _ _ s
  simp only [Int.toNat_natCast]
  refine wpAny_bind (hN _ _ _ ?_)
  dsimp only
  refine wpAny_bind (wpAny_setField_rec ho (by simp) fun h1 e1 b1 => ?_)
  refine wpAny_bind (wpAny_setField_rec (s := { s with heap := h1 }) e1 (by simp) fun h2 e2 b2 => ?_)
  refine wpAny_pure ⟨_, rfl, wpAny_pure (hQ h2 ?_ (b1.trans b2))⟩
  rw [e2]
  simp [rawInt]
theorem done_int {slot : Nat} (hh : A.handled = none) (ho : s.heap.get? I = some (itObj (.int slot 0) i a n ep)) (hz : ∀ (A : Around) (E : Value → Shared → Prop) (Q : Array (Int × Value) → Shared → Prop), (∀ es, es.size = n → Q es s) → wpAny (model prog w) A (setEntries a) Q E s)
    (hN : ∀ (A : Around) (E : Value → Shared → Prop) (Q : Option (Value × Nat) → Shared → Prop), Q none s → wpAny (model prog w) A (setNext a slot i ep) Q E s)
    (hQ : ∀ h', Heap.ExtBut I s.heap h' → Q none { s with heap := h' }) : wpAny (model prog w) A (pyNext (.ref I)) Q E s := by
  have ty : s.TypeIs (.ref I) "set_iterator" := ⟨_, ho, rfl⟩
  unfold pyNext
  refine wpAny_bind (wpAny_attempt (wpAny_callSpecial?_slot (name := Str.ofString "__next__") ty slot_seti_next (wpAny_call_entry slot_seti_next ty entry_seti_next ?_ (args_seti_next _))))
  unfold Builtin.«set_iterator.__next__»
  refine wpAny_bind (m := slotArgs "__next__" 0 _) (wpAny_pure ?_)
  refine wpAny_bind (wpAny_fieldsOf ho rfl ?_)
  show wpAny _ _ (setEntries a >>= _) _ _ s
  refine wpAny_bind (hz _ _ _ fun es e => ?_)
  rw [if_neg (by rw [e]; simp)]
  show wpAny _ _ (setNext a (slot : Int).toNat (i : Int).toNat (ep : Int).toNat >>= _) _ _ s
  simp only [Int.toNat_natCast]
  refine wpAny_bind (hN _ _ _ ?_)
  dsimp only
  refine stop_now (A := A.in1) hh ho rfl (by simp) fun x h' ty' b => ?_
  refine wpAny_bind (wpAny_isInstance (T := "StopIteration") (b := true) ty' isSubtype_stop ?_)
  exact wpAny_pure (hQ h' b)
theorem next_tup {tp : Addr} {pl : List Nat} {q : Nat} {x : Value} {h0 : Int} {es0 : Array (Int × Value)} {t : SetTable} (ho : s.heap.get? I = some (itObj (.ref tp) i a n ep)) (htp : s.heap.get? tp = some { cls := .type "tuple", data := .seq (pl.map fun (p : Nat) => rawInt p).toArray }) (hz : ∀ (A : Around) (E : Value → Shared → Prop) (Q : Array (Int × Value) → Shared → Prop), (∀ es, es.size = n → Q es s) → wpAny (model prog w) A (setEntries a) Q E s)
    (hS : ∀ (A : Around) (E : Value → Shared → Prop) (Q : Array (Int × Value) × Nat × SetTable → Shared → Prop), Q (es0, ep, t) s → wpAny (model prog w) A (setState a) Q E s)
    (hp : pl[i]? = some q) (hx : es0[q]? = some (h0, x)) (hQ : ∀ h', h'.get? I = some (itObj (.ref tp) (i + 1) a n ep) → Heap.SameBut I s.heap h' → Q (some x) { s with heap := h' }) : wpAny (model prog w) A (pyNext (.ref I)) Q E s := by
  have ty : s.TypeIs (.ref I) "set_iterator" := ⟨_, ho, rfl⟩
  unfold pyNext
  refine wpAny_bind (wpAny_attempt (wpAny_callSpecial?_slot (name := Str.ofString "__next__") ty slot_seti_next (wpAny_call_entry slot_seti_next ty entry_seti_next ?_ (args_seti_next _))))
  unfold Builtin.«set_iterator.__next__»
  refine wpAny_bind (m := slotArgs "__next__" 0 _) (wpAny_pure ?_)
  refine wpAny_bind (wpAny_fieldsOf ho rfl ?_)
  show wpAny _ _ (setEntries a >>= _) _ _ s
  refine wpAny_bind (hz _ _ _ fun es e => ?_)
  rw [if_neg (by rw [e]; simp)]
  show wpAny _ _ (seqItems? (.ref tp) >>= _) _ _ s
  refine wpAny_bind (wpAny_seqItems htp rfl ?_)
  dsimp only
  have hq : (pl.map fun (p : Nat) => rawInt p).toArray[(i : Int).toNat]? = some (rawInt q) := by simp [hp]
  rw [hq]
  show wpAny _ _ (setNextDrawn a (q : Int).toNat (ep : Int).toNat >>= _) _ _ s
  simp only [Int.toNat_natCast]
  unfold setNextDrawn
  refine wpAny_bind (wpAny_bind (hS _ _ _ ?_))
  dsimp only
  rw [if_neg (by simp), hx]
  refine wpAny_pure ?_
  refine wpAny_bind (wpAny_setField_rec ho (by simp) fun h1 e1 b1 => ?_)
  refine wpAny_pure ⟨_, rfl, wpAny_pure (hQ h1 ?_ b1)⟩
  rw [e1]
  simp [rawInt]
theorem done_tup {tp : Addr} {pl : List Nat} (hh : A.handled = none) (ho : s.heap.get? I = some (itObj (.ref tp) i a n ep)) (htp : s.heap.get? tp = some { cls := .type "tuple", data := .seq (pl.map fun (p : Nat) => rawInt p).toArray }) (hz : ∀ (A : Around) (E : Value → Shared → Prop) (Q : Array (Int × Value) → Shared → Prop), (∀ es, es.size = n → Q es s) → wpAny (model prog w) A (setEntries a) Q E s)
    (hp : pl[i]? = none) (hQ : ∀ h', Heap.ExtBut I s.heap h' → Q none { s with heap := h' }) : wpAny (model prog w) A (pyNext (.ref I)) Q E s := by
  have ty : s.TypeIs (.ref I) "set_iterator" := ⟨_, ho, rfl⟩
  unfold pyNext
  refine wpAny_bind (wpAny_attempt (wpAny_callSpecial?_slot (name := Str.ofString "__next__") ty slot_seti_next (wpAny_call_entry slot_seti_next ty entry_seti_next ?_ (args_seti_next _))))
  unfold Builtin.«set_iterator.__next__»
  refine wpAny_bind (m := slotArgs "__next__" 0 _) (wpAny_pure ?_)
  refine wpAny_bind (wpAny_fieldsOf ho rfl ?_)
  show wpAny _ _ (setEntries a >>= _) _ _ s
  refine wpAny_bind (hz _ _ _ fun es e => ?_)
  rw [if_neg (by rw [e]; simp)]
  show wpAny _ _ (seqItems? (.ref tp) >>= _) _ _ s
  refine wpAny_bind (wpAny_seqItems htp rfl ?_)
  dsimp only
  have hq : (pl.map fun (p : Nat) => rawInt p).toArray[(i : Int).toNat]? = none := by simpa using hp
  rw [hq]
  dsimp only
  refine wpAny_bind (wpAny_setField_rec ho (by simp) fun h1 e1 b1 => ?_)
  refine stop_now (s := { s with heap := h1 }) (A := A.in1) hh e1 rfl (by simp) fun x h' ty' b => ?_
  refine wpAny_bind (wpAny_isInstance (T := "StopIteration") (b := true) ty' isSubtype_stop ?_)
  exact wpAny_pure (hQ h' fun b' o' hb e => b b' o' hb (b1.extBut b' o' hb e))
end
end L2
end

section
set_option Elab.async false
set_option linter.all false
set_option maxRecDepth 100000
set_option maxHeartbeats 4000000
namespace L2
open PySem PySem.Spec PyProof.Rows
theorem slot_seti_iter : Slot "set_iterator" "__iter__" "set_iterator.__iter__" :=
  .of (owner := "set_iterator") (n := "__iter__") (by rw [typeLookup_type, builtinLookup_eq_fast]; kernel_rfl) (by decide +kernel) (by decide +kernel) (by decide +kernel)
    (by first | exact .inl (by decide +kernel) | exact .inr (by decide +kernel)) (by rw [isSubtype_type]; kernel_rfl)
theorem entry_seti_iter : entryFor table "set_iterator.__iter__" = some Builtin.«dict_keyiterator.__iter__» :=
  entryFor_alias (id' := "dict_keyiterator.__iter__") (by kernel_rfl) rfl (by decide +kernel) (by kernel_rfl)
theorem args_seti_iter (a : Value) : argsOk "set_iterator.__iter__" ⟨[a], []⟩ := by
  unfold argsOk
  rw [signature?_of (id := "set_iterator.__iter__") (n := ['_', '_', 'r', 'e', 't', 'i', '_', '_']) (o := ['r', 'o', 't', 'a', 'r', 'e', 't', 'i', '_', 't', 'e', 's']) (by kernel_rfl) owner_seti]
  kernel_rfl
section
variable {prog : Program} {w : World} {κ : Type} [DecidableEq κ] {knd : PySem.KeyKind prog w κ} {A : Around} {E : Value → Shared → Prop} {s : Shared} {a I : Addr} {ks : List κ} {o : Obj} {es : Array (Int × Value)} {ep : Nat} {t : SetTable} {ms : List κ}
theorem self_seti {Q : Value → Shared → Prop} (ty : s.TypeIs (.ref I) "set_iterator") (h : Q (.ref I) s) : wpAny (model prog w) A (pyIter (.ref I)) Q E s := by
  refine wpAny_pyIter_slot ty slot_seti_iter (wpAny_call_entry slot_seti_iter ty entry_seti_iter ?_ (args_seti_iter _))
  show wpAny _ _ (ret (.ref I)) _ _ s
  exact wpAny_pure ⟨_, rfl, "set_iterator", _, ty, slot_seti_next.lookup, h⟩
theorem by_text {Q : Bool → Shared → Prop} (h : Q (w.params.followText "set-order") s) : wpAny (model prog w) A setsByText Q E s := by
  unfold setsByText
  exact wpAny_bind (wpAny_askSetting (wpAny_pure h))
theorem SetD.state (D : SetD knd s.heap a ks o es ep t ms) {Q : Array (Int × Value) × Nat × SetTable → Shared → Prop} (h : Q (es, ep, t) s) : wpAny (model prog w) A (setState a) Q E s := wpAny_setState_of D.at' D.dat D.fit h
theorem SetD.entries (D : SetD knd s.heap a ks o es ep t ms) {Q : Array (Int × Value) → Shared → Prop} (h : Q es s) : wpAny (model prog w) A (setEntries a) Q E s := by
  unfold setEntries
  exact wpAny_bind (D.state (wpAny_pure h))
theorem next_text (D : SetD knd s.heap a ks o es ep t ms) (ft : w.params.followText "set-order" = true) {slot given : Nat} {Q : Option (Value × Nat) → Shared → Prop} (h : Q (((pickOrder (w.params.setOrder a ep) es)[given]?).map fun e => (e.2, slot)) s) :
    wpAny (model prog w) A (setNext a slot given ep) Q E s := by
  unfold setNext
  refine wpAny_bind (D.state ?_)
  dsimp only
  refine wpAny_bind (by_text ?_)
  rw [if_pos ft, if_neg (by simp)]
  refine wpAny_bind ?_
  unfold setWalk
  refine wpAny_bind (D.state ?_)
  dsimp only
  refine wpAny_bind (by_text ?_)
  rw [if_pos ft]
  refine wpAny_bind (wpAny_askSetting (wpAny_pure ?_))
  exact wpAny_pure h
theorem next_plain (D : SetD knd s.heap a ks o es ep t ms) (ft : w.params.followText "set-order" = false) (hd : (!t.plain && decide (es.size > 1)) = false) {slot given : Nat} {Q : Option (Value × Nat) → Shared → Prop}
    (h : Q (match es[SetTable.below t.place slot]?, t.place[SetTable.below t.place slot]? with | some (_, x), some j => some (x, j + 1) | _, _ => none) s) :
    wpAny (model prog w) A (setNext a slot given ep) Q E s := by
  have hl : t.led = true := by rw [D.tab.led, ft]; rfl
  unfold setNext
  refine wpAny_bind (D.state ?_)
  dsimp only
  refine wpAny_bind (by_text ?_)
  rw [if_neg (by rw [ft]; exact Bool.false_ne_true)]
  show wpAny _ _ (if (!t.plain && decide (es.size > 1)) = true then _ else _) _ _ s
  rw [hd, if_neg Bool.false_ne_true]
  refine wpAny_bind ?_
  show wpAny _ _ (if (!t.led && !es.isEmpty) = true then _ else _) _ _ s
  rw [hl]
  exact wpAny_pure (wpAny_pure h)
end
end L2
end

section
set_option Elab.async false
set_option linter.all false
set_option maxRecDepth 100000
set_option maxHeartbeats 4000000
namespace L2
open PySem PySem.Spec PyProof.Rows
def slotAt (pl : Array Nat) : Nat → Nat
  | 0 => 0
  | i + 1 => pl.getD i 0 + 1
theorem below_slot {pl : Array Nat} (h : Rise pl) {i : Nat} (hi : i ≤ pl.size) : SetTable.below pl (slotAt pl i) = i := by
  cases i with
  | zero => exact below_zero h
  | succ i =>
    have e : pl.getD i 0 = pl[i] := by simp [Array.getD, show i < pl.size by omega]
    show SetTable.below pl (pl.getD i 0 + 1) = i + 1
    rw [e]
    exact below_next h (by omega)
section
variable {prog : Program} {w : World} {κ : Type} [DecidableEq κ] {knd : PySem.KeyKind prog w κ} {A : Around} {E : Value → Shared → Prop} {s : Shared} {a I : Addr} {ks : List κ} {o : Obj} {es : Array (Int × Value)} {ep : Nat} {t : SetTable} {ms : List κ}
theorem size_of (D : SetD knd s.heap a ks o es ep t ms) : ∀ (A : Around) (E : Value → Shared → Prop) (Q : Array (Int × Value) → Shared → Prop), (∀ es', es'.size = es.size → Q es' s) → wpAny (model prog w) A (setEntries a) Q E s := fun _ _ _ q => D.entries (q es rfl)
theorem walk_text {h0 : Heap} (D : SetD knd h0 a ks o es ep t ms) (ft : w.params.followText "set-order" = true) (hh : A.handled = none) (hne : a ≠ I) :
    Walks prog w A I [I, a] [I] es.size (fun i v => ((pickOrder (w.params.setOrder a ep) es).toList.map (·.2))[i]? = some v) (fun i h => h.get? I = some (itObj (.int (0 : Nat) 0) i a es.size ep) ∧ h.get? a = some o) where
  sub := fun b hb => by simp at hb; simp [hb]
  frame := fun _ _ _ st hk => ⟨hk I (by simp) _ st.1, hk a (by simp) _ st.2⟩
  item := fun i s Q E hi st hQ => by
    have D' := D.keep st.2
    have hp := (pick_perm (w.params.setOrder a ep) es).length_eq
    have hl : i < (pickOrder (w.params.setOrder a ep) es).size := by simp at hp; omega
    refine next_int (x := ((pickOrder (w.params.setOrder a ep) es)[i]).2) (nx := 0) st.1 (size_of D') (fun _ _ _ q => next_text D' ft (by rw [Array.getElem?_eq_getElem hl]; exact q)) fun h' e1 b1 => ?_
    exact hQ _ h' s.toks (by simp [hl]) ⟨e1, (b1.2 a hne).trans st.2⟩ fun b u hb e => b1.extBut b u (fun z => hb (by simp [z])) e
  done := fun s Q E st hQ => by
    have D' := D.keep st.2
    have hp := (pick_perm (w.params.setOrder a ep) es).length_eq
    have hl : ¬ es.size < (pickOrder (w.params.setOrder a ep) es).size := by simp at hp; omega
    refine done_int hh st.1 (size_of D') (fun _ _ _ q => next_text D' ft (by rw [Array.getElem?_eq_none (by omega)]; exact q)) fun h' b1 => ?_
    exact hQ h' s.toks fun b u hb e => b1 b u (fun z => hb (by simp [z])) e
  self := fun _ s _ _ st hQ => self_seti ⟨_, st.1, rfl⟩ hQ
theorem walk_plain {h0 : Heap} (D : SetD knd h0 a ks o es ep t ms) (ft : w.params.followText "set-order" = false) (hd : (!t.plain && decide (es.size > 1)) = false) (hh : A.handled = none) (hne : a ≠ I) :
    Walks prog w A I [I, a] [I] es.size (fun i v => (es.toList.map (·.2))[i]? = some v) (fun i h => i ≤ es.size ∧ h.get? I = some (itObj (.int (slotAt t.place i) 0) i a es.size ep) ∧ h.get? a = some o) where
  sub := fun b hb => by simp at hb; simp [hb]
  frame := fun _ _ _ st hk => ⟨st.1, hk I (by simp) _ st.2.1, hk a (by simp) _ st.2.2⟩
  item := fun i s Q E hi st hQ => by
    have D' := D.keep st.2.2
    have hz : t.place.size = es.size := by have := D.fit; simp only [SetTable.fits, Bool.and_eq_true, beq_iff_eq] at this; exact this.1
    refine next_int (x := es[i].2) (nx := slotAt t.place (i + 1)) st.2.1 (size_of D') (fun _ _ _ q => next_plain D' ft hd (by
      rw [below_slot D.tab.rise (by omega), Array.getElem?_eq_getElem hi, Array.getElem?_eq_getElem (by omega)]
      have e : slotAt t.place (i + 1) = t.place[i]'(by omega) + 1 := by simp [slotAt, Array.getD, show i < t.place.size by omega]
      rw [e] at q
      exact q)) fun h' e1 b1 => ?_
    exact hQ _ h' s.toks (by simp [hi]) ⟨hi, e1, (b1.2 a hne).trans st.2.2⟩ fun b u hb e => b1.extBut b u (fun z => hb (by simp [z])) e
  done := fun s Q E st hQ => by
    have D' := D.keep st.2.2
    have hz : t.place.size = es.size := by have := D.fit; simp only [SetTable.fits, Bool.and_eq_true, beq_iff_eq] at this; exact this.1
    refine done_int hh st.2.1 (size_of D') (fun _ _ _ q => next_plain D' ft hd (by
      rw [below_slot D.tab.rise (by omega), Array.getElem?_eq_none (by omega)]
      exact q)) fun h' b1 => ?_
    exact hQ h' s.toks fun b u hb e => b1 b u (fun z => hb (by simp [z])) e
  self := fun _ s _ _ st hQ => self_seti ⟨_, st.2.1, rfl⟩ hQ
abbrev tupObj (pl : List Nat) : Obj := { cls := .type "tuple", data := .seq (pl.map fun (p : Nat) => rawInt p).toArray }
theorem walk_drawn {h0 : Heap} {tp : Addr} {pl : List Nat} (D : SetD knd h0 a ks o es ep t ms) (hp : pl.Perm (List.range es.size)) (hh : A.handled = none) (hne : a ≠ I) (hnt : tp ≠ I) :
    Walks prog w A I [I, a, tp] [I] es.size (fun i v => (pl.map fun p => ((es[p]?).map (·.2)).getD .none)[i]? = some v) (fun i h => h.get? I = some (itObj (.ref tp) i a es.size ep) ∧ h.get? a = some o ∧ h.get? tp = some (tupObj pl)) where
  sub := fun b hb => by simp at hb; simp [hb]
  frame := fun _ _ _ st hk => ⟨hk I (by simp) _ st.1, hk a (by simp) _ st.2.1, hk tp (by simp) _ st.2.2⟩
  item := fun i s Q E hi st hQ => by
    have D' := D.keep st.2.1
    have hl : i < pl.length := by rw [hp.length_eq, List.length_range]; exact hi
    have hm : pl[i] < es.size := by have := hp.mem_iff.mp (List.getElem_mem hl); simpa using this
    refine next_tup (q := pl[i]) (h0 := (es[pl[i]]).1) (x := (es[pl[i]]).2) st.1 st.2.2 (size_of D') (fun _ _ _ q => D'.state q) (List.getElem?_eq_getElem hl) (by rw [Array.getElem?_eq_getElem hm]) fun h' e1 b1 => ?_
    refine hQ _ h' s.toks ?_ ⟨e1, (b1.2 a hne).trans st.2.1, (b1.2 tp hnt).trans st.2.2⟩ fun b u hb e => b1.extBut b u (fun z => hb (by simp [z])) e
    rw [List.getElem?_map, List.getElem?_eq_getElem hl, Option.map_some, Array.getElem?_eq_getElem hm]
    rfl
  done := fun s Q E st hQ => by
    have D' := D.keep st.2.1
    refine done_tup hh st.1 st.2.2 (size_of D') (List.getElem?_eq_none (by rw [hp.length_eq, List.length_range]; exact Nat.le_refl _)) fun h' b1 => ?_
    exact hQ h' s.toks fun b u hb e => b1 b u (fun z => hb (by simp [z])) e
  self := fun _ s _ _ st hQ => self_seti ⟨_, st.1, rfl⟩ hQ
theorem drawn_perm {pl : List Nat} (hp : pl.Perm (List.range es.size)) : (pl.map fun p => ((es[p]?).map (·.2)).getD .none).Perm (es.toList.map (·.2)) := by
  refine (hp.map _).trans ?_
  rw [show (List.range es.size).map (fun p => ((es[p]?).map (·.2)).getD Value.none) = es.toList.map (·.2) from ?_]
  refine List.ext_getElem (by simp) fun i h1 h2 => ?_
  simp at h1
  simp [h1]
/-- iter(set) -/
theorem iter_set {Q : Value → Shared → Prop} (D : SetD knd s.heap a ks o es ep t ms)
    (h : ∀ (h' : Heap) (d : Drawn) (I : Addr) (fp : List Addr) (vs : List Value) (St : Nat → Heap → Prop), (∀ b u, s.heap.get? b = some u → h'.get? b = some u) → vs.Perm (es.toList.map (·.2)) → s.heap.objs.size ≤ I → (∀ b ∈ fp, b = a ∨ s.heap.objs.size ≤ b) →
      (∀ A' : Around, A'.handled = none → Walks prog w A' I fp [I] es.size (fun i v => vs[i]? = some v) St) → St 0 h' → Q (.ref I) { s with heap := h', drawn := d }) : wpAny (model prog w) A (pyIter (.ref a)) Q E s := by
  have ty : s.TypeIs (.ref a) "set" := ⟨o, D.at', D.ex.1⟩
  have hal : a < s.heap.objs.size := Heap.lt_size D.at'
  have hal1 : a ≠ s.heap.objs.size := Nat.ne_of_lt hal
  refine wpAny_pyIter_slot ty PySem.F.slot_set_iter (wpAny_call_entry PySem.F.slot_set_iter ty entry_set_iter ?_ (PySem.F.args_set_iter_1 _))
  unfold Builtin.«frozenset.__iter__» Builtin.Frozenset.slot0
  refine wpAny_bind (wpAny_bind (m := slotArgs "__iter__" 0 _) (wpAny_pure ?_))
  refine wpAny_of_eq (a := a) rfl ?_
  refine wpAny_bind (m := Builtin.Frozenset.sizeOf a) ?_
  unfold Builtin.Frozenset.sizeOf
  refine wpAny_bind (D.entries (wpAny_pure ?_))
  refine wpAny_bind (m := setDrawn a) ?_
  unfold setDrawn
  refine wpAny_bind (D.state ?_)
  dsimp only
  refine wpAny_bind (by_text (wpAny_pure ?_))
  have fin : ∀ (first : Value) (s1 : Shared) (D1 : SetD knd s1.heap a ks o es ep t ms) (hk : Q (.ref s1.heap.objs.size) { s1 with heap := s1.heap.push (itObj first 0 a es.size ep) }), wpAny (model prog w) A.in1 (do
      ret (← newFields "set_iterator" [first, rawInt 0, .ref a, rawInt es.size, rawInt (← setEpoch a)])) (fun fin s' => ∃ v, fin = .done (.ret v) ∧ ∃ T' r, s'.TypeIs v T' ∧ typeLookup (.type T') "__next__" = pure (some r) ∧ Q v s') E s1 := by
    intro first s1 D1 hk
    refine wpAny_bind (wpAny_setEpoch_of D1.at' D1.dat D1.fit ?_)
    refine wpAny_bind (wpAny_newObj_type ?_ (by size_fits))
    exact wpAny_pure ⟨_, rfl, "set_iterator", _, ⟨_, Heap.get?_push_size _ rfl, rfl⟩, slot_seti_next.lookup, hk⟩
  cases ft : w.params.followText "set-order" with
  | true =>
    rw [show (!true && _) = false from rfl, if_neg Bool.false_ne_true]
    refine wpAny_bind (wpAny_pure ?_)
    refine fin _ s D ?_
    exact h _ s.drawn s.heap.objs.size _ _ _ (fun b u e => Heap.get?_push_of_some _ e) ((pick_perm (w.params.setOrder a ep) es).map _) (Nat.le_refl _) (fun b hb => by simp at hb; rcases hb with z | z; exact .inr (Nat.le_of_eq z.symm); exact .inl z)
      (fun A' hA => walk_text D ft hA hal1) ⟨Heap.get?_push_size _ rfl, Heap.get?_push_of_some _ D.at'⟩
  | false =>
    cases hd : (!t.plain && decide (es.size > 1)) with
    | false =>
      show wpAny _ _ (if (!false && (!t.plain && decide (es.size > 1))) = true then _ else _) _ _ s
      rw [hd, show (!false && false) = false from rfl, if_neg Bool.false_ne_true]
      refine wpAny_bind (wpAny_pure ?_)
      refine fin _ s D ?_
      exact h _ s.drawn s.heap.objs.size _ _ _ (fun b u e => Heap.get?_push_of_some _ e) (.refl _) (Nat.le_refl _) (fun b hb => by simp at hb; rcases hb with z | z; exact .inr (Nat.le_of_eq z.symm); exact .inl z)
        (fun A' hA => walk_plain D ft hd hA hal1) ⟨Nat.zero_le _, Heap.get?_push_size _ rfl, Heap.get?_push_of_some _ D.at'⟩
    | true =>
      show wpAny _ _ (if (!false && (!t.plain && decide (es.size > 1))) = true then _ else _) _ _ s
      rw [hd, show (!false && true) = true from rfl, if_pos rfl]
      refine wpAny_bind (draw_ok es.size (List.range es.size) s _ (by simp) fun pl d hp => ?_)
      have hpl : pl.length = es.size := by rw [hp.length_eq, List.length_range]
      refine wpAny_bind (wpAny_newTuple ?_ (by rw [List.length_map, hpl]; exact fits_of_scanBound D.sm))
      refine fin _ ⟨s.heap.push (tupObj pl), s.gens, d, s.toks, s.os⟩ (D.keep (Heap.get?_push_of_some _ D.at')) ?_
      have hI : (s.heap.push (tupObj pl)).objs.size = s.heap.objs.size + 1 := Heap.size_push _ _
      refine h _ d (s.heap.push (tupObj pl)).objs.size _ _ _ (fun b u e => Heap.get?_push_of_some _ (Heap.get?_push_of_some _ e)) (drawn_perm hp) (by rw [hI]; exact Nat.le_succ _) (fun b hb => ?_)
        (fun A' hA => walk_drawn (tp := s.heap.objs.size) D hp hA (by rw [hI]; exact Nat.ne_of_lt (Nat.lt_succ_of_lt hal)) (by rw [hI]; exact Nat.ne_of_lt (Nat.lt_succ_self _))) ⟨Heap.get?_push_size _ rfl, Heap.get?_push_of_some _ (Heap.get?_push_of_some _ D.at'), Heap.get?_push_of_some _ (Heap.get?_push_size _ rfl)⟩
      simp at hb
      rcases hb with z | z | z
      · exact .inr (by rw [z]; exact Nat.le_succ _)
      · exact .inl z
      · exact .inr (Nat.le_of_eq z.symm)
end
end L2
end

section
set_option Elab.async false
set_option linter.all false
set_option maxRecDepth 100000
set_option maxHeartbeats 4000000
namespace L2
open PySem PySem.Spec PyProof.Rows
section
variable {prog : Program} {w : World} {κ : Type} [DecidableEq κ] {knd : PySem.KeyKind prog w κ} {A : Around} {E : Value → Shared → Prop} {s : Shared} {a I : Addr} {ks : List κ} {o : Obj} {es : Array (Int × Value)} {ep : Nat} {t : SetTable} {ms : List κ}
theorem hint_set {Q : Bool → Shared → Prop} (ty : s.TypeIs (.ref a) "set") (h : Q false s) : wpAny (model prog w) A (Builtin.List.listLengthHint (.ref a)) Q E s := by
  unfold Builtin.List.listLengthHint
  refine wpAny_bind (wpAny_specialOf ty PySem.F.slot_set_len.lookup ?_)
  generalize e : ("set.__len__" : String) = nm
  wp_delta
  rw [show splitId nm = some ("set", "__len__") from by subst e; decide +kernel]
  subst e
  refine wpAny_bind (wpAny_isInstance (T := "set") (b := true) ty sub_set_self ?_)
  refine wpAny_ite_split (fun c => absurd c (by decide)) fun _ => ?_
  refine wpAny_ite_split (fun _ => ?_) fun c => absurd (by decide +kernel) c
  exact wpAny_bind (wpAny_typeOf ty (wpAny_pure h))
theorem items_eq {vs : List Value} {acc : Array Value} {n : Nat} (hn : vs.length = n) (h : ItemsOf (fun i v => vs[i]? = some v) acc n) : acc.toList = vs := by
  refine List.ext_getElem (by rw [Array.length_toList, h.1, hn]) fun i h1 h2 => ?_
  have q : vs[i]? = some (acc.toList[i]) := h.2 i (acc.toList[i]) (by simp at h1; simp [h1])
  rw [List.getElem?_eq_getElem h2] at q
  exact (Option.some.inj q).symm
theorem extend_set {R : Result → Shared → Prop} (D : SetD knd s.heap a ks o es ep t ms) (hh : A.handled = none) (S : Addr) (hSa : S ≠ a) (res : Value) (hS : s.heap.get? S = some { cls := .type "list", data := .seq #[] })
    (h : ∀ h' tk d acc' c', (∀ b u, b ≠ S → s.heap.get? b = some u → h'.get? b = some u) → h'.get? S = some { cls := .type "list", dict := none, data := .seq acc' c', slots := #[] } → acc'.toList.Perm (es.toList.map (·.2)) → R (.ok (.ret res)) { s with heap := h', drawn := d, toks := tk }) :
    wpAny (model prog w) A.in1 (Builtin.List.listExtendWith (.ref S) (.ref a) res)
      (fun fin s' => match fin with | .done f => R (.ok f) s' | .again c' => c'.quiet = true ∧ codeAny (model prog w) A c' R s') (fun e s' => R (.error e) s') s := by
  have ty : s.TypeIs (.ref a) "set" := ⟨o, D.at', D.ex.1⟩
  have hSl : S < s.heap.objs.size := Heap.lt_size hS
  unfold Builtin.List.listExtendWith
  refine wpAny_bind (wpAny_typeOf ty ?_)
  have e1 : Builtin.List.listSameRef (.ref S) (.ref a) = false := by simp [Builtin.List.listSameRef, hSa]
  rw [e1]
  rw [if_neg (by decide)]
  refine wpAny_bind (iter_set D fun h1 d I fp vs St k1 pv hI hfp W st => ?_)
  have hSf : S ∉ fp := fun z => by
    rcases hfp S z with q | q
    · exact hSa q
    · exact absurd q (Nat.not_le.mpr hSl)
  have hvl : vs.length = es.size := by rw [pv.length_eq]; simp
  have go : ∀ (h2 : Heap) (c tk : Nat), St 0 h2 → (∀ b u, b ≠ S → s.heap.get? b = some u → h2.get? b = some u) → h2.get? S = some { cls := .type "list", data := .seq #[] c } →
      codeAny (model prog w) A (.builtin "list.extend.loop" ⟨[.ref S, .ref I, res], []⟩) R { s with heap := h2, drawn := d, toks := tk } := by
    intro h2 c tk st2 k2 hS2
    refine codeAny_extend_loopS (W A.in1 hh).toS (fits_of_scanBound D.sm) S hSf res es.size 0 _ #[] c rfl (Nat.zero_le _) st2 hS2 (ItemsOf.nil _) fun s' acc' c' mv hS' hacc => ?_
    have ee := items_eq hvl hacc
    obtain ⟨h', g', d', tk', os'⟩ := s'
    have eg : g' = s.gens := mv.gens
    have ed : d' = d := mv.drawn
    have eo : os' = s.os := mv.os
    subst eg ed eo
    refine h h' tk' _ acc' c' (fun b u hb e => mv.heap b u (fun z => ?_) (k2 b u hb e)) hS' (by rw [ee]; exact pv)
    rcases List.mem_cons.mp z with z | z
    · exact hb z
    · rw [List.mem_singleton] at z
      exact absurd (Heap.lt_size e) (by rw [z]; exact Nat.not_lt.mpr hI)
  have hS1 := k1 _ _ hS
  refine wpAny_bind (wpAny_holding (hint_set ⟨o, k1 _ _ D.at', D.ex.1⟩ ?_))
  refine wpAny_ite_split (fun _ => ?_) fun _ => wpAny_pure ⟨plainId_quiet PySem.F.plain_extend_loop _, go _ _ _ st (fun b u _ e => k1 b u e) hS1⟩
  refine wpAny_bind (wpAny_rule ?_)
  refine wpAny_bind ?_
  show wpAny _ _ (updateSeq S (·.push .none) >>= fun _ => updateSeq S (·.pop)) _ _ _
  refine wpAny_bind (wpAny_updateSeq hS1 rfl ?_)
  have hS2 := Heap.get?_update_self (Obj.mapSeq (·.push Value.none)) hS1 rfl
  refine wpAny_updateSeq (hz := by seq_fits) hS2 rfl ?_
  have hS3 := Heap.get?_update_self (Obj.mapSeq (·.pop)) hS2 rfl
  have oth : ∀ b u, b ≠ S → h1.get? b = some u → ((h1.update S (Obj.mapSeq (·.push Value.none))).update S (Obj.mapSeq (·.pop))).get? b = some u := fun b u hb e =>
    (Heap.get?_update_other _ _ (Ne.symm hb)).trans ((Heap.get?_update_other _ _ (Ne.symm hb)).trans e)
  exact wpAny_pure ⟨plainId_quiet PySem.F.plain_extend_loop _, go _ _ _ ((W A.in1 hh).frame 0 _ _ st fun b hb u e => oth b u (fun z => hSf (z ▸ hb)) e) (fun b u hb e => oth b u hb (k1 b u e)) hS3⟩
theorem collect_set {R : List Value → Shared → Prop} (D : SetD knd s.heap a ks o es ep t ms) (hh : A.handled = none)
    (h : ∀ (h' : Heap) (tk : Nat) (d : Drawn) (vs : List Value), (∀ b u, s.heap.get? b = some u → h'.get? b = some u) → s.heap.objs.size ≤ h'.objs.size → vs.Perm (es.toList.map (·.2)) → R vs { s with heap := h', drawn := d, toks := tk }) :
    wpAny (model prog w) A (collect (.ref a)) R E s := by
  unfold collect
  refine wpAny_bind (wpAny_runValue (codeAny_builtin entry_proto_collect' ?_))
  rw [Around.under_plainId PySem.F.plain_proto_collect _]
  refine wpAny_bind (m := newList []) (wpAny_newObj_type ?_)
  refine wpAny_pure ⟨plainId_quiet PySem.F.plain_list_iadd _, codeAny_builtin entry_list_iadd' ?_⟩
  rw [Around.under_plainId PySem.F.plain_list_iadd _]
  have hS : (s.heap.push { cls := .type "list", data := .seq ([] : List Value).toArray }).get? s.heap.objs.size = some { cls := .type "list", data := .seq #[] } := Heap.get?_push_size _ rfl
  show wpAny _ A.in1 (Builtin.List.listExtendWith (.ref s.heap.objs.size) (.ref a) (.ref s.heap.objs.size)) _ _ _
  have key := extend_set (A := A) (s := { s with heap := s.heap.push { cls := .type "list", data := .seq ([] : List Value).toArray } })
    (R := fun (q : Result) (s' : Shared) => ∃ h' tk d acc' c', q = .ok (.ret (.ref s.heap.objs.size)) ∧ s' = { s with heap := h', drawn := d, toks := tk } ∧ (∀ b u, s.heap.get? b = some u → h'.get? b = some u) ∧
      h'.get? s.heap.objs.size = some { cls := .type "list", dict := none, data := .seq acc' c', slots := #[] } ∧ acc'.toList.Perm (es.toList.map (·.2)))
    (D.keep (Heap.get?_push_of_some _ D.at')) hh s.heap.objs.size (Nat.ne_of_gt (Heap.lt_size D.at')) (.ref s.heap.objs.size) hS
    (fun h' tk d acc' c' k1 e1 p1 => ⟨h', tk, d, acc', c', rfl, rfl, fun b u e => k1 b u (Nat.ne_of_lt (Heap.lt_size e)) (Heap.get?_push_of_some _ e), e1, p1⟩)
  refine wpAny_mono key (fun fin s' x => ?_) fun e s' x => ?_
  · cases fin with
    | done f =>
      obtain ⟨h', tk, d, acc', c', e, rfl, k1, e1, p1⟩ := x
      cases e
      exact wpAny_bind (m := load s.heap.objs.size) (wpAny_load e1 (wpAny_pure (h h' tk d acc'.toList k1 (Nat.le_of_lt (Heap.lt_size e1)) p1)))
    | again c₁ =>
      refine ⟨x.1, codeAny_mono x.2 fun q s₂ y => ?_⟩
      obtain ⟨h', tk, d, acc', c', rfl, rfl, k1, e1, p1⟩ := y
      exact wpAny_bind (m := load s.heap.objs.size) (wpAny_load e1 (wpAny_pure (h h' tk d acc'.toList k1 (Nat.le_of_lt (Heap.lt_size e1)) p1)))
  · obtain ⟨_, _, _, _, _, z, _⟩ := x
    cases z
end
section
variable {prog : Program} {w : World} {A : Around} {E : Value → Shared → Prop} {s : Shared} {a : Addr} {ks : List Int}
theorem ints_of {vs : List Value} {ns : List Int} (h : PySem.Paired (fun v n => ∃ t, v = Value.int n t) vs ns) : IntsAre vs ns := by
  induction h with
  | nil => exact .nil
  | cons f _ ih =>
    obtain ⟨t, rfl⟩ := f
    exact .cons _ t ih
theorem sorted_set {Q : Value → Shared → Prop} (S : SetT (intKind prog w) s.heap a ks) (hh : A.handled = none) (h64 : ks.length < 64)
    (h : ∀ (h' : Heap) (tk : Nat) (d : Drawn) (L : Addr) (out : Array Value) (c : Nat) (ns : List Int), (∀ b u, s.heap.get? b = some u → h'.get? b = some u) → s.heap.objs.size ≤ L → h'.get? L = some (seqObj "list" out c) → IntsAre out.toList ns → ns.Pairwise (· < ·) → (∀ k, k ∈ ns ↔ k ∈ ks) →
      Q (.ref L) { s with heap := h', drawn := d, toks := tk }) : wpAny (model prog w) A (call (.builtin "sorted") [.ref a]) Q E s := by
  obtain ⟨o, es, ep, t, ms, D⟩ := S
  refine Calls.call_function_entry kind_sorted plain_sorted entry_sorted (args_sorted1 _) ?_
  unfold Builtin.«sorted»
  refine wpAny_bind (m := checkCount "sorted" 1 1 _) (wpAny_pure ?_)
  refine wpAny_bind (collect_set (A := A.in1) D hh fun h1 tk d vs k1 hsz pv => ?_)
  have pr : PySem.Paired (fun v n => ∃ t, v = Value.int n t) (es.toList.map (·.2)) ms := by
    have := D.pr
    generalize es.toList = l at this
    clear pv D
    induction this with
    | nil => exact .nil
    | cons f _ ih => exact .cons (Value.isInt_shape f) ih
  obtain ⟨ns, pn, r1⟩ := paired_perm pv pr
  have hI := ints_of r1
  have hlen : vs.length < 64 := by
    have h1 : ms.length ≤ ks.length := nodup_len D.nd fun k hk => (D.mem k).mp hk
    have h2 := pv.length_eq
    have h3 := D.size
    simp at h2
    omega
  refine wpAny_bind (wpAny_newList ?_ (by rw [sizeLine_eq]; omega))
  have hL : (h1.push (seqObj "list" vs.toArray 0)).get? h1.objs.size = some (seqObj "list" vs.toArray 0) := Heap.get?_push_size _ rfl
  refine wpAny_bind (wpAny_holding (wpAny_call_entry slot_list_sort ⟨_, hL, rfl⟩ entry_list_sort (list_sort_tree hL hI hlen fun out ns' a1 a2 a3 => ⟨_, rfl, ?_⟩) (args_list_sort _)))
  have hlt : h1.objs.size < (h1.push (seqObj "list" vs.toArray 0)).objs.size := Heap.lt_size hL
  obtain ⟨c, hc⟩ : ∃ c, (sortedHeap (h1.push (seqObj "list" vs.toArray 0)) h1.objs.size vs out).get? h1.objs.size = some (seqObj "list" out c) := sortedHeap_at hL
  have p3 := a2.trans pn
  refine wpAny_pure ⟨_, rfl, h _ tk d h1.objs.size out c ns' (fun b u e => ?_) ?_ hc a1 ?_ fun k => p3.mem_iff.trans (D.mem k)⟩
  · have hb := Heap.lt_size (k1 b u e)
    rw [sortedHeap_old (Nat.ne_of_lt hb) (Nat.lt_trans hb hlt)]
    exact Heap.get?_push_of_some _ (k1 b u e)
  · exact hsz
  · have nd : ns'.Nodup := p3.nodup_iff.mpr D.nd
    exact (List.Pairwise.and a3 nd).imp fun {x y} z => by omega
end
end L2
end

section
set_option Elab.async false
set_option linter.all false
set_option maxRecDepth 100000
set_option maxHeartbeats 4000000
namespace L2
open PySem PySem.Spec PyProof.Rows
/-! ### the sorted members of a list of ints, each once -/
theorem rise_ext : ∀ {a b : List Int}, a.Pairwise (· < ·) → b.Pairwise (· < ·) → (∀ k, k ∈ a ↔ k ∈ b) → a = b
  | [], [], _, _, _ => rfl
  | [], y :: b, _, _, h => by simpa using (h y).mpr List.mem_cons_self
  | x :: a, [], _, _, h => by simpa using (h x).mp List.mem_cons_self
  | x :: a, y :: b, ha, hb, h => by
    have ha' := List.pairwise_cons.mp ha
    have hb' := List.pairwise_cons.mp hb
    have e : x = y := by
      rcases List.mem_cons.mp ((h x).mp List.mem_cons_self) with z | z
      · exact z
      · rcases List.mem_cons.mp ((h y).mpr List.mem_cons_self) with z' | z'
        · exact z'.symm
        · have := ha'.1 y z'; have := hb'.1 x z; omega
    subst e
    congr 1
    refine rise_ext ha'.2 hb'.2 fun k => ⟨fun z => ?_, fun z => ?_⟩
    · rcases List.mem_cons.mp ((h k).mp (List.mem_cons_of_mem _ z)) with q | q
      · have := ha'.1 k z; omega
      · exact q
    · rcases List.mem_cons.mp ((h k).mpr (List.mem_cons_of_mem _ z)) with q | q
      · have := hb'.1 k z; omega
      · exact q
def ins (k : Int) : List Int → List Int
  | [] => [k]
  | x :: r => if k < x then k :: x :: r else if k = x then x :: r else x :: ins k r
def nub : List Int → List Int
  | [] => []
  | x :: r => ins x (nub r)
theorem mem_ins {k j : Int} : ∀ {l : List Int}, j ∈ ins k l ↔ j = k ∨ j ∈ l
  | [] => by simp [ins]
  | x :: r => by
    unfold ins
    split
    · simp
    · split
      · rename_i h; subst h; simp
      · rw [List.mem_cons, mem_ins, List.mem_cons]
        constructor
        · rintro (z | z | z)
          · exact .inr (.inl z)
          · exact .inl z
          · exact .inr (.inr z)
        · rintro (z | z | z)
          · exact .inr (.inl z)
          · exact .inl z
          · exact .inr (.inr z)
theorem rise_ins {k : Int} : ∀ {l : List Int}, l.Pairwise (· < ·) → (ins k l).Pairwise (· < ·)
  | [], _ => by simp [ins]
  | x :: r, h => by
    have h' := List.pairwise_cons.mp h
    unfold ins
    split
    · rename_i c
      refine List.pairwise_cons.mpr ⟨fun y hy => ?_, h⟩
      rcases List.mem_cons.mp hy with z | z
      · omega
      · have := h'.1 y z; omega
    · split
      · exact h
      · refine List.pairwise_cons.mpr ⟨fun y hy => ?_, rise_ins h'.2⟩
        rcases mem_ins.mp hy with z | z
        · omega
        · exact h'.1 y z
theorem mem_nub {j : Int} : ∀ {l : List Int}, j ∈ nub l ↔ j ∈ l
  | [] => by simp [nub]
  | x :: r => by unfold nub; rw [mem_ins, mem_nub, List.mem_cons]
theorem rise_nub : ∀ (l : List Int), (nub l).Pairwise (· < ·)
  | [] => .nil
  | x :: r => rise_ins (rise_nub r)
theorem nub_eq {l ms : List Int} (h : ms.Pairwise (· < ·)) (m : ∀ k, k ∈ ms ↔ k ∈ l) : ms = nub l := rise_ext h (rise_nub l) fun k => (m k).trans mem_nub.symm
theorem nub_len : ∀ (l : List Int), (nub l).length ≤ l.length := fun l => nodup_len ((rise_nub l).imp fun {a b} h => by omega) fun x hx => mem_nub.mp hx
section
variable {X : Cx}
def tSS (K : PySem.W.Frag) (te : TE) : TE := fun σ H Q => te σ H fun x H1 => ∃ l ns, x = .ref l ∧ SqL K H1 l ((ns : List Int).map V.int) ∧ ns.length < 64 ∧ ∀ r, H1 r = none → Q (.ref r) (upd H1 r (.lst ((nub ns).map V.int)))
theorem boot_set' : bootBuiltins "set" = some (.type "set") := by decide +kernel
theorem pe_sset {e : Expr} {te : TE} {p p2 pos pos2 : Pos} (hc : X.calm = true) (hg : Gl X "sorted") (hm : X.mg "sorted" = none) (hg2 : Gl X "set") (hm2 : X.mg "set" = none) (he : PE X e te)
    (h1 : starEach [e] X.env = [(false, eval e X.env)] := by rfl) (h2 : starEach [.Call (.Name "set" p2) [e] [] pos2] X.env = [(false, eval (.Call (.Name "set" p2) [e] [] pos2) X.env)] := by rfl) :
    PE X (.Call (.Name "sorted" p) [.Call (.Name "set" p2) [e] [] pos2] [] pos) (tSS X.K te) := by
  intro pins s σ H Q I h
  refine wpAny_Call_Name_kw (ld_blt I hg hm boot_sorted ?_ (by decide) (by decide))
  refine PyProof.Rows.callWith_builtin1 ?_ h2 rfl
  rw [h2]
  refine Calls.spliced_cons ?_
  refine wpAny_Call_Name_kw (ld_blt I hg2 hm2 boot_set' ?_ (by decide) (by decide))
  refine PyProof.Rows.callWith_type1 ?_ h1 rfl
  rw [h1]
  refine Calls.spliced_cons (thn (he pins s σ H _ I h) fun u s1 ⟨x, H1, I1, r1, q1⟩ => Calls.spliced_nil ?_)
  obtain ⟨l, ns, rfl, hS, hl, q⟩ := q1
  cases r1
  obtain ⟨its, rv, pl, hz⟩ := I1.list hS
  have hlen := rv.length
  rw [List.length_map] at hlen
  have hi := intsAre_of rv
  have hsz : its.toArray.size = its.length := by simp
  refine call_setT (knd := intKind X.prog X.w) (ks := ns) (I1.ok.hd hc) pl.isList (by rw [hsz]; exact hlen) (fun i v hv => ?_) (by rw [hsz]; show its.length + 1 < 4096; omega) fun s2 m => Calls.spliced_nil ?_
  · obtain ⟨t, e⟩ := IntsAre.int_at hi i v (by simpa using hv)
    have hil : i < ns.length := by
      rw [hlen]
      have := Array.getElem?_eq_some_iff.mp hv
      obtain ⟨z, _⟩ := this
      simpa using z
    subst e
    refine ⟨ns.getD i 0, ?_, intKind_is _ _ _ _, rfl⟩
    rw [List.getD_eq_getElem?_getD, List.getElem?_eq_getElem hil]
    rfl
  obtain ⟨h', tk, rfl, S, k1⟩ := m
  have hsz2 : s1.heap.objs.size < h'.objs.size := by
    obtain ⟨o, es, ep, t, ms, D⟩ := S
    exact Heap.lt_size D.at'
  refine sorted_set (s := { s1 with heap := h', toks := tk }) S (I1.ok.hd hc) hl fun h2 tk2 d L out c ns' k2 hL eL aI aP aM => ?_
  have hLn : H1 L = none := I1.hok.fresh (Nat.le_trans (Nat.le_of_lt hsz2) hL)
  have en := nub_eq aP aM
  subst en
  have kp : ∀ b u, s1.heap.get? b = some u → h2.get? b = some u := fun b u e => k2 b u (k1 b u (Heap.lt_size e) e)
  have hLe : s1.heap.objs.size ≤ L := Nat.le_trans (Nat.le_of_lt hsz2) hL
  have nl := nub_len ns
  have I2 : Inv X pins σ (upd H1 L (.lst ((nub ns).map V.int))) { s1 with heap := h2, gens := s1.gens, drawn := d, toks := tk2 } :=
    I1.call (ch := []) (Un.laid kp hLe hLn) (I1.hok.laid kp hLe ⟨by rw [List.length_map]; exact small (by omega), out.toList, c, vals_ints aI, by rw [eL]⟩) I1.bare (fun _ z => nomatch z)
  exact ⟨.ref L, _, I2, rfl, q L hLn⟩
end
end L2
end

section
set_option Elab.async false
set_option linter.all false
set_option maxRecDepth 100000
set_option maxHeartbeats 4000000
namespace L2
open PySem PySem.Spec PyProof.Rows
section
variable {X : Cx}
end
end L2
end

section
set_option Elab.async false
set_option linter.all false
set_option maxRecDepth 100000
set_option maxHeartbeats 4000000
namespace L2
open PySem PySem.Spec PyProof.Rows
section
variable {X : Cx}
/-- xs == [] -/
inductive C_rEqE (K : PySem.W.Frag) (x y : V) (H : Hp) (Q : VK) : Prop
  | mk (p) (q) (xs) (c0 : x = .ref p) (c1 : y = .ref q) (c2 : SqL K H p xs) (c3 : SqL K H q []) (c4 : Q (.bl xs.isEmpty) H) : C_rEqE K x y H Q
def rEqE (K : PySem.W.Frag) : R2 := fun x y H Q => C_rEqE K x y H Q
theorem op_eqE (hu : X.A.units < cLine) : OpR X (compareOp .Eq) (rEqE X.K) := by
  intro pins s σ H x y v u Q I rx ry h
  obtain ⟨p, q, xs, rfl, rfl, h1, h2, hq⟩ := h
  cases rx
  cases ry
  obtain ⟨us, r1, p1, z1⟩ := I.list h1
  obtain ⟨ws, r2, p2, z2⟩ := I.list h2
  cases r2
  cases xs with
  | nil =>
    cases r1
    refine SeqAt.eq_listAt (e := fun _ => true) p1.isList p2.isList rfl hu (fun j h1 _ => absurd h1 (by simp)) ?_
    exact ⟨.bl true, H, I, rfl, hq⟩
  | cons x r =>
    have hl := r1.length
    refine SeqAt.eq_list_lengthsAt p1.isList p2.isList ?_ hu ?_
    · simp at hl ⊢
      intro z
      rw [z] at hl
      simp at hl
    · exact ⟨.bl false, H, I, rfl, hq⟩
end
end L2
end

section
set_option Elab.async false
set_option linter.all false
set_option maxRecDepth 100000
set_option maxHeartbeats 4000000
namespace L2
open PySem PySem.Spec PyProof.Rows
section
variable {X : Cx}
end
end L2
end

section
set_option Elab.async false
set_option linter.all false
set_option maxRecDepth 100000
set_option maxHeartbeats 4000000
namespace L2
open PySem PySem.Spec PyProof.Rows
section
variable {X : Cx}
end
end L2
end

section
set_option Elab.async false
set_option linter.all false
set_option maxRecDepth 100000
set_option maxHeartbeats 4000000
namespace L2
open PySem PySem.Spec PyProof.Rows
section
variable {X : Cx}
/-- != of two equal lists -/
inductive C_rNeLD (K : PySem.W.Frag) (x y : V) (H : Hp) (Q : VK) : Prop
  | mk (d) (p) (q) (xs) (ys) (c0 : d ≤ 60) (c1 : x = .ref p) (c2 : y = .ref q) (c3 : SqL K H p xs) (c4 : SqL K H q ys) (c5 : xs.length = ys.length) (c6 : (∀ (i : Nat) (x y : V), xs[i]? = some x → ys[i]? = some y → EqD K H d x y)) (c7 : Q (.bl false) H) : C_rNeLD K x y H Q
def rNeLD (K : PySem.W.Frag) : R2 := fun x y H Q => C_rNeLD K x y H Q
theorem op_neLD (hu : X.A.units + 64 < cLine) : OpR X (compareOp .NotEq) (rNeLD X.K) := by
  intro pins s σ H x y v u Q I rx ry h
  obtain ⟨d, p, q, xs, ys, hd, rfl, rfl, h1, h2, hl, hi, hq⟩ := h
  cases rx
  cases ry
  obtain ⟨us, r1, p1, z1⟩ := I.list h1
  obtain ⟨ws, r2, p2, z2⟩ := I.list h2
  have l1 := r1.length
  have l2 := r2.length
  refine SeqAt.RcNeAt.lists (e := fun _ => true) p1.isList p2.isList (by rw [List.size_toArray, List.size_toArray]; omega) (by omega) (items_at (pins := pins) (σ := σ) (H := H) (K := X.K) (d := d) r1 r2 hl fun i x y hx hy u v ru rv => eqd_at I (hi i x y hx hy) X.A.in1 (by show X.A.units + 1 + d < cLine; omega) u v ru rv) X.prog X.w X.xe _ ?_
  rw [all_true]
  exact ⟨.bl false, H, I, rfl, hq⟩
end
end L2
end

section
set_option Elab.async false
set_option linter.all false
set_option maxRecDepth 100000
set_option maxHeartbeats 4000000
namespace L2
open PySem PySem.Spec PyProof.Rows
theorem ints_here {ns : List Int} {its : List Value} (r : Vals (ns.map V.int) its) {i : Nat} {v : Value} (h : its[i]? = some v) : ∃ t, v = .int (ns.getD i 0) t := by
  have hi : i < its.length := (List.getElem?_eq_some_iff.mp h).1
  have hl := r.length
  rw [List.length_map] at hl
  have hn : i < ns.length := by omega
  obtain ⟨u, hu, ru⟩ := r.get (i := i) (x := V.int ns[i]) (by rw [List.getElem?_map, List.getElem?_eq_getElem hn]; rfl)
  rw [h] at hu
  cases hu
  obtain ⟨t, e⟩ : ∃ t, v = .int ns[i] t := ru
  exact ⟨t, by rw [e, List.getD_eq_getElem?_getD, List.getElem?_eq_getElem hn]; rfl⟩
section
variable {X : Cx}
/-- min of a list of ints -/
theorem call_minL (hc : X.calm = true) : CallR X (.builtin "min") (fun xs H Q => ∃ p ns, xs = [.ref p] ∧ SqL X.K H p ((ns : List Int).map V.int) ∧ 0 < ns.length ∧ ∀ M, M ∈ ns → (∀ a ∈ ns, M ≤ a) → Q (.int M) H) := by
  intro pins s σ H xs us Q I r h
  obtain ⟨p, ns, rfl, hS, h0, q⟩ := h
  obtain ⟨u, rfl, ru⟩ := r.one
  cases ru
  obtain ⟨its, rv, pl, hz⟩ := I.list hS
  have hh : X.A.handled = none := I.ok.hd hc
  have hl := rv.length
  rw [List.length_map] at hl
  have hlt : p < s.heap.objs.size := by obtain ⟨_, e, _⟩ := pl.isList; exact Heap.lt_size e
  refine call_min_walk (wpAny_pyIter_list pl.isList ?_)
  refine ⟨s.heap.objs.size, [s.heap.objs.size, p], [s.heap.objs.size], its.toArray.size, _, _, _, rfl, Walks.list (A := X.A.in1) hh _ p (Nat.ne_of_lt hlt) its.toArray,
    ⟨⟨_, Heap.get?_push_size _ rfl, rfl, rfl⟩, pl.isList.push _⟩, fun b hb => ?_, by rw [List.size_toArray]; omega, CmpOf.ints_lt (fun i => ns.getD i 0) (fun i v hP => ints_here rv (by simpa using hP)), fun v h' tk hP hk => ?_⟩
  · rcases List.mem_cons.mp hb with rfl | hb
    · exact Heap.lt_size (Heap.get?_push_size _ rfl)
    · rcases List.mem_singleton.mp hb with rfl
      obtain ⟨_, e, _⟩ := pl.isList
      exact Heap.lt_size (Heap.get?_push_of_some _ e)
  · have hP' : its[argBest (fun i j => decide (ns.getD i 0 < ns.getD j 0)) (its.toArray.size - 1)]? = some v := by rw [← List.getElem?_toArray]; exact hP
    obtain ⟨h1, h2⟩ := argBest_lt (fun i => ns.getD i 0) (its.toArray.size - 1)
    generalize argBest (fun i j => decide (ns.getD i 0 < ns.getD j 0)) (its.toArray.size - 1) = b at hP' h1 h2
    rw [List.size_toArray] at h1 h2
    obtain ⟨t, rfl⟩ := ints_here rv hP'
    have hb : b < ns.length := by omega
    refine ⟨.int _, H, I.kept (t' := tk) (LSm.kept_iter hk), ⟨t, rfl⟩, q _ ?_ fun a ha => ?_⟩
    · rw [List.getD_eq_getElem?_getD, List.getElem?_eq_getElem hb]
      exact List.getElem_mem _
    · obtain ⟨j, hj, rfl⟩ := List.getElem_of_mem ha
      have := h2 j (by omega)
      simpa [List.getD_eq_getElem?_getD, List.getElem?_eq_getElem hj] using this
end
end L2
end
section
set_option Elab.async false
set_option linter.all false
set_option maxRecDepth 100000
namespace L2
open PySem PySem.Spec PyProof.Rows
/-- a def that stands under another name -/
def FunA (K : PySem.W.Frag) (mg : Str → Option Value) (x q : Str) (ps : List Str) (st : Stmt) : Prop := ∃ f fd, Fun K q q st f fd ∧ mg x = some (.ref f) ∧ Binds K fd ps []
section
variable {P : Program} {w : World} {K : PySem.W.Frag} {mg : Str → Option Value} {base : Heap}
theorem FunA.ok {x q : Str} {st : Stmt} {N ps : List Str} {k : Nat} {sp : Sp} (F : FunA K mg x q ps st) (S : FnScope N ps (defScope st)) (len : ∀ vs H Q E, sp vs H Q E → vs.length = ps.length)
    (hbody : ∀ (f : Addr) (cdv : Value) (A : Around) (outer : List Env) (s : Shared) (H : Hp) (vs : List V) (Q : VK) (E : XK), Room k (A.deeper (envOfC q (defScope st) s.heap.objs.size f cdv)) → sp vs H Q E →
      ∃ t, PSs (cxOf CX0 P w K mg base N q (defScope st) f cdv A outer s H E).nox (defBody st) t ∧ t { nx := fun _ H' => Q .non H', rt := Q } (start N vs) H) : Callee P w K mg base (k + 1) x ps sp := by
  obtain ⟨f, fd, F, m, b⟩ := F
  exact ⟨f, fd, F.ok S len (hbody f), b, F.kp, m⟩
theorem FunA.zero {x q : Str} {st : Stmt} {ps : List Str} {sp : Sp} (F : FunA K mg x q ps st) (no : ∀ vs H Q E, ¬ sp vs H Q E) : Callee P w K mg base 0 x ps sp := by
  obtain ⟨f, fd, F, m, b⟩ := F
  exact ⟨f, fd, ⟨fun vs H Q E h => absurd h (no vs H Q E), fun A outer s H args us vs Q E _ _ _ _ h => absurd h (no vs H Q E)⟩, b, F.kp, m⟩
end
end L2
end

section
set_option Elab.async false
set_option linter.all false
set_option maxRecDepth 100000
set_option maxHeartbeats 4000000
namespace L2
open PySem PySem.Spec PyProof.Rows
/-- is True, is False, of a truth or None -/
def rIsB : R2 := fun x y H Q => ∃ b, y = .bl b ∧ (x = .non ∨ ∃ c, x = .bl c) ∧ Q (.bl (decide (x = .bl b))) H
theorem op_isB {X : Cx} : OpR X (compareOp .Is) rIsB := by
  intro pins s σ H x y v u Q I rx ry h
  obtain ⟨b, rfl, hx, q⟩ := h
  cases ry
  rcases hx with rfl | ⟨c, rfl⟩
  · cases rx
    exact wpAny_pure (fin_bl I q (by cases b <;> rfl))
  · cases rx
    exact is_bool (fin_bl I q (by cases b <;> cases c <;> rfl))
end L2
end

section
set_option Elab.async false
set_option linter.all false
set_option maxRecDepth 100000
set_option maxHeartbeats 4000000
namespace L2
open PySem PySem.Spec PyProof.Rows
end L2
end

section
set_option Elab.async false
set_option linter.all false
set_option maxRecDepth 100000
namespace L2
open PySem PySem.Spec PyProof.Rows
inductive Ex2 {α β : Type} (P : α → β → Prop) : Prop
  | mk (a0 : α) (a1 : β) (h : P a0 a1) : Ex2 P
inductive Ex3 {α β γ : Type} (P : α → β → γ → Prop) : Prop
  | mk (a0 : α) (a1 : β) (a2 : γ) (h : P a0 a1 a2) : Ex3 P
inductive Ex4 {α β γ δ : Type} (P : α → β → γ → δ → Prop) : Prop
  | mk (a0 : α) (a1 : β) (a2 : γ) (a3 : δ) (h : P a0 a1 a2 a3) : Ex4 P
inductive Ex7 {α β γ δ ε ζ η : Type} (P : α → β → γ → δ → ε → ζ → η → Prop) : Prop
  | mk (a0 : α) (a1 : β) (a2 : γ) (a3 : δ) (a4 : ε) (a5 : ζ) (a6 : η) (h : P a0 a1 a2 a3 a4 a5 a6) : Ex7 P
inductive Ex9 {α β γ δ ε ζ η θ ι : Type} (P : α → β → γ → δ → ε → ζ → η → θ → ι → Prop) : Prop
  | mk (a0 : α) (a1 : β) (a2 : γ) (a3 : δ) (a4 : ε) (a5 : ζ) (a6 : η) (a7 : θ) (a8 : ι) (h : P a0 a1 a2 a3 a4 a5 a6 a7 a8) : Ex9 P
inductive An3 (A0 A1 A2 : Prop) : Prop
  | mk (h0 : A0) (h1 : A1) (h2 : A2) : An3 A0 A1 A2
inductive An4 (A0 A1 A2 A3 : Prop) : Prop
  | mk (h0 : A0) (h1 : A1) (h2 : A2) (h3 : A3) : An4 A0 A1 A2 A3
inductive An6 (A0 A1 A2 A3 A4 A5 : Prop) : Prop
  | mk (h0 : A0) (h1 : A1) (h2 : A2) (h3 : A3) (h4 : A4) (h5 : A5) : An6 A0 A1 A2 A3 A4 A5
inductive An9 (A0 A1 A2 A3 A4 A5 A6 A7 A8 : Prop) : Prop
  | mk (h0 : A0) (h1 : A1) (h2 : A2) (h3 : A3) (h4 : A4) (h5 : A5) (h6 : A6) (h7 : A7) (h8 : A8) : An9 A0 A1 A2 A3 A4 A5 A6 A7 A8
inductive An10 (A0 A1 A2 A3 A4 A5 A6 A7 A8 A9 : Prop) : Prop
  | mk (h0 : A0) (h1 : A1) (h2 : A2) (h3 : A3) (h4 : A4) (h5 : A5) (h6 : A6) (h7 : A7) (h8 : A8) (h9 : A9) : An10 A0 A1 A2 A3 A4 A5 A6 A7 A8 A9
/-- an item of a tuple, of a list, that a name has -/
theorem rdy {K : PySem.W.Frag} {σ : St} {H : Hp} {Q : VK} {i j : Nat} {t : Addr} {xs : List V} {v : V} (hs : SqT K H t xs) (hi : σ[i]? = some (some (.ref t))) (hj : xs[j]? = some v) (q : Q v H) : tOp (rIxT K) (tVar i) (tC (.int (j : Int))) σ H Q :=
  ⟨_, hi, t, _, _, _, rfl, rfl, hs, atI_nat hj, q⟩
theorem rdx {K : PySem.W.Frag} {σ : St} {H : Hp} {Q : VK} {i j : Nat} {t : Addr} {xs : List V} {v : V} (hs : H t = some (.tup xs)) (hi : σ[i]? = some (some (.ref t))) (hj : xs[j]? = some v) (q : Q v H) : tOp (rIxT K) (tVar i) (tC (.int (j : Int))) σ H Q := rdy (SqT.of hs) hi hj q
theorem rdl {K : PySem.W.Frag} {σ : St} {H : Hp} {Q : VK} {i j : Nat} {t : Addr} {xs : List V} {v : V} (hs : H t = some (.lst xs)) (hi : σ[i]? = some (some (.ref t))) (hj : xs[j]? = some v) (q : Q v H) : tOp (rIxL K) (tVar i) (tC (.int (j : Int))) σ H Q :=
  ⟨_, hi, t, _, _, _, rfl, rfl, SqL.of hs, atI_nat hj, q⟩
end L2
end

section
set_option Elab.async false
set_option linter.all false
set_option maxRecDepth 100000
set_option maxHeartbeats 4000000
namespace L2
open PySem PySem.Spec PyProof.Rows
section
variable {X : Cx}
/-- a test that is not met, the rest behind it -/
theorem seq_if {t : TT} {a u : TS} {D : Ends} {σ : St} {H : Hp} (h : ∀ N : Bool → Hp → Prop, (∀ H', Same H H' → N false H') → t σ H N) (k : ∀ H', Same H H' → u D σ H') : tSeq (tIfS t a tNext) u D σ H :=
  h _ fun H' g => iteF (k H' g)
end
end L2
end

section
set_option Elab.async false
set_option linter.all false
set_option maxRecDepth 100000
set_option maxHeartbeats 4000000
namespace My
open PySem L2
def top (i : Nat) : Stmt := PySem.Challenge.pw_signalwise_k32_walked_rows.main.body.getD i (.Pass ⟨0, 0, 0, 0⟩)
abbrev s_begun_walking : Stmt := top 17
theorem sc_begun_walking : FnScope ["part", "sure", "known", "word", "first", "inner"] ["part", "sure", "known"] (defScope s_begun_walking) := ⟨rfl, rfl, rfl, by decide +kernel, rfl, by decide +kernel, by decide +kernel⟩
abbrev s_begun_leaf_walking : Stmt := top 19
theorem sc_begun_leaf_walking : FnScope ["part", "sure", "can", "must"] ["part", "sure"] (defScope s_begun_leaf_walking) := ⟨rfl, rfl, rfl, by decide +kernel, rfl, by decide +kernel, by decide +kernel⟩
abbrev s_in_turn_walking : Stmt := top 21
theorem sc_in_turn_walking : FnScope ["first", "second", "going_past", "codes"] ["first", "second"] (defScope s_in_turn_walking) := ⟨rfl, rfl, rfl, by decide +kernel, rfl, by decide +kernel, by decide +kernel⟩
abbrev s_side_by_side_walking : Stmt := top 23
theorem sc_side_by_side_walking : FnScope ["first", "second", "least", "codes"] ["first", "second"] (defScope s_side_by_side_walking) := ⟨rfl, rfl, rfl, by decide +kernel, rfl, by decide +kernel, by decide +kernel⟩
abbrev s_begun_instants : Stmt := top 29
theorem sc_begun_instants : FnScope ["part", "there", "word", "first", "inner"] ["part", "there"] (defScope s_begun_instants) := ⟨rfl, rfl, rfl, by decide +kernel, rfl, by decide +kernel, by decide +kernel⟩
abbrev s_begun_leaf_instants : Stmt := top 31
theorem sc_begun_leaf_instants : FnScope ["part", "sent"] ["part"] (defScope s_begun_leaf_instants) := ⟨rfl, rfl, rfl, by decide +kernel, rfl, by decide +kernel, by decide +kernel⟩
abbrev s_in_turn_instants : Stmt := top 34
theorem sc_in_turn_instants : FnScope ["first", "second"] ["first", "second"] (defScope s_in_turn_instants) := ⟨rfl, rfl, rfl, by decide +kernel, rfl, by decide +kernel, by decide +kernel⟩
abbrev s_side_by_side_instants : Stmt := top 36
theorem sc_side_by_side_instants : FnScope ["first", "second", "code", "left"] ["first", "second"] (defScope s_side_by_side_instants) := ⟨rfl, rfl, rfl, by decide +kernel, rfl, by decide +kernel, by decide +kernel⟩
abbrev s_leaf_code : Stmt := top 4
theorem sc_leaf_code : FnScope ["part"] ["part"] (defScope s_leaf_code) := ⟨rfl, rfl, rfl, by decide +kernel, rfl, by decide +kernel, by decide +kernel⟩
abbrev s_code_of_again : Stmt := top 5
theorem sc_code_of_again : FnScope ["code"] ["code"] (defScope s_code_of_again) := ⟨rfl, rfl, rfl, by decide +kernel, rfl, by decide +kernel, by decide +kernel⟩
abbrev s_code_of_trap : Stmt := top 6
theorem sc_code_of_trap : FnScope ["code"] ["code"] (defScope s_code_of_trap) := ⟨rfl, rfl, rfl, by decide +kernel, rfl, by decide +kernel, by decide +kernel⟩
abbrev s_part_to_begin : Stmt := top 11
theorem sc_part_to_begin : FnScope ["part", "state"] ["part", "state"] (defScope s_part_to_begin) := ⟨rfl, rfl, rfl, by decide +kernel, rfl, by decide +kernel, by decide +kernel⟩
abbrev s_remaining : Stmt := top 12
theorem sc_remaining : FnScope ["part", "state", "first", "second", "inner"] ["part", "state"] (defScope s_remaining) := ⟨rfl, rfl, rfl, by decide +kernel, rfl, by decide +kernel, by decide +kernel⟩
abbrev s_left_of_pair : Stmt := top 13
theorem sc_left_of_pair : FnScope ["part", "first", "second"] ["part", "first", "second"] (defScope s_left_of_pair) := ⟨rfl, rfl, rfl, by decide +kernel, rfl, by decide +kernel, by decide +kernel⟩
abbrev s_left_of_round : Stmt := top 14
theorem sc_left_of_round : FnScope ["part", "inner", "skipped"] ["part", "inner"] (defScope s_left_of_round) := ⟨rfl, rfl, rfl, by decide +kernel, rfl, by decide +kernel, by decide +kernel⟩
abbrev s_walked : Stmt := top 16
theorem sc_walked : FnScope ["part", "state", "sure", "known", "ending"] ["part", "state", "sure", "known"] (defScope s_walked) := ⟨rfl, rfl, rfl, by decide +kernel, rfl, by decide +kernel, by decide +kernel⟩
abbrev s_one_of : Stmt := top 25
theorem sc_one_of : FnScope ["first", "second"] ["first", "second"] (defScope s_one_of) := ⟨rfl, rfl, rfl, by decide +kernel, rfl, by decide +kernel, by decide +kernel⟩
abbrev s_recoded : Stmt := top 26
theorem sc_recoded : FnScope ["inner", "codes"] ["inner", "codes"] (defScope s_recoded) := ⟨rfl, rfl, rfl, by decide +kernel, rfl, by decide +kernel, by decide +kernel⟩
abbrev s_ran : Stmt := top 28
theorem sc_ran : FnScope ["part", "state", "there", "ending"] ["part", "state", "there"] (defScope s_ran) := ⟨rfl, rfl, rfl, by decide +kernel, rfl, by decide +kernel, by decide +kernel⟩
abbrev s_rests_left : Stmt := top 33
theorem sc_rests_left : FnScope ["part"] ["part"] (defScope s_rests_left) := ⟨rfl, rfl, rfl, by decide +kernel, rfl, by decide +kernel, by decide +kernel⟩
abbrev s_repeated : Stmt := top 38
theorem sc_repeated : FnScope ["rest", "inner", "left"] ["rest", "inner"] (defScope s_repeated) := ⟨rfl, rfl, rfl, by decide +kernel, rfl, by decide +kernel, by decide +kernel⟩
abbrev s__law_mixed : Stmt := top 40
theorem sc__law_mixed : FnScope ["_law_cell"] ["_law_cell"] (defScope s__law_mixed) := ⟨rfl, rfl, rfl, by decide +kernel, rfl, by decide +kernel, by decide +kernel⟩
abbrev s__law_seed_at : Stmt := top 41
theorem sc__law_seed_at : FnScope ["_law_script", "_law_k"] ["_law_script", "_law_k"] (defScope s__law_seed_at) := ⟨rfl, rfl, rfl, by decide +kernel, rfl, by decide +kernel, by decide +kernel⟩
abbrev s__law_whole : Stmt := top 42
theorem sc__law_whole : FnScope ["_law_found"] ["_law_found"] (defScope s__law_whole) := ⟨rfl, rfl, rfl, by decide +kernel, rfl, by decide +kernel, by decide +kernel⟩
abbrev s__law_leaf : Stmt := top 43
theorem sc__law_leaf : FnScope ["_law_pick", "_law_rests_here", "_law_signs", "_law_form"] ["_law_pick", "_law_rests_here", "_law_signs"] (defScope s__law_leaf) := ⟨rfl, rfl, rfl, by decide +kernel, rfl, by decide +kernel, by decide +kernel⟩
abbrev s__law_wrapped : Stmt := top 44
theorem sc__law_wrapped : FnScope ["_law_deed", "_law_pick", "_law_piled", "_law_rests_here", "_law_signs", "_law_inner_here", "_law_first"] ["_law_deed", "_law_pick", "_law_piled", "_law_rests_here", "_law_signs"] (defScope s__law_wrapped) := ⟨rfl, rfl, rfl, by decide +kernel, rfl, by decide +kernel, by decide +kernel⟩
abbrev s__law_part_by : Stmt := top 45
theorem sc__law_part_by : FnScope ["_law_cells", "_law_rests_here", "_law_signs", "_law_piled", "_law_traps", "_law_cell", "_law_number", "_law_deed", "_law_later", "_law_first"] ["_law_cells", "_law_rests_here", "_law_signs"] (defScope s__law_part_by) := ⟨rfl, rfl, rfl, by decide +kernel, rfl, by decide +kernel, by decide +kernel⟩
abbrev s__law_rests : Stmt := top 46
theorem sc__law_rests : FnScope ["_law_part", "_law_found", "_law_inner_here"] ["_law_part"] (defScope s__law_rests) := ⟨rfl, rfl, rfl, by decide +kernel, rfl, by decide +kernel, by decide +kernel⟩
abbrev s__law_goes : Stmt := top 47
theorem sc__law_goes : FnScope ["_law_part", "_law_state"] ["_law_part", "_law_state"] (defScope s__law_goes) := ⟨rfl, rfl, rfl, by decide +kernel, rfl, by decide +kernel, by decide +kernel⟩
abbrev s__law_there : Stmt := top 48
theorem sc__law_there : FnScope ["_law_number", "_law_signs"] ["_law_number", "_law_signs"] (defScope s__law_there) := ⟨rfl, rfl, rfl, by decide +kernel, rfl, by decide +kernel, by decide +kernel⟩
abbrev s__law_copied : Stmt := top 49
theorem sc__law_copied : FnScope ["_law_state"] ["_law_state"] (defScope s__law_copied) := ⟨rfl, rfl, rfl, by decide +kernel, rfl, by decide +kernel, by decide +kernel⟩
abbrev s__law_known : Stmt := top 50
theorem sc__law_known : FnScope ["_law_number", "_law_signs", "_law_known_here", "_law_sign", "_law_digit"] ["_law_number", "_law_signs"] (defScope s__law_known) := ⟨rfl, rfl, rfl, by decide +kernel, rfl, by decide +kernel, by decide +kernel⟩
abbrev s__law_rising : Stmt := top 51
theorem sc__law_rising : FnScope ["_law_row"] ["_law_row"] (defScope s__law_rising) := ⟨rfl, rfl, rfl, by decide +kernel, rfl, by decide +kernel, by decide +kernel⟩
abbrev s__law_formed : Stmt := top 52
theorem sc__law_formed : FnScope ["_law_found"] ["_law_found"] (defScope s__law_formed) := ⟨rfl, rfl, rfl, by decide +kernel, rfl, by decide +kernel, by decide +kernel⟩
abbrev s__law_both : Stmt := top 53
theorem sc__law_both : FnScope ["_law_one", "_law_other", "_law_codes", "_law_surely", "_law_must"] ["_law_one", "_law_other", "_law_codes", "_law_surely"] (defScope s__law_both) := ⟨rfl, rfl, rfl, by decide +kernel, rfl, by decide +kernel, by decide +kernel⟩
abbrev s__law_if : Stmt := top 54
theorem sc__law_if : FnScope ["_law_whole_here", "_law_state", "_law_sure", "_law_known_here", "_law_first", "_law_second", "_law_one", "_law_other"] ["_law_whole_here", "_law_state", "_law_sure", "_law_known_here"] (defScope s__law_if) := ⟨rfl, rfl, rfl, by decide +kernel, rfl, by decide +kernel, by decide +kernel⟩
abbrev s__law_beside : Stmt := top 55
theorem sc__law_beside : FnScope ["_law_whole_here", "_law_state", "_law_sure", "_law_known_here", "_law_sides", "_law_side", "_law_codes", "_law_code"] ["_law_whole_here", "_law_state", "_law_sure", "_law_known_here"] (defScope s__law_beside) := ⟨rfl, rfl, rfl, by decide +kernel, rfl, by decide +kernel, by decide +kernel⟩
abbrev s__law_then : Stmt := top 56
theorem sc__law_then : FnScope ["_law_whole_here", "_law_state", "_law_sure", "_law_known_here", "_law_one", "_law_other"] ["_law_whole_here", "_law_state", "_law_sure", "_law_known_here"] (defScope s__law_then) := ⟨rfl, rfl, rfl, by decide +kernel, rfl, by decide +kernel, by decide +kernel⟩
abbrev s__law_inner : Stmt := top 57
theorem sc__law_inner : FnScope ["_law_whole_here", "_law_state", "_law_sure", "_law_known_here", "_law_word", "_law_inner_here", "_law_codes", "_law_surely", "_law_must", "_law_can", "_law_value", "_law_code", "_law_found"] ["_law_whole_here", "_law_state", "_law_sure", "_law_known_here"] (defScope s__law_inner) := ⟨rfl, rfl, rfl, by decide +kernel, rfl, by decide +kernel, by decide +kernel⟩
abbrev s__law_due : Stmt := top 58
theorem sc__law_due : FnScope ["_law_whole_here", "_law_state", "_law_sure", "_law_known_here"] ["_law_whole_here", "_law_state", "_law_sure", "_law_known_here"] (defScope s__law_due) := ⟨rfl, rfl, rfl, by decide +kernel, rfl, by decide +kernel, by decide +kernel⟩
abbrev s__law_whole_by : Stmt := top 59
theorem sc__law_whole_by : FnScope ["_law_cells", "_law_cut", "_law_pick", "_law_first", "_law_rests_here", "_law_second", "_law_sign", "_law_joins"] ["_law_cells", "_law_cut", "_law_pick"] (defScope s__law_whole_by) := ⟨rfl, rfl, rfl, by decide +kernel, rfl, by decide +kernel, by decide +kernel⟩
abbrev s_law : Stmt := top 60
theorem sc_law : FnScope ["_law_script", "_law_seed", "_law_numbers", "_law_cells", "_law_pick", "_law_whole_here", "_law_state", "_law_number", "_law_there_here", "_law_known_here", "_law_sure", "_law_handed", "_law_given", "_law_found"] ["_law_script"] (defScope s_law) := ⟨rfl, rfl, rfl, by decide +kernel, rfl, by decide +kernel, by decide +kernel⟩
structure Txt (mg : Str → Option Value) : Prop where
  n_all : mg "all" = none
  n_any : mg "any" = none
  n_bool : mg "bool" = none
  n_divmod : mg "divmod" = none
  n_int : mg "int" = none
  n_isinstance : mg "isinstance" = none
  n_len : mg "len" = none
  n_list : mg "list" = none
  n_max : mg "max" = none
  n_min : mg "min" = none
  n_range : mg "range" = none
  n_set : mg "set" = none
  n_sorted : mg "sorted" = none
  n_tuple : mg "tuple" = none
/-! ### plain parts, what remains of them, and what they do -/
inductive Pt where
  | nothing
  | rest (k : Int)
  | send (s : Int)
  | exit (d : Int)
  | stay (ks : List Int)
  | iff (s : Int) (p q : Pt)
  | again (k : Int) (p : Pt)
  | hold (s : Int) (p : Pt)
  | watch (s : Int) (p : Pt)
  | trap (p : Pt)
  | thn (p q : Pt)
  | bes (p q : Pt)
def Pt.nd : Pt → Nd
  | .nothing => .t [.s "nothing"]
  | .rest k => .t [.s "rest", .i k]
  | .send s => .t [.s "send", .i s]
  | .exit d => .t [.s "exit", .i d]
  | .stay ks => .t [.s "stay", .t (ks.map Nd.i)]
  | .iff s p q => .t [.s "if", .i s, p.nd, q.nd]
  | .again k p => .t [.s "again", .i k, p.nd]
  | .hold s p => .t [.s "hold", .i s, p.nd]
  | .watch s p => .t [.s "watch", .i s, p.nd]
  | .trap p => .t [.s "trap", p.nd]
  | .thn p q => .t [.s "then", p.nd, q.nd]
  | .bes p q => .t [.s "beside", p.nd, q.nd]
def Pt.hg : Pt → Nat
  | .iff _ p q => max p.hg q.hg + 1
  | .thn p q => max p.hg q.hg + 1
  | .bes p q => max p.hg q.hg + 1
  | .again _ p => p.hg + 1
  | .hold _ p => p.hg + 1
  | .watch _ p => p.hg + 1
  | .trap p => p.hg + 1
  | .nothing => 1
  | .rest _ => 1
  | .send _ => 1
  | .exit _ => 1
  | .stay _ => 1
/-- rests and agains -/
def Pt.rc : Pt → Nat
  | .rest _ => 1
  | .stay ks => ks.length
  | .iff _ p q => p.rc + q.rc
  | .thn p q => p.rc + q.rc
  | .bes p q => p.rc + q.rc
  | .again _ p => p.rc + 1
  | .hold _ p => p.rc
  | .watch _ p => p.rc
  | .trap p => p.rc
  | .nothing => 0
  | .send _ => 0
  | .exit _ => 0
/-- sends -/
def Pt.sc : Pt → Nat
  | .send _ => 1
  | .iff _ p q => p.sc + q.sc
  | .thn p q => p.sc + q.sc
  | .bes p q => p.sc + q.sc
  | .again _ p => p.sc
  | .hold _ p => p.sc
  | .watch _ p => p.sc
  | .trap p => p.sc
  | .nothing => 0
  | .rest _ => 0
  | .exit _ => 0
  | .stay _ => 0
/-- rests left at most -/
def Pt.lc : Pt → Nat
  | .rest _ => 1
  | .stay ks => ks.length
  | .iff _ p q => max p.lc q.lc
  | .thn p q => max p.lc q.lc
  | .bes p q => p.lc + q.lc
  | .again _ p => max 1 p.lc
  | .hold _ p => p.lc
  | .watch _ p => p.lc
  | .trap p => p.lc
  | .nothing => 0
  | .send _ => 0
  | .exit _ => 0
def lp (p : Pt) (a b : List Int × Pt) : Pt :=
  match p with
  | .thn _ q => if b.1 = [] then .thn a.2 q else b.2
  | .bes _ _ => if ¬ a.1 = [] ∧ ¬ b.1 = [] then .bes a.2 b.2 else if ¬ a.1 = [] then a.2 else if ¬ b.1 = [] then b.2 else p
  | _ => if ¬ a.1 = [] then a.2 else if ¬ b.1 = [] then b.2 else p
def lr (p : Pt) (a : List Int × Pt) : Pt :=
  if a.1 = [] then p else
  match p with
  | .again k _ => .again k a.2
  | .trap _ => .trap a.2
  | .hold s _ => .iff s (.stay a.1) a.2
  | .watch s _ => .iff s .nothing a.2
  | _ => p
def rem (st : List Int) : Pt → List Int × Pt
  | .iff s p q => ((rem st p).1 ++ (rem st q).1, lp (.iff s p q) (rem st p) (rem st q))
  | .thn p q => ((rem st p).1 ++ (rem st q).1, lp (.thn p q) (rem st p) (rem st q))
  | .bes p q => ((rem st p).1 ++ (rem st q).1, lp (.bes p q) (rem st p) (rem st q))
  | .again k p => if k ∈ st then ([k] ++ (rem st p).1, .again k p) else ((rem st p).1, lr (.again k p) (rem st p))
  | .hold s p => ((rem st p).1, lr (.hold s p) (rem st p))
  | .watch s p => ((rem st p).1, lr (.watch s p) (rem st p))
  | .trap p => ((rem st p).1, lr (.trap p) (rem st p))
  | .rest k => if k ∈ st then ([k], .nothing) else ([], .rest k)
  | .nothing => ([], .nothing)
  | .send x0 => ([], (.send x0))
  | .exit x0 => ([], (.exit x0))
  | .stay x0 => ([], (.stay x0))
def trapC (c : Int) : Int := if c = 2 then 0 else if 2 < c then c - 1 else c
def agC (c : Int) : Int := if c = 0 then 1 else c
abbrev Dd := Int × List Int × List Int
def turnD (a b : Dd) : Dd := (b.1, a.2.1 ++ b.2.1, b.2.2)
def sideD (a b : Dd) : Dd := (if b.1 > a.1 then b.1 else a.1, a.2.1 ++ b.2.1, if (if b.1 > a.1 then b.1 else a.1) = 1 then a.2.2 ++ b.2.2 else [])
def repD (k : Int) (a : Dd) : Dd := (agC a.1, a.2.1, if a.1 = 0 then [k] else a.2.2)
def beg (th : List Int) : Pt → Dd
  | .thn p q => if (beg th p).1 = 0 then turnD (beg th p) (beg th q) else beg th p
  | .bes p q => sideD (beg th p) (beg th q)
  | .iff s p q => if s ∈ th then beg th p else beg th q
  | .again k p => repD k (beg th p)
  | .hold _ p => beg th p
  | .watch _ p => beg th p
  | .trap p => (trapC (beg th p).1, (beg th p).2.1, (beg th p).2.2)
  | .nothing => (0, [], [])
  | .send s => (0, [s], [])
  | .exit d => (2 + d, [], [])
  | .rest k => (1, [], [k])
  | .stay ks => (1, [], ks)
theorem Pt.hg_pos (p : Pt) : 1 ≤ p.hg := by cases p <;> exact Nat.le_add_left 1 _
theorem rem_len (st : List Int) (p : Pt) : (rem st p).1.length ≤ p.rc := by
  induction p with
  | nothing => exact Nat.le_refl _
  | rest k => simp only [rem]; split; exact Nat.le_refl _; exact Nat.zero_le _
  | send s => exact Nat.le_refl _
  | exit d => exact Nat.le_refl _
  | stay ks => exact Nat.zero_le _
  | iff s p q ih1 ih2 => simp only [rem, List.length_append]; exact Nat.add_le_add ih1 ih2
  | thn p q ih1 ih2 => simp only [rem, List.length_append]; exact Nat.add_le_add ih1 ih2
  | bes p q ih1 ih2 => simp only [rem, List.length_append]; exact Nat.add_le_add ih1 ih2
  | again k p ih =>
    simp only [rem]
    split
    · rw [List.length_append, Nat.add_comm]; exact Nat.succ_le_succ ih
    · exact Nat.le_trans ih (Nat.le_succ _)
  | hold s p ih => exact ih
  | watch s p ih => exact ih
  | trap p ih => exact ih
theorem Pt.lc_rc (p : Pt) : p.lc ≤ p.rc := by
  induction p with
  | iff s p q h1 h2 => exact Nat.max_le.mpr ⟨Nat.le_trans h1 (Nat.le_add_right _ _), Nat.le_trans h2 (Nat.le_add_left _ _)⟩
  | thn p q h1 h2 => exact Nat.max_le.mpr ⟨Nat.le_trans h1 (Nat.le_add_right _ _), Nat.le_trans h2 (Nat.le_add_left _ _)⟩
  | bes p q h1 h2 => exact Nat.add_le_add h1 h2
  | again k p h => exact Nat.max_le.mpr ⟨Nat.le_add_left _ _, Nat.le_trans h (Nat.le_succ _)⟩
  | hold s p h => exact h
  | watch s p h => exact h
  | trap p h => exact h
  | _ => exact Nat.le_refl _
theorem beg_len (th : List Int) (p : Pt) : (beg th p).2.1.length ≤ p.sc ∧ (beg th p).2.2.length ≤ p.lc := by
  induction p with
  | nothing => exact ⟨Nat.le_refl _, Nat.le_refl _⟩
  | rest k => exact ⟨Nat.le_refl _, Nat.le_refl _⟩
  | send s => exact ⟨Nat.le_refl _, Nat.le_refl _⟩
  | exit d => exact ⟨Nat.le_refl _, Nat.le_refl _⟩
  | stay ks => exact ⟨Nat.le_refl _, Nat.le_refl _⟩
  | iff s p q ih1 ih2 =>
    simp only [beg]
    split
    · exact ⟨Nat.le_trans ih1.1 (Nat.le_add_right _ _), Nat.le_trans ih1.2 (Nat.le_max_left _ _)⟩
    · exact ⟨Nat.le_trans ih2.1 (Nat.le_add_left _ _), Nat.le_trans ih2.2 (Nat.le_max_right _ _)⟩
  | thn p q ih1 ih2 =>
    simp only [beg]
    split
    · simp only [turnD, List.length_append]
      exact ⟨Nat.add_le_add ih1.1 ih2.1, Nat.le_trans ih2.2 (Nat.le_max_right _ _)⟩
    · exact ⟨Nat.le_trans ih1.1 (Nat.le_add_right _ _), Nat.le_trans ih1.2 (Nat.le_max_left _ _)⟩
  | bes p q ih1 ih2 =>
    simp only [beg, sideD, List.length_append]
    refine ⟨Nat.add_le_add ih1.1 ih2.1, ?_⟩
    generalize (if (beg th q).1 > (beg th p).1 then (beg th q).1 else (beg th p).1) = c
    split
    · rw [List.length_append]; exact Nat.add_le_add ih1.2 ih2.2
    · exact Nat.zero_le _
  | again k p ih =>
    simp only [beg, repD]
    refine ⟨ih.1, ?_⟩
    split
    · exact Nat.le_max_left _ _
    · exact Nat.le_trans ih.2 (Nat.le_max_right _ _)
  | hold s p ih => exact ih
  | watch s p ih => exact ih
  | trap p ih => exact ih
theorem lp_le {f : Pt → Nat} {p : Pt} {a b : List Int × Pt} {n : Nat} (h0 : f p ≤ n) (ha : f a.2 ≤ n) (hb : f b.2 ≤ n) (ht : ∀ q r, p = .thn q r → f (.thn a.2 r) ≤ n) (hs : ∀ q r, p = .bes q r → f (.bes a.2 b.2) ≤ n) : f (lp p a b) ≤ n := by
  unfold lp
  split
  · split
    · exact ht _ _ rfl
    · exact hb
  · split
    · exact hs _ _ rfl
    · split
      · exact ha
      · split
        · exact hb
        · exact h0
  · split
    · exact ha
    · split
      · exact hb
      · exact h0
theorem rem_sc (st : List Int) (p : Pt) : (rem st p).2.sc ≤ p.sc := by
  induction p with
  | nothing => exact Nat.le_refl _
  | rest k => simp only [rem]; split <;> exact Nat.le_refl _
  | send s => exact Nat.le_refl _
  | exit d => exact Nat.le_refl _
  | stay ks => exact Nat.le_refl _
  | iff s p q ih1 ih2 => exact lp_le (f := Pt.sc) (p := .iff s p q) (a := rem st p) (b := rem st q) (n := Pt.sc (.iff s p q)) (Nat.le_refl _) (Nat.le_trans ih1 (Nat.le_add_right _ _)) (Nat.le_trans ih2 (Nat.le_add_left _ _)) (fun _ _ e => nomatch e) (fun _ _ e => nomatch e)
  | thn p q ih1 ih2 => exact lp_le (f := Pt.sc) (p := .thn p q) (a := rem st p) (b := rem st q) (n := Pt.sc (.thn p q)) (Nat.le_refl _) (Nat.le_trans ih1 (Nat.le_add_right _ _)) (Nat.le_trans ih2 (Nat.le_add_left _ _)) (fun _ _ e => by cases e; exact Nat.add_le_add_right ih1 _) (fun _ _ e => nomatch e)
  | bes p q ih1 ih2 => exact lp_le (f := Pt.sc) (p := .bes p q) (a := rem st p) (b := rem st q) (n := Pt.sc (.bes p q)) (Nat.le_refl _) (Nat.le_trans ih1 (Nat.le_add_right _ _)) (Nat.le_trans ih2 (Nat.le_add_left _ _)) (fun _ _ e => nomatch e) (fun _ _ e => by cases e; exact Nat.add_le_add ih1 ih2)
  | again k p ih =>
    simp only [rem]
    split
    · exact Nat.le_refl _
    · unfold lr; split
      · exact Nat.le_refl _
      · exact ih
  | hold s p ih => simp only [rem]; unfold lr; split; exact Nat.le_refl _; exact Nat.le_trans (Nat.le_of_eq (Nat.zero_add _)) ih
  | watch s p ih => simp only [rem]; unfold lr; split; exact Nat.le_refl _; exact Nat.le_trans (Nat.le_of_eq (Nat.zero_add _)) ih
  | trap p ih => simp only [rem]; unfold lr; split; exact Nat.le_refl _; exact ih
theorem rem_lc (st : List Int) (p : Pt) : (rem st p).2.lc ≤ p.rc := by
  induction p with
  | nothing => exact Nat.le_refl _
  | rest k => simp only [rem]; split; exact Nat.zero_le _; exact Nat.le_refl _
  | send s => exact Nat.le_refl _
  | exit d => exact Nat.le_refl _
  | stay ks => exact Nat.le_refl _
  | iff s p q ih1 ih2 => exact lp_le (f := Pt.lc) (p := .iff s p q) (a := rem st p) (b := rem st q) (n := Pt.rc (.iff s p q)) (Pt.lc_rc _) (Nat.le_trans ih1 (Nat.le_add_right _ _)) (Nat.le_trans ih2 (Nat.le_add_left _ _)) (fun _ _ e => nomatch e) (fun _ _ e => nomatch e)
  | thn p q ih1 ih2 => exact lp_le (f := Pt.lc) (p := .thn p q) (a := rem st p) (b := rem st q) (n := Pt.rc (.thn p q)) (Pt.lc_rc _) (Nat.le_trans ih1 (Nat.le_add_right _ _)) (Nat.le_trans ih2 (Nat.le_add_left _ _)) (fun _ _ e => by cases e; exact Nat.max_le.mpr ⟨Nat.le_trans ih1 (Nat.le_add_right _ _), Nat.le_trans (Pt.lc_rc q) (Nat.le_add_left _ _)⟩) (fun _ _ e => nomatch e)
  | bes p q ih1 ih2 => exact lp_le (f := Pt.lc) (p := .bes p q) (a := rem st p) (b := rem st q) (n := Pt.rc (.bes p q)) (Pt.lc_rc _) (Nat.le_trans ih1 (Nat.le_add_right _ _)) (Nat.le_trans ih2 (Nat.le_add_left _ _)) (fun _ _ e => nomatch e) (fun _ _ e => by cases e; exact Nat.add_le_add ih1 ih2)
  | again k p ih =>
    simp only [rem]
    split
    · exact Pt.lc_rc _
    · unfold lr; split
      · exact Pt.lc_rc _
      · exact Nat.max_le.mpr ⟨Nat.le_add_left _ _, Nat.le_trans ih (Nat.le_succ _)⟩
  | hold s p ih => simp only [rem]; unfold lr; split; exact Pt.lc_rc p; exact Nat.max_le.mpr ⟨rem_len st p, ih⟩
  | watch s p ih => simp only [rem]; unfold lr; split; exact Pt.lc_rc p; exact Nat.max_le.mpr ⟨Nat.zero_le _, ih⟩
  | trap p ih => simp only [rem]; unfold lr; split; exact Pt.lc_rc p; exact ih
theorem rem_hg (st : List Int) (p : Pt) : (rem st p).2.hg ≤ p.hg := by
  induction p with
  | nothing => exact Nat.le_refl _
  | rest k => simp only [rem]; split <;> exact Nat.le_refl _
  | send s => exact Nat.le_refl _
  | exit d => exact Nat.le_refl _
  | stay ks => exact Nat.le_refl _
  | iff s p q ih1 ih2 => exact lp_le (f := Pt.hg) (p := .iff s p q) (a := rem st p) (b := rem st q) (n := Pt.hg (.iff s p q)) (Nat.le_refl _) (Nat.le_trans ih1 (Nat.le_trans (Nat.le_max_left _ _) (Nat.le_succ _))) (Nat.le_trans ih2 (Nat.le_trans (Nat.le_max_right _ _) (Nat.le_succ _))) (fun _ _ e => nomatch e) (fun _ _ e => nomatch e)
  | thn p q ih1 ih2 => exact lp_le (f := Pt.hg) (p := .thn p q) (a := rem st p) (b := rem st q) (n := Pt.hg (.thn p q)) (Nat.le_refl _) (Nat.le_trans ih1 (Nat.le_trans (Nat.le_max_left _ _) (Nat.le_succ _))) (Nat.le_trans ih2 (Nat.le_trans (Nat.le_max_right _ _) (Nat.le_succ _))) (fun _ _ e => by cases e; exact Nat.succ_le_succ (Nat.max_le.mpr ⟨Nat.le_trans ih1 (Nat.le_max_left _ _), Nat.le_max_right _ _⟩)) (fun _ _ e => nomatch e)
  | bes p q ih1 ih2 => exact lp_le (f := Pt.hg) (p := .bes p q) (a := rem st p) (b := rem st q) (n := Pt.hg (.bes p q)) (Nat.le_refl _) (Nat.le_trans ih1 (Nat.le_trans (Nat.le_max_left _ _) (Nat.le_succ _))) (Nat.le_trans ih2 (Nat.le_trans (Nat.le_max_right _ _) (Nat.le_succ _))) (fun _ _ e => nomatch e) (fun _ _ e => by cases e; exact Nat.succ_le_succ (Nat.max_le.mpr ⟨Nat.le_trans ih1 (Nat.le_max_left _ _), Nat.le_trans ih2 (Nat.le_max_right _ _)⟩))
  | again k p ih =>
    simp only [rem]
    split
    · exact Nat.le_refl _
    · unfold lr; split
      · exact Nat.le_refl _
      · exact Nat.succ_le_succ ih
  | hold s p ih => simp only [rem]; unfold lr; split; exact Nat.le_refl _; exact Nat.succ_le_succ (Nat.max_le.mpr ⟨Pt.hg_pos p, ih⟩)
  | watch s p ih => simp only [rem]; unfold lr; split; exact Nat.le_refl _; exact Nat.succ_le_succ (Nat.max_le.mpr ⟨Pt.hg_pos p, ih⟩)
  | trap p ih => simp only [rem]; unfold lr; split; exact Nat.le_refl _; exact Nat.succ_le_succ ih
/-- what ran tells: sent each once and rising, left rising -/
def sortI (l : List Int) : List Int := l.mergeSort (fun a b => decide (a ≤ b))
theorem sortI_perm (l : List Int) : (sortI l).Perm l := List.mergeSort_perm l _
theorem sortI_rise (l : List Int) : (sortI l).Pairwise (· ≤ ·) := by
  have := List.pairwise_mergeSort (le := fun a b : Int => decide (a ≤ b)) (fun a b c h1 h2 => by simp at *; omega) (fun a b => by simp; omega) l
  exact this.imp fun {a b} h => by simpa using h
theorem perm_ext {a b : List Int} (p : a.Perm b) (ha : a.Pairwise (· ≤ ·)) (hb : b.Pairwise (· ≤ ·)) : a = b := by
  induction a generalizing b with
  | nil => exact p.nil_eq.symm ▸ rfl
  | cons x a ih =>
    cases b with
    | nil => exact absurd p.length_eq (by simp)
    | cons y b =>
      have ha' := List.pairwise_cons.mp ha
      have hb' := List.pairwise_cons.mp hb
      have e : x = y := by
        have h1 : x ≤ y := by
          rcases List.mem_cons.mp (p.mem_iff.mpr (List.mem_cons_self (a := y) (l := b))) with z | z
          · omega
          · exact ha'.1 y z
        have h2 : y ≤ x := by
          rcases List.mem_cons.mp (p.mem_iff.mp (List.mem_cons_self (a := x) (l := a))) with z | z
          · omega
          · exact hb'.1 x z
        omega
      subst e
      congr 1
      exact ih (List.Perm.cons_inv p) ha'.2 hb'.2
theorem sortI_eq {l ms : List Int} (p : ms.Perm l) (h : ms.Pairwise (· ≤ ·)) : ms = sortI l := perm_ext (p.trans (sortI_perm l).symm) h (sortI_rise l)
def pb (p : Pt) : Option (List Int) → Pt
  | none => p
  | some st => (rem st p).2
def ranD (p : Pt) (st : Option (List Int)) (th : List Int) : Dd := ((beg th (pb p st)).1, nub (beg th (pb p st)).2.1, sortI (beg th (pb p st)).2.2)

end My
end

section
set_option Elab.async false
set_option linter.all false
set_option maxRecDepth 100000
set_option maxHeartbeats 4000000
namespace My
open PySem L2
theorem iteE {l : List Int} {A B : Prop} (h1 : ¬ l = [] → A) (h2 : l = [] → B) : if (!(l.map V.int).isEmpty) = true then A else B := by
  cases l with
  | nil => exact h2 rfl
  | cons x r => exact h1 (by simp)
theorem iteI {i j : Int} {A B : Prop} (h1 : i = j → A) (h2 : ¬ i = j → B) : if decide (V.int i = V.int j) = true then A else B := by
  by_cases c : i = j
  · rw [decide_eq_true (congrArg V.int c), if_pos rfl]; exact h1 c
  · rw [decide_eq_false (fun z => c (V.int.inj z)), if_neg Bool.false_ne_true]; exact h2 c
theorem iteM {k : Int} {l : List Int} {A B : Prop} (h1 : k ∈ l → A) (h2 : ¬ k ∈ l → B) : if (if false = true then !inV (V.int k) (l.map V.int) else inV (V.int k) (l.map V.int)) = true then A else B := by
  rw [if_neg Bool.false_ne_true, inV_ints]
  by_cases c : k ∈ l
  · rw [decide_eq_true c, if_pos rfl]; exact h1 c
  · rw [decide_eq_false c, if_neg Bool.false_ne_true]; exact h2 c
theorem iteW {x y : Str} {A B : Prop} (h1 : x = y → A) (h2 : ¬ x = y → B) : if decide (V.str x = V.str y) = true then A else B := by
  by_cases c : x = y
  · subst c; exact iteEq (h1 rfl)
  · exact iteNe c (h2 c)
theorem iteB {b : Bool} {A B : Prop} (h1 : b = true → A) (h2 : b = false → B) : if b = true then A else B := by
  cases b with
  | true => rw [if_pos rfl]; exact h1 rfl
  | false => rw [if_neg Bool.false_ne_true]; exact h2 rfl
def wdP : Pt → Str
  | .nothing => "nothing"
  | .rest _ => "rest"
  | .send _ => "send"
  | .exit _ => "exit"
  | .stay _ => "stay"
  | .iff _ _ _ => "if"
  | .again _ _ => "again"
  | .hold _ _ => "hold"
  | .watch _ _ => "watch"
  | .trap _ => "trap"
  | .thn _ _ => "then"
  | .bes _ _ => "beside"
theorem nd_wd (p : Pt) : ∃ r, Pt.nd p = .t (.s (wdP p) :: r) := by cases p <;> exact ⟨_, rfl⟩
theorem wd_at {K : PySem.W.Frag} {H : Hp} {p : Pt} {v : V} (h : PAt K H (Pt.nd p) v) : ∃ a vs, v = .ref a ∧ TupAt K H a (.str (wdP p) :: vs) := by
  obtain ⟨r, e⟩ := nd_wd p
  rw [e] at h
  obtain ⟨a, vs, rfl, hs, hx⟩ := PAt.get h
  unfold PAtL at hx
  obtain ⟨v, r', rfl, q, l⟩ := hx
  cases q.str
  exact ⟨a, r', rfl, hs⟩
theorem wd_thn {p : Pt} (e : wdP p = "then") : ∃ p1 p2, p = .thn p1 p2 := by cases p <;> first | exact ⟨_, _, rfl⟩ | (dsimp only [wdP] at e; exact absurd e (by decide +kernel))
theorem wd_bes {p : Pt} (e : wdP p = "beside") : ∃ p1 p2, p = .bes p1 p2 := by cases p <;> first | exact ⟨_, _, rfl⟩ | (dsimp only [wdP] at e; exact absurd e (by decide +kernel))
theorem wd_iff {p : Pt} (e : wdP p = "if") : ∃ x p1 p2, p = .iff x p1 p2 := by cases p <;> first | exact ⟨_, _, _, rfl⟩ | (dsimp only [wdP] at e; exact absurd e (by decide +kernel))
theorem wd_again {p : Pt} (e : wdP p = "again") : ∃ k p1, p = .again k p1 := by cases p <;> first | exact ⟨_, _, rfl⟩ | (dsimp only [wdP] at e; exact absurd e (by decide +kernel))
theorem wd_hold {p : Pt} (e : wdP p = "hold") : ∃ x p1, p = .hold x p1 := by cases p <;> first | exact ⟨_, _, rfl⟩ | (dsimp only [wdP] at e; exact absurd e (by decide +kernel))
theorem wd_watch {p : Pt} (e : wdP p = "watch") : ∃ x p1, p = .watch x p1 := by cases p <;> first | exact ⟨_, _, rfl⟩ | (dsimp only [wdP] at e; exact absurd e (by decide +kernel))
theorem wd_trap {p : Pt} (e : wdP p = "trap") : ∃ p1, p = .trap p1 := by cases p <;> first | exact ⟨_, rfl⟩ | (dsimp only [wdP] at e; exact absurd e (by decide +kernel))
theorem wd_exit {p : Pt} (e : wdP p = "exit") : ∃ k, p = .exit k := by cases p <;> first | exact ⟨_, rfl⟩ | (dsimp only [wdP] at e; exact absurd e (by decide +kernel))
theorem wd_send {p : Pt} (e : wdP p = "send") : ∃ k, p = .send k := by cases p <;> first | exact ⟨_, rfl⟩ | (dsimp only [wdP] at e; exact absurd e (by decide +kernel))
theorem wd_stay {p : Pt} (e : wdP p = "stay") : ∃ k, p = .stay k := by cases p <;> first | exact ⟨_, rfl⟩ | (dsimp only [wdP] at e; exact absurd e (by decide +kernel))
theorem wd_rest {p : Pt} (e : wdP p = "rest") : ∃ k, p = .rest k := by cases p <;> first | exact ⟨_, rfl⟩ | (dsimp only [wdP] at e; exact absurd e (by decide +kernel))
theorem snoc_le {α : Type} {l : List α} {x : α} {j : Nat} (h : l.length ≤ j) : (l ++ [x]).length ≤ j + 1 := by rw [List.length_append, List.length_singleton]; exact Nat.succ_le_succ h
theorem lt9 {n : Nat} (h : n < 64) : n ≤ 900 := Nat.le_trans (Nat.le_of_lt h) (by decide)
theorem leK {n k : Nat} (h : n ≤ k) (z : k ≤ 1000) : n ≤ 1000 := Nat.le_trans h z
theorem le2K {a b k l : Nat} (h1 : a ≤ k) (h2 : b ≤ l) (z : k + l ≤ 1000) : a + b ≤ 1000 := Nat.le_trans (Nat.add_le_add h1 h2) z
theorem le2L {a b k l : Nat} (h1 : a ≤ k) (h2 : b ≤ l) (z : k + l < 64) : a + b < 64 := Nat.lt_of_le_of_lt (Nat.add_le_add h1 h2) z
theorem tn_lt {s : Int} {n : Nat} (h : 0 ≤ s ∧ s < n) : s.toNat < n := (Int.toNat_lt h.1).mpr h.2
theorem bd_succ {x : Int} {i : Nat} (h : 0 ≤ x ∧ x < i) : 0 ≤ x ∧ x < ((i + 1 : Nat) : Int) := ⟨h.1, Int.lt_of_lt_of_le h.2 (Int.ofNat_le.mpr (Nat.le_succ i))⟩
theorem bd_at (i : Nat) : 0 ≤ 0 + (i : Int) ∧ 0 + (i : Int) < ((i + 1 : Nat) : Int) := by rw [Int.zero_add]; exact ⟨Int.natCast_nonneg _, Int.ofNat_lt.mpr (Nat.lt_succ_self i)⟩
theorem hgl {a b n : Nat} (h : max a b + 1 ≤ n + 1) : a ≤ n := Nat.le_trans (Nat.le_max_left _ _) (Nat.le_of_succ_le_succ h)
theorem hgr {a b n : Nat} (h : max a b + 1 ≤ n + 1) : b ≤ n := Nat.le_trans (Nat.le_max_right _ _) (Nat.le_of_succ_le_succ h)
theorem adl {a b n : Nat} (h : a + b ≤ n) : a ≤ n := Nat.le_trans (Nat.le_add_right _ _) h
theorem adr {a b n : Nat} (h : a + b ≤ n) : b ≤ n := Nat.le_trans (Nat.le_add_left _ _) h
theorem mxl {a b n : Nat} (h : max a b ≤ n) : a ≤ n := Nat.le_trans (Nat.le_max_left _ _) h
theorem mxr {a b n : Nat} (h : max a b ≤ n) : b ≤ n := Nat.le_trans (Nat.le_max_right _ _) h
structure TxtR (K : PySem.W.Frag) (mg : Str → Option Value) (aN aP aR : Addr) (uE uR uL : Value) : Prop extends Txt mg where
  m_ENDED : mg "ENDED" = some uE
  r_ENDED : RelV (.int 0) uE
  m_RESTS : mg "RESTS" = some uR
  r_RESTS : RelV (.int 1) uR
  m_LEAVES : mg "LEAVES" = some uL
  r_LEAVES : RelV (.int 2) uL
  m_NOTHING : mg "NOTHING" = some (.ref aN)
  r_NOTHING : RelV (.ref aN) (Value.ref aN)
  mN : ModT K aN [V.str "nothing"]
  m_PAIRS : mg "PAIRS" = some (.ref aP)
  r_PAIRS : RelV (.ref aP) (Value.ref aP)
  mP : ModT K aP [V.str "then", V.str "if", V.str "beside"]
  m_ROUND : mg "ROUND" = some (.ref aR)
  r_ROUND : RelV (.ref aR) (Value.ref aR)
  mR : ModT K aR [V.str "again", V.str "hold", V.str "watch", V.str "trap"]
inductive RemAt (K : PySem.W.Frag) (H : Hp) (t : Addr) (r : List Int × Pt)   : Prop
  | mk (l) (v) (c0 : H t = some (.tup [.ref l, v])) (c1 : H l = some (.lst (r.1.map V.int))) (c2 : PAt K H r.2.nd v) : RemAt K H t r 
theorem RemAt.mono {K : PySem.W.Frag} {H H' : Hp} (g : Same H H') {t : Addr} {r : List Int × Pt} (h : RemAt K H t r) : RemAt K H' t r := by
  obtain ⟨l, v, h1, h2, h3⟩ := h
  exact ⟨l, v, g _ _ h1, g _ _ h2, h3.mono g.tp⟩
theorem patL_ints {K : PySem.W.Frag} {H : Hp} : ∀ (l : List Int), PAtL K H (l.map Nd.i) (l.map V.int)
  | [] => .nil
  | x :: r => .cons .i (patL_ints r)
theorem patL_int {K : PySem.W.Frag} {H : Hp} : ∀ {l : List Int} {vs : List V}, PAtL K H (l.map Nd.i) vs → vs = l.map V.int
  | [], vs, h => by unfold PAtL at h; exact h
  | x :: r, vs, h => by
    have h : PAtL K H (.i x :: r.map Nd.i) vs := h
    unfold PAtL at h
    obtain ⟨v, r', rfl, q, l⟩ := h
    cases q.int
    rw [patL_int l]; rfl
def isLf : Pt → Bool
  | .nothing => true
  | .rest _ => true
  | .send _ => true
  | .exit _ => true
  | .stay _ => true
  | _ => false
def isPr : Pt → Bool
  | .iff _ _ _ => true
  | .thn _ _ => true
  | .bes _ _ => true
  | _ => false
def isRd : Pt → Bool
  | .again _ _ => true
  | .hold _ _ => true
  | .watch _ _ => true
  | .trap _ => true
  | _ => false
theorem wd_leaf {p : Pt} (n1 : ¬ wdP p = "then") (n2 : ¬ wdP p = "beside") (n3 : ¬ wdP p = "if") (n4 : ¬ wdP p = "again") (n5 : ¬ wdP p = "hold") (n6 : ¬ wdP p = "watch") (n7 : ¬ wdP p = "trap") : isLf p = true := by
  cases p <;> first | rfl | exact absurd rfl n1 | exact absurd rfl n2 | exact absurd rfl n3 | exact absurd rfl n4 | exact absurd rfl n5 | exact absurd rfl n6 | exact absurd rfl n7
theorem in_pr {p : Pt} {A B : Prop} (h1 : isPr p = true → A) (h2 : isPr p = false → B) : if (if false = true then !inV (V.str (wdP p)) [V.str "then", V.str "if", V.str "beside"] else inV (V.str (wdP p)) [V.str "then", V.str "if", V.str "beside"]) = true then A else B := by
  rw [show (if false = true then !inV (V.str (wdP p)) [V.str "then", V.str "if", V.str "beside"] else inV (V.str (wdP p)) [V.str "then", V.str "if", V.str "beside"]) = isPr p from by cases p <;> (dsimp only [wdP, isPr]; decide +kernel)]
  exact iteB h1 h2
theorem in_rd {p : Pt} {A B : Prop} (h1 : isRd p = true → A) (h2 : isRd p = false → B) : if (if false = true then !inV (V.str (wdP p)) [V.str "again", V.str "hold", V.str "watch", V.str "trap"] else inV (V.str (wdP p)) [V.str "again", V.str "hold", V.str "watch", V.str "trap"]) = true then A else B := by
  rw [show (if false = true then !inV (V.str (wdP p)) [V.str "again", V.str "hold", V.str "watch", V.str "trap"] else inV (V.str (wdP p)) [V.str "again", V.str "hold", V.str "watch", V.str "trap"]) = isRd p from by cases p <;> (dsimp only [wdP, isRd]; decide +kernel)]
  exact iteB h1 h2
/-- a pair, by its last two items -/
inductive PrV (K : PySem.W.Frag) (H : Hp) (p : Pt) (v : V) (n : Nat) : Prop
  | mk (a : Addr) (vs : List V) (x1 x2 : V) (p1 p2 : Pt) (e : v = .ref a) (hs : TupAt K H a vs) (i1 : atI vs (-2) = some x1) (i2 : atI vs (-1) = some x2) (h1 : PAt K H (Pt.nd p1) x1) (h2 : PAt K H (Pt.nd p2) x2) (c1 : p1.hg ≤ n) (c2 : p2.hg ≤ n) (hc : p1.rc + p2.rc ≤ 900) (er : ∀ ns, rem ns p = ((rem ns p1).1 ++ (rem ns p2).1, lp p (rem ns p1) (rem ns p2))) : PrV K H p v n
theorem pat_pr {K : PySem.W.Frag} {H : Hp} {p : Pt} {v : V} {n : Nat} (h : PAt K H (Pt.nd p) v) (z : isPr p = true) (hh : p.hg ≤ n + 1) (hc : p.rc ≤ 900) : PrV K H p v n := by
  cases p with
  | thn p1 p2 =>
    obtain ⟨a, vs, rfl, hs, hx⟩ := PAt.get h
    obtain ⟨x0, x1, x2, rfl, h0, h1, h2⟩ := hx.three
    exact ⟨a, _, x1, x2, p1, p2, rfl, hs, atI_neg2 (by simp) rfl, atI_neg1 rfl, h1, h2, hgl hh, hgr hh, hc, fun _ => rfl⟩
  | bes p1 p2 =>
    obtain ⟨a, vs, rfl, hs, hx⟩ := PAt.get h
    obtain ⟨x0, x1, x2, rfl, h0, h1, h2⟩ := hx.three
    exact ⟨a, _, x1, x2, p1, p2, rfl, hs, atI_neg2 (by simp) rfl, atI_neg1 rfl, h1, h2, hgl hh, hgr hh, hc, fun _ => rfl⟩
  | iff sn p1 p2 =>
    obtain ⟨a, vs, rfl, hs, hx⟩ := PAt.get h
    obtain ⟨x0, x1, x2, x3, rfl, h0, h1, h2, h3⟩ := hx.four
    exact ⟨a, _, x2, x3, p1, p2, rfl, hs, atI_neg2 (by simp) rfl, atI_neg1 rfl, h2, h3, hgl hh, hgr hh, hc, fun _ => rfl⟩
  | _ => cases z
/-- a round, by its last item -/
inductive RdV (K : PySem.W.Frag) (H : Hp) (p : Pt) (v : V) (n : Nat) : Prop
  | mk (a : Addr) (vs : List V) (x1 : V) (p1 : Pt) (e : v = .ref a) (hs : TupAt K H a (.str (wdP p) :: vs)) (i1 : atI (.str (wdP p) :: vs) (-1) = some x1) (h1 : PAt K H (Pt.nd p1) x1) (c1 : p1.hg ≤ n) (c2 : p1.rc ≤ 900) (hor : (∃ k, p = .again k p1 ∧ p1.rc + 1 ≤ 900 ∧ vs = [.int k, x1]) ∨ (¬ wdP p = "again" ∧ ∀ ns, rem ns p = ((rem ns p1).1, lr p (rem ns p1)))) : RdV K H p v n
theorem pat_rd {K : PySem.W.Frag} {H : Hp} {p : Pt} {v : V} {n : Nat} (h : PAt K H (Pt.nd p) v) (z : isRd p = true) (hh : p.hg ≤ n + 1) (hc : p.rc ≤ 900) : RdV K H p v n := by
  cases p with
  | again k p1 =>
    obtain ⟨a, vs, rfl, hs, hx⟩ := PAt.get h
    obtain ⟨x0, x1, x2, rfl, h0, h1, h2⟩ := hx.three
    cases h0.str
    cases h1.int
    exact ⟨a, _, x2, p1, rfl, hs, atI_neg1 rfl, h2, Nat.le_of_succ_le_succ hh, Nat.le_of_succ_le hc, .inl ⟨k, rfl, hc, rfl⟩⟩
  | hold k p1 =>
    obtain ⟨a, vs, rfl, hs, hx⟩ := PAt.get h
    obtain ⟨x0, x1, x2, rfl, h0, h1, h2⟩ := hx.three
    cases h0.str
    exact ⟨a, _, x2, p1, rfl, hs, atI_neg1 rfl, h2, Nat.le_of_succ_le_succ hh, hc, .inr ⟨by dsimp only [wdP]; decide +kernel, fun _ => rfl⟩⟩
  | watch k p1 =>
    obtain ⟨a, vs, rfl, hs, hx⟩ := PAt.get h
    obtain ⟨x0, x1, x2, rfl, h0, h1, h2⟩ := hx.three
    cases h0.str
    exact ⟨a, _, x2, p1, rfl, hs, atI_neg1 rfl, h2, Nat.le_of_succ_le_succ hh, hc, .inr ⟨by dsimp only [wdP]; decide +kernel, fun _ => rfl⟩⟩
  | trap p1 =>
    obtain ⟨a, vs, rfl, hs, hx⟩ := PAt.get h
    obtain ⟨x0, x1, rfl, h0, h1⟩ := hx.two
    cases h0.str
    exact ⟨a, _, x1, p1, rfl, hs, atI_neg1 rfl, h1, Nat.le_of_succ_le_succ hh, hc, .inr ⟨by dsimp only [wdP]; decide +kernel, fun _ => rfl⟩⟩
  | _ => cases z
theorem rem_leaf {p : Pt} (h1 : isPr p = false) (h2 : isRd p = false) (h3 : ¬ wdP p = "rest") (ns : List Int) : rem ns p = ([], p) := by
  cases p <;> first | rfl | (cases h1; done) | (cases h2; done) | exact absurd rfl h3
def agIn (ns : List Int) : Pt → Bool
  | .again k _ => decide (k ∈ ns)
  | _ => false
def restIn (ns : List Int) : Pt → Bool
  | .rest k => decide (k ∈ ns)
  | _ => false
theorem agIn_no {p : Pt} (h : ¬ wdP p = "again") (ns : List Int) : agIn ns p = false := by cases p <;> first | rfl | exact absurd rfl h
theorem restIn_no {p : Pt} (h : ¬ wdP p = "rest") (ns : List Int) : restIn ns p = false := by cases p <;> first | rfl | exact absurd rfl h
/-- a test that changes nothing, by its value -/
theorem if_pure {t : TT} {a u : TS} {D : Ends} {σ : St} {H : Hp} (b : Bool) (h : ∀ N : Bool → Hp → Prop, N b H → t σ H N) (ka : b = true → a { D with nx := u D } σ H) (kb : b = false → u D σ H) : tSeq (tIfS t a tNext) u D σ H :=
  h _ (by
    cases b with
    | true => exact iteT (ka rfl)
    | false => exact iteF (kb rfl))
theorem beg_leaf {p : Pt} (h : isLf p = true) (th th' : List Int) : beg th p = beg th' p := by cases p <;> first | rfl | cases h
theorem lf_code {p : Pt} (h : isLf p = true) (n1 : ¬ wdP p = "exit") (n2 : ¬ wdP p = "rest") (n3 : ¬ wdP p = "stay") : (beg [] p).1 = 0 := by cases p <;> first | rfl | exact absurd rfl n1 | exact absurd rfl n2 | exact absurd rfl n3 | cases h
theorem lf_left {p : Pt} (h : isLf p = true) (n1 : ¬ wdP p = "rest") (n2 : ¬ wdP p = "stay") : (beg [] p).2.2 = [] := by cases p <;> first | rfl | exact absurd rfl n1 | exact absurd rfl n2 | cases h
theorem lf_sent {p : Pt} (h : isLf p = true) (n1 : ¬ wdP p = "send") : (beg [] p).2.1 = [] := by cases p <;> first | rfl | exact absurd rfl n1 | cases h
inductive C_spLeafC (K : PySem.W.Frag) (vs : List V) (H : Hp) (Q : VK) : Prop
  | mk (v) (p) (c0 : vs = [v]) (c1 : PAt K H (Pt.nd p) v) (c2 : isLf p = true) (c3 : Q (.int (beg [] p).1) H) : C_spLeafC K vs H Q
def spLeafC (K : PySem.W.Frag) : Sp := fun vs H Q _ => C_spLeafC K vs H Q
inductive C_spAgC  (vs : List V) (H : Hp) (Q : VK) : Prop
  | mk (c : Int) (c0 : vs = [.int c]) (c1 : Q (.int (agC c)) H) : C_spAgC  vs H Q
def spAgC : Sp := fun vs H Q _ => C_spAgC  vs H Q
inductive C_spTrC  (vs : List V) (H : Hp) (Q : VK) : Prop
  | mk (c : Int) (c0 : vs = [.int c]) (c1 : Q (.int (trapC c)) H) : C_spTrC  vs H Q
def spTrC : Sp := fun vs H Q _ => C_spTrC  vs H Q
inductive C_spLP (K : PySem.W.Frag) (vs : List V) (H : Hp) (Q : VK) : Prop
  | mk (v) (p) (t1) (t2) (a) (b) (c0 : vs = [v, .ref t1, .ref t2]) (c1 : PAt K H (Pt.nd p) v) (c2 : isPr p = true) (c3 : RemAt K H t1 a) (c4 : RemAt K H t2 b) (c5 : ∀ v' H', Same H H' → PAt K H' (lp p a b).nd v' → Q v' H') : C_spLP K vs H Q
def spLP (K : PySem.W.Frag) : Sp := fun vs H Q _ => C_spLP K vs H Q
inductive C_spLR (K : PySem.W.Frag) (vs : List V) (H : Hp) (Q : VK) : Prop
  | mk (v) (p) (t) (a) (c0 : vs = [v, .ref t]) (c1 : PAt K H (Pt.nd p) v) (c2 : isRd p = true) (c3 : RemAt K H t a) (c4 : ∀ v' H', Same H H' → PAt K H' (lr p a).nd v' → Q v' H') : C_spLR K vs H Q
def spLR (K : PySem.W.Frag) : Sp := fun vs H Q _ => C_spLR K vs H Q
inductive C_spRem (K : PySem.W.Frag) (n : Nat) (vs : List V) (H : Hp) (Q : VK) : Prop
  | mk (v) (p) (st) (ns) (c0 : vs = [v, .ref st]) (c1 : PAt K H (Pt.nd p) v) (c2 : SqL K H st ((ns : List Int).map V.int)) (c3 : p.hg ≤ n) (c4 : p.rc ≤ 900) (c5 : ∀ t H', Same H H' → RemAt K H' t (rem ns p) → Q (.ref t) H') : C_spRem K n vs H Q
def spRem (K : PySem.W.Frag) (n : Nat) : Sp := fun vs H Q _ => C_spRem K n vs H Q
def StAt (K : PySem.W.Frag) (H : Hp) : Option (List Int) → V → Prop
  | none, v => v = .non
  | some ns, v => ∃ a, v = .ref a ∧ SqL K H a (ns.map V.int)
inductive C_spPtb (K : PySem.W.Frag) (n : Nat) (vs : List V) (H : Hp) (Q : VK) : Prop
  | mk (v) (p) (sv) (st) (c0 : vs = [v, sv]) (c1 : PAt K H (Pt.nd p) v) (c2 : StAt K H st sv) (c3 : (st = none ∨ (p.hg ≤ n ∧ p.rc ≤ 900))) (c4 : ∀ v' H', Same H H' → PAt K H' (pb p st).nd v' → Q v' H') : C_spPtb K n vs H Q
def spPtb (K : PySem.W.Frag) (n : Nat) : Sp := fun vs H Q _ => C_spPtb K n vs H Q
section
variable {P : Program} {w : World} {K : PySem.W.Frag} {mg : Str → Option Value} {base : Heap} {aN aP aR : Addr} {uE uR uL : Value}
theorem ok_leafCode (F : FunM K mg "leaf_code" ["part"] s_leaf_code) (T : TxtR K mg aN aP aR uE uR uL) : Callee P w K mg base 1 "leaf_code" ["part"] (spLeafC K) := by
  refine F.ok sc_leaf_code (fun vs H Q E h => ?_) (fun f cdv A outer s H vs Q E hr h => ?_)
  · obtain ⟨v, p, rfl, _⟩ := h; rfl
  obtain ⟨v, p, rfl, hp, lf, q⟩ := h
  refine ⟨_, (pss_cons (ps_if (pt_cmpR op_eq (pe_ix ix_tup (pv 0) pe_int (fun _ _ => rfl)) pe_str (nomark _))
      (pss_one (ps_ret (pe_op op_add (pe_glob rfl T.m_LEAVES T.r_LEAVES) (pe_ix ix_tup (pv 0) pe_int (fun _ _ => rfl)))))
      pss_nil)
    (pss_cons (ps_if (PW.pt (pw_or (pt_cmpR op_eq (pe_ix ix_tup (pv 0) pe_int (fun _ _ => rfl)) pe_str (nomark _)) (pw_or1 (pt_cmpR op_eq (pe_ix ix_tup (pv 0) pe_int (fun _ _ => rfl)) pe_str (nomark _)))))
      (pss_one (ps_ret (pe_glob rfl T.m_RESTS T.r_RESTS)))
      pss_nil)
    (pss_one (ps_ret (pe_glob rfl T.m_ENDED T.r_ENDED))))), ?_⟩
  obtain ⟨a, vs, rfl, hs⟩ := wd_at hp
  refine (rdy (j := 0) hs.sq rfl rfl ⟨rfl, _, rfl, iteW (fun e => ?_) fun n1 => (rdy (j := 0) hs.sq rfl rfl ⟨rfl, _, rfl, iteW (fun e => iteT ?_) fun n2 => (rdy (j := 0) hs.sq rfl rfl ⟨rfl, _, rfl, iteW (fun e => ?_) fun n3 => ?_⟩)⟩)⟩)
  · obtain ⟨x, rfl⟩ := wd_exit e
    obtain ⟨a', vs', ev, hs, hx⟩ := PAt.get hp
    cases ev
    obtain ⟨x0, x1, rfl, h0, h1⟩ := hx.two
    cases h0.str
    cases h1.int
    exact (rdy (j := 1) hs.sq rfl rfl ⟨_, _, rfl, rfl, q⟩)
  · obtain ⟨x, rfl⟩ := wd_rest e
    exact q
  · obtain ⟨x, rfl⟩ := wd_stay e
    exact q
  · rw [lf_code lf n1 n2 n3] at q
    exact q
theorem ok_agC (F : FunM K mg "code_of_again" ["code"] s_code_of_again) (T : TxtR K mg aN aP aR uE uR uL) : Callee P w K mg base 1 "code_of_again" ["code"] spAgC := by
  refine F.ok sc_code_of_again (fun vs H Q E h => ?_) (fun f cdv A outer s H vs Q E hr h => ?_)
  · obtain ⟨c, rfl, _⟩ := h; rfl
  obtain ⟨c, rfl, q⟩ := h
  refine ⟨_, (pss_one (ps_ret (pe_ifExp (pt_cmpR op_eq (pv 0) (pe_glob rfl T.m_ENDED T.r_ENDED) (nomark _)) (pe_glob rfl T.m_RESTS T.r_RESTS) (pv 0)))), ?_⟩
  unfold agC at q
  refine ⟨_, rfl, rfl, _, rfl, iteI (fun c => ?_) fun c => ?_⟩
  · rw [if_pos c] at q; exact q
  · rw [if_neg c] at q; exact ⟨_, rfl, q⟩
theorem ok_trC (F : FunM K mg "code_of_trap" ["code"] s_code_of_trap) (T : TxtR K mg aN aP aR uE uR uL) : Callee P w K mg base 1 "code_of_trap" ["code"] spTrC := by
  refine F.ok sc_code_of_trap (fun vs H Q E h => ?_) (fun f cdv A outer s H vs Q E hr h => ?_)
  · obtain ⟨c, rfl, _⟩ := h; rfl
  obtain ⟨c, rfl, q⟩ := h
  refine ⟨_, (pss_cons (ps_if (pt_cmpR op_eq (pv 0) (pe_glob rfl T.m_LEAVES T.r_LEAVES) (nomark _))
      (pss_one (ps_ret (pe_glob rfl T.m_ENDED T.r_ENDED)))
      pss_nil)
    (pss_one (ps_ret (pe_ifExp (pt_cmpR op_gt (pv 0) (pe_glob rfl T.m_LEAVES T.r_LEAVES) (nomark _)) (pe_op op_sub (pv 0) pe_int) (pv 0))))), ?_⟩
  unfold trapC at q
  refine ⟨_, rfl, rfl, _, rfl, iteI (fun c => ?_) fun c => ?_⟩
  · rw [if_pos c] at q; exact q
  · rw [if_neg c] at q
    refine ⟨_, rfl, _, _, rfl, rfl, _, rfl, ite2 (fun c => ?_) fun c => ?_⟩
    · rw [if_pos (of_decide_eq_true c)] at q; exact ⟨_, rfl, _, _, rfl, rfl, q⟩
    · rw [if_neg (fun z => c (decide_eq_true z))] at q; exact ⟨_, rfl, q⟩
set_option maxHeartbeats 16000000 in
theorem ok_LP (F : FunM K mg "left_of_pair" ["part", "first", "second"] s_left_of_pair) (T : TxtR K mg aN aP aR uE uR uL) : Callee P w K mg base 1 "left_of_pair" ["part", "first", "second"] (spLP K) := by
  refine F.ok sc_left_of_pair (fun vs H Q E h => ?_) (fun f cdv A outer s H vs Q E hr h => ?_)
  · obtain ⟨v, p, t1, t2, a, b, rfl, _⟩ := h; rfl
  obtain ⟨v, p, t1, t2, ra, rb, rfl, hp, pr, ⟨l1, v1, a1, a2, a3⟩, ⟨l2, v2, b1, b2, b3⟩, q⟩ := h
  refine ⟨_, (pss_cons (ps_if (pt_cmpR op_eq (pe_ix ix_tup (pv 0) pe_int (fun _ _ => rfl)) pe_str (nomark _))
      (pss_one (ps_ret (pe_ifExp (pt_truth (pe_ix ix_tup (pv 2) pe_int (fun _ _ => rfl)) (fun _ => rfl)) (pe_ix ix_tup (pv 2) pe_int (fun _ _ => rfl)) (pe_tup (pa_cons pe_str (pa_cons (pe_ix ix_tup (pv 1) pe_int (fun _ _ => rfl)) (pa_cons (pe_ix ix_tup (pv 0) pe_int (fun _ _ => rfl)) pa_nil)))))))
      pss_nil)
    (pss_cons (ps_if (PW.pt (pw_and (pt_cmpR op_eq (pe_ix ix_tup (pv 0) pe_int (fun _ _ => rfl)) pe_str (nomark _)) (pw_and (pt_truth (pe_ix ix_tup (pv 1) pe_int (fun _ _ => rfl)) (fun _ => rfl)) (pw_and1 (pt_truth (pe_ix ix_tup (pv 2) pe_int (fun _ _ => rfl)) (fun _ => rfl))))))
      (pss_one (ps_ret (pe_tup (pa_cons pe_str (pa_cons (pe_ix ix_tup (pv 1) pe_int (fun _ _ => rfl)) (pa_cons (pe_ix ix_tup (pv 2) pe_int (fun _ _ => rfl)) pa_nil))))))
      pss_nil)
    (pss_cons (ps_if (pt_truth (pe_ix ix_tup (pv 1) pe_int (fun _ _ => rfl)) (fun _ => rfl))
      (pss_one (ps_ret (pe_ix ix_tup (pv 1) pe_int (fun _ _ => rfl))))
      pss_nil)
    (pss_one (ps_ret (pe_ifExp (pt_truth (pe_ix ix_tup (pv 2) pe_int (fun _ _ => rfl)) (fun _ => rfl)) (pe_ix ix_tup (pv 2) pe_int (fun _ _ => rfl)) (pv 0))))))), ?_⟩
  cases p with
  | thn p1 p2 =>
    obtain ⟨a, vs, rfl, hs, hx⟩ := PAt.get hp
    obtain ⟨x0, x1, x2, rfl, h0, h1, h2⟩ := hx.three
    cases h0.str
    refine (rdy (j := 0) hs.sq rfl rfl ⟨rfl, _, rfl, iteEq (rdx (j := 0) b1 rfl rfl ⟨_, .inl ⟨_, SqL.of b2, rfl⟩, iteE (fun c => ?_) fun c => ?_⟩)⟩)
    · exact (rdx (j := 1) b1 rfl rfl (q _ _ (Same.refl _) (by unfold lp; dsimp only; rw [if_neg c]; exact b3)))
    · refine (rdx (j := 1) a1 rfl rfl (rdy (j := 2) hs.sq rfl rfl ⟨(by show 3 ≤ sizeLine; decide), fun t ht => ?_⟩))
      have g := same_new ht (.tup [V.str "then", v1, x2])
      exact q _ _ g (by unfold lp; dsimp only; rw [if_pos c]; exact .t (.inl upd_same) (.cons .s (.cons (a3.mono g.tp) (.cons (h2.mono g.tp) .nil))))
  | bes p1 p2 =>
    obtain ⟨a, vs, rfl, hs, hx⟩ := PAt.get hp
    obtain ⟨x0, x1, x2, rfl, h0, h1, h2⟩ := hx.three
    cases h0.str
    have last : ∀ (c : ra.1 = [] ∨ rb.1 = []), lp (.bes p1 p2) ra rb = (if ¬ ra.1 = [] then ra.2 else if ¬ rb.1 = [] then rb.2 else .bes p1 p2) := fun c => by
      unfold lp
      dsimp only
      rw [if_neg (fun z => c.elim z.1 z.2)]
    refine (rdy (j := 0) hs.sq rfl rfl ⟨rfl, _, rfl, iteNe (by decide +kernel) (rdy (j := 0) hs.sq rfl rfl ⟨rfl, _, rfl, iteEq (rdx (j := 0) a1 rfl rfl ⟨_, .inl ⟨_, SqL.of a2, rfl⟩, iteE (fun c1 => ?_) fun c1 => ?_⟩)⟩)⟩)
    · refine (rdx (j := 0) b1 rfl rfl ⟨_, .inl ⟨_, SqL.of b2, rfl⟩, iteE (fun c2 => ?_) fun c2 => ?_⟩)
      · refine (rdx (j := 1) a1 rfl rfl (rdx (j := 1) b1 rfl rfl ⟨(by show 3 ≤ sizeLine; decide), fun t ht => ?_⟩))
        have g := same_new ht (.tup [V.str "beside", v1, v2])
        exact q _ _ g (by unfold lp; dsimp only; rw [if_pos ⟨c1, c2⟩]; exact .t (.inl upd_same) (.cons .s (.cons (a3.mono g.tp) (.cons (b3.mono g.tp) .nil))))
      · refine (rdx (j := 0) a1 rfl rfl ⟨_, .inl ⟨_, SqL.of a2, rfl⟩, iteE (fun _ => ?_) fun z => absurd z c1⟩)
        exact (rdx (j := 1) a1 rfl rfl (q _ _ (Same.refl _) (by rw [last (.inr c2), if_pos c1]; exact a3)))
    · refine iteF (rdx (j := 0) a1 rfl rfl ⟨_, .inl ⟨_, SqL.of a2, rfl⟩, iteE (fun z => absurd c1 z) fun _ => (rdx (j := 0) b1 rfl rfl ⟨_, .inl ⟨_, SqL.of b2, rfl⟩, iteE (fun c2 => ?_) fun c2 => ?_⟩)⟩)
      · exact (rdx (j := 1) b1 rfl rfl (q _ _ (Same.refl _) (by rw [last (.inl c1), if_neg (fun z => z c1), if_pos c2]; exact b3)))
      · exact ⟨_, rfl, q _ _ (Same.refl _) (by rw [last (.inl c1), if_neg (fun z => z c1), if_neg (fun z => z c2)]; exact hp)⟩
  | iff s p1 p2 =>
    obtain ⟨a, vs, rfl, hs, hx⟩ := PAt.get hp
    obtain ⟨x0, x1, x2, x3, rfl, h0, h1, h2, h3⟩ := hx.four
    cases h0.str
    cases h1.int
    refine (rdy (j := 0) hs.sq rfl rfl ⟨rfl, _, rfl, iteNe (by decide +kernel) (rdy (j := 0) hs.sq rfl rfl ⟨rfl, _, rfl, iteNe (by decide +kernel) (iteF (rdx (j := 0) a1 rfl rfl ⟨_, .inl ⟨_, SqL.of a2, rfl⟩, iteE (fun c1 => ?_) fun c1 => (rdx (j := 0) b1 rfl rfl ⟨_, .inl ⟨_, SqL.of b2, rfl⟩, iteE (fun c2 => ?_) fun c2 => ?_⟩)⟩))⟩)⟩)
    · exact (rdx (j := 1) a1 rfl rfl (q _ _ (Same.refl _) (by unfold lp; dsimp only; rw [if_pos c1]; exact a3)))
    · exact (rdx (j := 1) b1 rfl rfl (q _ _ (Same.refl _) (by unfold lp; dsimp only; rw [if_neg (fun z => z c1), if_pos c2]; exact b3)))
    · exact ⟨_, rfl, q _ _ (Same.refl _) (by unfold lp; dsimp only; rw [if_neg (fun z => z c1), if_neg (fun z => z c2)]; exact hp)⟩
  | _ => cases pr
set_option maxHeartbeats 16000000 in
theorem ok_LR (F : FunM K mg "left_of_round" ["part", "inner"] s_left_of_round) (T : TxtR K mg aN aP aR uE uR uL) : Callee P w K mg base 1 "left_of_round" ["part", "inner"] (spLR K) := by
  refine F.ok sc_left_of_round (fun vs H Q E h => ?_) (fun f cdv A outer s H vs Q E hr h => ?_)
  · obtain ⟨v, p, t1, a, rfl, _⟩ := h; rfl
  obtain ⟨v, p, t1, ra, rfl, hp, rd, ⟨l1, v1, a1, a2, a3⟩, q⟩ := h
  refine ⟨_, (pss_cons (ps_if (pt_not (pt_truth (pe_ix ix_tup (pv 1) pe_int (fun _ _ => rfl)) (fun _ => rfl)))
      (pss_one (ps_ret (pv 0)))
      pss_nil)
    (pss_cons (ps_if (pt_cmpR op_eq (pe_ix ix_tup (pv 0) pe_int (fun _ _ => rfl)) pe_str (nomark _))
      (pss_one (ps_ret (pe_tup (pa_cons pe_str (pa_cons (pe_ix ix_tup (pv 0) pe_int (fun _ _ => rfl)) (pa_cons (pe_ix ix_tup (pv 1) pe_int (fun _ _ => rfl)) pa_nil))))))
      pss_nil)
    (pss_cons (ps_if (pt_cmpR op_eq (pe_ix ix_tup (pv 0) pe_int (fun _ _ => rfl)) pe_str (nomark _))
      (pss_one (ps_ret (pe_tup (pa_cons pe_str (pa_cons (pe_ix ix_tup (pv 1) pe_int (fun _ _ => rfl)) pa_nil)))))
      pss_nil)
    (pss_cons (ps_set (i := 2) sc_left_of_round.nd rfl (Or.inl rfl) (pe_ifExp (pt_cmpR op_eq (pe_ix ix_tup (pv 0) pe_int (fun _ _ => rfl)) pe_str (nomark _)) (pe_tup (pa_cons pe_str (pa_cons (pe_callTy call_tuple_of rfl T.n_tuple (by decide +kernel) (pa_cons (pe_ix ix_tup (pv 1) pe_int (fun _ _ => rfl)) pa_nil)) pa_nil))) (pe_glob rfl T.m_NOTHING T.r_NOTHING)))
    (pss_one (ps_ret (pe_tup (pa_cons pe_str (pa_cons (pe_ix ix_tup (pv 0) pe_int (fun _ _ => rfl)) (pa_cons (pv 2) (pa_cons (pe_ix ix_tup (pv 1) pe_int (fun _ _ => rfl)) pa_nil))))))))))), ?_⟩
  have none : ra.1 = [] → lr p ra = p := fun c => by unfold lr; rw [if_pos c]
  have nt : ∀ {A B : Prop}, (¬ ra.1 = [] → B) → (ra.1 = [] → A) → if (!!(ra.1.map V.int).isEmpty) = true then A else B := fun {A B} h1 h2 => by
    cases e : ra.1 with
    | nil => exact h2 e
    | cons x r => exact h1 (by rw [e]; simp)
  refine (rdx (j := 0) a1 rfl rfl ⟨_, .inl ⟨_, SqL.of a2, rfl⟩, nt (fun c => ?_) fun c => ⟨_, rfl, q _ _ (Same.refl _) (by rw [none c]; exact hp)⟩⟩)
  cases p with
  | again k p1 =>
    obtain ⟨a, vs, rfl, hs, hx⟩ := PAt.get hp
    obtain ⟨x0, x1, x2, rfl, h0, h1, h2⟩ := hx.three
    cases h0.str
    cases h1.int
    refine (rdy (j := 0) hs.sq rfl rfl ⟨rfl, _, rfl, iteEq (rdy (j := 1) hs.sq rfl rfl (rdx (j := 1) a1 rfl rfl ⟨(by show 3 ≤ sizeLine; decide), fun t ht => ?_⟩))⟩)
    have g := same_new ht (.tup [V.str "again", .int k, v1])
    exact q _ _ g (by unfold lr; rw [if_neg c]; exact .t (.inl upd_same) (.cons .s (.cons .i (.cons (a3.mono g.tp) .nil))))
  | trap p1 =>
    obtain ⟨a, vs, rfl, hs, hx⟩ := PAt.get hp
    obtain ⟨x0, x1, rfl, h0, h1⟩ := hx.two
    cases h0.str
    refine (rdy (j := 0) hs.sq rfl rfl ⟨rfl, _, rfl, iteNe (by decide +kernel) (rdy (j := 0) hs.sq rfl rfl ⟨rfl, _, rfl, iteEq (rdx (j := 1) a1 rfl rfl ⟨(by show 2 ≤ sizeLine; decide), fun t ht => ?_⟩)⟩)⟩)
    have g := same_new ht (.tup [V.str "trap", v1])
    exact q _ _ g (by unfold lr; rw [if_neg c]; exact .t (.inl upd_same) (.cons .s (.cons (a3.mono g.tp) .nil)))
  | hold s p1 =>
    obtain ⟨a, vs, rfl, hs, hx⟩ := PAt.get hp
    obtain ⟨x0, x1, x2, rfl, h0, h1, h2⟩ := hx.three
    cases h0.str
    cases h1.int
    refine (rdy (j := 0) hs.sq rfl rfl ⟨rfl, _, rfl, iteNe (by decide +kernel) (rdy (j := 0) hs.sq rfl rfl ⟨rfl, _, rfl, iteNe (by decide +kernel) (rdy (j := 0) hs.sq rfl rfl ⟨rfl, _, rfl, iteEq (rdx (j := 0) a1 rfl rfl ⟨l1, _, rfl, .inl ⟨SqL.of a2, fun t0 ht0 => ⟨(by show 2 ≤ sizeLine; decide), fun t2 ht2 => ?_⟩⟩⟩)⟩)⟩)⟩)
    obtain ⟨g0, n1, n2⟩ := new2 (b := .tup [V.str "stay", .ref t0]) ht0 ht2
    refine (rdy (j := 1) ((hs.mono g0.tp).sq) rfl rfl ⟨_, rfl, rdx (j := 1) (g0 _ _ a1) rfl rfl ⟨(by show 4 ≤ sizeLine; decide), fun t ht => ?_⟩⟩)
    have g := same_new ht (.tup [V.str "if", .int s, .ref t2, v1])
    exact q _ _ (g0.trans g) (by unfold lr; rw [if_neg c]; exact .t (.inl upd_same) (.cons .s (.cons .i (.cons (.t (.inl (g _ _ n2)) (.cons .s (.cons (.t (.inl (g _ _ n1)) (patL_ints _)) .nil))) (.cons (a3.mono (g0.trans g).tp) .nil)))))
  | watch s p1 =>
    obtain ⟨a, vs, rfl, hs, hx⟩ := PAt.get hp
    obtain ⟨x0, x1, x2, rfl, h0, h1, h2⟩ := hx.three
    cases h0.str
    cases h1.int
    refine (rdy (j := 0) hs.sq rfl rfl ⟨rfl, _, rfl, iteNe (by decide +kernel) (rdy (j := 0) hs.sq rfl rfl ⟨rfl, _, rfl, iteNe (by decide +kernel) (rdy (j := 0) hs.sq rfl rfl ⟨rfl, _, rfl, iteNe (by decide +kernel) ?_⟩)⟩)⟩)
    refine (rdy (j := 1) hs.sq rfl rfl ⟨_, rfl, rdx (j := 1) a1 rfl rfl ⟨(by show 4 ≤ sizeLine; decide), fun t ht => ?_⟩⟩)
    have g := same_new ht (.tup [V.str "if", .int s, .ref aN, v1])
    exact q _ _ g (by unfold lr; rw [if_neg c]; exact .t (.inl upd_same) (.cons .s (.cons .i (.cons (.t (.inr T.mN) (.cons .s .nil)) (.cons (a3.mono g.tp) .nil)))))
  | _ => cases rd
set_option maxHeartbeats 64000000 in
theorem ok_rem {n : Nat} (F : FunM K mg "remaining" ["part", "state"] s_remaining) (T : TxtR K mg aN aP aR uE uR uL) (C_left_of_pair : Callee P w K mg base 1 "left_of_pair" ["part", "first", "second"] (spLP K)) (C_left_of_round : Callee P w K mg base 1 "left_of_round" ["part", "inner"] (spLR K))
    (C_remaining : Callee P w K mg base (n + 2) "remaining" ["part", "state"] (spRem K n)) : Callee P w K mg base (n + 3) "remaining" ["part", "state"] (spRem K (n + 1)) := by
  refine F.ok sc_remaining (fun vs H Q E h => ?_) (fun f cdv A outer s H vs Q E hr h => ?_)
  · obtain ⟨v, p, st, ns, rfl, _⟩ := h; rfl
  obtain ⟨v, p, st, ns, rfl, hp, hS, hh, hc, q⟩ := h
  refine ⟨_, (pss_cons (ps_if (pt_cmpR op_in_seq (pe_ix ix_tup (pv 0) pe_int (fun _ _ => rfl)) (pe_glob rfl T.m_PAIRS T.r_PAIRS) (by rfl))
      (pss_cons (ps_set (i := 2) sc_remaining.nd rfl (Or.inl rfl) (pe_callC C_remaining hr rfl pass0 (pa_cons (pe_ix ix_tup (pv 0) (pe_un un_neg pe_int) (fun _ _ => rfl)) (pa_cons (pv 1) pa_nil))))
    (pss_cons (ps_set (i := 3) sc_remaining.nd rfl (Or.inl rfl) (pe_callC C_remaining hr rfl pass0 (pa_cons (pe_ix ix_tup (pv 0) (pe_un un_neg pe_int) (fun _ _ => rfl)) (pa_cons (pv 1) pa_nil))))
    (pss_one (ps_ret (pe_tup (pa_cons (pe_op op_cat (pe_ix ix_tup (pv 2) pe_int (fun _ _ => rfl)) (pe_ix ix_tup (pv 3) pe_int (fun _ _ => rfl))) (pa_cons (pe_callC C_left_of_pair hr rfl pass0 (pa_cons (pv 0) (pa_cons (pv 2) (pa_cons (pv 3) pa_nil)))) pa_nil)))))))
      pss_nil)
    (pss_cons (ps_if (pt_cmpR op_in_seq (pe_ix ix_tup (pv 0) pe_int (fun _ _ => rfl)) (pe_glob rfl T.m_ROUND T.r_ROUND) (by rfl))
      (pss_cons (ps_set (i := 4) sc_remaining.nd rfl (Or.inl rfl) (pe_callC C_remaining hr rfl pass0 (pa_cons (pe_ix ix_tup (pv 0) (pe_un un_neg pe_int) (fun _ _ => rfl)) (pa_cons (pv 1) pa_nil))))
    (pss_cons (ps_if (PW.pt (pw_and (pt_cmpR op_eq (pe_ix ix_tup (pv 0) pe_int (fun _ _ => rfl)) pe_str (nomark _)) (pw_and1 (pt_cmpR op_in_seq (pe_ix ix_tup (pv 0) pe_int (fun _ _ => rfl)) (pv 1) (by rfl)))))
      (pss_one (ps_ret (pe_tup (pa_cons (pe_op op_cat (pe_lst (pa_cons (pe_ix ix_tup (pv 0) pe_int (fun _ _ => rfl)) pa_nil)) (pe_ix ix_tup (pv 4) pe_int (fun _ _ => rfl))) (pa_cons (pv 0) pa_nil)))))
      pss_nil)
    (pss_one (ps_ret (pe_tup (pa_cons (pe_ix ix_tup (pv 4) pe_int (fun _ _ => rfl)) (pa_cons (pe_callC C_left_of_round hr rfl pass0 (pa_cons (pv 0) (pa_cons (pv 4) pa_nil))) pa_nil)))))))
      pss_nil)
    (pss_cons (ps_if (PW.pt (pw_and (pt_cmpR op_eq (pe_ix ix_tup (pv 0) pe_int (fun _ _ => rfl)) pe_str (nomark _)) (pw_and1 (pt_cmpR op_in_seq (pe_ix ix_tup (pv 0) pe_int (fun _ _ => rfl)) (pv 1) (by rfl)))))
      (pss_one (ps_ret (pe_tup (pa_cons (pe_lst (pa_cons (pe_ix ix_tup (pv 0) pe_int (fun _ _ => rfl)) pa_nil)) (pa_cons (pe_glob rfl T.m_NOTHING T.r_NOTHING) pa_nil)))))
      pss_nil)
    (pss_one (ps_ret (pe_tup (pa_cons (pe_lst pa_nil) (pa_cons (pv 0) pa_nil)))))))), ?_⟩
  obtain ⟨a, vs, rfl, hs⟩ := wd_at hp
  refine (rdy (j := 0) hs.sq rfl rfl ⟨aP, _, rfl, .inr (.inr T.mP), rfl, rfl, _, rfl, in_pr (fun z => ?_) fun z1 => (rdy (j := 0) hs.sq rfl rfl ⟨aR, _, rfl, .inr (.inr T.mR), rfl, rfl, _, rfl, in_rd (fun z => ?_) fun z2 => ?_⟩)⟩)
  · obtain ⟨a', vs', x1, x2, p1, p2, ev, hs, i1, i2, h1, h2, c1, c2, hc, er⟩ := pat_pr hp z hh hc
    cases ev
    have l1 := rem_len ns p1
    have l2 := rem_len ns p2
    rw [er] at q
    refine ⟨_, rfl, _, rfl, a, _, _, _, rfl, rfl, hs.sq, i1, _, rfl, x1, p1, st, ns, rfl, h1, hS, c1, adl hc, fun t1 H1 g1 R1 => ?_⟩
    refine ⟨_, rfl, _, rfl, a, _, _, _, rfl, rfl, (hs.mono g1.tp).sq, i2, _, rfl, x2, p2, st, ns, rfl, h2.mono g1.tp, g1.seq hS, c2, adr hc, fun t2 H2 g2 R2 => ?_⟩
    have R1' := R1.mono g2
    obtain ⟨l1', v1, a1, a2, a3⟩ := id R1'
    obtain ⟨l2', v2, b1, b2, b3⟩ := id R2
    refine (rdx (j := 0) a1 rfl rfl (rdx (j := 0) b1 rfl rfl ⟨l1', l2', _, _, rfl, rfl, a2, b2, by rw [List.length_map, List.length_map]; exact small (leK (Nat.le_trans (Nat.add_le_add l1 l2) hc) (by decide)), fun l hl => ?_⟩))
    have g3 := same_new hl (.lst (((rem ns p1).1.map V.int) ++ ((rem ns p2).1.map V.int)))
    refine ⟨_, rfl, _, rfl, _, rfl, _, p, t1, t2, _, _, rfl, hp.mono ((g1.trans g2).trans g3).tp, z, R1'.mono g3, R2.mono g3, fun v' H4 g4 P4 => ⟨(by show 2 ≤ sizeLine; decide), fun t ht => ?_⟩⟩
    have g5 := same_new ht (.tup [.ref l, v'])
    refine q _ _ ((((g1.trans g2).trans g3).trans g4).trans g5) ⟨l, v', upd_same, ?_, P4.mono g5.tp⟩
    rw [g5 _ _ (g4 _ _ upd_same)]
    show some (HO.lst ((rem ns p1).1.map V.int ++ (rem ns p2).1.map V.int)) = some (HO.lst (((rem ns p1).1 ++ (rem ns p2).1).map V.int))
    rw [List.map_append]
  · obtain ⟨a', vs', x1, p1, ev, hs, i1, h1, c1, c2, hor⟩ := pat_rd hp z hh hc
    cases ev
    have l1 := rem_len ns p1
    refine ⟨_, rfl, _, rfl, a, _, _, _, rfl, rfl, hs.sq, i1, _, rfl, x1, p1, st, ns, rfl, h1, hS, c1, c2, fun t1 H1 g1 R1 => ?_⟩
    have hs1 := hs.mono g1.tp
    obtain ⟨l1', v1, a1, a2, a3⟩ := id R1
    dsimp only [gName]
    refine if_pure (agIn ns p) (fun N fin => ?_) (fun c => ?_) fun c => ?_
    · rcases hor with ⟨k, rfl, hc', rfl⟩ | ⟨na, _⟩
      · refine ⟨_, rfl, a, _, _, _, rfl, rfl, hs1.sq, atI_nat (j := 0) rfl, rfl, _, rfl, iteEq ⟨_, rfl, a, _, _, _, rfl, rfl, hs1.sq, atI_nat (j := 1) rfl, _, rfl, st, _, rfl, .inl (g1.seq hS), rfl, flat_ints ns, _, rfl, ?_⟩⟩
        rw [if_neg Bool.false_ne_true, inV_ints]
        exact fin
      · refine ⟨_, rfl, a, _, _, _, rfl, rfl, hs1.sq, atI_nat (j := 0) rfl, rfl, _, rfl, iteNe na ?_⟩
        rw [agIn_no na ns] at fin
        exact fin
    · rcases hor with ⟨k, rfl, hc', rfl⟩ | ⟨na, _⟩
      · have c : k ∈ ns := of_decide_eq_true c
        refine ⟨_, rfl, a, _, _, _, rfl, rfl, hs1.sq, atI_nat (j := 1) rfl, (by show 1 ≤ sizeLine; decide), fun l0 hl0 => ?_⟩
        have g2 := same_new hl0 (.lst [V.int k])
        refine (rdx (j := 0) (g2 _ _ a1) rfl rfl ⟨l0, l1', _, _, rfl, rfl, upd_same, g2 _ _ a2, by rw [List.length_map]; show 1 + _ ≤ sizeLine; exact small (Nat.le_trans (Nat.add_le_add_left (Nat.le_trans l1 c2) 1) (by decide)), fun l hl => ?_⟩)
        have g3 := same_new hl (.lst ([V.int k] ++ (rem ns p1).1.map V.int))
        refine ⟨_, rfl, (by show 2 ≤ sizeLine; decide), fun t ht => ?_⟩
        have g5 := same_new ht (.tup [.ref l, .ref a])
        refine q _ _ (((g1.trans g2).trans g3).trans g5) ?_
        rw [show rem ns (.again k p1) = ([k] ++ (rem ns p1).1, .again k p1) from by simp only [rem]; rw [if_pos c]]
        exact ⟨l, _, upd_same, g5 _ _ upd_same, hp.mono (((g1.trans g2).trans g3).trans g5).tp⟩
      · rw [agIn_no na ns] at c
        cases c
    · have er : rem ns p = ((rem ns p1).1, lr p (rem ns p1)) := by
        rcases hor with ⟨k, rfl, _, _⟩ | ⟨_, h⟩
        · simp only [rem]; rw [if_neg (of_decide_eq_false c)]
        · exact h ns
      rw [er] at q
      refine (rdx (j := 0) a1 rfl rfl ⟨_, rfl, _, rfl, _, p, t1, _, rfl, hp.mono g1.tp, z, R1, fun v' H4 g4 P4 => ⟨(by show 2 ≤ sizeLine; decide), fun t ht => ?_⟩⟩)
      have g5 := same_new ht (.tup [.ref l1', v'])
      exact q _ _ ((g1.trans g4).trans g5) ⟨l1', v', upd_same, g5 _ _ (g4 _ _ a2), P4.mono g5.tp⟩
  · dsimp only [tNext]
    refine if_pure (restIn ns p) (fun N fin => ?_) (fun c => ?_) fun c => ?_
    · by_cases z : wdP p = "rest"
      · obtain ⟨k, rfl⟩ := wd_rest z
        obtain ⟨a', vs', ev, hs, hx⟩ := PAt.get hp
        cases ev
        obtain ⟨x0, x1, rfl, h0, h1⟩ := hx.two
        cases h0.str
        cases h1.int
        refine (rdy (j := 0) hs.sq rfl rfl ⟨rfl, _, rfl, iteEq (rdy (j := 1) hs.sq rfl rfl ⟨_, rfl, st, _, rfl, .inl hS, rfl, flat_ints ns, _, rfl, ?_⟩)⟩)
        rw [if_neg Bool.false_ne_true, inV_ints]
        exact fin
      · refine (rdy (j := 0) hs.sq rfl rfl ⟨rfl, _, rfl, iteNe z ?_⟩)
        rw [restIn_no z ns] at fin
        exact fin
    · obtain ⟨k, rfl⟩ : ∃ k, p = .rest k := wd_rest (Classical.byContradiction fun z => by rw [restIn_no z ns] at c; cases c)
      have c : k ∈ ns := of_decide_eq_true c
      obtain ⟨a', vs', ev, hs, hx⟩ := PAt.get hp
      cases ev
      obtain ⟨x0, x1, rfl, h0, h1⟩ := hx.two
      cases h0.str
      cases h1.int
      refine (rdy (j := 1) hs.sq rfl rfl ⟨(by show 1 ≤ sizeLine; decide), fun l hl => ⟨(by show 2 ≤ sizeLine; decide), fun t ht => ?_⟩⟩)
      obtain ⟨g, n1, n2⟩ := new2 (b := .tup [.ref l, .ref aN]) hl ht
      refine q _ _ g ?_
      rw [show rem ns (.rest k) = ([k], .nothing) from by simp only [rem]; rw [if_pos c]]
      exact ⟨l, _, n2, n1, .t (.inr T.mN) (.cons .s .nil)⟩
    · have er : rem ns p = ([], p) := by
        by_cases z : wdP p = "rest"
        · obtain ⟨k, rfl⟩ := wd_rest z
          simp only [rem]; rw [if_neg (of_decide_eq_false c)]
        · exact rem_leaf z1 z2 z ns
      rw [er] at q
      refine ⟨(by show 0 ≤ sizeLine; decide), fun l hl => ⟨_, rfl, (by show 2 ≤ sizeLine; decide), fun t ht => ?_⟩⟩
      obtain ⟨g, n1, n2⟩ := new2 (b := .tup [.ref l, .ref a]) hl ht
      exact q _ _ g ⟨l, _, n2, n1, hp.mono g.tp⟩
theorem rem_all (F : FunM K mg "remaining" ["part", "state"] s_remaining) (T : TxtR K mg aN aP aR uE uR uL) (CP : Callee P w K mg base 1 "left_of_pair" ["part", "first", "second"] (spLP K)) (CR : Callee P w K mg base 1 "left_of_round" ["part", "inner"] (spLR K)) :
    ∀ n, Callee P w K mg base (n + 2) "remaining" ["part", "state"] (spRem K n)
  | 0 => (F.zero (sp := spRem K 0) fun vs H Q E h => by obtain ⟨v, p, st, ns, _, _, _, hh, _⟩ := h; exact absurd hh (Nat.not_le_of_gt (Pt.hg_pos p))).mono (by decide)
  | n + 1 => ok_rem F T CP CR (rem_all F T CP CR n)
theorem ok_ptb {n : Nat} (F : FunM K mg "part_to_begin" ["part", "state"] s_part_to_begin) (T : TxtR K mg aN aP aR uE uR uL) (C_remaining : Callee P w K mg base (n + 2) "remaining" ["part", "state"] (spRem K n)) :
    Callee P w K mg base (n + 3) "part_to_begin" ["part", "state"] (spPtb K n) := by
  refine F.ok sc_part_to_begin (fun vs H Q E h => ?_) (fun f cdv A outer s H vs Q E hr h => ?_)
  · obtain ⟨v, p, sv, st, rfl, _⟩ := h; rfl
  obtain ⟨v, p, sv, st, rfl, hp, hS, hb, q⟩ := h
  refine ⟨_, (pss_cons (ps_if (pt_cmpR op_isN (pv 1) pe_non (nomark _))
      (pss_one (ps_ret (pv 0)))
      pss_nil)
    (pss_one (ps_ret (pe_ix ix_tup (pe_callC C_remaining hr rfl pass0 (pa_cons (pv 0) (pa_cons (pv 1) pa_nil))) pe_int (fun _ _ => rfl))))), ?_⟩
  cases st with
  | none =>
    have e : sv = .non := hS
    subst e
    exact ⟨_, rfl, rfl, _, rfl, iteT ⟨_, rfl, q _ _ (Same.refl _) hp⟩⟩
  | some ns =>
    obtain ⟨a, rfl, hS⟩ := hS
    obtain ⟨hh, hc⟩ := hb.resolve_left (fun z => by cases z)
    refine ⟨_, rfl, rfl, _, rfl, iteF ⟨_, rfl, _, rfl, v, p, a, ns, rfl, hp, hS, hh, hc, fun t H1 g1 ⟨l, v1, a1, a2, a3⟩ => ?_⟩⟩
    exact ⟨t, _, _, _, rfl, rfl, SqT.of a1, atI_nat (j := 1) rfl, q _ _ g1 a3⟩
end

end My
end

section
set_option Elab.async false
set_option linter.all false
set_option maxRecDepth 100000
set_option maxHeartbeats 4000000
namespace My
open PySem L2
/-! ### what a part does -/
inductive DdAt (H : Hp) (t : Addr) (d : Dd)   : Prop
  | mk (l1) (l2) (c0 : H t = some (.tup [.int d.1, .ref l1, .ref l2])) (c1 : H l1 = some (.lst (d.2.1.map V.int))) (c2 : H l2 = some (.lst (d.2.2.map V.int))) : DdAt H t d 
theorem DdAt.mono {H H' : Hp} (g : Same H H') {t : Addr} {d : Dd} (h : DdAt H t d) : DdAt H' t d := by
  obtain ⟨l1, l2, h1, h2, h3⟩ := h
  exact ⟨l1, l2, g _ _ h1, g _ _ h2, g _ _ h3⟩
def small9 (d : Dd) : Prop := d.2.1.length ≤ 900 ∧ d.2.2.length ≤ 900
inductive C_spRl (K : PySem.W.Frag) (vs : List V) (H : Hp) (Q : VK) : Prop
  | mk (v) (p) (c0 : vs = [v]) (c1 : PAt K H (Pt.nd p) v) (c2 : isLf p = true) (c3 : p.lc ≤ 900) (c4 : ∀ l H', Same H H' → H' l = some (.lst ((beg [] p).2.2.map V.int)) → Q (.ref l) H') : C_spRl K vs H Q
def spRl (K : PySem.W.Frag) : Sp := fun vs H Q _ => C_spRl K vs H Q
inductive C_spBl (K : PySem.W.Frag) (vs : List V) (H : Hp) (Q : VK) : Prop
  | mk (v) (p) (c0 : vs = [v]) (c1 : PAt K H (Pt.nd p) v) (c2 : isLf p = true) (c3 : p.lc ≤ 900) (c4 : ∀ t H', Same H H' → DdAt H' t (beg [] p) → Q (.ref t) H') : C_spBl K vs H Q
def spBl (K : PySem.W.Frag) : Sp := fun vs H Q _ => C_spBl K vs H Q
inductive C_spTurn  (vs : List V) (H : Hp) (Q : VK) : Prop
  | mk (t1) (t2) (a) (b) (c0 : vs = [.ref t1, .ref t2]) (c1 : DdAt H t1 a) (c2 : DdAt H t2 b) (c3 : small9 a) (c4 : small9 b) (c5 : ∀ t H', Same H H' → DdAt H' t (turnD a b) → Q (.ref t) H') : C_spTurn  vs H Q
def spTurn : Sp := fun vs H Q _ => C_spTurn  vs H Q
inductive C_spSide  (vs : List V) (H : Hp) (Q : VK) : Prop
  | mk (t1) (t2) (a) (b) (c0 : vs = [.ref t1, .ref t2]) (c1 : DdAt H t1 a) (c2 : DdAt H t2 b) (c3 : small9 a) (c4 : small9 b) (c5 : ∀ t H', Same H H' → DdAt H' t (sideD a b) → Q (.ref t) H') : C_spSide  vs H Q
def spSide : Sp := fun vs H Q _ => C_spSide  vs H Q
inductive C_spRep  (vs : List V) (H : Hp) (Q : VK) : Prop
  | mk (k : Int) (t1 : Addr) (a : Dd) (c0 : vs = [.int k, .ref t1]) (c1 : DdAt H t1 a) (c2 : ∀ t H', Same H H' → DdAt H' t (repD k a) → Q (.ref t) H') : C_spRep  vs H Q
def spRep : Sp := fun vs H Q _ => C_spRep  vs H Q
inductive C_spBeg (K : PySem.W.Frag) (n : Nat) (vs : List V) (H : Hp) (Q : VK) : Prop
  | mk (v) (p) (th) (ns) (c0 : vs = [v, .ref th]) (c1 : PAt K H (Pt.nd p) v) (c2 : SqL K H th ((ns : List Int).map V.int)) (c3 : p.hg ≤ n) (c4 : p.sc ≤ 900) (c5 : p.lc ≤ 900) (c6 : ∀ t H', Same H H' → DdAt H' t (beg ns p) → Q (.ref t) H') : C_spBeg K n vs H Q
def spBeg (K : PySem.W.Frag) (n : Nat) : Sp := fun vs H Q _ => C_spBeg K n vs H Q
theorem sm9 {ns : List Int} {p : Pt} (h1 : p.sc ≤ 900) (h2 : p.lc ≤ 900) : small9 (beg ns p) := ⟨Nat.le_trans (beg_len ns p).1 h1, Nat.le_trans (beg_len ns p).2 h2⟩
/-- what ran tells, in lists of its own -/
def RanAt (H H' : Hp) (t : Addr) (d : Dd) : Prop := ∃ l1 l2, H' t = some (.tup [.int d.1, .ref l1, .ref l2]) ∧ H' l1 = some (.lst (d.2.1.map V.int)) ∧ H' l2 = some (.lst (d.2.2.map V.int)) ∧ H l1 = none ∧ H l2 = none ∧ l1 ≠ l2
inductive C_spRanG (K : PySem.W.Frag) (n : Nat) (vs : List V) (H : Hp) (Q : VK) : Prop
  | mk (v) (p) (sv) (st) (th) (ns) (c0 : vs = [v, sv, .ref th]) (c1 : PAt K H (Pt.nd p) v) (c2 : StAt K H st sv) (c3 : SqL K H th ((ns : List Int).map V.int)) (c4 : (st = none ∨ (p.hg ≤ n ∧ p.rc ≤ 900))) (c5 : (pb p st).hg ≤ n) (c6 : (pb p st).sc < 64) (c7 : (pb p st).lc < 64) (c8 : ∀ t H', Same H H' → RanAt H H' t (ranD p st ns) → Q (.ref t) H') : C_spRanG K n vs H Q
def spRanG (K : PySem.W.Frag) (n : Nat) : Sp := fun vs H Q _ => C_spRanG K n vs H Q
theorem pb_bd (p : Pt) (st : Option (List Int)) : (pb p st).hg ≤ p.hg ∧ (pb p st).sc ≤ p.sc ∧ (pb p st).lc ≤ p.rc := by
  cases st with
  | none => exact ⟨Nat.le_refl _, Nat.le_refl _, Pt.lc_rc p⟩
  | some l => exact ⟨rem_hg l p, rem_sc l p, rem_lc l p⟩
inductive C_spRan (K : PySem.W.Frag) (n : Nat) (vs : List V) (H : Hp) (Q : VK) : Prop
  | mk (v) (p) (sv) (st) (th) (ns) (c0 : vs = [v, sv, .ref th]) (c1 : PAt K H (Pt.nd p) v) (c2 : StAt K H st sv) (c3 : SqL K H th ((ns : List Int).map V.int)) (c4 : p.hg ≤ n) (c5 : p.sc < 64) (c6 : p.rc < 64) (c7 : ∀ t H', Same H H' → RanAt H H' t (ranD p st ns) → Q (.ref t) H') : C_spRan K n vs H Q
def spRan (K : PySem.W.Frag) (n : Nat) : Sp := fun vs H Q _ => C_spRan K n vs H Q
section
variable {P : Program} {w : World} {K : PySem.W.Frag} {mg : Str → Option Value} {base : Heap} {aN aP aR : Addr} {uE uR uL : Value}
theorem ok_rl (F : FunM K mg "rests_left" ["part"] s_rests_left) (T : TxtR K mg aN aP aR uE uR uL) : Callee P w K mg base 1 "rests_left" ["part"] (spRl K) := by
  refine F.ok sc_rests_left (fun vs H Q E h => ?_) (fun f cdv A outer s H vs Q E hr h => ?_)
  · obtain ⟨v, p, rfl, _⟩ := h; rfl
  obtain ⟨v, p, rfl, hp, lf, hc, q⟩ := h
  refine ⟨_, (pss_cons (ps_if (pt_cmpR op_eq (pe_ix ix_tup (pv 0) pe_int (fun _ _ => rfl)) pe_str (nomark _))
      (pss_one (ps_ret (pe_lst (pa_cons (pe_ix ix_tup (pv 0) pe_int (fun _ _ => rfl)) pa_nil))))
      pss_nil)
    (pss_one (ps_ret (pe_ifExp (pt_cmpR op_eq (pe_ix ix_tup (pv 0) pe_int (fun _ _ => rfl)) pe_str (nomark _)) (pe_callTy call_list_of rfl T.n_list (by decide +kernel) (pa_cons (pe_ix ix_tup (pv 0) pe_int (fun _ _ => rfl)) pa_nil)) (pe_lst pa_nil))))), ?_⟩
  obtain ⟨a, vs, rfl, hs⟩ := wd_at hp
  refine (rdy (j := 0) hs.sq rfl rfl ⟨rfl, _, rfl, iteW (fun e => ?_) fun n1 => (rdy (j := 0) hs.sq rfl rfl ⟨rfl, _, rfl, iteW (fun e => ?_) fun n2 => ?_⟩)⟩)
  · obtain ⟨x, rfl⟩ := wd_rest e
    obtain ⟨a', vs', ev, hs, hx⟩ := PAt.get hp
    cases ev
    obtain ⟨x0, x1, rfl, h0, h1⟩ := hx.two
    cases h0.str
    cases h1.int
    exact (rdy (j := 1) hs.sq rfl rfl ⟨(by show 1 ≤ sizeLine; decide), fun l hl => q _ _ (same_new hl _) upd_same⟩)
  · obtain ⟨ks, rfl⟩ := wd_stay e
    obtain ⟨a', vs', ev, hs, hx⟩ := PAt.get hp
    cases ev
    obtain ⟨x0, x1, rfl, h0, h1⟩ := hx.two
    cases h0.str
    obtain ⟨a2, vs2, rfl, hs2, hx2⟩ := PAt.get h1
    cases patL_int hx2
    exact (rdy (j := 1) hs.sq rfl rfl ⟨a2, _, rfl, .inr hs2.sq, fun l hl => q _ _ (same_new hl _) upd_same⟩)
  · rw [lf_left lf n1 n2] at q
    exact ⟨(by show 0 ≤ sizeLine; decide), fun l hl => q _ _ (same_new hl _) upd_same⟩
theorem ok_bl (F : FunA K mg "begun_leaf_instants" "begun_leaf" ["part"] s_begun_leaf_instants) (T : TxtR K mg aN aP aR uE uR uL) (C_leaf_code : Callee P w K mg base 1 "leaf_code" ["part"] (spLeafC K)) (C_rests_left : Callee P w K mg base 1 "rests_left" ["part"] (spRl K)) : Callee P w K mg base 2 "begun_leaf_instants" ["part"] (spBl K) := by
  refine F.ok sc_begun_leaf_instants (fun vs H Q E h => ?_) (fun f cdv A outer s H vs Q E hr h => ?_)
  · obtain ⟨v, p, rfl, _⟩ := h; rfl
  obtain ⟨v, p, rfl, hp, lf, hc, q⟩ := h
  refine ⟨_, (pss_cons (ps_set (i := 1) sc_begun_leaf_instants.nd rfl (Or.inl rfl) (pe_ifExp (pt_cmpR op_eq (pe_ix ix_tup (pv 0) pe_int (fun _ _ => rfl)) pe_str (nomark _)) (pe_lst (pa_cons (pe_ix ix_tup (pv 0) pe_int (fun _ _ => rfl)) pa_nil)) (pe_lst pa_nil)))
    (pss_one (ps_ret (pe_tup (pa_cons (pe_callC C_leaf_code hr rfl pass0 (pa_cons (pv 0) pa_nil)) (pa_cons (pv 1) (pa_cons (pe_callC C_rests_left hr rfl pass0 (pa_cons (pv 0) pa_nil)) pa_nil))))))), ?_⟩
  have fin : ∀ (l1 : Addr) (xs : List V) (hl : H l1 = none) (e : xs = (beg [] p).2.1.map V.int), (tTup (tCons (tCall (spLeafC K) [] E0 (tCons (tVar 0) tNil)) (tCons (tVar 1) (tCons (tCall (spRl K) [] E0 (tCons (tVar 0) tNil)) tNil)))) [some v, some (.ref l1)] (upd H l1 (.lst xs)) Q := by
    intro l1 xs hl e
    subst e
    have g1 := same_new hl (.lst ((beg [] p).2.1.map V.int))
    refine ⟨_, rfl, v, p, rfl, hp.mono g1.tp, lf, _, rfl, _, rfl, v, p, rfl, hp.mono g1.tp, lf, hc, fun l2 H2 g2 e2 => ⟨(by show 3 ≤ sizeLine; decide), fun t ht => ?_⟩⟩
    have g3 := same_new ht (.tup [.int (beg [] p).1, .ref l1, .ref l2])
    exact q _ _ ((g1.trans g2).trans g3) ⟨l1, l2, upd_same, g3 _ _ (g2 _ _ upd_same), g3 _ _ e2⟩
  obtain ⟨a, vs, rfl, hs⟩ := wd_at hp
  refine (rdy (j := 0) hs.sq rfl rfl ⟨rfl, _, rfl, iteW (fun e => ?_) fun n1 => ⟨(by show 0 ≤ sizeLine; decide), fun l hl => fin l [] hl (by rw [lf_sent lf n1]; rfl)⟩⟩)
  obtain ⟨x, rfl⟩ := wd_send e
  obtain ⟨a', vs', ev, hs, hx⟩ := PAt.get hp
  cases ev
  obtain ⟨x0, x1, rfl, h0, h1⟩ := hx.two
  cases h0.str
  cases h1.int
  exact (rdy (j := 1) hs.sq rfl rfl ⟨(by show 1 ≤ sizeLine; decide), fun l hl => fin l _ hl rfl⟩)
theorem ok_turn (F : FunA K mg "in_turn_instants" "in_turn" ["first", "second"] s_in_turn_instants) (T : TxtR K mg aN aP aR uE uR uL) : Callee P w K mg base 1 "in_turn_instants" ["first", "second"] spTurn := by
  refine F.ok sc_in_turn_instants (fun vs H Q E h => ?_) (fun f cdv A outer s H vs Q E hr h => ?_)
  · obtain ⟨t1, t2, da, db, rfl, _⟩ := h; rfl
  obtain ⟨t1, t2, da, db, rfl, ⟨l1, l2, a1, a2, a3⟩, ⟨m1, m2, b1, b2, b3⟩, sa, sb, q⟩ := h
  refine ⟨_, (pss_one (ps_ret (pe_tup (pa_cons (pe_ix ix_tup (pv 1) pe_int (fun _ _ => rfl)) (pa_cons (pe_op op_cat (pe_ix ix_tup (pv 0) pe_int (fun _ _ => rfl)) (pe_ix ix_tup (pv 1) pe_int (fun _ _ => rfl))) (pa_cons (pe_ix ix_tup (pv 1) pe_int (fun _ _ => rfl)) pa_nil)))))), ?_⟩
  refine (rdx (j := 0) b1 rfl rfl (rdx (j := 1) a1 rfl rfl (rdx (j := 1) b1 rfl rfl ⟨l1, m1, _, _, rfl, rfl, a2, b2, by rw [List.length_map, List.length_map]; exact Nat.le_trans (Nat.add_le_add sa.1 sb.1) (by decide), fun l hl => ?_⟩)))
  have g1 := same_new hl (.lst (da.2.1.map V.int ++ db.2.1.map V.int))
  refine (rdx (j := 2) (g1 _ _ b1) rfl rfl ⟨(by show 3 ≤ sizeLine; decide), fun t ht => ?_⟩)
  have g2 := same_new ht (.tup [.int db.1, .ref l, .ref m2])
  refine q _ _ (g1.trans g2) ⟨l, m2, upd_same, ?_, g2 _ _ (g1 _ _ b3)⟩
  rw [g2 _ _ upd_same]
  show some (HO.lst (da.2.1.map V.int ++ db.2.1.map V.int)) = some (HO.lst ((da.2.1 ++ db.2.1).map V.int))
  rw [List.map_append]
set_option maxHeartbeats 16000000 in
theorem ok_side (F : FunA K mg "side_by_side_instants" "side_by_side" ["first", "second"] s_side_by_side_instants) (T : TxtR K mg aN aP aR uE uR uL) : Callee P w K mg base 1 "side_by_side_instants" ["first", "second"] spSide := by
  refine F.ok sc_side_by_side_instants (fun vs H Q E h => ?_) (fun f cdv A outer s H vs Q E hr h => ?_)
  · obtain ⟨t1, t2, da, db, rfl, _⟩ := h; rfl
  obtain ⟨t1, t2, da, db, rfl, ⟨l1, l2, a1, a2, a3⟩, ⟨m1, m2, b1, b2, b3⟩, sa, sb, q⟩ := h
  refine ⟨_, (pss_cons (ps_set (i := 2) sc_side_by_side_instants.nd rfl (Or.inl rfl) (pe_callB (call_max2 rfl) rfl T.n_max (by decide +kernel) (pa_cons (pe_ix ix_tup (pv 0) pe_int (fun _ _ => rfl)) (pa_cons (pe_ix ix_tup (pv 1) pe_int (fun _ _ => rfl)) pa_nil))))
    (pss_cons (ps_set (i := 3) sc_side_by_side_instants.nd rfl (Or.inl rfl) (pe_ifExp (pt_cmpR op_eq (pv 2) (pe_glob rfl T.m_RESTS T.r_RESTS) (nomark _)) (pe_op op_cat (pe_ix ix_tup (pv 0) pe_int (fun _ _ => rfl)) (pe_ix ix_tup (pv 1) pe_int (fun _ _ => rfl))) (pe_lst pa_nil)))
    (pss_one (ps_ret (pe_tup (pa_cons (pv 2) (pa_cons (pe_op op_cat (pe_ix ix_tup (pv 0) pe_int (fun _ _ => rfl)) (pe_ix ix_tup (pv 1) pe_int (fun _ _ => rfl))) (pa_cons (pv 3) pa_nil)))))))), ?_⟩
  refine (rdx (j := 0) a1 rfl rfl (rdx (j := 0) b1 rfl rfl ⟨_, _, rfl, ?_⟩))
  have fin : ∀ (l0 : Addr) (xs : List Int) (hl : H l0 = none) (e : xs = (sideD da db).2.2), (tTup (tCons (tVar 2) (tCons (tOp rCat (tOp (rIxT K) (tVar 0) (tC (.int 1))) (tOp (rIxT K) (tVar 1) (tC (.int 1)))) (tCons (tVar 3) tNil)))) [some (.ref t1), some (.ref t2), some (.int (sideD da db).1), some (.ref l0)] (upd H l0 (.lst (xs.map V.int))) Q := by
    intro l0 xs hl e
    subst e
    have g0 := same_new hl (.lst ((sideD da db).2.2.map V.int))
    refine ⟨_, rfl, rdx (j := 1) (g0 _ _ a1) rfl rfl (rdx (j := 1) (g0 _ _ b1) rfl rfl ⟨l1, m1, _, _, rfl, rfl, g0 _ _ a2, g0 _ _ b2, by rw [List.length_map, List.length_map]; exact Nat.le_trans (Nat.add_le_add sa.1 sb.1) (by decide), fun l hl2 => ?_⟩)⟩
    have g1 := same_new hl2 (.lst (da.2.1.map V.int ++ db.2.1.map V.int))
    refine ⟨_, rfl, (by show 3 ≤ sizeLine; decide), fun t ht => ?_⟩
    have g2 := same_new ht (.tup [.int (sideD da db).1, .ref l, .ref l0])
    refine q _ _ ((g0.trans g1).trans g2) ⟨l, l0, upd_same, ?_, g2 _ _ (g1 _ _ upd_same)⟩
    rw [g2 _ _ upd_same]
    show some (HO.lst (da.2.1.map V.int ++ db.2.1.map V.int)) = some (HO.lst ((da.2.1 ++ db.2.1).map V.int))
    rw [List.map_append]
  refine ⟨_, rfl, rfl, _, rfl, iteI (fun c => ?_) fun c => ?_⟩
  · refine (rdx (j := 2) a1 rfl rfl (rdx (j := 2) b1 rfl rfl ⟨l2, m2, _, _, rfl, rfl, a3, b3, by rw [List.length_map, List.length_map]; exact Nat.le_trans (Nat.add_le_add sa.2 sb.2) (by decide), fun l hl => ?_⟩))
    rw [← List.map_append]
    exact fin l _ hl (by unfold sideD; dsimp only; rw [if_pos c])
  · exact ⟨(by show 0 ≤ sizeLine; decide), fun l hl => fin l [] hl (by unfold sideD; dsimp only; rw [if_neg c])⟩
theorem ok_rep (F : FunM K mg "repeated" ["rest", "inner"] s_repeated) (T : TxtR K mg aN aP aR uE uR uL) (C_code_of_again : Callee P w K mg base 1 "code_of_again" ["code"] spAgC) : Callee P w K mg base 2 "repeated" ["rest", "inner"] spRep := by
  refine F.ok sc_repeated (fun vs H Q E h => ?_) (fun f cdv A outer s H vs Q E hr h => ?_)
  · obtain ⟨k, t1, da, rfl, _⟩ := h; rfl
  obtain ⟨k, t1, da, rfl, ⟨l1, l2, a1, a2, a3⟩, q⟩ := h
  refine ⟨_, (pss_cons (ps_set (i := 2) sc_repeated.nd rfl (Or.inl rfl) (pe_ifExp (pt_cmpR op_eq (pe_ix ix_tup (pv 1) pe_int (fun _ _ => rfl)) (pe_glob rfl T.m_ENDED T.r_ENDED) (nomark _)) (pe_lst (pa_cons (pv 0) pa_nil)) (pe_ix ix_tup (pv 1) pe_int (fun _ _ => rfl))))
    (pss_one (ps_ret (pe_tup (pa_cons (pe_callC C_code_of_again hr rfl pass0 (pa_cons (pe_ix ix_tup (pv 1) pe_int (fun _ _ => rfl)) pa_nil)) (pa_cons (pe_ix ix_tup (pv 1) pe_int (fun _ _ => rfl)) (pa_cons (pv 2) pa_nil))))))), ?_⟩
  refine (rdx (j := 0) a1 rfl rfl ⟨rfl, _, rfl, iteI (fun c => ?_) fun c => ?_⟩)
  · refine ⟨_, rfl, (by show 1 ≤ sizeLine; decide), fun l hl => ?_⟩
    have g0 := same_new hl (.lst [.int k])
    refine (rdx (j := 0) (g0 _ _ a1) rfl rfl ⟨_, rfl, rdx (j := 1) (g0 _ _ a1) rfl rfl ⟨_, rfl, (by show 3 ≤ sizeLine; decide), fun t ht => ?_⟩⟩)
    have g2 := same_new ht (.tup [.int (agC da.1), .ref l1, .ref l])
    exact q _ _ (g0.trans g2) ⟨l1, l, upd_same, g2 _ _ (g0 _ _ a2), by rw [show (repD k da).2.2 = [k] from if_pos c]; exact g2 _ _ upd_same⟩
  · refine (rdx (j := 2) a1 rfl rfl ?_)
    refine (rdx (j := 0) a1 rfl rfl ⟨_, rfl, rdx (j := 1) a1 rfl rfl ⟨_, rfl, (by show 3 ≤ sizeLine; decide), fun t ht => ?_⟩⟩)
    have g2 := same_new ht (.tup [.int (agC da.1), .ref l1, .ref l2])
    exact q _ _ g2 ⟨l1, l2, upd_same, g2 _ _ a2, by rw [show (repD k da).2.2 = da.2.2 from if_neg c]; exact g2 _ _ a3⟩
set_option maxHeartbeats 64000000 in
theorem ok_beg {n : Nat} (F : FunA K mg "begun_instants" "begun" ["part", "there"] s_begun_instants) (T : TxtR K mg aN aP aR uE uR uL) (C_begun_leaf_instants : Callee P w K mg base 2 "begun_leaf_instants" ["part"] (spBl K)) (C_in_turn_instants : Callee P w K mg base 1 "in_turn_instants" ["first", "second"] spTurn) (C_side_by_side_instants : Callee P w K mg base 1 "side_by_side_instants" ["first", "second"] spSide)
    (C_repeated : Callee P w K mg base 2 "repeated" ["rest", "inner"] spRep) (C_code_of_trap : Callee P w K mg base 1 "code_of_trap" ["code"] spTrC) (C_begun_instants : Callee P w K mg base (n + 2) "begun_instants" ["part", "there"] (spBeg K n)) : Callee P w K mg base (n + 3) "begun_instants" ["part", "there"] (spBeg K (n + 1)) := by
  refine F.ok sc_begun_instants (fun vs H Q E h => ?_) (fun f cdv A outer s H vs Q E hr h => ?_)
  · obtain ⟨v, p, st, ns, rfl, _⟩ := h; rfl
  obtain ⟨v, p, st, ns, rfl, hp, hS, hh, hsc, hlc, q⟩ := h
  refine ⟨_, (pss_cons (ps_set (i := 2) sc_begun_instants.nd rfl (Or.inl rfl) (pe_ix ix_tup (pv 0) pe_int (fun _ _ => rfl)))
    (pss_cons (ps_if (pt_cmpR op_eq (pv 2) pe_str (nomark _))
      (pss_cons (ps_set (i := 3) sc_begun_instants.nd rfl (Or.inl rfl) (pe_callC C_begun_instants hr rfl pass0 (pa_cons (pe_ix ix_tup (pv 0) pe_int (fun _ _ => rfl)) (pa_cons (pv 1) pa_nil))))
    (pss_one (ps_ret (pe_ifExp (pt_cmpR op_eq (pe_ix ix_tup (pv 3) pe_int (fun _ _ => rfl)) (pe_glob rfl T.m_ENDED T.r_ENDED) (nomark _)) (pe_callC C_in_turn_instants hr rfl pass0 (pa_cons (pv 3) (pa_cons (pe_callC C_begun_instants hr rfl pass0 (pa_cons (pe_ix ix_tup (pv 0) pe_int (fun _ _ => rfl)) (pa_cons (pv 1) pa_nil))) pa_nil))) (pv 3)))))
      pss_nil)
    (pss_cons (ps_if (pt_cmpR op_eq (pv 2) pe_str (nomark _))
      (pss_one (ps_ret (pe_callC C_side_by_side_instants hr rfl pass0 (pa_cons (pe_callC C_begun_instants hr rfl pass0 (pa_cons (pe_ix ix_tup (pv 0) pe_int (fun _ _ => rfl)) (pa_cons (pv 1) pa_nil))) (pa_cons (pe_callC C_begun_instants hr rfl pass0 (pa_cons (pe_ix ix_tup (pv 0) pe_int (fun _ _ => rfl)) (pa_cons (pv 1) pa_nil))) pa_nil)))))
      pss_nil)
    (pss_cons (ps_if (pt_cmpR op_eq (pv 2) pe_str (nomark _))
      (pss_one (ps_ret (pe_callC C_begun_instants hr rfl pass0 (pa_cons (pe_ifExp (pt_cmpR op_in_seq (pe_ix ix_tup (pv 0) pe_int (fun _ _ => rfl)) (pv 1) (by rfl)) (pe_ix ix_tup (pv 0) pe_int (fun _ _ => rfl)) (pe_ix ix_tup (pv 0) pe_int (fun _ _ => rfl))) (pa_cons (pv 1) pa_nil)))))
      pss_nil)
    (pss_cons (ps_if (pt_cmpR op_eq (pv 2) pe_str (nomark _))
      (pss_one (ps_ret (pe_callC C_repeated hr rfl pass0 (pa_cons (pe_ix ix_tup (pv 0) pe_int (fun _ _ => rfl)) (pa_cons (pe_callC C_begun_instants hr rfl pass0 (pa_cons (pe_ix ix_tup (pv 0) pe_int (fun _ _ => rfl)) (pa_cons (pv 1) pa_nil))) pa_nil)))))
      pss_nil)
    (pss_cons (ps_if (PW.pt (pw_or (pt_cmpR op_eq (pv 2) pe_str (nomark _)) (pw_or1 (pt_cmpR op_eq (pv 2) pe_str (nomark _)))))
      (pss_one (ps_ret (pe_callC C_begun_instants hr rfl pass0 (pa_cons (pe_ix ix_tup (pv 0) pe_int (fun _ _ => rfl)) (pa_cons (pv 1) pa_nil)))))
      pss_nil)
    (pss_cons (ps_if (pt_cmpR op_eq (pv 2) pe_str (nomark _))
      (pss_cons (ps_set (i := 4) sc_begun_instants.nd rfl (Or.inl rfl) (pe_callC C_begun_instants hr rfl pass0 (pa_cons (pe_ix ix_tup (pv 0) pe_int (fun _ _ => rfl)) (pa_cons (pv 1) pa_nil))))
    (pss_one (ps_ret (pe_tup (pa_cons (pe_callC C_code_of_trap hr rfl pass0 (pa_cons (pe_ix ix_tup (pv 4) pe_int (fun _ _ => rfl)) pa_nil)) (pa_cons (pe_ix ix_tup (pv 4) pe_int (fun _ _ => rfl)) (pa_cons (pe_ix ix_tup (pv 4) pe_int (fun _ _ => rfl)) pa_nil)))))))
      pss_nil)
    (pss_one (ps_ret (pe_callC C_begun_leaf_instants hr rfl pass0 (pa_cons (pv 0) pa_nil))))))))))), ?_⟩
  obtain ⟨a, vs, rfl, hs⟩ := wd_at hp
  refine (rdy (j := 0) hs.sq rfl rfl ⟨_, rfl, rfl, _, rfl, iteW (fun e => ?_) fun n1 => ⟨_, rfl, rfl, _, rfl, iteW (fun e => ?_) fun n2 => ⟨_, rfl, rfl, _, rfl, iteW (fun e => ?_) fun n3 => ⟨_, rfl, rfl, _, rfl, iteW (fun e => ?_) fun n4 => ⟨_, rfl, rfl, _, rfl, iteW (fun e => iteT ?_) fun n5 => ⟨_, rfl, rfl, _, rfl, iteW (fun e => ?_) fun n6 => ⟨_, rfl, rfl, _, rfl, iteW (fun e => ?_) fun n7 => ?_⟩⟩⟩⟩⟩⟩⟩)
  · obtain ⟨p1, p2, rfl⟩ := wd_thn e
    obtain ⟨a', vs', ev, hs, hx⟩ := PAt.get hp
    cases ev
    obtain ⟨x0, x1, x2, rfl, h0, h1, h2⟩ := hx.three
    cases h0.str
    refine (rdy (j := 1) hs.sq rfl rfl ⟨_, rfl, x1, p1, st, ns, rfl, h1, hS, hgl hh, adl hsc, mxl hlc, fun t1 H1 g1 R1 => ?_⟩)
    obtain ⟨l1, l2, a1, a2, a3⟩ := id R1
    refine (rdx (j := 0) a1 rfl rfl ⟨rfl, _, rfl, iteI (fun c => ?_) fun c => ?_⟩)
    · refine ⟨_, rfl, rdy (j := 2) ((hs.mono g1.tp).sq) rfl rfl ⟨_, rfl, x2, p2, st, ns, rfl, h2.mono g1.tp, g1.seq hS, hgr hh, adr hsc, mxr hlc, fun t2 H2 g2 R2 => ?_⟩⟩
      refine ⟨t1, t2, _, _, rfl, R1.mono g2, R2, sm9 (adl hsc) (mxl hlc), sm9 (adr hsc) (mxr hlc), fun t H3 g3 R3 => ?_⟩
      exact q _ _ ((g1.trans g2).trans g3) (by rw [show beg ns (.thn p1 p2) = turnD (beg ns p1) (beg ns p2) from by simp only [beg]; rw [if_pos c]]; exact R3)
    · exact ⟨_, rfl, q _ _ g1 (by rw [show beg ns (.thn p1 p2) = beg ns p1 from by simp only [beg]; rw [if_neg c]]; exact R1)⟩
  · obtain ⟨p1, p2, rfl⟩ := wd_bes e
    obtain ⟨a', vs', ev, hs, hx⟩ := PAt.get hp
    cases ev
    obtain ⟨x0, x1, x2, rfl, h0, h1, h2⟩ := hx.three
    cases h0.str
    refine (rdy (j := 1) hs.sq rfl rfl ⟨_, rfl, x1, p1, st, ns, rfl, h1, hS, hgl hh, adl hsc, adl hlc, fun t1 H1 g1 R1 => ?_⟩)
    refine (rdy (j := 2) ((hs.mono g1.tp).sq) rfl rfl ⟨_, rfl, x2, p2, st, ns, rfl, h2.mono g1.tp, g1.seq hS, hgr hh, adr hsc, adr hlc, fun t2 H2 g2 R2 => ?_⟩)
    exact ⟨t1, t2, _, _, rfl, R1.mono g2, R2, sm9 (adl hsc) (adl hlc), sm9 (adr hsc) (adr hlc), fun t H3 g3 R3 => q _ _ ((g1.trans g2).trans g3) R3⟩
  · obtain ⟨sn, p1, p2, rfl⟩ := wd_iff e
    obtain ⟨a', vs', ev, hs, hx⟩ := PAt.get hp
    cases ev
    obtain ⟨x0, x1, x2, x3, rfl, h0, h1, h2, h3⟩ := hx.four
    cases h0.str
    cases h1.int
    refine (rdy (j := 1) hs.sq rfl rfl ⟨_, rfl, st, _, rfl, .inl hS, rfl, flat_ints ns, _, rfl, iteM (fun c => ?_) fun c => ?_⟩)
    · exact (rdy (j := 2) hs.sq rfl rfl ⟨_, rfl, x2, p1, st, ns, rfl, h2, hS, hgl hh, adl hsc, mxl hlc, fun t1 H1 g1 R1 => q _ _ g1 (by rw [show beg ns (.iff sn p1 p2) = beg ns p1 from by simp only [beg]; rw [if_pos c]]; exact R1)⟩)
    · exact (rdy (j := 3) hs.sq rfl rfl ⟨_, rfl, x3, p2, st, ns, rfl, h3, hS, hgr hh, adr hsc, mxr hlc, fun t1 H1 g1 R1 => q _ _ g1 (by rw [show beg ns (.iff sn p1 p2) = beg ns p2 from by simp only [beg]; rw [if_neg c]]; exact R1)⟩)
  · obtain ⟨kn, p1, rfl⟩ := wd_again e
    obtain ⟨a', vs', ev, hs, hx⟩ := PAt.get hp
    cases ev
    obtain ⟨x0, x1, x2, rfl, h0, h1, h2⟩ := hx.three
    cases h0.str
    cases h1.int
    refine (rdy (j := 1) hs.sq rfl rfl (rdy (j := 2) hs.sq rfl rfl ⟨_, rfl, x2, p1, st, ns, rfl, h2, hS, Nat.le_of_succ_le_succ hh, hsc, mxr hlc, fun t1 H1 g1 R1 => ?_⟩))
    exact ⟨kn, t1, _, rfl, R1, fun t H3 g3 R3 => q _ _ (g1.trans g3) R3⟩
  · obtain ⟨sn, p1, rfl⟩ := wd_hold e
    obtain ⟨a', vs', ev, hs, hx⟩ := PAt.get hp
    cases ev
    obtain ⟨x0, x1, x2, rfl, h0, h1, h2⟩ := hx.three
    cases h0.str
    cases h1.int
    exact (rdy (j := 2) hs.sq rfl rfl ⟨_, rfl, x2, p1, st, ns, rfl, h2, hS, Nat.le_of_succ_le_succ hh, hsc, hlc, fun t1 H1 g1 R1 => q _ _ g1 R1⟩)
  · obtain ⟨sn, p1, rfl⟩ := wd_watch e
    obtain ⟨a', vs', ev, hs, hx⟩ := PAt.get hp
    cases ev
    obtain ⟨x0, x1, x2, rfl, h0, h1, h2⟩ := hx.three
    cases h0.str
    cases h1.int
    exact (rdy (j := 2) hs.sq rfl rfl ⟨_, rfl, x2, p1, st, ns, rfl, h2, hS, Nat.le_of_succ_le_succ hh, hsc, hlc, fun t1 H1 g1 R1 => q _ _ g1 R1⟩)
  · obtain ⟨p1, rfl⟩ := wd_trap e
    obtain ⟨a', vs', ev, hs, hx⟩ := PAt.get hp
    cases ev
    obtain ⟨x0, x1, rfl, h0, h1⟩ := hx.two
    cases h0.str
    refine (rdy (j := 1) hs.sq rfl rfl ⟨_, rfl, x1, p1, st, ns, rfl, h1, hS, Nat.le_of_succ_le_succ hh, hsc, hlc, fun t1 H1 g1 R1 => ?_⟩)
    obtain ⟨l1, l2, a1, a2, a3⟩ := id R1
    refine (rdx (j := 0) a1 rfl rfl ⟨_, rfl, rdx (j := 1) a1 rfl rfl (rdx (j := 2) a1 rfl rfl ⟨(by show 3 ≤ sizeLine; decide), fun t ht => ?_⟩)⟩)
    have g2 := same_new ht (.tup [.int (trapC (beg ns p1).1), .ref l1, .ref l2])
    exact q _ _ (g1.trans g2) ⟨l1, l2, upd_same, g2 _ _ a2, g2 _ _ a3⟩
  · have lf := wd_leaf n1 n2 n3 n4 n5 n6 n7
    exact ⟨_, rfl, _, p, rfl, hp, lf, hlc, fun t1 H1 g1 R1 => q _ _ g1 (by rw [beg_leaf lf ns []]; exact R1)⟩
theorem beg_all (F : FunA K mg "begun_instants" "begun" ["part", "there"] s_begun_instants) (T : TxtR K mg aN aP aR uE uR uL) (C1 : Callee P w K mg base 2 "begun_leaf_instants" ["part"] (spBl K)) (C2 : Callee P w K mg base 1 "in_turn_instants" ["first", "second"] spTurn) (C3 : Callee P w K mg base 1 "side_by_side_instants" ["first", "second"] spSide)
    (C4 : Callee P w K mg base 2 "repeated" ["rest", "inner"] spRep) (C5 : Callee P w K mg base 1 "code_of_trap" ["code"] spTrC) : ∀ n, Callee P w K mg base (n + 2) "begun_instants" ["part", "there"] (spBeg K n)
  | 0 => (F.zero (sp := spBeg K 0) fun vs H Q E h => by obtain ⟨v, p, st, ns, _, _, _, hh, _⟩ := h; exact absurd hh (Nat.not_le_of_gt (Pt.hg_pos p))).mono (by decide)
  | n + 1 => ok_beg F T C1 C2 C3 C4 C5 (beg_all F T C1 C2 C3 C4 C5 n)
set_option maxHeartbeats 16000000 in
theorem ok_ranG {n : Nat} (F : FunM K mg "ran" ["part", "state", "there"] s_ran) (T : TxtR K mg aN aP aR uE uR uL) (C_part_to_begin : Callee P w K mg base (n + 3) "part_to_begin" ["part", "state"] (spPtb K n)) (C_begun_instants : Callee P w K mg base (n + 2) "begun_instants" ["part", "there"] (spBeg K n)) :
    Callee P w K mg base (n + 4) "ran" ["part", "state", "there"] (spRanG K n) := by
  refine F.ok sc_ran (fun vs H Q E h => ?_) (fun f cdv A outer s H vs Q E hr h => ?_)
  · obtain ⟨v, p, sv, st, th, ns, rfl, _⟩ := h; rfl
  obtain ⟨v, p, sv, st, th, ns, rfl, hp, hst, hS, hb, k1, k2, k3, q⟩ := h
  refine ⟨_, (pss_cons (ps_set (i := 3) sc_ran.nd rfl (Or.inl rfl) (pe_callC C_begun_instants hr rfl pass0 (pa_cons (pe_callC C_part_to_begin hr rfl pass0 (pa_cons (pv 0) (pa_cons (pv 1) pa_nil))) (pa_cons (pv 2) pa_nil))))
    (pss_one (ps_ret (pe_tup (pa_cons (pe_ix ix_tup (pv 3) pe_int (fun _ _ => rfl)) (pa_cons (pe_sset rfl rfl T.n_sorted rfl T.n_set (pe_ix ix_tup (pv 3) pe_int (fun _ _ => rfl))) (pa_cons (pe_callB call_sorted rfl T.n_sorted (by decide +kernel) (pa_cons (pe_ix ix_tup (pv 3) pe_int (fun _ _ => rfl)) pa_nil)) pa_nil))))))), ?_⟩
  refine ⟨_, rfl, _, rfl, v, p, sv, st, rfl, hp, hst, hb, fun v1 H1 g1 P1 => ?_⟩
  refine ⟨_, rfl, v1, pb p st, th, ns, rfl, P1, g1.seq hS, k1, lt9 k2, lt9 k3, fun t H2 g2 ⟨l1, l2, a1, a2, a3⟩ => ?_⟩
  obtain ⟨c1, c2⟩ := beg_len ns (pb p st)
  refine (rdx (j := 0) a1 rfl rfl (rdx (j := 1) a1 rfl rfl ⟨l1, _, rfl, SqL.of a2, Nat.lt_of_le_of_lt c1 k2, fun r1 hr1 => ?_⟩))
  have g3 := same_new hr1 (.lst ((nub (beg ns (pb p st)).2.1).map V.int))
  refine (rdx (j := 2) (g3 _ _ a1) rfl rfl ⟨l2, _, rfl, SqL.of (g3 _ _ a3), Nat.lt_of_le_of_lt c2 k3, fun r2 ms hr2 pm om => ?_⟩)
  cases sortI_eq pm om
  have g4 := same_new hr2 (.lst ((sortI (beg ns (pb p st)).2.2).map V.int))
  refine ⟨(by show 3 ≤ sizeLine; decide), fun t2 ht2 => ?_⟩
  have g5 := same_new ht2 (.tup [.int (beg ns (pb p st)).1, .ref r1, .ref r2])
  have g02 := g1.trans g2
  refine q _ _ (((g02.trans g3).trans g4).trans g5) ⟨r1, r2, upd_same, g5 _ _ (g4 _ _ upd_same), g5 _ _ upd_same, g02.free hr1, (g02.trans g3).free hr2, ne_of_none upd_same hr2⟩
theorem ok_ran {n : Nat} (C : Callee P w K mg base (n + 4) "ran" ["part", "state", "there"] (spRanG K n)) : Callee P w K mg base (n + 4) "ran" ["part", "state", "there"] (spRan K n) := C.imp fun vs H Q E h => by
  obtain ⟨v, p, sv, st, th, ns, rfl, hp, hst, hS, hh, hsc, hrc, q⟩ := h
  have b := pb_bd p st
  exact ⟨v, p, sv, st, th, ns, rfl, hp, hst, hS, .inr ⟨hh, lt9 hrc⟩, Nat.le_trans b.1 hh, Nat.lt_of_le_of_lt b.2.1 hsc, Nat.lt_of_le_of_lt b.2.2 hrc, q⟩
end

end My
end

section
set_option Elab.async false
set_option linter.all false
set_option maxRecDepth 100000
set_option maxHeartbeats 4000000
namespace My
open PySem L2
/-! ### walks -/
abbrev Wk := List Int × Bool × List Int × List Int
def vO : Option Bool → V
  | none => .non
  | some b => .bl b
abbrev V_ENDED : V := .int 0
def minL : List Int → Int
  | [] => 0
  | [x] => x
  | x :: y :: r => if minL (y :: r) < x then minL (y :: r) else x
theorem minL_low : ∀ {l : List Int}, 0 < l.length → minL l ∈ l ∧ ∀ a ∈ l, minL l ≤ a
  | [x], _ => ⟨List.mem_singleton.mpr rfl, fun a ha => by rcases List.mem_singleton.mp ha with rfl; exact Int.le_refl _⟩
  | x :: y :: r, _ => by
    obtain ⟨h1, h2⟩ := minL_low (l := y :: r) (Nat.succ_pos _)
    unfold minL
    split
    · next c => exact ⟨List.mem_cons_of_mem _ h1, fun a ha => (List.mem_cons.mp ha).elim (fun e => e ▸ Int.le_of_lt c) fun z => h2 a z⟩
    · next c => exact ⟨List.mem_cons_self, fun a ha => (List.mem_cons.mp ha).elim (fun e => e ▸ Int.le_refl _) fun z => Int.le_trans (Int.not_lt.mp c) (h2 a z)⟩
theorem minL_eq {l : List Int} {M : Int} (h1 : M ∈ l) (h2 : ∀ a ∈ l, M ≤ a) : M = minL l := by
  obtain ⟨k1, k2⟩ := minL_low (List.length_pos_of_mem h1)
  exact Int.le_antisymm (h2 _ k1) (k2 _ h1)
def mx (a b : Int) : Int := if b > a then b else a
def turnW (a b : Wk) : Wk := (nub (a.1.filter (fun c => !decide (c = 0)) ++ b.1), b.2.1, a.2.2.1 ++ b.2.2.1, a.2.2.2 ++ b.2.2.2)
def sideW (a b : Wk) : Wk := ((nub (a.1 ++ b.1)).filter (fun c => decide (mx (minL a.1) (minL b.1) ≤ c)), a.2.1 && b.2.1, a.2.2.1 ++ b.2.2.1, a.2.2.2 ++ b.2.2.2)
def oneW (a b : Wk) : Wk := (nub (a.1 ++ b.1), false, [], a.2.2.2 ++ b.2.2.2)
def recW (f : Int → Int) (a : Wk) : Wk := (nub (a.1.map f), a.2.1, a.2.2.1, a.2.2.2)
def wbeg (kn : List (Option Bool)) : Bool → Pt → Wk
  | s, .thn p q => if 0 ∈ (wbeg kn s p).1 then turnW (wbeg kn s p) (wbeg kn (wbeg kn s p).2.1 q) else wbeg kn s p
  | s, .bes p q => sideW (wbeg kn s p) (wbeg kn s q)
  | s, .iff x p q => match (kn[x.toNat]?).getD none with
    | none => oneW (wbeg kn false p) (wbeg kn false q)
    | some true => wbeg kn s p
    | some false => wbeg kn s q
  | s, .again _ p => recW agC (wbeg kn s p)
  | s, .hold _ p => wbeg kn s p
  | s, .watch _ p => wbeg kn s p
  | s, .trap p => recW trapC (wbeg kn s p)
  | s, .nothing => ([0], s, [], [])
  | s, .send x => ([0], s, if s = true then [x] else [], [x])
  | s, .exit d => ([2 + d], s, [], [])
  | s, .rest _ => ([1], s, [], [])
  | s, .stay _ => ([1], s, [], [])
def okW (sg : Int) : Pt → Prop
  | .send s => 0 ≤ s ∧ s < sg
  | .exit d => 0 ≤ d ∧ d < 4
  | .iff s p q => (0 ≤ s ∧ s < sg) ∧ okW sg p ∧ okW sg q
  | .thn p q => okW sg p ∧ okW sg q
  | .bes p q => okW sg p ∧ okW sg q
  | .again _ p => okW sg p
  | .hold s p => (0 ≤ s ∧ s < sg) ∧ okW sg p
  | .watch s p => (0 ≤ s ∧ s < sg) ∧ okW sg p
  | .trap p => okW sg p
  | _ => True
theorem okW_rem {sg : Int} (st : List Int) {p : Pt} (h : okW sg p) : okW sg (rem st p).2 := by
  induction p with
  | iff s p q ih1 ih2 =>
    have := ih1 h.2.1
    have := ih2 h.2.2
    simp only [rem, lp]
    split
    · assumption
    · split
      · assumption
      · exact h
  | thn p q ih1 ih2 =>
    have := ih1 h.1
    have := ih2 h.2
    simp only [rem, lp]
    split
    · exact ⟨ih1 h.1, h.2⟩
    · assumption
  | bes p q ih1 ih2 =>
    have := ih1 h.1
    have := ih2 h.2
    simp only [rem, lp]
    split
    · exact ⟨ih1 h.1, ih2 h.2⟩
    · split
      · assumption
      · split
        · assumption
        · exact h
  | again k p ih =>
    have := ih h
    simp only [rem]
    split
    · exact h
    · simp only [lr]
      split
      · exact h
      · exact ih h
  | hold s p ih =>
    have := ih h.2
    simp only [rem, lr]
    split
    · exact h
    · exact ⟨h.1, trivial, ih h.2⟩
  | watch s p ih =>
    have := ih h.2
    simp only [rem, lr]
    split
    · exact h
    · exact ⟨h.1, trivial, ih h.2⟩
  | trap p ih =>
    have := ih h
    simp only [rem, lr]
    split
    · exact h
    · exact ih h
  | rest k =>
    simp only [rem]
    split <;> exact trivial
  | nothing => exact trivial
  | send s => exact h
  | exit d => exact h
  | stay ks => exact trivial
theorem okW_pb {sg : Int} {p : Pt} (h : okW sg p) (st : Option (List Int)) : okW sg (pb p st) := by
  cases st with
  | none => exact h
  | some l => exact okW_rem l h
theorem rise_len : ∀ {l : List Int} {a b : Int}, l.Pairwise (· < ·) → (∀ x ∈ l, a ≤ x ∧ x < b) → (l.length : Int) ≤ max 0 (b - a)
  | [], a, b, _, _ => Int.le_max_left 0 (b - a)
  | x :: r, a, b, h, k => by
    have h' := List.pairwise_cons.mp h
    have kx := k x List.mem_cons_self
    have := rise_len (l := r) (a := x + 1) (b := b) h'.2 fun y hy => ⟨Int.add_one_le_of_lt (h'.1 y hy), (k y (List.mem_cons_of_mem _ hy)).2⟩
    rw [List.length_cons]
    omega
structure Cw (l : List Int) : Prop where
  ri : l.Pairwise (· < ·)
  bd : ∀ c ∈ l, 0 ≤ c ∧ c < 6
  ne : 0 < l.length
theorem Cw.len {l : List Int} (h : Cw l) : l.length ≤ 6 := by
  have := rise_len h.ri h.bd
  omega
theorem nub_ne {l : List Int} (h : 0 < l.length) : 0 < (nub l).length := by
  cases l with
  | nil => cases h
  | cons x r => exact List.length_pos_of_mem (mem_nub.mpr (List.mem_cons_self (a := x) (l := r)))
theorem cw_nub {l : List Int} (h : ∀ c ∈ l, 0 ≤ c ∧ c < 6) (n : 0 < l.length) : Cw (nub l) := ⟨rise_nub l, fun c hc => h c (mem_nub.mp hc), nub_ne n⟩
theorem cw_app {a b : List Int} (ha : Cw a) (hb : Cw b) : Cw (nub (a ++ b)) := cw_nub (fun c hc => (List.mem_append.mp hc).elim (fun h => ha.bd c h) fun h => hb.bd c h) (by rw [List.length_append]; exact Nat.lt_of_lt_of_le ha.ne (Nat.le_add_right _ _))
theorem cw_one {c : Int} (h : 0 ≤ c ∧ c < 6) : Cw [c] := ⟨List.pairwise_singleton _ _, fun x hx => by rcases List.mem_singleton.mp hx with rfl; exact h, Nat.succ_pos _⟩
theorem three {c : Int} (h0 : 0 ≤ c) (h : c < 3) : c = 0 ∨ c = 1 ∨ c = 2 := by
  obtain ⟨n, rfl⟩ := Int.eq_ofNat_of_zero_le h0
  match n, h with
  | 0, _ => exact .inl rfl
  | 1, _ => exact .inr (.inl rfl)
  | 2, _ => exact .inr (.inr rfl)
  | n + 3, z => exact absurd z (by omega)
theorem six {P : Int → Prop} (h0 : P 0) (h1 : P 1) (h2 : P 2) (h3 : P 3) (h4 : P 4) (h5 : P 5) {c : Int} (h : 0 ≤ c ∧ c < 6) : P c := by
  obtain ⟨n, rfl⟩ := Int.eq_ofNat_of_zero_le h.1
  match n, h.2 with
  | 0, _ => exact h0
  | 1, _ => exact h1
  | 2, _ => exact h2
  | 3, _ => exact h3
  | 4, _ => exact h4
  | 5, _ => exact h5
  | n + 6, z => exact absurd z (by omega)
theorem agC_bd {c : Int} (h : 0 ≤ c ∧ c < 6) : 0 ≤ agC c ∧ agC c < 6 := six (P := fun c => 0 ≤ agC c ∧ agC c < 6) (by decide) (by decide) (by decide) (by decide) (by decide) (by decide) h
theorem trapC_bd {c : Int} (h : 0 ≤ c ∧ c < 6) : 0 ≤ trapC c ∧ trapC c < 6 := six (P := fun c => 0 ≤ trapC c ∧ trapC c < 6) (by decide) (by decide) (by decide) (by decide) (by decide) (by decide) h
theorem cw_map {f : Int → Int} (hf : ∀ c, 0 ≤ c ∧ c < 6 → 0 ≤ f c ∧ f c < 6) {a : List Int} (ha : Cw a) : Cw (nub (a.map f)) := cw_nub (fun c hc => by obtain ⟨x, hx, rfl⟩ := List.mem_map.mp hc; exact hf x (ha.bd x hx)) (by rw [List.length_map]; exact ha.ne)
theorem cw_side {a b : List Int} (ha : Cw a) (hb : Cw b) : Cw ((nub (a ++ b)).filter (fun c => decide (mx (minL a) (minL b) ≤ c))) := by
  have h := cw_app ha hb
  refine ⟨h.ri.filter _, fun c hc => h.bd c (List.mem_filter.mp hc).1, ?_⟩
  have m1 := (minL_low ha.ne).1
  have m2 := (minL_low hb.ne).1
  refine List.length_pos_of_mem (a := mx (minL a) (minL b)) (List.mem_filter.mpr ⟨mem_nub.mpr ?_, by simp⟩)
  unfold mx
  split
  · exact List.mem_append_right _ m2
  · exact List.mem_append_left _ m1
theorem cw_beg {sg : Int} (kn : List (Option Bool)) {p : Pt} (h : okW sg p) : ∀ s, Cw (wbeg kn s p).1 := by
  induction p with
  | thn p q ih1 ih2 =>
    intro s
    simp only [wbeg]
    split
    · have h1 := ih1 h.1 s
      have h2 := ih2 h.2 (wbeg kn s p).2.1
      exact cw_nub (fun c hc => (List.mem_append.mp hc).elim (fun z => h1.bd c (List.mem_filter.mp z).1) fun z => h2.bd c z) (by rw [List.length_append]; exact Nat.lt_of_lt_of_le h2.ne (Nat.le_add_left _ _))
    · exact ih1 h.1 s
  | bes p q ih1 ih2 => intro s; exact cw_side (ih1 h.1 s) (ih2 h.2 s)
  | iff x p q ih1 ih2 =>
    intro s
    simp only [wbeg]
    split
    · exact cw_app (ih1 h.2.1 false) (ih2 h.2.2 false)
    · exact ih1 h.2.1 s
    · exact ih2 h.2.2 s
  | again k p ih => intro s; exact cw_map (fun c => agC_bd) (ih h s)
  | hold x p ih => intro s; exact ih h.2 s
  | watch x p ih => intro s; exact ih h.2 s
  | trap p ih => intro s; exact cw_map (fun c => trapC_bd) (ih h s)
  | nothing => intro s; exact cw_one ⟨by decide, by decide⟩
  | send x => intro s; exact cw_one ⟨by decide, by decide⟩
  | exit d => intro s; exact cw_one ⟨Int.le_trans h.1 (Int.le_add_of_nonneg_left (by decide)), Int.add_lt_add_left h.2 2⟩
  | rest k => intro s; exact cw_one ⟨by decide, by decide⟩
  | stay k => intro s; exact cw_one ⟨by decide, by decide⟩
theorem wbeg_len (kn : List (Option Bool)) (p : Pt) : ∀ s, (wbeg kn s p).2.2.1.length ≤ p.sc ∧ (wbeg kn s p).2.2.2.length ≤ p.sc := by
  induction p with
  | thn p q ih1 ih2 =>
    intro s
    have h1 := ih1 s
    have h2 := ih2 (wbeg kn s p).2.1
    simp only [wbeg, Pt.sc]
    split
    · simp only [turnW, List.length_append]; exact ⟨Nat.add_le_add h1.1 h2.1, Nat.add_le_add h1.2 h2.2⟩
    · exact ⟨Nat.le_add_right_of_le h1.1, Nat.le_add_right_of_le h1.2⟩
  | bes p q ih1 ih2 =>
    intro s
    have h1 := ih1 s
    have h2 := ih2 s
    simp only [wbeg, Pt.sc, sideW, List.length_append]
    exact ⟨Nat.add_le_add h1.1 h2.1, Nat.add_le_add h1.2 h2.2⟩
  | iff x p q ih1 ih2 =>
    intro s
    have h1 := ih1 s
    have h2 := ih2 s
    have h3 := ih1 false
    have h4 := ih2 false
    simp only [wbeg, Pt.sc]
    split
    · simp only [oneW, List.length_append, List.length_nil]; exact ⟨Nat.zero_le _, Nat.add_le_add h3.2 h4.2⟩
    · exact ⟨Nat.le_add_right_of_le h1.1, Nat.le_add_right_of_le h1.2⟩
    · exact ⟨Nat.le_add_left_of_le h2.1, Nat.le_add_left_of_le h2.2⟩
  | again k p ih => intro s; exact ih s
  | hold x p ih => intro s; exact ih s
  | watch x p ih => intro s; exact ih s
  | trap p ih => intro s; exact ih s
  | send x => intro s; cases s <;> simp [wbeg, Pt.sc]
  | nothing => intro s; exact ⟨Nat.zero_le _, Nat.zero_le _⟩
  | exit x => intro s; exact ⟨Nat.zero_le _, Nat.zero_le _⟩
  | rest x => intro s; exact ⟨Nat.zero_le _, Nat.zero_le _⟩
  | stay x => intro s; exact ⟨Nat.zero_le _, Nat.zero_le _⟩
def walkD (kn : List (Option Bool)) (s : Bool) (p : Pt) (st : Option (List Int)) : Wk := ((wbeg kn s (pb p st)).1, (wbeg kn s (pb p st)).2.1, nub (wbeg kn s (pb p st)).2.2.1, nub (wbeg kn s (pb p st)).2.2.2)

end My
end

section
set_option Elab.async false
set_option linter.all false
set_option maxRecDepth 100000
set_option maxHeartbeats 4000000
namespace My
open PySem L2
inductive WkAt (H : Hp) (t : Addr) (d : Wk)   : Prop
  | mk (l1) (l2) (l3) (c0 : H t = some (.tup [.ref l1, .bl d.2.1, .ref l2, .ref l3])) (c1 : H l1 = some (.lst (d.1.map V.int))) (c2 : H l2 = some (.lst (d.2.2.1.map V.int))) (c3 : H l3 = some (.lst (d.2.2.2.map V.int))) : WkAt H t d 
theorem WkAt.mono {H H' : Hp} {t : Addr} {d : Wk} (h : WkAt H t d) (g : Same H H') : WkAt H' t d := by
  obtain ⟨l1, l2, l3, a1, a2, a3, a4⟩ := h
  exact ⟨l1, l2, l3, g _ _ a1, g _ _ a2, g _ _ a3, g _ _ a4⟩
def smW (d : Wk) : Prop := d.1.length ≤ 20 ∧ 0 < d.1.length ∧ d.2.2.1.length ≤ 900 ∧ d.2.2.2.length ≤ 900
inductive C_spTurnW  (vs : List V) (H : Hp) (Q : VK) : Prop
  | mk (t1) (t2) (a) (b) (c0 : vs = [.ref t1, .ref t2]) (c1 : WkAt H t1 a) (c2 : WkAt H t2 b) (c3 : smW a) (c4 : smW b) (c5 : ∀ t H', Same H H' → WkAt H' t (turnW a b) → Q (.ref t) H') : C_spTurnW  vs H Q
def spTurnW : Sp := fun vs H Q _ => C_spTurnW  vs H Q
inductive C_spSideW  (vs : List V) (H : Hp) (Q : VK) : Prop
  | mk (t1) (t2) (a) (b) (c0 : vs = [.ref t1, .ref t2]) (c1 : WkAt H t1 a) (c2 : WkAt H t2 b) (c3 : smW a) (c4 : smW b) (c5 : ∀ t H', Same H H' → WkAt H' t (sideW a b) → Q (.ref t) H') : C_spSideW  vs H Q
def spSideW : Sp := fun vs H Q _ => C_spSideW  vs H Q
inductive C_spOneW  (vs : List V) (H : Hp) (Q : VK) : Prop
  | mk (t1) (t2) (a) (b) (c0 : vs = [.ref t1, .ref t2]) (c1 : WkAt H t1 a) (c2 : WkAt H t2 b) (c3 : smW a) (c4 : smW b) (c5 : ∀ t H', Same H H' → WkAt H' t (oneW a b) → Q (.ref t) H') : C_spOneW  vs H Q
def spOneW : Sp := fun vs H Q _ => C_spOneW  vs H Q
inductive C_spRecW  (vs : List V) (H : Hp) (Q : VK) : Prop
  | mk (t1 c : Addr) (a : Wk) (cs : List Int) (c0 : vs = [.ref t1, .ref c]) (c1 : WkAt H t1 a) (c2 : H c = some (.lst (cs.map V.int))) (c3 : cs.length ≤ 20) (c4 : ∀ t H', Same H H' → WkAt H' t (nub cs, a.2.1, a.2.2.1, a.2.2.2) → Q (.ref t) H') : C_spRecW  vs H Q
def spRecW : Sp := fun vs H Q _ => C_spRecW  vs H Q
inductive C_spLeafW (K : PySem.W.Frag) (vs : List V) (H : Hp) (Q : VK) : Prop
  | mk (v) (p) (s) (c0 : vs = [v, .bl s]) (c1 : PAt K H (Pt.nd p) v) (c2 : isLf p = true) (c3 : ∀ t H', Same H H' → WkAt H' t (wbeg [] s p) → Q (.ref t) H') : C_spLeafW K vs H Q
def spLeafW (K : PySem.W.Frag) : Sp := fun vs H Q _ => C_spLeafW K vs H Q
inductive C_spWb (K : PySem.W.Frag) (n : Nat) (vs : List V) (H : Hp) (Q : VK) : Prop
  | mk (v) (p) (s) (kl) (kn) (c0 : vs = [v, .bl s, .ref kl]) (c1 : PAt K H (Pt.nd p) v) (c2 : SqL K H kl ((kn : List (Option Bool)).map vO)) (c3 : p.hg ≤ n) (c4 : p.sc ≤ 900) (c5 : okW kn.length p) (c6 : ∀ t H', Same H H' → WkAt H' t (wbeg kn s p) → Q (.ref t) H') : C_spWb K n vs H Q
def spWb (K : PySem.W.Frag) (n : Nat) : Sp := fun vs H Q _ => C_spWb K n vs H Q
inductive C_spWalk (K : PySem.W.Frag) (n : Nat) (vs : List V) (H : Hp) (Q : VK) : Prop
  | mk (v) (p) (sv) (st) (s) (kl) (kn) (c0 : vs = [v, sv, .bl s, .ref kl]) (c1 : PAt K H (Pt.nd p) v) (c2 : StAt K H st sv) (c3 : SqL K H kl ((kn : List (Option Bool)).map vO)) (c4 : p.hg ≤ n) (c5 : p.sc < 64) (c6 : p.rc < 64) (c7 : okW kn.length p) (c8 : ∀ t H', Same H H' → WkAt H' t (walkD kn s p st) → Q (.ref t) H') : C_spWalk K n vs H Q
def spWalk (K : PySem.W.Frag) (n : Nat) : Sp := fun vs H Q _ => C_spWalk K n vs H Q
theorem smW_beg {kn : List (Option Bool)} {sg : Int} {p : Pt} (h : okW sg p) (hs : p.sc ≤ 900) (s : Bool) : smW (wbeg kn s p) := by
  have c := cw_beg kn h s
  exact ⟨Nat.le_trans c.len (by decide), c.ne, Nat.le_trans (wbeg_len kn p s).1 hs, Nat.le_trans (wbeg_len kn p s).2 hs⟩
theorem lstApp {H : Hp} {l : Addr} {xs ys : List Int} (h : H l = some (.lst (xs.map V.int ++ ys.map V.int))) : H l = some (.lst ((xs ++ ys).map V.int)) := by rw [h, List.map_append]
section
variable {P : Program} {w : World} {K : PySem.W.Frag} {mg : Str → Option Value} {base : Heap} {aN aP aR : Addr} {uE uR uL : Value}
set_option maxHeartbeats 16000000 in
theorem ok_turnW (F : FunA K mg "in_turn_walking" "in_turn" ["first", "second"] s_in_turn_walking) (T : TxtR K mg aN aP aR uE uR uL) : Callee P w K mg base 1 "in_turn_walking" ["first", "second"] spTurnW := by
  refine F.ok sc_in_turn_walking (fun vs H Q E h => ?_) (fun f cdv A outer s H vs Q E hr h => ?_)
  · obtain ⟨t1, t2, da, db, rfl, _⟩ := h; rfl
  obtain ⟨t1, t2, da, db, rfl, ⟨l1, l2, l3, a1, a2, a3, a4⟩, ⟨m1, m2, m3, b1, b2, b3, b4⟩, sa, sb, q⟩ := h
  refine ⟨_, (pss_cons (ps_setComp (j := 2) (g := (gName 0)) (tc := (tTest (tOp rNe (tVar 0) (tC V_ENDED)))) (te := (tVar 0)) ["code"] [] sc_in_turn_walking.nd rfl (Or.inl rfl) rfl (compOk (defScope s_in_turn_walking) ["first", "second", "going_past", "codes"] (by decide +kernel)) (pi_list (pe_ix ix_tup (pv 0) pe_int (fun _ _ => rfl))) (fun s2 H2 fp cl C => pg_name (i := 0) (show List.Nodup [("code" : Str)] from by decide +kernel) rfl (Or.inl rfl)) (gkeep_name (by decide)) (fun s2 H2 fp cl C => pif_one (pt_cmpR op_ne (pv 0) (pe_glob rfl T.m_ENDED T.r_ENDED) (nomark _))) (fun s2 H2 fp cl C => (pv 0)))
    (pss_cons (ps_set (i := 3) sc_in_turn_walking.nd rfl (Or.inl rfl) (pe_sset rfl rfl T.n_sorted rfl T.n_set (pe_op op_cat (pv 2) (pe_ix ix_tup (pv 1) pe_int (fun _ _ => rfl)))))
    (pss_one (ps_ret (pe_tup (pa_cons (pv 3) (pa_cons (pe_ix ix_tup (pv 1) pe_int (fun _ _ => rfl)) (pa_cons (pe_op op_cat (pe_ix ix_tup (pv 0) pe_int (fun _ _ => rfl)) (pe_ix ix_tup (pv 1) pe_int (fun _ _ => rfl))) (pa_cons (pe_op op_cat (pe_ix ix_tup (pv 0) pe_int (fun _ _ => rfl)) (pe_ix ix_tup (pv 1) pe_int (fun _ _ => rfl))) pa_nil))))))))), ?_⟩
  refine (rdx (j := 0) a1 rfl rfl ⟨l1, rfl, ⟨_, SqL.of a2⟩, comp_list (K := K) (xs := da.1.map V.int) (fun i ys H' => H' = H ∧ ys = ((da.1.take i).filter (fun c => !decide (c = 0))).map V.int) ⟨rfl, rfl⟩ (by rw [List.length_map]; exact small (leK sa.1 (by decide))) (fun i ys H' ⟨e, _⟩ => by rw [e]; exact SqL.of a2) ?_ ?_⟩)
  · rintro j z ys H' N hj ⟨rfl, rfl⟩ hN hyl
    rw [List.getElem?_map] at hj
    cases ej : da.1[j]? with
    | none => rw [ej] at hj; cases hj
    | some c =>
      rw [ej] at hj
      cases hj
      have et : (da.1.take (j + 1)).filter (fun c => !decide (c = 0)) = (da.1.take j).filter (fun c => !decide (c = 0)) ++ [c].filter (fun c => !decide (c = 0)) := by
        rw [List.take_add_one, ej, List.filter_append]; rfl
      refine ⟨_, rfl, rfl, _, rfl, ite2 (fun z => ?_) fun z => ?_⟩
      · refine ⟨_, rfl, hN _ _ (snoc_le hyl) ⟨rfl, ?_⟩⟩
        have nz : ¬ c = 0 := fun y => by rw [y] at z; exact absurd z (by decide)
        rw [et, List.map_append, List.filter_cons_of_pos (by simp [nz])]
        rfl
      · refine hN _ _ (Nat.le_succ_of_le hyl) ⟨rfl, ?_⟩
        have nz : c = 0 := Classical.byContradiction fun y => z (by simp [y])
        rw [et, List.filter_cons_of_neg (by simp [nz])]
        simp
  · rintro ys H' hyl ⟨rfl, rfl⟩ D hD
    have g0 := same_new hD (.lst (((da.1.take (da.1.map V.int).length).filter (fun c => !decide (c = 0))).map V.int))
    have hD0 : (upd H' D (.lst (((da.1.take (da.1.map V.int).length).filter (fun c => !decide (c = 0))).map V.int))) D = some (.lst ((da.1.filter (fun c => !decide (c = 0))).map V.int)) := by rw [upd_same, List.length_map, List.take_length]
    have fl : (da.1.filter (fun c => !decide (c = 0))).length ≤ da.1.length := List.length_filter_le _ _
    have s1 := sa.1
    have s2 := sb.1
    have a1 := g0 _ _ a1
    have a3 := g0 _ _ a3
    have a4 := g0 _ _ a4
    have b1 := g0 _ _ b1
    have b2 := g0 _ _ b2
    have b3 := g0 _ _ b3
    have b4 := g0 _ _ b4
    have q : ∀ t H2, Same (upd H' D (.lst (((da.1.take (da.1.map V.int).length).filter (fun c => !decide (c = 0))).map V.int))) H2 → WkAt H2 t (turnW da db) → Q (.ref t) H2 := fun t H2 g => q t H2 (g0.trans g)
    generalize (upd H' D (.lst (((da.1.take (da.1.map V.int).length).filter (fun c => !decide (c = 0))).map V.int))) = H1 at hD0 a1 a3 a4 b1 b2 b3 b4 q
    refine ⟨_, rfl, rdx (j := 0) b1 rfl rfl ⟨D, m1, _, _, rfl, rfl, hD0, b2, by rw [List.length_map, List.length_map]; exact small (le2K (Nat.le_trans fl s1) s2 (by decide)), fun p hp => ?_⟩⟩
    have g1 := same_new hp (.lst ((da.1.filter (fun c => !decide (c = 0))).map V.int ++ db.1.map V.int))
    refine ⟨p, _, rfl, SqL.of (lstApp upd_same), by rw [List.length_append]; exact le2L (Nat.le_trans fl s1) s2 (by decide), fun r hr => ?_⟩
    have g2 := same_new hr (.lst ((nub (da.1.filter (fun c => !decide (c = 0)) ++ db.1)).map V.int))
    have g12 := g1.trans g2
    refine ⟨_, rfl, rdx (j := 1) (g12 _ _ b1) rfl rfl (rdx (j := 2) (g12 _ _ a1) rfl rfl (rdx (j := 2) (g12 _ _ b1) rfl rfl ⟨l2, m2, _, _, rfl, rfl, g12 _ _ a3, g12 _ _ b3, by rw [List.length_map, List.length_map]; exact Nat.le_trans (Nat.add_le_add sa.2.2.1 sb.2.2.1) (by decide), fun c hc => ?_⟩))⟩
    have g3 := same_new hc (.lst (da.2.2.1.map V.int ++ db.2.2.1.map V.int))
    have g13 := g12.trans g3
    refine (rdx (j := 3) (g13 _ _ a1) rfl rfl (rdx (j := 3) (g13 _ _ b1) rfl rfl ⟨l3, m3, _, _, rfl, rfl, g13 _ _ a4, g13 _ _ b4, by rw [List.length_map, List.length_map]; exact Nat.le_trans (Nat.add_le_add sa.2.2.2 sb.2.2.2) (by decide), fun e he => ?_⟩))
    have g4 := same_new he (.lst (da.2.2.2.map V.int ++ db.2.2.2.map V.int))
    refine ⟨(by show 4 ≤ sizeLine; decide), fun t ht => ?_⟩
    have g5 := same_new ht (.tup [.ref r, .bl db.2.1, .ref c, .ref e])
    exact q _ _ (g13.trans (g4.trans g5)) ⟨r, c, e, upd_same, g5 _ _ (g4 _ _ (g3 _ _ upd_same)), g5 _ _ (g4 _ _ (lstApp upd_same)), g5 _ _ (lstApp upd_same)⟩
set_option maxHeartbeats 16000000 in
theorem ok_sideW (F : FunA K mg "side_by_side_walking" "side_by_side" ["first", "second"] s_side_by_side_walking) (T : TxtR K mg aN aP aR uE uR uL) : Callee P w K mg base 1 "side_by_side_walking" ["first", "second"] spSideW := by
  refine F.ok sc_side_by_side_walking (fun vs H Q E h => ?_) (fun f cdv A outer s H vs Q E hr h => ?_)
  · obtain ⟨t1, t2, da, db, rfl, _⟩ := h; rfl
  obtain ⟨t1, t2, da, db, rfl, ⟨l1, l2, l3, a1, a2, a3, a4⟩, ⟨m1, m2, m3, b1, b2, b3, b4⟩, sa, sb, q⟩ := h
  refine ⟨_, (pss_cons (ps_set (i := 2) sc_side_by_side_walking.nd rfl (Or.inr rfl) (pe_callB (call_max2 rfl) rfl T.n_max (by decide +kernel) (pa_cons (pe_callB (call_minL rfl) rfl T.n_min (by decide +kernel) (pa_cons (pe_ix ix_tup (pv 0) pe_int (fun _ _ => rfl)) pa_nil)) (pa_cons (pe_callB (call_minL rfl) rfl T.n_min (by decide +kernel) (pa_cons (pe_ix ix_tup (pv 1) pe_int (fun _ _ => rfl)) pa_nil)) pa_nil))))
    (pss_cons (ps_setComp (j := 3) (g := (gName 0)) (tc := (tTest (tOp (rI0 fun i j => .bl (decide (j ≤ i))) (tVar 0) (tVar 1)))) (te := (tVar 0)) ["code"] [("least", 2)] sc_side_by_side_walking.nd rfl (Or.inl rfl) rfl (compOk (defScope s_side_by_side_walking) ["first", "second", "least", "codes"] (by decide +kernel)) (pi_list (pe_sset rfl rfl T.n_sorted rfl T.n_set (pe_op op_cat (pe_ix ix_tup (pv 0) pe_int (fun _ _ => rfl)) (pe_ix ix_tup (pv 1) pe_int (fun _ _ => rfl))))) (fun s2 H2 fp cl C => pg_name (i := 0) (show List.Nodup [("code" : Str), ("least" : Str)] from by decide +kernel) rfl (Or.inl rfl)) (gkeep_name (by decide)) (fun s2 H2 fp cl C => pif_one (pt_cmpR op_ge (pv 0) (pv 1) (nomark _))) (fun s2 H2 fp cl C => (pv 0)))
    (pss_one (ps_ret (pe_tup (pa_cons (pv 3) (pa_cons (pe_and (pe_ix ix_tup (pv 0) pe_int (fun _ _ => rfl)) (pe_one (pe_ix ix_tup (pv 1) pe_int (fun _ _ => rfl)))) (pa_cons (pe_op op_cat (pe_ix ix_tup (pv 0) pe_int (fun _ _ => rfl)) (pe_ix ix_tup (pv 1) pe_int (fun _ _ => rfl))) (pa_cons (pe_op op_cat (pe_ix ix_tup (pv 0) pe_int (fun _ _ => rfl)) (pe_ix ix_tup (pv 1) pe_int (fun _ _ => rfl))) pa_nil))))))))), ?_⟩
  refine (rdx (j := 0) a1 rfl rfl ⟨l1, _, rfl, SqL.of a2, sa.2.1, fun M1 h1 h2 => ?_⟩)
  refine (rdx (j := 0) b1 rfl rfl ⟨m1, _, rfl, SqL.of b2, sb.2.1, fun M2 k1 k2 => ?_⟩)
  cases minL_eq h1 h2
  cases minL_eq k1 k2
  have s1 := sa.1
  have s2 := sb.1
  refine ⟨_, _, rfl, rdx (j := 0) a1 rfl rfl (rdx (j := 0) b1 rfl rfl ⟨l1, m1, _, _, rfl, rfl, a2, b2, by rw [List.length_map, List.length_map]; exact small (le2K s1 s2 (by decide)), fun p hp => ?_⟩)⟩
  have g1 := same_new hp (.lst (da.1.map V.int ++ db.1.map V.int))
  refine ⟨p, da.1 ++ db.1, rfl, SqL.of (lstApp upd_same), by rw [List.length_append]; exact le2L s1 s2 (by decide), fun r hr => ?_⟩
  have g2 := same_new hr (.lst ((nub (da.1 ++ db.1)).map V.int))
  have g12 := g1.trans g2
  have hr2 := upd_same (H := upd H p (.lst (da.1.map V.int ++ db.1.map V.int))) (a := r) (o := .lst ((nub (da.1 ++ db.1)).map V.int))
  have a1 := g12 _ _ a1
  have a3 := g12 _ _ a3
  have a4 := g12 _ _ a4
  have b1 := g12 _ _ b1
  have b3 := g12 _ _ b3
  have b4 := g12 _ _ b4
  have q : ∀ t H2, Same (upd (upd H p (.lst (da.1.map V.int ++ db.1.map V.int))) r (.lst ((nub (da.1 ++ db.1)).map V.int))) H2 → WkAt H2 t (sideW da db) → Q (.ref t) H2 := fun t H2 g => q t H2 (g12.trans g)
  generalize (upd (upd H p (.lst (da.1.map V.int ++ db.1.map V.int))) r (.lst ((nub (da.1 ++ db.1)).map V.int))) = H1 at hr2 a1 a3 a4 b1 b3 b4 q
  have nl : (nub (da.1 ++ db.1)).length ≤ 40 := Nat.le_trans (nub_len _) (by rw [List.length_append]; exact Nat.add_le_add s1 s2)
  refine ⟨r, rfl, ⟨_, SqL.of hr2⟩, comp_list (K := K) (xs := (nub (da.1 ++ db.1)).map V.int) (fun i ys H' => H' = H1 ∧ ys = (((nub (da.1 ++ db.1)).take i).filter (fun c => decide (mx (minL da.1) (minL db.1) ≤ c))).map V.int) ⟨rfl, rfl⟩ (by rw [List.length_map]; exact small (leK nl (by decide))) (fun i ys H' ⟨e, _⟩ => by rw [e]; exact SqL.of hr2) ?_ ?_⟩
  · rintro j z ys H' N hj ⟨rfl, rfl⟩ hN hyl
    rw [List.getElem?_map] at hj
    cases ej : (nub (da.1 ++ db.1))[j]? with
    | none => rw [ej] at hj; cases hj
    | some c =>
      rw [ej] at hj
      cases hj
      have et : ((nub (da.1 ++ db.1)).take (j + 1)).filter (fun c => decide (mx (minL da.1) (minL db.1) ≤ c)) = ((nub (da.1 ++ db.1)).take j).filter (fun c => decide (mx (minL da.1) (minL db.1) ≤ c)) ++ [c].filter (fun c => decide (mx (minL da.1) (minL db.1) ≤ c)) := by
        rw [List.take_add_one, ej, List.filter_append]; rfl
      refine ⟨_, rfl, _, rfl, _, _, rfl, rfl, _, rfl, ite2 (fun z => ?_) fun z => ?_⟩
      · refine ⟨_, rfl, hN _ _ (snoc_le hyl) ⟨rfl, ?_⟩⟩
        have f1 : [c].filter (fun c => decide (mx (minL da.1) (minL db.1) ≤ c)) = [c] := by
          have : mx (minL da.1) (minL db.1) ≤ c := of_decide_eq_true z
          simp [this]
        rw [et, f1, List.map_append]
        rfl
      · refine hN _ _ (Nat.le_succ_of_le hyl) ⟨rfl, ?_⟩
        have f1 : [c].filter (fun c => decide (mx (minL da.1) (minL db.1) ≤ c)) = [] := by
          have : ¬ mx (minL da.1) (minL db.1) ≤ c := fun y => z (decide_eq_true y)
          simp [this]
        rw [et, f1, List.append_nil]
  · rintro ys H' hyl ⟨rfl, rfl⟩ D hD
    have g0 := same_new hD (.lst ((((nub (da.1 ++ db.1)).take ((nub (da.1 ++ db.1)).map V.int).length).filter (fun c => decide (mx (minL da.1) (minL db.1) ≤ c))).map V.int))
    have hD0 : (upd H' D (.lst ((((nub (da.1 ++ db.1)).take ((nub (da.1 ++ db.1)).map V.int).length).filter (fun c => decide (mx (minL da.1) (minL db.1) ≤ c))).map V.int))) D = some (.lst ((sideW da db).1.map V.int)) := by rw [upd_same, List.length_map, List.take_length]; rfl
    have a1 := g0 _ _ a1
    have a3 := g0 _ _ a3
    have a4 := g0 _ _ a4
    have b1 := g0 _ _ b1
    have b3 := g0 _ _ b3
    have b4 := g0 _ _ b4
    have q := fun t H2 (g : Same (upd H' D (.lst ((((nub (da.1 ++ db.1)).take ((nub (da.1 ++ db.1)).map V.int).length).filter (fun c => decide (mx (minL da.1) (minL db.1) ≤ c))).map V.int))) H2) => q t H2 (g0.trans g)
    generalize (upd H' D (.lst ((((nub (da.1 ++ db.1)).take ((nub (da.1 ++ db.1)).map V.int).length).filter (fun c => decide (mx (minL da.1) (minL db.1) ≤ c))).map V.int))) = H2 at hD0 a1 a3 a4 b1 b3 b4 q
    refine ⟨_, rfl, rdx (j := 1) a1 rfl rfl ⟨_, rfl, ?_⟩⟩
    have rest : ∀ bb, bb = (da.2.1 && db.2.1) → (tCons (tOp rCat (tOp (rIxT K) (tVar 0) (tC (.int 2))) (tOp (rIxT K) (tVar 1) (tC (.int 2)))) (tCons (tOp rCat (tOp (rIxT K) (tVar 0) (tC (.int 3))) (tOp (rIxT K) (tVar 1) (tC (.int 3)))) tNil)) [some (.ref t1), some (.ref t2), some (.int (mx (minL da.1) (minL db.1))), some (.ref D)] H2 (fun xs H1 => ([V.ref D, .bl bb] ++ xs).length ≤ sizeLine ∧ ∀ p, H1 p = none → Q (.ref p) (upd H1 p (.tup ([V.ref D, .bl bb] ++ xs)))) := by
      intro bb eb
      subst eb
      refine (rdx (j := 2) a1 rfl rfl (rdx (j := 2) b1 rfl rfl ⟨l2, m2, _, _, rfl, rfl, a3, b3, by rw [List.length_map, List.length_map]; exact Nat.le_trans (Nat.add_le_add sa.2.2.1 sb.2.2.1) (by decide), fun c hc => ?_⟩))
      have g3 := same_new hc (.lst (da.2.2.1.map V.int ++ db.2.2.1.map V.int))
      refine (rdx (j := 3) (g3 _ _ a1) rfl rfl (rdx (j := 3) (g3 _ _ b1) rfl rfl ⟨l3, m3, _, _, rfl, rfl, g3 _ _ a4, g3 _ _ b4, by rw [List.length_map, List.length_map]; exact Nat.le_trans (Nat.add_le_add sa.2.2.2 sb.2.2.2) (by decide), fun e he => ?_⟩))
      have g4 := same_new he (.lst (da.2.2.2.map V.int ++ db.2.2.2.map V.int))
      refine ⟨(by show 4 ≤ sizeLine; decide), fun t ht => ?_⟩
      have g5 := same_new ht (.tup [.ref D, .bl (da.2.1 && db.2.1), .ref c, .ref e])
      exact q _ _ (g3.trans (g4.trans g5)) ⟨D, c, e, upd_same, g5 _ _ (g4 _ _ (g3 _ _ hD0)), g5 _ _ (g4 _ _ (lstApp upd_same)), g5 _ _ (lstApp upd_same)⟩
    cases e1 : da.2.1 with
    | true => exact iteT (rdx (j := 1) b1 rfl rfl (rest _ (by rw [e1]; rfl)))
    | false => exact iteF (rest _ (by rw [e1]; rfl))
set_option maxHeartbeats 16000000 in
theorem ok_oneW (F : FunM K mg "one_of" ["first", "second"] s_one_of) (T : TxtR K mg aN aP aR uE uR uL) : Callee P w K mg base 1 "one_of" ["first", "second"] spOneW := by
  refine F.ok sc_one_of (fun vs H Q E h => ?_) (fun f cdv A outer s H vs Q E hr h => ?_)
  · obtain ⟨t1, t2, da, db, rfl, _⟩ := h; rfl
  obtain ⟨t1, t2, da, db, rfl, ⟨l1, l2, l3, a1, a2, a3, a4⟩, ⟨m1, m2, m3, b1, b2, b3, b4⟩, sa, sb, q⟩ := h
  refine ⟨_, (pss_one (ps_ret (pe_tup (pa_cons (pe_sset rfl rfl T.n_sorted rfl T.n_set (pe_op op_cat (pe_ix ix_tup (pv 0) pe_int (fun _ _ => rfl)) (pe_ix ix_tup (pv 1) pe_int (fun _ _ => rfl)))) (pa_cons pe_bl (pa_cons (pe_lst pa_nil) (pa_cons (pe_op op_cat (pe_ix ix_tup (pv 0) pe_int (fun _ _ => rfl)) (pe_ix ix_tup (pv 1) pe_int (fun _ _ => rfl))) pa_nil))))))), ?_⟩
  have s1 := sa.1
  have s2 := sb.1
  refine (rdx (j := 0) a1 rfl rfl (rdx (j := 0) b1 rfl rfl ⟨l1, m1, _, _, rfl, rfl, a2, b2, by rw [List.length_map, List.length_map]; exact small (le2K s1 s2 (by decide)), fun p hp => ?_⟩))
  have g1 := same_new hp (.lst (da.1.map V.int ++ db.1.map V.int))
  refine ⟨p, da.1 ++ db.1, rfl, SqL.of (lstApp upd_same), by rw [List.length_append]; exact le2L s1 s2 (by decide), fun r hr => ?_⟩
  have g2 := same_new hr (.lst ((nub (da.1 ++ db.1)).map V.int))
  refine ⟨(by show 0 ≤ sizeLine; decide), fun c hc => ?_⟩
  have g3 := same_new hc (.lst [])
  have g13 := (g1.trans g2).trans g3
  refine (rdx (j := 3) (g13 _ _ a1) rfl rfl (rdx (j := 3) (g13 _ _ b1) rfl rfl ⟨l3, m3, _, _, rfl, rfl, g13 _ _ a4, g13 _ _ b4, by rw [List.length_map, List.length_map]; exact Nat.le_trans (Nat.add_le_add sa.2.2.2 sb.2.2.2) (by decide), fun e he => ?_⟩))
  have g4 := same_new he (.lst (da.2.2.2.map V.int ++ db.2.2.2.map V.int))
  refine ⟨(by show 4 ≤ sizeLine; decide), fun t ht => ?_⟩
  have g5 := same_new ht (.tup [.ref r, .bl false, .ref c, .ref e])
  exact q _ _ (g13.trans (g4.trans g5)) ⟨r, c, e, upd_same, g5 _ _ (g4 _ _ (g3 _ _ upd_same)), g5 _ _ (g4 _ _ upd_same), g5 _ _ (lstApp upd_same)⟩
theorem ok_recW (F : FunM K mg "recoded" ["inner", "codes"] s_recoded) (T : TxtR K mg aN aP aR uE uR uL) : Callee P w K mg base 1 "recoded" ["inner", "codes"] spRecW := by
  refine F.ok sc_recoded (fun vs H Q E h => ?_) (fun f cdv A outer s H vs Q E hr h => ?_)
  · obtain ⟨t1, c, a, cs, rfl, _⟩ := h; rfl
  obtain ⟨t1, c, a, cs, rfl, ⟨l1, l2, l3, a1, a2, a3, a4⟩, hc, hl, q⟩ := h
  refine ⟨_, (pss_one (ps_ret (pe_tup (pa_cons (pe_sset rfl rfl T.n_sorted rfl T.n_set (pv 1)) (pa_cons (pe_ix ix_tup (pv 0) pe_int (fun _ _ => rfl)) (pa_cons (pe_ix ix_tup (pv 0) pe_int (fun _ _ => rfl)) (pa_cons (pe_ix ix_tup (pv 0) pe_int (fun _ _ => rfl)) pa_nil))))))), ?_⟩
  refine ⟨_, rfl, c, cs, rfl, SqL.of hc, Nat.lt_of_le_of_lt hl (by decide), fun r hr => ?_⟩
  have g1 := same_new hr (.lst ((nub cs).map V.int))
  refine (rdx (j := 1) (g1 _ _ a1) rfl rfl (rdx (j := 2) (g1 _ _ a1) rfl rfl (rdx (j := 3) (g1 _ _ a1) rfl rfl ⟨(by show 4 ≤ sizeLine; decide), fun t ht => ?_⟩)))
  have g5 := same_new ht (.tup [.ref r, .bl a.2.1, .ref l2, .ref l3])
  exact q _ _ (g1.trans g5) ⟨r, l2, l3, upd_same, g5 _ _ upd_same, g5 _ _ (g1 _ _ a3), g5 _ _ (g1 _ _ a4)⟩
set_option maxHeartbeats 16000000 in
theorem ok_leafW (F : FunA K mg "begun_leaf_walking" "begun_leaf" ["part", "sure"] s_begun_leaf_walking) (T : TxtR K mg aN aP aR uE uR uL) (C_leaf_code : Callee P w K mg base 1 "leaf_code" ["part"] (spLeafC K)) : Callee P w K mg base 2 "begun_leaf_walking" ["part", "sure"] (spLeafW K) := by
  refine F.ok sc_begun_leaf_walking (fun vs H Q E h => ?_) (fun f cdv A outer s H vs Q E hr h => ?_)
  · obtain ⟨v, p, sr, rfl, _⟩ := h; rfl
  obtain ⟨v, p, sr, rfl, hp, lf, q⟩ := h
  refine ⟨_, (pss_cons (ps_set (i := 2) sc_begun_leaf_walking.nd rfl (Or.inl rfl) (pe_ifExp (pt_cmpR op_eq (pe_ix ix_tup (pv 0) pe_int (fun _ _ => rfl)) pe_str (nomark _)) (pe_lst (pa_cons (pe_ix ix_tup (pv 0) pe_int (fun _ _ => rfl)) pa_nil)) (pe_lst pa_nil)))
    (pss_cons (ps_set (i := 3) sc_begun_leaf_walking.nd rfl (Or.inl rfl) (pe_ifExp (pt_val (pv 1)) (pv 2) (pe_lst pa_nil)))
    (pss_one (ps_ret (pe_tup (pa_cons (pe_lst (pa_cons (pe_callC C_leaf_code hr rfl pass0 (pa_cons (pv 0) pa_nil)) pa_nil)) (pa_cons (pv 1) (pa_cons (pv 3) (pa_cons (pv 2) pa_nil))))))))), ?_⟩
  have fin : ∀ (l1 : Addr) (xs : List Int) (hl : H l1 = none) (e1 : wbeg [] sr p = ([(beg [] p).1], sr, (if sr = true then xs else []), xs)), (tAsg (tIf (tB (tVar 1)) (tVar 2) (tLst tNil)) (gName 3)) { nx := tRet (tTup (tCons (tLst (tCons (tCall (spLeafC K) [] E0 (tCons (tVar 0) tNil)) tNil)) (tCons (tVar 1) (tCons (tVar 3) (tCons (tVar 2) tNil))))) { nx := fun _ H' => Q .non H', rt := Q }, rt := Q } [some v, some (.bl sr), some (.ref l1), none] (upd H l1 (.lst (xs.map V.int))) := by
    intro l1 xs hl e1
    rw [e1] at q
    have g1 := same_new hl (.lst (xs.map V.int))
    refine ⟨_, rfl, _, rfl, ?_⟩
    cases sr with
    | true =>
      refine iteT ⟨_, rfl, _, rfl, v, p, rfl, hp.mono g1.tp, lf, (by show 1 ≤ sizeLine; decide), fun c hc => ?_⟩
      have g2 := same_new hc (.lst [.int (beg [] p).1])
      refine ⟨_, rfl, _, rfl, _, rfl, (by show 4 ≤ sizeLine; decide), fun t ht => ?_⟩
      have g3 := same_new ht (.tup [.ref c, .bl true, .ref l1, .ref l1])
      exact q _ _ (g1.trans (g2.trans g3)) ⟨c, l1, l1, upd_same, g3 _ _ upd_same, g3 _ _ (g2 _ _ upd_same), g3 _ _ (g2 _ _ upd_same)⟩
    | false =>
      refine iteF ⟨(by show 0 ≤ sizeLine; decide), fun m hm => ?_⟩
      have g0 := same_new hm (.lst [])
      refine ⟨_, rfl, v, p, rfl, hp.mono (g1.trans g0).tp, lf, (by show 1 ≤ sizeLine; decide), fun c hc => ?_⟩
      have g2 := same_new hc (.lst [.int (beg [] p).1])
      refine ⟨_, rfl, _, rfl, _, rfl, (by show 4 ≤ sizeLine; decide), fun t ht => ?_⟩
      have g3 := same_new ht (.tup [.ref c, .bl false, .ref m, .ref l1])
      exact q _ _ (g1.trans (g0.trans (g2.trans g3))) ⟨c, m, l1, upd_same, g3 _ _ upd_same, g3 _ _ (g2 _ _ upd_same), g3 _ _ (g2 _ _ (g0 _ _ upd_same))⟩
  cases p with
  | nothing =>
    obtain ⟨a, vs, rfl, hs, hx⟩ := PAt.get hp
    obtain ⟨x0, rfl, h0⟩ := hx.one
    cases h0.str
    exact (rdy (j := 0) hs.sq rfl rfl ⟨rfl, _, rfl, iteNe (by decide +kernel) ⟨(by show 0 ≤ sizeLine; decide), fun l hl => fin l [] hl (by cases sr <;> rfl)⟩⟩)
  | exit x =>
    obtain ⟨a, vs, rfl, hs, hx⟩ := PAt.get hp
    obtain ⟨x0, x1, rfl, h0, h1⟩ := hx.two
    cases h0.str
    cases h1.int
    exact (rdy (j := 0) hs.sq rfl rfl ⟨rfl, _, rfl, iteNe (by decide +kernel) ⟨(by show 0 ≤ sizeLine; decide), fun l hl => fin l [] hl (by cases sr <;> rfl)⟩⟩)
  | rest x =>
    obtain ⟨a, vs, rfl, hs, hx⟩ := PAt.get hp
    obtain ⟨x0, x1, rfl, h0, h1⟩ := hx.two
    cases h0.str
    cases h1.int
    exact (rdy (j := 0) hs.sq rfl rfl ⟨rfl, _, rfl, iteNe (by decide +kernel) ⟨(by show 0 ≤ sizeLine; decide), fun l hl => fin l [] hl (by cases sr <;> rfl)⟩⟩)
  | stay x =>
    obtain ⟨a, vs, rfl, hs, hx⟩ := PAt.get hp
    obtain ⟨x0, x1, rfl, h0, h1⟩ := hx.two
    cases h0.str
    exact (rdy (j := 0) hs.sq rfl rfl ⟨rfl, _, rfl, iteNe (by decide +kernel) ⟨(by show 0 ≤ sizeLine; decide), fun l hl => fin l [] hl (by cases sr <;> rfl)⟩⟩)
  | send x =>
    obtain ⟨a, vs, rfl, hs, hx⟩ := PAt.get hp
    obtain ⟨x0, x1, rfl, h0, h1⟩ := hx.two
    cases h0.str
    cases h1.int
    exact (rdy (j := 0) hs.sq rfl rfl ⟨rfl, _, rfl, iteEq (rdy (j := 1) hs.sq rfl rfl ⟨(by show 1 ≤ sizeLine; decide), fun l hl => fin l [x] hl (by cases sr <;> rfl)⟩)⟩)
  | _ => cases lf
end

end My
end

section
set_option Elab.async false
set_option linter.all false
set_option maxRecDepth 100000
set_option maxHeartbeats 4000000
namespace My
open PySem L2
/-- a walk whose tuple and lists stand apart from a list -/
inductive WkN (s : Addr) (H : Hp) (t : Addr) (d : Wk) : Prop
  | mk (l1 l2 l3 : Addr) (h0 : H t = some (.tup [.ref l1, .bl d.2.1, .ref l2, .ref l3])) (h1 : H l1 = some (.lst (d.1.map V.int))) (h2 : H l2 = some (.lst (d.2.2.1.map V.int))) (h3 : H l3 = some (.lst (d.2.2.2.map V.int))) (n0 : t ≠ s) (n1 : l1 ≠ s) (n2 : l2 ≠ s) (n3 : l3 ≠ s) : WkN s H t d
theorem WkN.kp {s t : Addr} {H H' : Hp} {d : Wk} (k : Kp s H H') (h : WkN s H t d) : WkN s H' t d := by
  obtain ⟨l1, l2, l3, h0, h1, h2, h3, n0, n1, n2, n3⟩ := h
  exact ⟨l1, l2, l3, k _ _ n0 h0, k _ _ n1 h1, k _ _ n2 h2, k _ _ n3 h3, n0, n1, n2, n3⟩
theorem WkN.wk {s t : Addr} {H : Hp} {d : Wk} (h : WkN s H t d) : WkAt H t d := by
  obtain ⟨l1, l2, l3, h0, h1, h2, h3, n0, n1, n2, n3⟩ := h
  exact ⟨l1, l2, l3, h0, h1, h2, h3⟩
inductive C_spWalkG (K : PySem.W.Frag) (n : Nat) (vs : List V) (H : Hp) (Q : VK) : Prop
  | mk (v) (p) (sv) (st) (s) (kl) (kn) (c0 : vs = [v, sv, .bl s, .ref kl]) (c1 : PAt K H (Pt.nd p) v) (c2 : StAt K H st sv) (c3 : SqL K H kl ((kn : List (Option Bool)).map vO)) (c4 : (st = none ∨ (p.hg ≤ n ∧ p.rc ≤ 900))) (c5 : (pb p st).hg ≤ n) (c6 : (pb p st).sc < 64) (c7 : okW kn.length p) (c8 : ∀ (t : Addr) (H' : Hp), Same H H' → WkAt H' t (walkD kn s p st) → (∀ (a : Addr) (xs : List Addr), H a = some (.lst (xs.map V.ref)) → WkN a H' t (walkD kn s p st)) → Q (.ref t) H') : C_spWalkG K n vs H Q
def spWalkG (K : PySem.W.Frag) (n : Nat) : Sp := fun vs H Q _ => C_spWalkG K n vs H Q
def selW : Option Bool → Wk → Wk → Wk → Wk
  | none, a, _, _ => a
  | some true, _, b, _ => b
  | some false, _, _, c => c
section
variable {P : Program} {w : World} {K : PySem.W.Frag} {mg : Str → Option Value} {base : Heap} {aN aP aR : Addr} {uE uR uL : Value}
theorem wbeg_leaf {p : Pt} (h : isLf p = true) (kn kn2 : List (Option Bool)) (s : Bool) : wbeg kn s p = wbeg kn2 s p := by cases p <;> first | rfl | cases h
theorem wbeg_iff {kn : List (Option Bool)} {s : Bool} {x : Int} {p q : Pt} {o : Option Bool} (h : (kn[x.toNat]?).getD none = o) : wbeg kn s (.iff x p q) = selW o (oneW (wbeg kn false p) (wbeg kn false q)) (wbeg kn s p) (wbeg kn s q) := by
  subst h
  simp only [wbeg]
  cases (kn[x.toNat]?).getD none with
  | none => rfl
  | some b => cases b <;> rfl
set_option maxHeartbeats 64000000 in
theorem ok_wb {n : Nat} (F : FunA K mg "begun_walking" "begun" ["part", "sure", "known"] s_begun_walking) (T : TxtR K mg aN aP aR uE uR uL) (C_begun_leaf_walking : Callee P w K mg base 2 "begun_leaf_walking" ["part", "sure"] (spLeafW K)) (C_in_turn_walking : Callee P w K mg base 1 "in_turn_walking" ["first", "second"] spTurnW) (C_side_by_side_walking : Callee P w K mg base 1 "side_by_side_walking" ["first", "second"] spSideW) (C_one_of : Callee P w K mg base 1 "one_of" ["first", "second"] spOneW) (C_recoded : Callee P w K mg base 1 "recoded" ["inner", "codes"] spRecW)
    (C_code_of_again : Callee P w K mg base 1 "code_of_again" ["code"] spAgC) (C_code_of_trap : Callee P w K mg base 1 "code_of_trap" ["code"] spTrC) (C_begun_walking : Callee P w K mg base (n + 2) "begun_walking" ["part", "sure", "known"] (spWb K n)) : Callee P w K mg base (n + 3) "begun_walking" ["part", "sure", "known"] (spWb K (n + 1)) := by
  refine F.ok sc_begun_walking (fun vs H Q E h => ?_) (fun f cdv A outer s H vs Q E hr h => ?_)
  · obtain ⟨v, p, sr, kl, kn, rfl, _⟩ := h; rfl
  obtain ⟨v, p, sr, kl, kn, rfl, hp, hS, hh, hsc, ok, q⟩ := h
  refine ⟨_, (pss_cons (ps_set (i := 3) sc_begun_walking.nd rfl (Or.inl rfl) (pe_ix ix_tup (pv 0) pe_int (fun _ _ => rfl)))
    (pss_cons (ps_if (pt_cmpR op_eq (pv 3) pe_str (nomark _))
      (pss_cons (ps_set (i := 4) sc_begun_walking.nd rfl (Or.inl rfl) (pe_callC C_begun_walking hr rfl pass0 (pa_cons (pe_ix ix_tup (pv 0) pe_int (fun _ _ => rfl)) (pa_cons (pv 1) (pa_cons (pv 2) pa_nil)))))
    (pss_one (ps_ret (pe_ifExp (pt_cmpR op_in_seq (pe_glob rfl T.m_ENDED T.r_ENDED) (pe_ix ix_tup (pv 4) pe_int (fun _ _ => rfl)) (by rfl)) (pe_callC C_in_turn_walking hr rfl pass0 (pa_cons (pv 4) (pa_cons (pe_callC C_begun_walking hr rfl pass0 (pa_cons (pe_ix ix_tup (pv 0) pe_int (fun _ _ => rfl)) (pa_cons (pe_ix ix_tup (pv 4) pe_int (fun _ _ => rfl)) (pa_cons (pv 2) pa_nil)))) pa_nil))) (pv 4)))))
      pss_nil)
    (pss_cons (ps_if (pt_cmpR op_eq (pv 3) pe_str (nomark _))
      (pss_one (ps_ret (pe_callC C_side_by_side_walking hr rfl pass0 (pa_cons (pe_callC C_begun_walking hr rfl pass0 (pa_cons (pe_ix ix_tup (pv 0) pe_int (fun _ _ => rfl)) (pa_cons (pv 1) (pa_cons (pv 2) pa_nil)))) (pa_cons (pe_callC C_begun_walking hr rfl pass0 (pa_cons (pe_ix ix_tup (pv 0) pe_int (fun _ _ => rfl)) (pa_cons (pv 1) (pa_cons (pv 2) pa_nil)))) pa_nil)))))
      pss_nil)
    (pss_cons (ps_if (pt_cmpR op_eq (pv 3) pe_str (nomark _))
      (pss_cons (ps_if (pt_cmpR op_isN (pe_ix ix_list (pv 2) (pe_ix ix_tup (pv 0) pe_int (fun _ _ => rfl)) (fun _ _ => rfl)) pe_non (nomark _))
      (pss_one (ps_ret (pe_callC C_one_of hr rfl pass0 (pa_cons (pe_callC C_begun_walking hr rfl pass0 (pa_cons (pe_ix ix_tup (pv 0) pe_int (fun _ _ => rfl)) (pa_cons pe_bl (pa_cons (pv 2) pa_nil)))) (pa_cons (pe_callC C_begun_walking hr rfl pass0 (pa_cons (pe_ix ix_tup (pv 0) pe_int (fun _ _ => rfl)) (pa_cons pe_bl (pa_cons (pv 2) pa_nil)))) pa_nil)))))
      pss_nil)
    (pss_one (ps_ret (pe_callC C_begun_walking hr rfl pass0 (pa_cons (pe_ifExp (pt_val (pe_ix ix_list (pv 2) (pe_ix ix_tup (pv 0) pe_int (fun _ _ => rfl)) (fun _ _ => rfl))) (pe_ix ix_tup (pv 0) pe_int (fun _ _ => rfl)) (pe_ix ix_tup (pv 0) pe_int (fun _ _ => rfl))) (pa_cons (pv 1) (pa_cons (pv 2) pa_nil)))))))
      pss_nil)
    (pss_cons (ps_if (pt_cmpR op_eq (pv 3) pe_str (nomark _))
      (pss_cons (ps_set (i := 5) sc_begun_walking.nd rfl (Or.inl rfl) (pe_callC C_begun_walking hr rfl pass0 (pa_cons (pe_ix ix_tup (pv 0) pe_int (fun _ _ => rfl)) (pa_cons (pv 1) (pa_cons (pv 2) pa_nil)))))
    (pss_one (ps_ret (pe_callC C_recoded hr rfl pass0 (pa_cons (pv 5) (pa_cons (pe_comp (g := (gName 0)) (tc := tAlways) (te := (tCall spAgC [] E0 (tCons (tVar 0) tNil))) ["code"] [] rfl (compOk (defScope s_begun_walking) ["part", "sure", "known", "word", "first", "inner"] (by decide +kernel)) (pi_list (pe_ix ix_tup (pv 5) pe_int (fun _ _ => rfl))) (fun s2 H2 fp cl C => pg_name (i := 0) (show List.Nodup [("code" : Str)] from by decide +kernel) rfl (Or.inl rfl)) (gkeep_name (by decide)) (fun s2 H2 fp cl C => pif_nil) (fun s2 H2 fp cl C => (pe_callC C_code_of_again hr rfl pass0 (pa_cons (pv 0) pa_nil)))) pa_nil))))))
      pss_nil)
    (pss_cons (ps_if (PW.pt (pw_or (pt_cmpR op_eq (pv 3) pe_str (nomark _)) (pw_or1 (pt_cmpR op_eq (pv 3) pe_str (nomark _)))))
      (pss_one (ps_ret (pe_callC C_begun_walking hr rfl pass0 (pa_cons (pe_ix ix_tup (pv 0) pe_int (fun _ _ => rfl)) (pa_cons (pv 1) (pa_cons (pv 2) pa_nil))))))
      pss_nil)
    (pss_cons (ps_if (pt_cmpR op_eq (pv 3) pe_str (nomark _))
      (pss_cons (ps_set (i := 5) sc_begun_walking.nd rfl (Or.inl rfl) (pe_callC C_begun_walking hr rfl pass0 (pa_cons (pe_ix ix_tup (pv 0) pe_int (fun _ _ => rfl)) (pa_cons (pv 1) (pa_cons (pv 2) pa_nil)))))
    (pss_one (ps_ret (pe_callC C_recoded hr rfl pass0 (pa_cons (pv 5) (pa_cons (pe_comp (g := (gName 0)) (tc := tAlways) (te := (tCall spTrC [] E0 (tCons (tVar 0) tNil))) ["code"] [] rfl (compOk (defScope s_begun_walking) ["part", "sure", "known", "word", "first", "inner"] (by decide +kernel)) (pi_list (pe_ix ix_tup (pv 5) pe_int (fun _ _ => rfl))) (fun s2 H2 fp cl C => pg_name (i := 0) (show List.Nodup [("code" : Str)] from by decide +kernel) rfl (Or.inl rfl)) (gkeep_name (by decide)) (fun s2 H2 fp cl C => pif_nil) (fun s2 H2 fp cl C => (pe_callC C_code_of_trap hr rfl pass0 (pa_cons (pv 0) pa_nil)))) pa_nil))))))
      pss_nil)
    (pss_one (ps_ret (pe_callC C_begun_leaf_walking hr rfl pass0 (pa_cons (pv 0) (pa_cons (pv 1) pa_nil)))))))))))), ?_⟩
  obtain ⟨a, vs, rfl, hs⟩ := wd_at hp
  refine (rdy (j := 0) hs.sq rfl rfl ⟨_, rfl, rfl, _, rfl, iteW (fun e => ?_) fun n1 => ⟨_, rfl, rfl, _, rfl, iteW (fun e => ?_) fun n2 => ⟨_, rfl, rfl, _, rfl, iteW (fun e => ?_) fun n3 => ⟨_, rfl, rfl, _, rfl, iteW (fun e => ?_) fun n4 => ⟨_, rfl, rfl, _, rfl, iteW (fun e => iteT ?_) fun n5 => ⟨_, rfl, rfl, _, rfl, iteW (fun e => ?_) fun n6 => ⟨_, rfl, rfl, _, rfl, iteW (fun e => ?_) fun n7 => ?_⟩⟩⟩⟩⟩⟩⟩)
  · obtain ⟨p1, p2, rfl⟩ := wd_thn e
    obtain ⟨a', vs', ev, hs, hx⟩ := PAt.get hp
    cases ev
    obtain ⟨x0, x1, x2, rfl, h0, h1, h2⟩ := hx.three
    cases h0.str
    refine (rdy (j := 1) hs.sq rfl rfl ⟨_, rfl, _, rfl, x1, p1, sr, kl, kn, rfl, h1, hS, hgl hh, adl hsc, ok.1, fun t1 H1 g1 R1 => ?_⟩)
    obtain ⟨l1, l2, l3, a1, a2, a3, a4⟩ := id R1
    refine (rdx (j := 0) a1 rfl rfl ⟨l1, _, rfl, .inl (SqL.of a2), rfl, flat_ints _, _, rfl, iteM (fun c => ?_) fun c => ?_⟩)
    · refine ⟨_, rfl, rdy (j := 2) ((hs.mono g1.tp).sq) rfl rfl (rdx (j := 1) a1 rfl rfl ⟨_, rfl, x2, p2, _, kl, kn, rfl, h2.mono g1.tp, g1.seq hS, hgr hh, adr hsc, ok.2, fun t2 H2 g2 R2 => ?_⟩)⟩
      refine ⟨t1, t2, _, _, rfl, R1.mono g2, R2, smW_beg ok.1 (adl hsc) sr, smW_beg ok.2 (adr hsc) _, fun t H3 g3 R3 => ?_⟩
      exact q _ _ ((g1.trans g2).trans g3) (by rw [show wbeg kn sr (.thn p1 p2) = turnW (wbeg kn sr p1) (wbeg kn (wbeg kn sr p1).2.1 p2) from by simp only [wbeg]; rw [if_pos c]]; exact R3)
    · exact ⟨_, rfl, q _ _ g1 (by rw [show wbeg kn sr (.thn p1 p2) = wbeg kn sr p1 from by simp only [wbeg]; rw [if_neg c]]; exact R1)⟩
  · obtain ⟨p1, p2, rfl⟩ := wd_bes e
    obtain ⟨a', vs', ev, hs, hx⟩ := PAt.get hp
    cases ev
    obtain ⟨x0, x1, x2, rfl, h0, h1, h2⟩ := hx.three
    cases h0.str
    refine (rdy (j := 1) hs.sq rfl rfl ⟨_, rfl, _, rfl, x1, p1, sr, kl, kn, rfl, h1, hS, hgl hh, adl hsc, ok.1, fun t1 H1 g1 R1 => ?_⟩)
    refine (rdy (j := 2) ((hs.mono g1.tp).sq) rfl rfl ⟨_, rfl, _, rfl, x2, p2, sr, kl, kn, rfl, h2.mono g1.tp, g1.seq hS, hgr hh, adr hsc, ok.2, fun t2 H2 g2 R2 => ?_⟩)
    exact ⟨t1, t2, _, _, rfl, R1.mono g2, R2, smW_beg ok.1 (adl hsc) sr, smW_beg ok.2 (adr hsc) sr, fun t H3 g3 R3 => q _ _ ((g1.trans g2).trans g3) R3⟩
  · obtain ⟨sn, p1, p2, rfl⟩ := wd_iff e
    obtain ⟨a', vs', ev, hs, hx⟩ := PAt.get hp
    cases ev
    obtain ⟨x0, x1, x2, x3, rfl, h0, h1, h2, h3⟩ := hx.four
    cases h0.str
    cases h1.int
    have hb : sn.toNat < kn.length := tn_lt ok.1
    obtain ⟨o, eo⟩ : ∃ o, kn[sn.toNat]? = some o := ⟨_, List.getElem?_eq_getElem hb⟩
    have ea : atI (kn.map vO) sn = some (vO o) := by
      have := atI_nat (xs := kn.map vO) (j := sn.toNat) (v := vO o) (by rw [List.getElem?_map, eo]; rfl)
      rw [Int.toNat_of_nonneg ok.1.1] at this
      exact this
    have ew := fun s => wbeg_iff (kn := kn) (s := s) (x := sn) (p := p1) (q := p2) (o := o) (by rw [eo]; rfl)
    refine ⟨_, rfl, rdy (j := 1) hs.sq rfl rfl ⟨kl, _, _, _, rfl, rfl, hS, ea, rfl, _, rfl, ?_⟩⟩
    rw [ew] at q
    cases o with
    | none =>
      refine iteT ?_
      refine (rdy (j := 2) hs.sq rfl rfl ⟨_, rfl, x2, p1, false, kl, kn, rfl, h2, hS, hgl hh, adl hsc, ok.2.1, fun t1 H1 g1 R1 => ?_⟩)
      refine (rdy (j := 3) ((hs.mono g1.tp).sq) rfl rfl ⟨_, rfl, x3, p2, false, kl, kn, rfl, h3.mono g1.tp, g1.seq hS, hgr hh, adr hsc, ok.2.2, fun t2 H2 g2 R2 => ?_⟩)
      exact ⟨t1, t2, _, _, rfl, R1.mono g2, R2, smW_beg ok.2.1 (adl hsc) false, smW_beg ok.2.2 (adr hsc) false, fun t H3 g3 R3 => q _ _ ((g1.trans g2).trans g3) R3⟩
    | some b =>
      refine iteF ?_
      refine ⟨_, rfl, rdy (j := 1) hs.sq rfl rfl ⟨kl, _, _, _, rfl, rfl, hS, ea, b, rfl, ?_⟩⟩
      cases b with
      | true => exact iteT (rdy (j := 2) hs.sq rfl rfl ⟨_, rfl, _, rfl, x2, p1, sr, kl, kn, rfl, h2, hS, hgl hh, adl hsc, ok.2.1, fun t1 H1 g1 R1 => q _ _ g1 R1⟩)
      | false => exact iteF (rdy (j := 3) hs.sq rfl rfl ⟨_, rfl, _, rfl, x3, p2, sr, kl, kn, rfl, h3, hS, hgr hh, adr hsc, ok.2.2, fun t1 H1 g1 R1 => q _ _ g1 R1⟩)
  · obtain ⟨k, p1, rfl⟩ := wd_again e
    obtain ⟨a', vs', ev, hs, hx⟩ := PAt.get hp
    cases ev
    obtain ⟨x0, x1, x2, rfl, h0, h1, h2⟩ := hx.three
    cases h0.str
    cases h1.int
    refine (rdy (j := 2) hs.sq rfl rfl ⟨_, rfl, _, rfl, x2, p1, sr, kl, kn, rfl, h2, hS, Nat.le_of_succ_le_succ hh, hsc, ok, fun t1 H1 g1 R1 => ?_⟩)
    obtain ⟨l1, l2, l3, a1, a2, a3, a4⟩ := id R1
    have sm := smW_beg (kn := kn) (p := p1) ok hsc sr
    refine ⟨_, rfl, rdx (j := 0) a1 rfl rfl ⟨l1, rfl, ⟨_, SqL.of a2⟩, comp_list (K := K) (xs := (wbeg kn sr p1).1.map V.int) (fun i ys H' => H' = H1 ∧ ys = (((wbeg kn sr p1).1.take i).map agC).map V.int) ⟨rfl, rfl⟩ (by rw [List.length_map]; exact small (leK sm.1 (by decide))) (fun i ys H' ⟨e, _⟩ => by rw [e]; exact SqL.of a2) ?_ ?_⟩⟩
    · rintro j z ys H' N hj ⟨rfl, rfl⟩ hN hyl
      rw [List.getElem?_map] at hj
      cases ej : (wbeg kn sr p1).1[j]? with
      | none => rw [ej] at hj; cases hj
      | some c =>
        rw [ej] at hj
        cases hj
        refine ⟨_, rfl, c, rfl, hN _ _ ?_ ⟨rfl, ?_⟩⟩
        · exact snoc_le hyl
        · rw [List.take_add_one, ej, List.map_append, List.map_append]; rfl
    · rintro ys H' hyl ⟨rfl, rfl⟩ D hD
      have g2 := same_new hD (.lst ((((wbeg kn sr p1).1.take ((wbeg kn sr p1).1.map V.int).length).map agC).map V.int))
      have hD0 : (upd H' D (.lst ((((wbeg kn sr p1).1.take ((wbeg kn sr p1).1.map V.int).length).map agC).map V.int))) D = some (.lst (((wbeg kn sr p1).1.map agC).map V.int)) := by rw [upd_same, List.length_map, List.take_length]
      exact ⟨t1, D, _, _, rfl, R1.mono g2, hD0, by rw [List.length_map]; exact sm.1, fun t H3 g3 R3 => q _ _ ((g1.trans g2).trans g3) R3⟩
  · obtain ⟨s0, p1, rfl⟩ := wd_hold e
    obtain ⟨a', vs', ev, hs, hx⟩ := PAt.get hp
    cases ev
    obtain ⟨x0, x1, x2, rfl, h0, h1, h2⟩ := hx.three
    cases h0.str
    cases h1.int
    exact (rdy (j := 2) hs.sq rfl rfl ⟨_, rfl, _, rfl, x2, p1, sr, kl, kn, rfl, h2, hS, Nat.le_of_succ_le_succ hh, hsc, ok.2, fun t1 H1 g1 R1 => q _ _ g1 R1⟩)
  · obtain ⟨s0, p1, rfl⟩ := wd_watch e
    obtain ⟨a', vs', ev, hs, hx⟩ := PAt.get hp
    cases ev
    obtain ⟨x0, x1, x2, rfl, h0, h1, h2⟩ := hx.three
    cases h0.str
    cases h1.int
    exact (rdy (j := 2) hs.sq rfl rfl ⟨_, rfl, _, rfl, x2, p1, sr, kl, kn, rfl, h2, hS, Nat.le_of_succ_le_succ hh, hsc, ok.2, fun t1 H1 g1 R1 => q _ _ g1 R1⟩)
  · obtain ⟨p1, rfl⟩ := wd_trap e
    obtain ⟨a', vs', ev, hs, hx⟩ := PAt.get hp
    cases ev
    obtain ⟨x0, x1, rfl, h0, h1⟩ := hx.two
    cases h0.str
    refine (rdy (j := 1) hs.sq rfl rfl ⟨_, rfl, _, rfl, x1, p1, sr, kl, kn, rfl, h1, hS, Nat.le_of_succ_le_succ hh, hsc, ok, fun t1 H1 g1 R1 => ?_⟩)
    obtain ⟨l1, l2, l3, a1, a2, a3, a4⟩ := id R1
    have sm := smW_beg (kn := kn) (p := p1) ok hsc sr
    refine ⟨_, rfl, rdx (j := 0) a1 rfl rfl ⟨l1, rfl, ⟨_, SqL.of a2⟩, comp_list (K := K) (xs := (wbeg kn sr p1).1.map V.int) (fun i ys H' => H' = H1 ∧ ys = (((wbeg kn sr p1).1.take i).map trapC).map V.int) ⟨rfl, rfl⟩ (by rw [List.length_map]; exact small (leK sm.1 (by decide))) (fun i ys H' ⟨e, _⟩ => by rw [e]; exact SqL.of a2) ?_ ?_⟩⟩
    · rintro j z ys H' N hj ⟨rfl, rfl⟩ hN hyl
      rw [List.getElem?_map] at hj
      cases ej : (wbeg kn sr p1).1[j]? with
      | none => rw [ej] at hj; cases hj
      | some c =>
        rw [ej] at hj
        cases hj
        refine ⟨_, rfl, c, rfl, hN _ _ ?_ ⟨rfl, ?_⟩⟩
        · exact snoc_le hyl
        · rw [List.take_add_one, ej, List.map_append, List.map_append]; rfl
    · rintro ys H' hyl ⟨rfl, rfl⟩ D hD
      have g2 := same_new hD (.lst ((((wbeg kn sr p1).1.take ((wbeg kn sr p1).1.map V.int).length).map trapC).map V.int))
      have hD0 : (upd H' D (.lst ((((wbeg kn sr p1).1.take ((wbeg kn sr p1).1.map V.int).length).map trapC).map V.int))) D = some (.lst (((wbeg kn sr p1).1.map trapC).map V.int)) := by rw [upd_same, List.length_map, List.take_length]
      exact ⟨t1, D, _, _, rfl, R1.mono g2, hD0, by rw [List.length_map]; exact sm.1, fun t H3 g3 R3 => q _ _ ((g1.trans g2).trans g3) R3⟩
  · have lf := wd_leaf n1 n2 n3 n4 n5 n6 n7
    exact ⟨_, rfl, _, rfl, _, p, sr, rfl, hp, lf, fun t1 H1 g1 R1 => q _ _ g1 (by rw [wbeg_leaf lf kn [] sr]; exact R1)⟩
theorem wb_all (F : FunA K mg "begun_walking" "begun" ["part", "sure", "known"] s_begun_walking) (T : TxtR K mg aN aP aR uE uR uL) (C1 : Callee P w K mg base 2 "begun_leaf_walking" ["part", "sure"] (spLeafW K)) (C2 : Callee P w K mg base 1 "in_turn_walking" ["first", "second"] spTurnW) (C3 : Callee P w K mg base 1 "side_by_side_walking" ["first", "second"] spSideW) (C4 : Callee P w K mg base 1 "one_of" ["first", "second"] spOneW) (C5 : Callee P w K mg base 1 "recoded" ["inner", "codes"] spRecW)
    (C6 : Callee P w K mg base 1 "code_of_again" ["code"] spAgC) (C7 : Callee P w K mg base 1 "code_of_trap" ["code"] spTrC) : ∀ n, Callee P w K mg base (n + 2) "begun_walking" ["part", "sure", "known"] (spWb K n)
  | 0 => (F.zero (sp := spWb K 0) fun vs H Q E h => by obtain ⟨v, p, sr, kl, kn, _, _, _, hh, _⟩ := h; exact absurd hh (Nat.not_le_of_gt (Pt.hg_pos p))).mono (by decide)
  | n + 1 => ok_wb F T C1 C2 C3 C4 C5 C6 C7 (wb_all F T C1 C2 C3 C4 C5 C6 C7 n)
set_option maxHeartbeats 16000000 in
theorem ok_walkG {n : Nat} (F : FunM K mg "walked" ["part", "state", "sure", "known"] s_walked) (T : TxtR K mg aN aP aR uE uR uL) (C_part_to_begin : Callee P w K mg base (n + 3) "part_to_begin" ["part", "state"] (spPtb K n)) (C_begun_walking : Callee P w K mg base (n + 2) "begun_walking" ["part", "sure", "known"] (spWb K n)) :
    Callee P w K mg base (n + 4) "walked" ["part", "state", "sure", "known"] (spWalkG K n) := by
  refine F.ok sc_walked (fun vs H Q E h => ?_) (fun f cdv A outer s H vs Q E hr h => ?_)
  · obtain ⟨v, p, sv, st, sr, kl, kn, rfl, _⟩ := h; rfl
  obtain ⟨v, p, sv, st, sr, kl, kn, rfl, hp, hst, hS, hb, k1, k2, ok, q⟩ := h
  refine ⟨_, (pss_cons (ps_set (i := 4) sc_walked.nd rfl (Or.inl rfl) (pe_callC C_begun_walking hr rfl pass0 (pa_cons (pe_callC C_part_to_begin hr rfl pass0 (pa_cons (pv 0) (pa_cons (pv 1) pa_nil))) (pa_cons (pv 2) (pa_cons (pv 3) pa_nil)))))
    (pss_one (ps_ret (pe_tup (pa_cons (pe_ix ix_tup (pv 4) pe_int (fun _ _ => rfl)) (pa_cons (pe_ix ix_tup (pv 4) pe_int (fun _ _ => rfl)) (pa_cons (pe_sset rfl rfl T.n_sorted rfl T.n_set (pe_ix ix_tup (pv 4) pe_int (fun _ _ => rfl))) (pa_cons (pe_sset rfl rfl T.n_sorted rfl T.n_set (pe_ix ix_tup (pv 4) pe_int (fun _ _ => rfl))) pa_nil)))))))), ?_⟩
  refine ⟨_, rfl, _, rfl, v, p, sv, st, rfl, hp, hst, hb, fun v1 H1 g1 P1 => ?_⟩
  refine ⟨_, rfl, _, rfl, v1, pb p st, sr, kl, kn, rfl, P1, g1.seq hS, k1, lt9 k2, okW_pb ok st, fun t H2 g2 ⟨l1, l2, l3, a1, a2, a3, a4⟩ => ?_⟩
  have wl := wbeg_len kn (pb p st) sr
  refine (rdx (j := 0) a1 rfl rfl (rdx (j := 1) a1 rfl rfl (rdx (j := 2) a1 rfl rfl ⟨l2, _, rfl, SqL.of a3, Nat.lt_of_le_of_lt wl.1 k2, fun r1 hr1 => ?_⟩)))
  have g3 := same_new hr1 (.lst ((nub (wbeg kn sr (pb p st)).2.2.1).map V.int))
  refine (rdx (j := 3) (g3 _ _ a1) rfl rfl ⟨l3, _, rfl, SqL.of (g3 _ _ a4), Nat.lt_of_le_of_lt wl.2 k2, fun r2 hr2 => ?_⟩)
  have g4 := same_new hr2 (.lst ((nub (wbeg kn sr (pb p st)).2.2.2).map V.int))
  refine ⟨(by show 4 ≤ sizeLine; decide), fun t2 ht2 => ?_⟩
  have g5 := same_new ht2 (.tup [.ref l1, .bl (wbeg kn sr (pb p st)).2.1, .ref r1, .ref r2])
  have gA := (g1.trans g2).trans (g3.trans (g4.trans g5))
  have c1 := g5 _ _ (g4 _ _ (g3 _ _ a2))
  have c2 := g5 _ _ (g4 _ _ (upd_same (H := H2) (a := r1) (o := .lst ((nub (wbeg kn sr (pb p st)).2.2.1).map V.int))))
  have c3 := g5 _ _ (upd_same (H := (upd H2 r1 (.lst ((nub (wbeg kn sr (pb p st)).2.2.1).map V.int)))) (a := r2) (o := .lst ((nub (wbeg kn sr (pb p st)).2.2.2).map V.int)))
  have ne := (cw_beg kn (okW_pb ok st) sr).ne
  have f1 := (g1.trans g2).free hr1
  have f2 := ((g1.trans g2).trans g3).free hr2
  have f3 := ((g1.trans g2).trans (g3.trans g4)).free ht2
  refine q _ _ gA ⟨l1, r1, r2, upd_same, c1, c2, c3⟩ fun a xs ha => ⟨l1, r1, r2, upd_same, c1, c2, c3, (ne_of_none ha f3).symm, fun e => ?_, (ne_of_none ha f1).symm, (ne_of_none ha f2).symm⟩
  subst e
  have z := gA _ _ ha
  rw [c1] at z
  have z := HO.lst.inj (Option.some.inj z)
  generalize (wbeg kn sr (pb p st)).1 = cs at z ne
  cases cs with
  | nil => exact absurd ne (by simp)
  | cons c cs =>
    cases xs with
    | nil => cases z
    | cons y ys => cases z
theorem ok_walk {n : Nat} (C : Callee P w K mg base (n + 4) "walked" ["part", "state", "sure", "known"] (spWalkG K n)) : Callee P w K mg base (n + 4) "walked" ["part", "state", "sure", "known"] (spWalk K n) := C.imp fun vs H Q E h => by
  obtain ⟨v, p, sv, st, sr, kl, kn, rfl, hp, hst, hS, hh, hsc, hrc, ok, q⟩ := h
  have b := pb_bd p st
  exact ⟨v, p, sv, st, sr, kl, kn, rfl, hp, hst, hS, .inr ⟨hh, lt9 hrc⟩, Nat.le_trans b.1 hh, Nat.lt_of_le_of_lt b.2.1 hsc, ok, fun t H' g wk _ => q t H' g wk⟩
end

end My
end

section
set_option Elab.async false
set_option linter.all false
set_option maxRecDepth 100000
set_option maxHeartbeats 4000000
namespace My
open PySem L2
inductive C_spMixed  (vs : List V) (H : Hp) (Q : VK) : Prop
  | mk (c : Int) (c0 : vs = [.int c]) (c1 : ∀ m : Int, 0 ≤ m → Q (.int m) H) : C_spMixed  vs H Q
def spMixed : Sp := fun vs H Q _ => C_spMixed  vs H Q
inductive C_spSeedAt (K : PySem.W.Frag) (vs : List V) (H : Hp) (Q : VK) : Prop
  | mk (a : Addr) (ns : List Int) (k : Int) (c0 : vs = [.ref a, .int k]) (c1 : SqL K H a (ns.map V.int)) (c2 : 0 ≤ k) (c3 : ∀ m : Int, 0 ≤ m → Q (.int m) H) : C_spSeedAt K vs H Q
def spSeedAt (K : PySem.W.Frag) : Sp := fun vs H Q _ => C_spSeedAt K vs H Q
inductive C_spWhole  (vs : List V) (H : Hp) (Q : VK) : Prop
  | mk (c : Int) (c0 : vs = [.int c]) (c1 : Q (.bl true) H) : C_spWhole  vs H Q
def spWhole : Sp := fun vs H Q _ => C_spWhole  vs H Q
inductive C_spThere  (vs : List V) (H : Hp) (Q : VK) : Prop
  | mk (m : Int) (n : Nat) (c0 : vs = [.int m, .int n]) (c1 : n ≤ 30) (c2 : ∀ r (ns : List Int), H r = none → ns.Pairwise (· < ·) → (∀ x ∈ ns, 0 ≤ x ∧ x < n) → ns.length ≤ n → Q (.ref r) (upd H r (.lst (ns.map V.int)))) : C_spThere  vs H Q
def spThere : Sp := fun vs H Q _ => C_spThere  vs H Q
theorem eqd_ints {K : PySem.W.Frag} {H : Hp} {ns : List Int} {d : Nat} : ∀ (i : Nat) (x y : V), (ns.map V.int)[i]? = some x → (ns.map V.int)[i]? = some y → EqD K H d x y := fun i x y hx hy => by
  rw [hx] at hy
  cases hy
  rw [List.getElem?_map] at hx
  cases e : ns[i]? with
  | none => rw [e] at hx; cases hx
  | some z =>
    rw [e] at hx
    cases hx
    exact .flat rfl rfl (by show (z == z) = true; simp)
section
variable {P : Program} {w : World} {K : PySem.W.Frag} {mg : Str → Option Value} {base : Heap}
theorem ok_mixed (F : FunM K mg "_law_mixed" ["_law_cell"] s__law_mixed) : Callee P w K mg base 1 "_law_mixed" ["_law_cell"] spMixed := by
  refine F.ok sc__law_mixed (fun vs H Q E h => ?_) (fun f cdv A outer s H vs Q E hr h => ?_)
  · obtain ⟨c, rfl, _⟩ := h
    rfl
  obtain ⟨c, rfl, q⟩ := h
  refine ⟨_, (pss_one (ps_ret (pe_op op_mod (pe_op op_mul (pe_op op_mul (pe_op op_add (pe_op op_mod (pv 0) pe_int) pe_int) pe_int) pe_int) pe_int))), ?_⟩
  refine ⟨_, rfl, _, _, rfl, rfl, (by show (0 : Int) < 2147483647; decide), _, _, rfl, rfl, _, _, rfl, rfl, .inr ⟨by decide, by decide⟩, _, _, rfl, rfl, .inr ⟨by decide, by decide⟩, _, _, rfl, rfl, (by show (0 : Int) < 2147483629; decide), ?_⟩
  exact q _ (Int.emod_nonneg _ (by decide))
theorem ok_seedAt (F : FunM K mg "_law_seed_at" ["_law_script", "_law_k"] s__law_seed_at) (T : Txt mg) (C__law_mixed : Callee P w K mg base 1 "_law_mixed" ["_law_cell"] spMixed) : Callee P w K mg base 2 "_law_seed_at" ["_law_script", "_law_k"] (spSeedAt K) := by
  refine F.ok sc__law_seed_at (fun vs H Q E h => ?_) (fun f cdv A outer s H vs Q E hr h => ?_)
  · obtain ⟨a, ns, k, rfl, _⟩ := h
    rfl
  obtain ⟨a, ns, k, rfl, hS, h0, q⟩ := h
  refine ⟨_, (pss_cons (ps_if (pt_cmpR op_lt (pv 1) (pe_callB call_lenK rfl T.n_len PySem.boot_len (pa_cons (pv 0) pa_nil)) (nomark _))
      (pss_one (ps_ret (pe_callC C__law_mixed hr rfl pass0 (pa_cons (pe_ix ix_list (pv 0) (pv 1) (fun _ _ => rfl)) pa_nil))))
      pss_nil)
    (pss_one (ps_ret (pe_callC C__law_mixed hr rfl pass0 (pa_cons pe_int pa_nil))))), ?_⟩
  refine ⟨_, rfl, _, rfl, a, _, rfl, .inl hS, _, _, rfl, rfl, _, rfl, ?_⟩
  refine ite2 (fun c => ?_) (fun c => ?_)
  · have c' : k < (((ns.map V.int).length : Nat) : Int) := of_decide_eq_true c
    rw [List.length_map] at c'
    have hk : k.toNat < ns.length := by first | exact tn_lt ⟨‹0 ≤ k›, c'⟩ | omega
    have e : atI (ns.map V.int) ((k.toNat : Nat) : Int) = some (.int ns[k.toNat]) := atI_nat (by rw [List.getElem?_map, List.getElem?_eq_getElem hk] <;> rfl)
    rw [show ((k.toNat : Nat) : Int) = k by first | exact Int.toNat_of_nonneg ‹0 ≤ k› | omega] at e
    exact ⟨_, rfl, _, rfl, a, _, _, _, rfl, rfl, hS, e, _, rfl, fun m hm => q m hm⟩
  · exact ⟨_, rfl, fun m hm => q m hm⟩
theorem ok_whole (F : FunM K mg "_law_whole" ["_law_found"] s__law_whole) (T : Txt mg) : Callee P w K mg base 1 "_law_whole" ["_law_found"] spWhole := by
  refine F.ok sc__law_whole (fun vs H Q E h => ?_) (fun f cdv A outer s H vs Q E hr h => ?_)
  · obtain ⟨c, rfl, _⟩ := h
    rfl
  obtain ⟨c, rfl, q⟩ := h
  refine ⟨_, (pss_one (ps_ret (pe_and (pe_callB call_isinstK rfl T.n_isinstance PyProof.Rows.boot_isinstance (pa_cons (pv 0) (pa_cons (pe_bltn rfl T.n_int (by decide +kernel) (v := .ty "int") rfl) pa_nil))) (pe_one (pe_not (pe_callB call_isinstK rfl T.n_isinstance PyProof.Rows.boot_isinstance (pa_cons (pv 0) (pa_cons (pe_bltn rfl T.n_bool (by decide +kernel) (v := .ty "bool") rfl) pa_nil)))))))), ?_⟩
  exact ⟨_, rfl, _, _, _, _, rfl, .inl (.int c), rfl, true, rfl, iteT ⟨_, rfl, _, _, _, _, rfl, .inl (.int c), rfl, false, rfl, q⟩⟩
theorem ok_there (F : FunM K mg "_law_there" ["_law_number", "_law_signs"] s__law_there) (T : Txt mg) : Callee P w K mg base 1 "_law_there" ["_law_number", "_law_signs"] spThere := by
  refine F.ok sc__law_there (fun vs H Q E h => ?_) (fun f cdv A outer s H vs Q E hr h => ?_)
  · obtain ⟨m, n, rfl, _⟩ := h
    rfl
  obtain ⟨m, n, rfl, hn, q⟩ := h
  refine ⟨_, (pss_one (ps_ret (pe_comp (g := (gName 0)) (tc := (tTest (tOp rEq (tOp (rI0 fun i j => .int (Builtin.bitAnd i j)) (tOp (rI (fun _ j => 0 ≤ j) fun i j => .int (i / 2 ^ j.toNat)) (tVar 1) (tVar 0)) (tC (.int 1))) (tC (.int 1))))) (te := (tVar 0)) ["_law_sign"] [("_law_number", 0)] rfl (compOk (defScope s__law_there) ["_law_number", "_law_signs"] (by decide +kernel)) (pi_range1 rfl T.n_range (pa_cons (pv 1) pa_nil)) (fun s2 H2 fp cl C => pg_name (i := 0) (show List.Nodup [("_law_sign" : Str), ("_law_number" : Str)] from by decide +kernel) rfl (Or.inl rfl)) (gkeep_name (by decide)) (fun s2 H2 fp cl C => pif_one (pt_cmpR op_eq (pe_op op_and (pe_op op_shr (pv 1) (pv 0)) pe_int) pe_int (nomark _))) (fun s2 H2 fp cl C => (pv 0))))), ?_⟩
  refine ⟨_, rfl, _, rfl, by omega, by omega, ?_⟩
  dsimp only
  rw [Int.toNat_natCast]
  refine comp_range (fun i ys H' => H' = H ∧ ∃ ns : List Int, ys = ns.map V.int ∧ ns.Pairwise (· < ·) ∧ ∀ x ∈ ns, 0 ≤ x ∧ x < i) ⟨rfl, [], rfl, .nil, fun x hx => by cases hx⟩ (small (by omega)) ?_ ?_
  · rintro i ys H' N hi ⟨rfl, ns, rfl, pw, bd⟩ hN hyl
    refine ⟨_, rfl, _, rfl, _, _, rfl, rfl, (bd_at i).1, _, _, rfl, rfl, rfl, _, rfl, ?_⟩
    refine ite2 (fun c => ?_) (fun c => ?_)
    · refine ⟨_, rfl, hN _ _ ?_ ⟨rfl, ns ++ [0 + (i : Int)], by simp, ?_, ?_⟩⟩
      · exact snoc_le hyl
      · refine List.pairwise_append.mpr ⟨pw, List.pairwise_singleton _ _, fun a ha b hb => ?_⟩
        rcases List.mem_singleton.mp hb with rfl
        rw [Int.zero_add]; exact (bd a ha).2
      · intro x hx
        rcases List.mem_append.mp hx with h | h
        · exact bd_succ (bd x h)
        · rcases List.mem_singleton.mp h with rfl
          exact bd_at i
    · exact hN _ _ (Nat.le_succ_of_le hyl) ⟨rfl, ns, rfl, pw, fun x hx => bd_succ (bd x hx)⟩
  · rintro ys H' hyl ⟨rfl, ns, rfl, pw, bd⟩ D hD
    exact q D ns hD pw bd (by rw [List.length_map] at hyl; omega)
end

end My
end

section
set_option Elab.async false
set_option linter.all false
set_option maxRecDepth 100000
set_option maxHeartbeats 4000000
namespace My
open PySem L2
theorem if_via {tc : TT} {A B : TS} {D : Ends} {σ : St} {H : Hp} (h : ∀ nx : St → Hp → Prop, (∀ σ H, D.nx σ H → nx σ H) → (∀ σ H, nx σ H → D.nx σ H) → tIfS tc A B { D with nx := nx } σ H) : tIfS tc A B D σ H := h D.nx (fun _ _ h => h) fun _ _ h => h
theorem if_cases {tc : TT} {A B : TS} {D : Ends} {σ : St} {H : Hp} (Φ : Bool → Hp → Prop) (ht : ∀ Q : Bool → Hp → Prop, (∀ b H', Φ b H' → Q b H') → tc σ H Q) (hA : ∀ H', Φ true H' → A D σ H') (hB : ∀ H', Φ false H' → B D σ H') : tIfS tc A B D σ H :=
  ht _ fun b H' h => by
    cases b with
    | true => exact iteT (hA H' h)
    | false => exact iteF (hB H' h)
def okE : Pt → Prop
  | .exit d => 0 ≤ d
  | .stay _ => False
  | .iff _ p q => okE p ∧ okE q
  | .thn p q => okE p ∧ okE q
  | .bes p q => okE p ∧ okE q
  | .again _ p => okE p
  | .hold _ p => okE p
  | .watch _ p => okE p
  | .trap p => okE p
  | _ => True
abbrev PrP (K : PySem.W.Frag) (H : Hp) (l : List Pt) (vs : List V) : Prop := PySem.Paired (fun p v => PAt K H (Pt.nd p) v) l vs
theorem prP_mono {K : PySem.W.Frag} {H H' : Hp} (T : Tp H H') {l : List Pt} {vs : List V} (h : PrP K H l vs) : PrP K H' l vs := Paired.mapP h fun _ _ a => a.mono T
def wH (l : List Pt) : Nat := (l.map Pt.hg).sum
def wR (l : List Pt) : Nat := (l.map fun p => p.rc + p.sc).sum
theorem wH_snoc (l : List Pt) (p : Pt) : wH (l ++ [p]) = wH l + p.hg := by simp [wH]
theorem wR_snoc (l : List Pt) (p : Pt) : wR (l ++ [p]) = wR l + (p.rc + p.sc) := by simp [wR]
theorem prP_last {F : Pt → V → Prop} : ∀ {l : List Pt} {vs : List V}, PySem.Paired F l vs → ¬ l = [] → ∃ l0 p ws v, l = l0 ++ [p] ∧ vs = ws ++ [v] ∧ PySem.Paired F l0 ws ∧ F p v
  | _, _, .nil, h => absurd rfl h
  | _, _, .cons (a := a) (b := b) (l₁ := l1) (l₂ := l2) f t, _ => by
    cases t with
    | nil => exact ⟨[], a, [], b, rfl, rfl, .nil, f⟩
    | cons f' t' =>
      obtain ⟨l0, p, ws, v, e1, e2, t0, fp⟩ := prP_last (.cons f' t') (by simp)
      exact ⟨a :: l0, p, b :: ws, v, by rw [e1]; rfl, by rw [e2]; rfl, .cons f t0, fp⟩
def rsL : Pt → List Int
  | .rest k => [k]
  | .again k p => k :: rsL p
  | .iff _ p q => rsL p ++ rsL q
  | .thn p q => rsL p ++ rsL q
  | .bes p q => rsL p ++ rsL q
  | .hold _ p => rsL p
  | .watch _ p => rsL p
  | .trap p => rsL p
  | .nothing => []
  | .send _ => []
  | .exit _ => []
  | .stay _ => []
/-- the rests of a pile: unlike numbers from lo on, below hi -/
structure RO (l : List Pt) (lo hi : Int) : Prop where
  bd : ∀ x ∈ l.flatMap rsL, lo ≤ x ∧ x < hi
  nd : (l.flatMap rsL).Nodup
  le : lo ≤ hi
theorem RO.step {l l' : List Pt} {lo hi : Int} (h : RO l lo hi) {b : Bool} (p : (l'.flatMap rsL).Perm (l.flatMap rsL ++ (if b = true then [hi] else []))) : RO l' lo (hi + (if b = true then 1 else 0)) := by
  cases b with
  | false =>
    have p : (l'.flatMap rsL).Perm (l.flatMap rsL) := by simpa using p
    exact ⟨fun x hx => by simpa using h.bd x (p.mem_iff.mp hx), p.nodup_iff.mpr h.nd, by simpa using h.le⟩
  | true =>
    have p : (l'.flatMap rsL).Perm (l.flatMap rsL ++ [hi]) := p
    have nin : ¬ hi ∈ l.flatMap rsL := fun z => Int.lt_irrefl _ (h.bd hi z).2
    refine ⟨fun x hx => ?_, p.nodup_iff.mpr (List.nodup_append.mpr ⟨h.nd, by simp, fun y hy z hz => by rw [List.mem_singleton] at hz; subst hz; exact fun e => nin (e ▸ hy)⟩), Int.le_trans h.le (Int.le_of_lt (Int.lt_succ hi))⟩
    show lo ≤ x ∧ x < hi + 1
    rcases List.mem_append.mp (p.mem_iff.mp hx) with z | z
    · exact ⟨(h.bd x z).1, Int.lt_trans (h.bd x z).2 (Int.lt_succ hi)⟩
    · rw [List.mem_singleton] at z; rw [z]; exact ⟨h.le, Int.lt_succ hi⟩
theorem RO.same {l l' : List Pt} {lo hi : Int} (h : RO l lo hi) (e : l'.flatMap rsL = l.flatMap rsL) : RO l' lo hi := ⟨by rw [e]; exact h.bd, by rw [e]; exact h.nd, h.le⟩
/-- as okE, with sends below sg and exits below four -/
def okS (sg : Int) : Pt → Prop
  | .send s => 0 ≤ s ∧ s < sg
  | .exit d => 0 ≤ d ∧ d < 4
  | .stay _ => False
  | .iff s p q => (0 ≤ s ∧ s < sg) ∧ okS sg p ∧ okS sg q
  | .thn p q => okS sg p ∧ okS sg q
  | .bes p q => okS sg p ∧ okS sg q
  | .again _ p => okS sg p
  | .hold s p => (0 ≤ s ∧ s < sg) ∧ okS sg p
  | .watch s p => (0 ≤ s ∧ s < sg) ∧ okS sg p
  | .trap p => okS sg p
  | _ => True
theorem okS_E {sg : Int} {p : Pt} (h : okS sg p) : okE p := by
  induction p with
  | exit d => exact h.1
  | stay ks => exact h.elim
  | iff s p q ih1 ih2 => exact ⟨ih1 h.2.1, ih2 h.2.2⟩
  | thn p q ih1 ih2 => exact ⟨ih1 h.1, ih2 h.2⟩
  | bes p q ih1 ih2 => exact ⟨ih1 h.1, ih2 h.2⟩
  | again k p ih => exact ih h
  | hold k p ih => exact ih h.2
  | watch k p ih => exact ih h.2
  | trap p ih => exact ih h
  | _ => trivial
theorem okS_W {sg : Int} {p : Pt} (h : okS sg p) : okW sg p := by
  induction p with
  | iff s p q ih1 ih2 => exact ⟨h.1, ih1 h.2.1, ih2 h.2.2⟩
  | thn p q ih1 ih2 => exact ⟨ih1 h.1, ih2 h.2⟩
  | bes p q ih1 ih2 => exact ⟨ih1 h.1, ih2 h.2⟩
  | again k p ih => exact ih h
  | hold k p ih => exact ⟨h.1, ih h.2⟩
  | watch k p ih => exact ⟨h.1, ih h.2⟩
  | trap p ih => exact ih h
  | send s => exact h
  | exit d => exact h
  | _ => trivial
theorem mx1 {a b : Nat} (h1 : 1 ≤ a) (h2 : 1 ≤ b) : max b a + 1 ≤ a + b := by omega
theorem ad4 {a b c d : Nat} : (c + a) + (d + b) ≤ a + b + (c + d) := by omega
inductive C_spLf (K : PySem.W.Frag) (vs : List V) (H : Hp) (Q : VK) : Prop
  | mk (pick r sg : Int) (c0 : vs = [.int pick, .int r, .int sg]) (c1 : 0 < sg) (c2 : ∀ v p H', Same H H' → PAt K H' (Pt.nd p) v → p.hg = 1 → p.rc + p.sc ≤ 1 → okS sg p → rsL p = (if decide (V.str (wdP p) = V.str "rest") = true then [r] else []) → Q v H') : C_spLf K vs H Q
def spLf (K : PySem.W.Frag) : Sp := fun vs H Q _ => C_spLf K vs H Q
inductive C_spWr (K : PySem.W.Frag) (vs : List V) (H : Hp) (Q : VK) : Prop
  | mk (deed pick rs sg : Int) (r : Addr) (l : List Pt) (xs : List V) (c0 : vs = [.int deed, .int pick, .ref r, .int rs, .int sg]) (c1 : 0 < sg) (c2 : H r = some (.lst xs)) (c3 : PrP K H l xs) (c4 : ¬ l = []) (c5 : (∀ p ∈ l, okS sg p)) (c6 : ∀ (v : V) (p : Pt) (l' : List Pt) (xs' : List V) (H' : Hp), Kp r H H' → H' r = some (.lst xs') → PrP K H' l' xs' → PAt K H' (Pt.nd p) v → okS sg p → (∀ q ∈ l', okS sg q) → wH l' + p.hg ≤ wH l + 1 → wR l' + (p.rc + p.sc) ≤ wR l + 1 → l'.length + 1 ≤ l.length → (l'.flatMap rsL ++ rsL p).Perm (l.flatMap rsL ++ (if decide (V.int deed = V.int 7) = true then [rs] else [])) → Q v H') : C_spWr K vs H Q
def spWr (K : PySem.W.Frag) : Sp := fun vs H Q _ => C_spWr K vs H Q
structure GS (sg : Int) (p : Pt) (n : Nat) : Prop where
  hg : p.hg ≤ n + 1
  rs : p.rc + p.sc ≤ n
  ok : okS sg p
inductive C_spPb (K : PySem.W.Frag) (vs : List V) (H : Hp) (Q : VK) : Prop
  | mk (c : Addr) (ns : List Int) (rs sg : Int) (c0 : vs = [.ref c, .int rs, .int sg]) (c1 : SqL K H c (ns.map V.int)) (c2 : ns.length ≤ 20) (c3 : 0 < sg) (c4 : ∀ (t : Addr) (v : V) (k : Int) (p : Pt) (H' : Hp), Same H H' → H' t = some (.tup [v, .int k]) → PAt K H' (Pt.nd p) v → GS sg p ns.length → RO [p] rs k → Q (.ref t) H') : C_spPb K vs H Q
def spPb (K : PySem.W.Frag) : Sp := fun vs H Q _ => C_spPb K vs H Q
section
variable {P : Program} {w : World} {K : PySem.W.Frag} {mg : Str → Option Value} {base : Heap}
theorem ok_lf (F : FunM K mg "_law_leaf" ["_law_pick", "_law_rests_here", "_law_signs"] s__law_leaf) : Callee P w K mg base 1 "_law_leaf" ["_law_pick", "_law_rests_here", "_law_signs"] (spLf K) := by
  refine F.ok sc__law_leaf (fun vs H Q E h => ?_) (fun f cdv A outer s H vs Q E hr h => ?_)
  · obtain ⟨n, r, sg, rfl, _⟩ := h; rfl
  obtain ⟨n, r, sg, rfl, hsg, q⟩ := h
  refine ⟨_, (pss_cons (ps_set (i := 3) sc__law_leaf.nd rfl (Or.inl rfl) (pe_op op_mod (pv 0) pe_int))
    (pss_cons (ps_if (pt_cmpR op_lt (pv 3) pe_int (nomark _))
      (pss_one (ps_ret (pe_tup (pa_cons pe_str (pa_cons (pv 1) pa_nil)))))
      pss_nil)
    (pss_cons (ps_if (pt_cmpR op_lt (pv 3) pe_int (nomark _))
      (pss_one (ps_ret (pe_tup (pa_cons pe_str (pa_cons (pe_op op_mod (pe_op op_fdiv (pv 0) pe_int) (pv 2)) pa_nil)))))
      pss_nil)
    (pss_cons (ps_if (pt_cmpR op_eq (pv 3) pe_int (nomark _))
      (pss_one (ps_ret (pe_tup (pa_cons pe_str (pa_cons (pe_op op_mod (pe_op op_fdiv (pv 0) pe_int) pe_int) pa_nil)))))
      pss_nil)
    (pss_one (ps_ret (pe_tup (pa_cons pe_str pa_nil)))))))), ?_⟩
  refine ⟨_, rfl, _, _, rfl, rfl, (by show (0 : Int) < 8; decide), _, rfl, _, _, rfl, rfl, _, rfl, ite2 (fun c => ?_) fun c => ⟨_, rfl, _, _, rfl, rfl, _, rfl, ite2 (fun c => ?_) fun c => ⟨_, rfl, rfl, _, rfl, ite2 (fun c => ?_) fun c => ?_⟩⟩⟩
  · exact ⟨_, rfl, (by show 2 ≤ sizeLine; decide), fun t ht => q _ (.rest r) _ (same_new ht _) (.t (.inl upd_same) (.cons .s (.cons .i .nil))) rfl (by simp [Pt.rc, Pt.sc]) trivial (by show _ = if decide (V.str "rest" = V.str "rest") = true then [r] else []; rw [if_pos (show decide (V.str "rest" = V.str "rest") = true from by decide +kernel)]; rfl)⟩
  · exact ⟨_, rfl, _, _, rfl, rfl, ⟨by decide, by decide⟩, _, rfl, _, _, rfl, rfl, hsg, (by show 2 ≤ sizeLine; decide), fun t ht => q _ (.send (n / 8 % sg)) _ (same_new ht _) (.t (.inl upd_same) (.cons .s (.cons .i .nil))) rfl (by simp [Pt.rc, Pt.sc]) ⟨Int.emod_nonneg _ (by omega), Int.emod_lt_of_pos _ hsg⟩ (by show _ = if decide (V.str "send" = V.str "rest") = true then [r] else []; rw [if_neg (show ¬ decide (V.str "send" = V.str "rest") = true from by decide +kernel)]; rfl)⟩
  · exact ⟨_, rfl, _, _, rfl, rfl, ⟨by decide, by decide⟩, _, _, rfl, rfl, (by show (0 : Int) < 4; decide), (by show 2 ≤ sizeLine; decide), fun t ht => q _ (.exit (n / 8 % 4)) _ (same_new ht _) (.t (.inl upd_same) (.cons .s (.cons .i .nil))) rfl (by simp [Pt.rc, Pt.sc]) ⟨Int.emod_nonneg _ (by decide), Int.emod_lt_of_pos _ (by decide)⟩ (by show _ = if decide (V.str "exit" = V.str "rest") = true then [r] else []; rw [if_neg (show ¬ decide (V.str "exit" = V.str "rest") = true from by decide +kernel)]; rfl)⟩
  · exact ⟨(by show 1 ≤ sizeLine; decide), fun t ht => q _ .nothing _ (same_new ht _) (.t (.inl upd_same) (.cons .s .nil)) rfl (by simp [Pt.rc, Pt.sc]) trivial (by show _ = if decide (V.str "nothing" = V.str "rest") = true then [r] else []; rw [if_neg (show ¬ decide (V.str "nothing" = V.str "rest") = true from by decide +kernel)]; rfl)⟩
set_option maxHeartbeats 16000000 in
theorem ok_wr (F : FunM K mg "_law_wrapped" ["_law_deed", "_law_pick", "_law_piled", "_law_rests_here", "_law_signs"] s__law_wrapped) (T : Txt mg) : Callee P w K mg base 1 "_law_wrapped" ["_law_deed", "_law_pick", "_law_piled", "_law_rests_here", "_law_signs"] (spWr K) := by
  refine F.ok sc__law_wrapped (fun vs H Q E h => ?_) (fun f cdv A outer s H vs Q E hr h => ?_)
  · obtain ⟨deed, pick, rs, sg, r, l, xs, rfl, _⟩ := h; rfl
  obtain ⟨deed, pick, rs, sg, r, l, xs, rfl, hsg, hv, pv1, hne, okl, q⟩ := h
  refine ⟨_, (pss_cons (ps_set (i := 5) sc__law_wrapped.nd rfl (Or.inl rfl) (pe_bm0 PySem.F.plainAttrs_list PySem.F.slot_list_pop PySem.F.type_list_pop mt_pop (pv 2)))
    (pss_cons (ps_if (pt_cmpR op_eq (pv 0) pe_int (nomark _))
      (pss_one (ps_ret (pe_tup (pa_cons pe_str (pa_cons (pv 3) (pa_cons (pv 5) pa_nil))))))
      pss_nil)
    (pss_cons (ps_if (pt_cmpR op_eq (pv 0) pe_int (nomark _))
      (pss_one (ps_ret (pe_tup (pa_cons pe_str (pa_cons (pe_op op_mod (pv 1) (pv 4)) (pa_cons (pv 5) pa_nil))))))
      pss_nil)
    (pss_cons (ps_if (pt_cmpR op_eq (pv 0) pe_int (nomark _))
      (pss_one (ps_ret (pe_tup (pa_cons pe_str (pa_cons (pe_op op_mod (pv 1) (pv 4)) (pa_cons (pv 5) pa_nil))))))
      pss_nil)
    (pss_cons (ps_if (pt_cmpR op_eq (pv 0) pe_int (nomark _))
      (pss_one (ps_ret (pe_tup (pa_cons pe_str (pa_cons (pv 5) pa_nil)))))
      pss_nil)
    (pss_cons (ps_if (pt_cmpR (op_eqE hr.units0) (pv 2) (pe_lst pa_nil) (nomark _))
      (pss_one (ps_ret (pe_tup (pa_cons pe_str (pa_cons (pe_op op_mod (pv 1) (pv 4)) (pa_cons (pv 5) (pa_cons (pe_tup (pa_cons pe_str pa_nil)) pa_nil)))))))
      pss_nil)
    (pss_cons (ps_set (i := 6) sc__law_wrapped.nd rfl (Or.inl rfl) (pe_bm0 PySem.F.plainAttrs_list PySem.F.slot_list_pop PySem.F.type_list_pop mt_pop (pv 2)))
    (pss_cons (ps_if (PW.pt (pw_or (pt_cmpR op_eq (pv 0) pe_int (nomark _)) (pw_or1 (pt_cmpR op_eq (pv 0) pe_int (nomark _)))))
      (pss_one (ps_ret (pe_tup (pa_cons pe_str (pa_cons (pe_op op_mod (pv 1) (pv 4)) (pa_cons (pv 6) (pa_cons (pv 5) pa_nil)))))))
      pss_nil)
    (pss_cons (ps_if (pt_cmpR op_eq (pv 0) pe_int (nomark _))
      (pss_one (ps_ret (pe_tup (pa_cons pe_str (pa_cons (pv 6) (pa_cons (pv 5) pa_nil))))))
      pss_nil)
    (pss_one (ps_ret (pe_tup (pa_cons pe_str (pa_cons (pv 6) (pa_cons (pv 5) pa_nil))))))))))))))), ?_⟩
  obtain ⟨l0, p, ws, v, rfl, rfl, pv0, ap⟩ := prP_last pv1 hne
  have op : okS sg p := okl p (by simp)
  have hm : 0 ≤ pick % sg ∧ pick % sg < sg := ⟨Int.emod_nonneg _ (by omega), Int.emod_lt_of_pos _ hsg⟩
  have ok0 : ∀ q ∈ l0, okS sg q := fun q hq => okl q (List.mem_append_left _ hq)
  have pp := Pt.hg_pos p
  rw [wH_snoc, wR_snoc] at q
  refine ⟨_, rfl, .inl ⟨rfl, _, SqL.of hv⟩, r, _, v, rfl, rfl, hv, by simp, ?_⟩
  have e0 : (ws ++ [v]).dropLast = ws := by simp
  have T0 : Tp H (upd H r (.lst (ws ++ [v]).dropLast)) := Tp.lst hv
  have k0 : Kp r H (upd H r (.lst (ws ++ [v]).dropLast)) := Kp.upd
  have hv0 : (upd H r (.lst (ws ++ [v]).dropLast)) r = some (.lst ws) := by rw [upd_same, e0]
  have pv2 := prP_mono T0 pv0
  have ap2 := ap.mono T0
  generalize (upd H r (.lst (ws ++ [v]).dropLast)) = H1 at hv0 pv2 ap2 k0
  have one : ∀ (t : Addr) (o : List V) (p' : Pt) (ht : H1 t = none), PAt K (upd H1 t (.tup o)) (Pt.nd p') (.ref t) → okS sg p' → p'.hg ≤ p.hg + 1 → p'.rc + p'.sc ≤ p.rc + p.sc + 1 → (rsL p').Perm (rsL p ++ (if decide (V.int deed = V.int 7) = true then [rs] else [])) → Q (.ref t) (upd H1 t (.tup o)) := by
    intro t o p' ht a o' h1 h2 h3
    have g := same_new ht (.tup o)
    exact q _ p' l0 ws _ (k0.trans (Same.kp g)) (g _ _ hv0) (prP_mono g.tp pv2) a o' ok0 (by omega) (by omega) (by simp) (by rw [List.flatMap_append, List.append_assoc]; refine List.Perm.append_left _ ?_; simpa using h3)
  refine ⟨_, rfl, rfl, _, rfl, ite2 (fun c => ?_) fun c7 => ?_⟩
  · refine ⟨_, rfl, _, rfl, (by show 3 ≤ sizeLine; decide), fun t ht => one t _ (.again rs p) ht (.t (.inl upd_same) (.cons .s (.cons .i (.cons (ap2.mono (same_new ht _).tp) .nil)))) op (Nat.le_refl _) (Nat.le_of_eq (Nat.add_right_comm _ _ _)) (by rw [if_pos c]; exact (List.perm_append_singleton rs (rsL p)).symm)⟩
  have c7' : (if decide (V.int deed = V.int 7) = true then [rs] else []) = [] := if_neg c7
  refine ⟨_, rfl, rfl, _, rfl, ite2 (fun c => ?_) fun c => ?_⟩
  · refine ⟨_, rfl, _, rfl, _, _, rfl, rfl, hsg, _, rfl, (by show 3 ≤ sizeLine; decide), fun t ht => one t _ (.hold (pick % sg) p) ht (.t (.inl upd_same) (.cons .s (.cons .i (.cons (ap2.mono (same_new ht _).tp) .nil)))) ⟨hm, op⟩ (Nat.le_refl _) (Nat.le_succ _) (by rw [c7', List.append_nil]; exact .refl _)⟩
  refine ⟨_, rfl, rfl, _, rfl, ite2 (fun c => ?_) fun c => ?_⟩
  · refine ⟨_, rfl, _, rfl, _, _, rfl, rfl, hsg, _, rfl, (by show 3 ≤ sizeLine; decide), fun t ht => one t _ (.watch (pick % sg) p) ht (.t (.inl upd_same) (.cons .s (.cons .i (.cons (ap2.mono (same_new ht _).tp) .nil)))) ⟨hm, op⟩ (Nat.le_refl _) (Nat.le_succ _) (by rw [c7', List.append_nil]; exact .refl _)⟩
  refine ⟨_, rfl, rfl, _, rfl, ite2 (fun c => ?_) fun c => ?_⟩
  · refine ⟨_, rfl, (by show 2 ≤ sizeLine; decide), fun t ht => one t _ (.trap p) ht (.t (.inl upd_same) (.cons .s (.cons (ap2.mono (same_new ht _).tp) .nil))) op (Nat.le_refl _) (Nat.le_succ _) (by rw [c7', List.append_nil]; exact .refl _)⟩
  refine ⟨_, rfl, (by show 0 ≤ sizeLine; decide), fun e he => ?_⟩
  have ge := same_new he (.lst [])
  refine ⟨r, e, _, rfl, rfl, SqL.of (ge _ _ hv0), SqL.of upd_same, _, rfl, ite2 (fun c => ?_) fun c => ?_⟩
  · refine ⟨_, rfl, _, rfl, _, _, rfl, rfl, hsg, _, rfl, (by show 1 ≤ sizeLine; decide), fun t1 ht1 => ⟨(by show 4 ≤ sizeLine; decide), fun t ht => ?_⟩⟩
    obtain ⟨g, n1, n2⟩ := new2 (b := .tup [V.str "if", .int (pick % sg), v, .ref t1]) ht1 ht
    exact q _ (.iff (pick % sg) p .nothing) l0 ws _ (k0.trans ((Same.kp ge).trans (Same.kp g))) (g _ _ (ge _ _ hv0)) (prP_mono (ge.trans g).tp pv2) (.t (.inl n2) (.cons .s (.cons .i (.cons (ap2.mono (ge.trans g).tp) (.cons (.t (.inl n1) (.cons .s .nil)) .nil))))) ⟨hm, op, trivial⟩ ok0 (by simp only [Pt.hg]; omega) (by simp only [Pt.rc, Pt.sc]; omega) (by simp) (by rw [c7', List.append_nil, List.flatMap_append]; simp [rsL])
  have hne2 : ¬ l0 = [] := by
    rintro rfl
    cases pv2
    exact c rfl
  have hve := ge _ _ hv0
  have pv3 := prP_mono ge.tp pv2
  have ap3 := ap2.mono ge.tp
  have k1 := k0.trans (Same.kp ge)
  generalize (upd H1 e (.lst [])) = H2 at hve pv3 ap3 k1
  obtain ⟨l1, p2, ws1, v2, rfl, rfl, pv4, ap4⟩ := prP_last pv3 hne2
  have op2 : okS sg p2 := ok0 p2 (by simp)
  have ok1 : ∀ q ∈ l1, okS sg q := fun q hq => ok0 q (List.mem_append_left _ hq)
  have pp2 := Pt.hg_pos p2
  rw [wH_snoc, wR_snoc] at q
  refine ⟨_, rfl, .inl ⟨rfl, _, SqL.of hve⟩, r, _, v2, rfl, rfl, hve, by simp, ?_⟩
  have T2 : Tp H2 (upd H2 r (.lst (ws1 ++ [v2]).dropLast)) := Tp.lst hve
  have k2 : Kp r H2 (upd H2 r (.lst (ws1 ++ [v2]).dropLast)) := Kp.upd
  have hv5 : (upd H2 r (.lst (ws1 ++ [v2]).dropLast)) r = some (.lst ws1) := by rw [upd_same]; simp
  have pv5 := prP_mono T2 pv4
  have ap5 := ap3.mono T2
  have aq5 := ap4.mono T2
  have k3 := k1.trans k2
  generalize (upd H2 r (.lst (ws1 ++ [v2]).dropLast)) = H3 at hv5 pv5 ap5 aq5 k3
  have two : ∀ (t : Addr) (o : List V) (p' : Pt) (ht : H3 t = none), PAt K (upd H3 t (.tup o)) (Pt.nd p') (.ref t) → okS sg p' → p'.hg ≤ p.hg + p2.hg → p'.rc + p'.sc ≤ p.rc + p.sc + (p2.rc + p2.sc) → rsL p' = rsL p2 ++ rsL p → Q (.ref t) (upd H3 t (.tup o)) := by
    intro t o p' ht a o' h1 h2 h3
    have g := same_new ht (.tup o)
    exact q _ p' l1 ws1 _ (k3.trans (Same.kp g)) (g _ _ hv5) (prP_mono g.tp pv5) a o' ok1 (by omega) (by omega) (by simp) (by rw [c7', h3]; simp)
  have pairI : ∀ (t : Addr) (ht : H3 t = none), Q (.ref t) (upd H3 t (.tup [V.str "if", .int (pick % sg), v2, v])) := fun t ht => two t _ (.iff (pick % sg) p2 p) ht (.t (.inl upd_same) (.cons .s (.cons .i (.cons (aq5.mono (same_new ht _).tp) (.cons (ap5.mono (same_new ht _).tp) .nil))))) ⟨hm, op2, op⟩ (mx1 pp pp2) ad4 rfl
  refine ⟨_, rfl, rfl, _, rfl, ite2 (fun c => iteT ?_) fun c => ⟨_, rfl, rfl, _, rfl, ite2 (fun c => ?_) fun c => ?_⟩⟩
  · exact ⟨_, rfl, _, rfl, _, _, rfl, rfl, hsg, _, rfl, _, rfl, (by show 4 ≤ sizeLine; decide), pairI⟩
  · exact ⟨_, rfl, _, rfl, _, _, rfl, rfl, hsg, _, rfl, _, rfl, (by show 4 ≤ sizeLine; decide), pairI⟩
  refine ⟨_, rfl, rfl, _, rfl, ite2 (fun c => ?_) fun c => ?_⟩
  · exact ⟨_, rfl, _, rfl, (by show 3 ≤ sizeLine; decide), fun t ht => two t _ (.thn p2 p) ht (.t (.inl upd_same) (.cons .s (.cons (aq5.mono (same_new ht _).tp) (.cons (ap5.mono (same_new ht _).tp) .nil)))) ⟨op2, op⟩ (mx1 pp pp2) ad4 rfl⟩
  · exact ⟨_, rfl, _, rfl, (by show 3 ≤ sizeLine; decide), fun t ht => two t _ (.bes p2 p) ht (.t (.inl upd_same) (.cons .s (.cons (aq5.mono (same_new ht _).tp) (.cons (ap5.mono (same_new ht _).tp) .nil)))) ⟨op2, op⟩ (mx1 pp pp2) ad4 rfl⟩
set_option maxHeartbeats 64000000 in
theorem ok_pby (F : FunM K mg "_law_part_by" ["_law_cells", "_law_rests_here", "_law_signs"] s__law_part_by) (T : Txt mg) (C__law_mixed : Callee P w K mg base 1 "_law_mixed" ["_law_cell"] spMixed) (C__law_leaf : Callee P w K mg base 1 "_law_leaf" ["_law_pick", "_law_rests_here", "_law_signs"] (spLf K)) (C__law_wrapped : Callee P w K mg base 1 "_law_wrapped" ["_law_deed", "_law_pick", "_law_piled", "_law_rests_here", "_law_signs"] (spWr K)) :
    Callee P w K mg base 2 "_law_part_by" ["_law_cells", "_law_rests_here", "_law_signs"] (spPb K) := by
  refine F.ok sc__law_part_by (fun vs H Q E h => ?_) (fun f cdv A outer s H vs Q E hr h => ?_)
  · obtain ⟨c, ns, rs, sg, rfl, _⟩ := h; rfl
  obtain ⟨c, ns, rs0, sg, rfl, hS, hn, hsg, q⟩ := h
  refine ⟨_, (pss_cons (ps_set (i := 3) sc__law_part_by.nd rfl (Or.inl rfl) (pe_lst pa_nil))
    (pss_cons (ps_set (i := 4) sc__law_part_by.nd rfl (Or.inl rfl) pe_int)
    (pss_cons (ps_for PassesOwn.never rfl (pi_list (pv 0)) (pg_name (i := 5) sc__law_part_by.nd rfl (Or.inl rfl))
      (pss_cons (ps_set (i := 6) sc__law_part_by.nd rfl (Or.inl rfl) (pe_callC C__law_mixed hr rfl pass0 (pa_cons (pv 5) pa_nil)))
    (pss_cons (ps_set (i := 7) sc__law_part_by.nd rfl (Or.inl rfl) (pe_op op_mod (pv 6) pe_int))
    (pss_one (ps_if (PW.pt (pw_or (pt_cmpR (op_eqE hr.units0) (pv 3) (pe_lst pa_nil) (nomark _)) (pw_or (pt_cmpR op_lt (pv 7) pe_int (nomark _)) (pw_or1 (PW.pt (pw_and (pt_cmpR op_eq (pv 7) pe_int (nomark _)) (pw_and1 (pt_cmpR op_eq (pv 4) pe_int (nomark _)))))))))
      (pss_cons (ps_expr (pe_bm PySem.F.plainAttrs_list PySem.F.slot_list_append PySem.F.type_list_append mt_append (pv 3) (pa_cons (pe_callC C__law_leaf hr rfl pass0 (pa_cons (pe_op op_fdiv (pv 6) pe_int) (pa_cons (pv 1) (pa_cons (pv 2) pa_nil)))) pa_nil)))
    (pss_one (ps_set (i := 1) sc__law_part_by.nd rfl (Or.inl rfl) (pe_op op_add (pv 1) (pe_callTy call_intK rfl T.n_int (by decide +kernel) (pa_cons (pe_cmpR op_eq (pe_ix ix_tup (pe_ix ix_list (pv 3) (pe_un un_neg pe_int) (fun _ _ => rfl)) pe_int (fun _ _ => rfl)) pe_str (nomark _)) pa_nil))))))
      (pss_cons (ps_expr (pe_bm PySem.F.plainAttrs_list PySem.F.slot_list_append PySem.F.type_list_append mt_append (pv 3) (pa_cons (pe_callC C__law_wrapped hr rfl pass0 (pa_cons (pv 7) (pa_cons (pe_op op_fdiv (pv 6) pe_int) (pa_cons (pv 3) (pa_cons (pv 1) (pa_cons (pv 2) pa_nil)))))) pa_nil)))
    (pss_cons (ps_set (i := 1) sc__law_part_by.nd rfl (Or.inl rfl) (pe_op op_add (pv 1) (pe_callTy call_intK rfl T.n_int (by decide +kernel) (pa_cons (pe_cmpR op_eq (pv 7) pe_int (nomark _)) pa_nil))))
    (pss_one (ps_set (i := 4) sc__law_part_by.nd rfl (Or.inl rfl) (pe_op op_add (pv 4) (pe_callTy call_intK rfl T.n_int (by decide +kernel) (pa_cons (pe_cmpR op_eq (pv 7) pe_int (nomark _)) pa_nil))))))))))))
    (pss_cons (ps_if (pt_cmpR (op_eqE hr.units0) (pv 3) (pe_lst pa_nil) (nomark _))
      (pss_one (ps_expr (pe_bm PySem.F.plainAttrs_list PySem.F.slot_list_append PySem.F.type_list_append mt_append (pv 3) (pa_cons (pe_tup (pa_cons pe_str pa_nil)) pa_nil))))
      pss_nil)
    (pss_cons (ps_while PassesOwn.never (pt_cmpR op_gt (pe_callB call_lenK rfl T.n_len PySem.boot_len (pa_cons (pv 3) pa_nil)) pe_int (nomark _))
      (pss_cons (ps_set (i := 8) sc__law_part_by.nd rfl (Or.inl rfl) (pe_bm0 PySem.F.plainAttrs_list PySem.F.slot_list_pop PySem.F.type_list_pop mt_pop (pv 3)))
    (pss_cons (ps_set (i := 9) sc__law_part_by.nd rfl (Or.inl rfl) (pe_bm0 PySem.F.plainAttrs_list PySem.F.slot_list_pop PySem.F.type_list_pop mt_pop (pv 3)))
    (pss_one (ps_expr (pe_bm PySem.F.plainAttrs_list PySem.F.slot_list_append PySem.F.type_list_append mt_append (pv 3) (pa_cons (pe_tup (pa_cons pe_str (pa_cons (pv 9) (pa_cons (pv 8) pa_nil)))) pa_nil)))))))
    (pss_one (ps_ret (pe_tup (pa_cons (pe_ix ix_list (pv 3) pe_int (fun _ _ => rfl)) (pa_cons (pv 1) pa_nil)))))))))), ?_⟩
  refine ⟨(by show 0 ≤ sizeLine; decide), fun r hr0 => ?_⟩
  have g0 := same_new hr0 (.lst [])
  refine ⟨_, rfl, c, rfl, ⟨_, g0.seq hS⟩, for_list (K := K) (a := c) (xs := ns.map V.int)
    (fun i σ H1 => Ex7 fun (l : List Pt) (xs : List V) (rs : Int) (tr : Int) (x5 : Option V) (x6 : Option V) (x7 : Option V) => An9 (σ = [some (.ref c), some (.int rs), some (.int sg), some (.ref r), some (.int tr), x5, x6, x7, none, none]) (Same H H1) (H1 r = some (.lst xs)) (PrP K H1 l xs) ((∀ p ∈ l, okS sg p)) (wH l ≤ i) (wR l ≤ i) (l.length ≤ i) (RO l rs0 rs))
    ⟨[], [], rs0, 0, none, none, none, rfl, g0, upd_same, .nil, fun p hp => by simp at hp, Nat.le_refl _, Nat.le_refl _, Nat.le_refl _, ⟨fun x hx => by simp at hx, by simp, Int.le_refl _⟩⟩ (fun i σ H1 _ h => by obtain ⟨_, _, _, _, _, _, _, _, g, _⟩ := h; exact g.seq hS) ?_ ?_⟩
  · rintro i y σ H1 hi ⟨l, xs, rs, tr, x5, x6, x7, rfl, g1, hv, pv1, okl, h1, h2, h3, ro⟩
    have hil : i < (ns.map V.int).length := (List.getElem?_eq_some_iff.mp hi).1
    rw [List.length_map] at hil
    obtain ⟨z, rfl⟩ : ∃ z, y = V.int z := by
      rw [List.getElem?_map] at hi
      cases e : ns[i]? with
      | none => rw [e] at hi; cases hi
      | some z => rw [e] at hi; exact ⟨z, (Option.some.inj hi).symm⟩
    refine ⟨_, rfl, z, rfl, fun m hm => ⟨_, rfl, _, _, rfl, rfl, (by show (0 : Int) < 16; decide), ?_⟩⟩
    dsimp only [gName]
    have hxl := PySem.Paired.length pv1
    have hl1 : l.length ≤ 1000 := Nat.le_trans h3 (Nat.le_trans (Nat.le_of_lt hil) (Nat.le_trans hn (by decide)))
    refine if_cases (fun b H' => Same H H' ∧ H' r = some (.lst xs) ∧ PrP K H' l xs ∧ (b = false → ¬ l = [])) (fun Q k => ?_) ?_ ?_
    · refine ⟨_, rfl, (by show 0 ≤ sizeLine; decide), fun e he => ?_⟩
      have ge := same_new he (.lst [])
      refine ⟨r, e, _, rfl, rfl, SqL.of (ge _ _ hv), SqL.of upd_same, _, rfl, ite2 (fun c => ?_) fun c => ?_⟩
      · exact k _ _ ⟨g1.trans ge, ge _ _ hv, prP_mono ge.tp pv1, fun z => nomatch z⟩
      · have hne : ¬ l = [] := by
          rintro rfl
          cases pv1
          exact c rfl
        refine ⟨_, rfl, _, _, rfl, rfl, _, rfl, ite2 (fun c => ?_) fun c => ⟨_, rfl, rfl, _, rfl, ite2 (fun c => ⟨_, rfl, rfl, _, rfl, ?_⟩) fun c => ?_⟩⟩
        · exact k _ _ ⟨g1.trans ge, ge _ _ hv, prP_mono ge.tp pv1, fun z => nomatch z⟩
        · exact k _ _ ⟨g1.trans ge, ge _ _ hv, prP_mono ge.tp pv1, fun _ => hne⟩
        · exact k _ _ ⟨g1.trans ge, ge _ _ hv, prP_mono ge.tp pv1, fun _ => hne⟩
    · rintro H2 ⟨g2, hv2, pv2, _⟩
      refine ⟨_, rfl, .inl ⟨rfl, _, SqL.of hv2⟩, _, rfl, _, _, rfl, rfl, ⟨by decide, by decide⟩, _, rfl, _, rfl, m / 16, rs, sg, rfl, hsg, fun v p H3 g3 P3 e1 e2 e3 e4 => ?_⟩
      have hv3 := g3 _ _ hv2
      refine ⟨r, _, _, rfl, rfl, hv3, small1000 (hxl ▸ hl1), ?_⟩
      have T3 : Tp H3 (upd H3 r (.lst (xs ++ [v]))) := Tp.lst hv3
      have P4 := P3.mono T3
      obtain ⟨a, vs, rfl, hs⟩ := wd_at P4
      refine ⟨_, rfl, _, rfl, _, rfl, r, _, _, _, rfl, rfl, SqL.of upd_same, atI_neg1 (by simp), a, _, _, _, rfl, rfl, hs.sq, atI_nat (j := 0) rfl, rfl, .inr ⟨_, rfl, _, _, rfl, rfl, ?_⟩⟩
      refine ⟨l ++ [p], xs ++ [.ref a], _, _, _, _, _, rfl, (g2.trans g3).young hr0 _, upd_same, (prP_mono T3 (prP_mono g3.tp pv2)).snoc P4, fun q hq => ?_, by rw [wH_snoc, e1]; exact Nat.succ_le_succ h1, by rw [wR_snoc]; exact Nat.add_le_add h2 e2, snoc_le h3, ro.step (by rw [List.flatMap_append, ← e4]; simp)⟩
      rcases List.mem_append.mp hq with z | z
      · exact okl q z
      · rw [List.mem_singleton.mp z]; exact e3
    · rintro H2 ⟨g2, hv2, pv2, hne⟩
      refine ⟨_, rfl, .inl ⟨rfl, _, SqL.of hv2⟩, _, rfl, _, rfl, _, _, rfl, rfl, ⟨by decide, by decide⟩, _, rfl, _, rfl, _, rfl, _, _, _, _, r, l, xs, rfl, hsg, hv2, pv2, hne rfl, okl, fun v p l' xs' H3 k3 hv3 pv3 P3 op ok3 e1 e2 e3 e4 => ?_⟩
      have hxl' := PySem.Paired.length pv3
      refine ⟨r, _, _, rfl, rfl, hv3, small1000 (hxl' ▸ Nat.le_trans (Nat.le_of_succ_le e3) hl1), ?_⟩
      have T3 : Tp H3 (upd H3 r (.lst (xs' ++ [v]))) := Tp.lst hv3
      refine ⟨_, rfl, _, rfl, rfl, .inr ⟨_, rfl, _, _, rfl, rfl, ?_⟩⟩
      refine ⟨_, rfl, _, rfl, rfl, .inr ⟨_, rfl, _, _, rfl, rfl, ?_⟩⟩
      refine ⟨l' ++ [p], xs' ++ [v], _, _, _, _, _, rfl, (g2.byKp hr0 k3).young hr0 _, upd_same, (prP_mono T3 pv3).snoc (P3.mono T3), fun q hq => ?_, by rw [wH_snoc]; exact Nat.le_trans e1 (Nat.succ_le_succ h1), by rw [wR_snoc]; exact Nat.le_trans e2 (Nat.succ_le_succ h2), by rw [List.length_append]; exact Nat.le_trans e3 (Nat.le_succ_of_le h3), ro.step (by rw [List.flatMap_append]; simpa using e4)⟩
      rcases List.mem_append.mp hq with z | z
      · exact ok3 q z
      · rw [List.mem_singleton.mp z]; exact op
  · rintro σ H1 ⟨l, xs, rs, tr, x5, x6, x7, rfl, g1, hv, pv1, okl, h1, h2, h3, ro⟩
    rw [List.length_map] at h1 h2 h3
    dsimp only [gName, tSeq, tAsg, tC]
    refine if_via fun nx hn' _ => ?_
    have main : ∀ (l : List Pt) (xs : List V) (H1 : Hp), Same H H1 → H1 r = some (.lst xs) → PrP K H1 l xs → ¬ l = [] → (∀ p ∈ l, okS sg p) → wH l ≤ ns.length + 1 → wR l ≤ ns.length → l.length ≤ ns.length + 1 → RO l rs0 rs → nx [some (.ref c), some (.int rs), some (.int sg), some (.ref r), some (.int tr), x5, x6, x7, none, none] H1 := by
      intro l xs H1 g1 hv pv1 hne okl h1 h2 h3 ro
      refine hn' _ _ ?_
      refine while_by (fun σ H1 => Ex4 fun (l : List Pt) (xs : List V) (x8 : Option V) (x9 : Option V) => An10 (σ = [some (.ref c), some (.int rs), some (.int sg), some (.ref r), some (.int tr), x5, x6, x7, x8, x9]) (Same H H1) (H1 r = some (.lst xs)) (PrP K H1 l xs) (¬ l = []) ((∀ p ∈ l, okS sg p)) (wH l ≤ ns.length + 1) (wR l ≤ ns.length) (l.length ≤ ns.length + 1) (RO l rs0 rs))
        (fun σ H1 => match H1 r with | some (.lst us) => us.length | _ => 0) ⟨l, xs, none, none, rfl, g1, hv, pv1, hne, okl, h1, h2, h3, ro⟩ ?_ ?_
      · rintro σ H1 ⟨l, xs, x8, x9, rfl, g1, hv, pv1, hne, okl, h1, h2, h3, ro⟩
        have hxl := PySem.Paired.length pv1
        refine ⟨_, rfl, r, _, rfl, .inl (SqL.of hv), _, _, rfl, rfl, _, rfl, ite2 (fun c => ?_) fun c => ?_⟩
        · have hl2 : 2 ≤ xs.length := by first | exact Int.ofNat_lt.mp (of_decide_eq_true c) | (have := of_decide_eq_true c; omega)
          obtain ⟨l0, p, ws, v, rfl, rfl, pv0, ap⟩ := prP_last pv1 hne
          have hne2 : ¬ l0 = [] := by
            rintro rfl
            cases pv0
            simp at hl2
          obtain ⟨l1, p2, ws1, v2, rfl, rfl, pv4, ap4⟩ := prP_last pv0 hne2
          rw [wH_snoc, wH_snoc] at h1
          rw [wR_snoc, wR_snoc] at h2
          have h3' : l1.length + 1 + 1 ≤ ns.length + 1 := by simpa using h3
          have hxl' := PySem.Paired.length pv4
          have pp := Pt.hg_pos p
          have pp2 := Pt.hg_pos p2
          refine ⟨_, rfl, .inl ⟨rfl, _, SqL.of hv⟩, r, _, v, rfl, rfl, hv, by simp, ?_⟩
          have T0 : Tp H1 (upd H1 r (.lst (ws1 ++ [v2] ++ [v]).dropLast)) := Tp.lst hv
          have hv0 : (upd H1 r (.lst (ws1 ++ [v2] ++ [v]).dropLast)) r = some (.lst (ws1 ++ [v2])) := by rw [upd_same]; simp
          have gz : Same H (upd H1 r (.lst (ws1 ++ [v2] ++ [v]).dropLast)) := g1.young hr0 _
          refine ⟨_, rfl, .inl ⟨rfl, _, SqL.of hv0⟩, r, _, v2, rfl, rfl, hv0, by simp, ?_⟩
          have T1 := T0.trans (Tp.lst (o := .lst (ws1 ++ [v2]).dropLast) hv0)
          have hv1 : (upd (upd H1 r (.lst (ws1 ++ [v2] ++ [v]).dropLast)) r (.lst (ws1 ++ [v2]).dropLast)) r = some (.lst ws1) := by rw [upd_same]; simp
          have gz2 : Same H (upd (upd H1 r (.lst (ws1 ++ [v2] ++ [v]).dropLast)) r (.lst (ws1 ++ [v2]).dropLast)) := gz.young hr0 _
          generalize (upd (upd H1 r (.lst (ws1 ++ [v2] ++ [v]).dropLast)) r (.lst (ws1 ++ [v2]).dropLast)) = H2 at hv1 gz2 T1
          refine ⟨_, rfl, .inl ⟨rfl, _, SqL.of hv1⟩, _, rfl, _, rfl, (by show 3 ≤ sizeLine; decide), fun t ht => ?_⟩
          have g3 := same_new ht (.tup [V.str "then", v2, v])
          have hv3 := g3 _ _ hv1
          refine ⟨r, _, _, rfl, rfl, hv3, small1000 (hxl' ▸ Nat.le_trans (Nat.le_of_succ_le (Nat.le_of_succ_le h3')) (Nat.le_trans (Nat.succ_le_succ hn) (by decide))), ?_⟩
          have T3 : Tp (upd H2 t (.tup [V.str "then", v2, v])) (upd (upd H2 t (.tup [V.str "then", v2, v])) r (.lst (ws1 ++ [.ref t]))) := Tp.lst hv3
          have T4 := T1.trans (g3.tp.trans T3)
          refine ⟨⟨l1 ++ [.thn p2 p], ws1 ++ [.ref t], _, _, rfl, (gz2.trans g3).young hr0 _, upd_same, PySem.Paired.snoc (a := Pt.thn p2 p) (prP_mono T4 pv4) (.t (.inl (T3 _ _ upd_same)) (.cons .s (.cons (ap4.mono T4) (.cons (ap.mono T4) .nil)))), by simp, fun q hq => ?_, ?_, ?_, by rw [List.length_append]; exact Nat.le_of_succ_le h3', ro.same (by simp [rsL])⟩, ?_⟩
          · rcases List.mem_append.mp hq with z | z
            · exact okl q (by simp [z])
            · rw [List.mem_singleton.mp z]; exact ⟨okl p2 (by simp), okl p (by simp)⟩
          · rw [wH_snoc]; exact Nat.le_trans (Nat.add_le_add_left (mx1 pp pp2) _) (by rw [Nat.add_comm p.hg, ← Nat.add_assoc]; exact h1)
          · rw [wR_snoc]; simp only [Pt.rc, Pt.sc]; rw [Nat.add_add_add_comm, ← Nat.add_assoc]; exact h2
          · show (match (upd (upd H2 t (.tup [V.str "then", v2, v])) r (.lst (ws1 ++ [.ref t]))) r with | some (.lst us) => us.length | _ => 0) < (match H1 r with | some (.lst us) => us.length | _ => 0)
            rw [upd_same, hv]
            simp
        · have hl1 : ¬ 1 < xs.length := fun z => c (decide_eq_true (by first | exact Int.ofNat_lt.mpr z | omega))
          obtain ⟨l0, p, ws, v, rfl, rfl, pv0, ap⟩ := prP_last pv1 hne
          have e0 : ws = [] := by
            cases ws with
            | nil => rfl
            | cons _ _ => simp at hl1
          subst e0
          cases pv0
          refine ⟨_, rfl, r, _, _, v, rfl, rfl, SqL.of hv, atI_nat (j := 0) rfl, _, rfl, (by show 2 ≤ sizeLine; decide), fun t ht => ?_⟩
          have g3 := same_new ht (.tup [v, .int rs])
          have eH : wH ([] ++ [p]) = p.hg := by simp [wH]
          have eR : wR ([] ++ [p]) = p.rc + p.sc := by simp [wR]
          rw [eH] at h1
          rw [eR] at h2
          exact q t v rs p _ (g1.trans g3) upd_same (ap.mono g3.tp) ⟨h1, h2, okl p (by simp)⟩ (by simpa using ro)
      · rintro σ H Q Q' h ⟨v, e, p, xs, e2, s, i, j, e3, e4, k, e5, q⟩
        exact ⟨v, e, p, xs, e2, s, i, j, e3, e4, k, e5, h _ _ q⟩
    refine ⟨_, rfl, (by show 0 ≤ sizeLine; decide), fun e he => ?_⟩
    have ge := same_new he (.lst [])
    have hve := ge _ _ hv
    refine ⟨r, e, _, rfl, rfl, SqL.of hve, SqL.of upd_same, _, rfl, ite2 (fun c => ?_) fun c => ?_⟩
    · have e0 : xs = [] := by
        cases xs with
        | nil => rfl
        | cons _ _ => exact absurd c (by simp)
      subst e0
      refine ⟨_, rfl, .inl ⟨rfl, _, SqL.of hve⟩, (by show 1 ≤ sizeLine; decide), fun t ht => ?_⟩
      have g3 := same_new ht (.tup [V.str "nothing"])
      refine ⟨r, _, _, rfl, rfl, g3 _ _ hve, (by show 0 < sizeLine; decide), ?_⟩
      have T3 := Tp.lst (o := .lst ([] ++ [.ref t])) (g3 _ _ hve)
      exact main [.nothing] [.ref t] _ ((g1.trans ge).trans g3 |>.young hr0 _) upd_same (.cons (.t (.inl (T3 _ _ upd_same)) (.cons .s .nil)) .nil) (by simp) (fun p hp => by rw [List.mem_singleton.mp hp]; trivial) (by simp [wH, Pt.hg]) (by simp [wR, Pt.rc, Pt.sc]) (by simp) (by cases pv1; exact ro.same (by simp [rsL]))
    · have hne : ¬ l = [] := by
        rintro rfl
        cases pv1
        exact c rfl
      exact main l xs _ (g1.trans ge) hve (prP_mono ge.tp pv1) hne okl (by omega) h2 (by omega) ro
end

end My
end

section
set_option Elab.async false
set_option linter.all false
set_option maxRecDepth 100000
set_option maxHeartbeats 4000000
namespace My
open PySem L2
theorem rem_nil (st : List Int) (p : Pt) : (rem st p).1 = [] → (rem st p).2 = p := by
  induction p with
  | nothing => intro _; rfl
  | send s => intro _; rfl
  | exit d => intro _; rfl
  | stay ks => intro _; rfl
  | rest k =>
    simp only [rem]
    split
    · intro h; cases h
    · intro _; rfl
  | iff s p q ih1 ih2 =>
    intro h
    have h' : (rem st p).1 ++ (rem st q).1 = [] := h
    obtain ⟨a, b⟩ := List.append_eq_nil_iff.mp h'
    show lp (.iff s p q) (rem st p) (rem st q) = _
    unfold lp
    dsimp only
    rw [if_neg (fun z => z a), if_neg (fun z => z b)]
  | thn p q ih1 ih2 =>
    intro h
    have h' : (rem st p).1 ++ (rem st q).1 = [] := h
    obtain ⟨a, b⟩ := List.append_eq_nil_iff.mp h'
    show lp (.thn p q) (rem st p) (rem st q) = _
    unfold lp
    dsimp only
    rw [if_pos b, ih1 a]
  | bes p q ih1 ih2 =>
    intro h
    have h' : (rem st p).1 ++ (rem st q).1 = [] := h
    obtain ⟨a, b⟩ := List.append_eq_nil_iff.mp h'
    show lp (.bes p q) (rem st p) (rem st q) = _
    unfold lp
    dsimp only
    rw [if_neg (fun z => z.1 a), if_neg (fun z => z a), if_neg (fun z => z b)]
  | again k p ih =>
    simp only [rem]
    split
    · intro h; cases h
    · intro h; unfold lr; rw [if_pos h]
  | hold s p ih => intro h; show lr (.hold s p) (rem st p) = _; unfold lr; rw [if_pos (show (rem st p).1 = [] from h)]
  | watch s p ih => intro h; show lr (.watch s p) (rem st p) = _; unfold lr; rw [if_pos (show (rem st p).1 = [] from h)]
  | trap p ih => intro h; show lr (.trap p) (rem st p) = _; unfold lr; rw [if_pos (show (rem st p).1 = [] from h)]
theorem stAt_mono {K : PySem.W.Frag} {H H' : Hp} (g : Same H H') {st : Option (List Int)} {v : V} (h : StAt K H st v) : StAt K H' st v := by
  cases st with
  | none => exact h
  | some l =>
    obtain ⟨a, e, hS⟩ := h
    exact ⟨a, e, g.seq hS⟩
theorem ne_state {K : PySem.W.Frag} {H : Hp} {st : Option (List Int)} {gv sv : V} {Q : VK} (h1 : StAt K H st gv) (h2 : StAt K H st sv) (q : Q (.bl false) H) : rNe gv sv H Q ∨ rEqI K true gv sv H Q := by
  cases st with
  | none =>
    have e1 : gv = .non := h1
    have e2 : sv = .non := h2
    subst e1 e2
    exact .inl ⟨rfl, q⟩
  | some l =>
    obtain ⟨a, rfl, h1⟩ := h1
    obtain ⟨b, rfl, h2⟩ := h2
    exact .inr ⟨a, b, l, l, rfl, rfl, h1, h2, by simpa using q⟩
inductive C_spCopied (K : PySem.W.Frag) (vs : List V) (H : Hp) (Q : VK) : Prop
  | mk (sv) (st) (c0 : vs = [sv]) (c1 : StAt K H st sv) (c2 : ∀ gv H', Same H H' → StAt K H' st gv → Q gv H') : C_spCopied K vs H Q
def spCopied (K : PySem.W.Frag) : Sp := fun vs H Q _ => C_spCopied K vs H Q
inductive C_spLaw (K : PySem.W.Frag) (vs : List V) (H : Hp) (Q : VK) : Prop
  | mk (a : Addr) (ns : List Int) (c0 : vs = [.ref a]) (c1 : SqL K H a (ns.map V.int)) (c2 : ns.length ≤ 63) (c3 : ∀ H', Q (.bl true) H') : C_spLaw K vs H Q
def spLaw (K : PySem.W.Frag) : Sp := fun vs H Q _ => C_spLaw K vs H Q
section
variable {P : Program} {w : World} {K : PySem.W.Frag} {mg : Str → Option Value} {base : Heap}
theorem ok_copied (F : FunM K mg "_law_copied" ["_law_state"] s__law_copied) (T : Txt mg) : Callee P w K mg base 1 "_law_copied" ["_law_state"] (spCopied K) := by
  refine F.ok sc__law_copied (fun vs H Q E h => ?_) (fun f cdv A outer s H vs Q E hr h => ?_)
  · obtain ⟨sv, st, rfl, _⟩ := h; rfl
  obtain ⟨sv, st, rfl, hst, q⟩ := h
  refine ⟨_, (pss_cons (ps_if (pt_cmpR op_isN (pv 0) pe_non (nomark _))
      (pss_one (ps_ret pe_non))
      pss_nil)
    (pss_one (ps_ret (pe_callTy call_list_of rfl T.n_list (by decide +kernel) (pa_cons (pv 0) pa_nil))))), ?_⟩
  cases st with
  | none =>
    have e : sv = .non := hst
    subst e
    exact ⟨_, rfl, rfl, _, rfl, iteT (q _ _ (Same.refl _) rfl)⟩
  | some l =>
    obtain ⟨b, rfl, hS⟩ := hst
    exact ⟨_, rfl, rfl, _, rfl, iteF ⟨_, rfl, b, _, rfl, .inl hS, fun r hr => q _ _ (same_new hr _) ⟨r, rfl, SqL.of upd_same⟩⟩⟩
end
theorem paired_of_right {α β : Type} {F : α → β → Prop} : ∀ {l : List α} {m : List β} {j : Nat} {y : β}, PySem.Paired F l m → m[j]? = some y → ∃ x, l[j]? = some x ∧ F x y
  | _, _, j, y, .nil, e => by simp at e
  | _, _, 0, y, .cons f t, e => by
    simp at e; subst e
    exact ⟨_, rfl, f⟩
  | _, _, j + 1, y, .cons f t, e => by
    obtain ⟨x, e1, e2⟩ := paired_of_right (j := j) t (by simpa using e)
    exact ⟨x, by simpa using e1, e2⟩
theorem any_perm {a b : List Int} (p : a.Perm b) (f : Int → Bool) : a.any f = b.any f := by
  rw [Bool.eq_iff_iff, List.any_eq_true, List.any_eq_true]
  exact ⟨fun ⟨x, h1, h2⟩ => ⟨x, p.subset h1, h2⟩, fun ⟨x, h1, h2⟩ => ⟨x, p.symm.subset h1, h2⟩⟩
set_option maxHeartbeats 16000000 in
/-! ### the rests of a part -/
theorem rsL_len (p : Pt) : (rsL p).length ≤ p.rc := by
  induction p with
  | thn p q h1 h2 => simp only [rsL, Pt.rc, List.length_append]; exact Nat.add_le_add h1 h2
  | bes p q h1 h2 => simp only [rsL, Pt.rc, List.length_append]; exact Nat.add_le_add h1 h2
  | iff s p q h1 h2 => simp only [rsL, Pt.rc, List.length_append]; exact Nat.add_le_add h1 h2
  | again k p h => exact Nat.succ_le_succ h
  | hold s p h => exact h
  | watch s p h => exact h
  | trap p h => exact h
  | rest k => exact Nat.le_refl _
  | _ => exact Nat.zero_le _
theorem rem_rs (st : List Int) {p : Pt} (h : okE p) : (rem st p).1 = (rsL p).filter fun k => decide (k ∈ st) := by
  induction p with
  | nothing => rfl
  | send s => rfl
  | exit d => rfl
  | stay ks => exact h.elim
  | rest k =>
    simp only [rem, rsL]
    by_cases c : k ∈ st
    · rw [if_pos c]; simp [c]
    · rw [if_neg c]; simp [c]
  | iff s p q ih1 ih2 => simp only [rem, rsL, List.filter_append, ih1 h.1, ih2 h.2]
  | thn p q ih1 ih2 => simp only [rem, rsL, List.filter_append, ih1 h.1, ih2 h.2]
  | bes p q ih1 ih2 => simp only [rem, rsL, List.filter_append, ih1 h.1, ih2 h.2]
  | again k p ih =>
    have h : okE p := h
    simp only [rem, rsL]
    by_cases c : k ∈ st
    · rw [if_pos c]; simp [c, ih h]
    · rw [if_neg c]; simp [c, ih h]
  | hold s p ih => exact ih h
  | watch s p ih => exact ih h
  | trap p ih => exact ih h
def goesP (p : Pt) : Option (List Int) → Bool
  | none => false
  | some l => (rsL p).any fun k => decide (k ∈ l)
theorem goes_rem {l : List Int} {p : Pt} (h : okE p) : goesP p (some l) = true ↔ ¬ (rem l p).1 = [] := by
  rw [rem_rs l h]
  show (rsL p).any _ = true ↔ _
  rw [List.any_eq_true, List.filter_eq_nil_iff]
  constructor
  · rintro ⟨k, h1, h2⟩ z
    exact z k h1 h2
  · intro z
    refine Classical.byContradiction fun n => z fun k h1 h2 => n ⟨k, h1, h2⟩
theorem pb_not {p : Pt} {st : Option (List Int)} (h : okE p) (g : ¬ goesP p st = true) : pb p st = p := by
  cases st with
  | none => rfl
  | some l => exact rem_nil l p (Classical.byContradiction fun z => g ((goes_rem h).mpr z))
abbrev Ch := Int ⊕ Pt
def tl : Pt → List Ch
  | .nothing => []
  | .rest k => [.inl k]
  | .send s => [.inl s]
  | .exit d => [.inl d]
  | .stay _ => []
  | .iff s p q => [.inl s, .inr p, .inr q]
  | .again k p => [.inl k, .inr p]
  | .hold s p => [.inl s, .inr p]
  | .watch s p => [.inl s, .inr p]
  | .trap p => [.inr p]
  | .thn p q => [.inr p, .inr q]
  | .bes p q => [.inr p, .inr q]
def chR : Ch → List Int
  | .inl _ => []
  | .inr p => rsL p
def ChAt (K : PySem.W.Frag) (H : Hp) : Ch → V → Prop
  | .inl n, v => v = .int n
  | .inr p, v => PAt K H (Pt.nd p) v
def ownR : Pt → List Int
  | .rest k => [k]
  | .again k _ => [k]
  | _ => []
theorem ownR_no {p : Pt} (h1 : ¬ wdP p = "rest") (h2 : ¬ wdP p = "again") : ownR p = [] := by cases p <;> first | rfl | exact absurd rfl h1 | exact absurd rfl h2
theorem rsL_tl {p : Pt} (h : okE p) : rsL p = ownR p ++ (tl p).flatMap chR := by
  cases p <;> first | exact h.elim | (simp [rsL, ownR, tl, chR])
theorem tl_at {K : PySem.W.Frag} {H : Hp} {p : Pt} {v : V} (hok : okE p) (h : PAt K H (Pt.nd p) v) : ∃ a vs, v = .ref a ∧ TupAt K H a (.str (wdP p) :: vs) ∧ PySem.Paired (ChAt K H) (tl p) vs := by
  cases p with
  | stay ks => exact hok.elim
  | nothing => obtain ⟨a, vs, rfl, hs, hx⟩ := PAt.get h; obtain ⟨x0, rfl, h0⟩ := hx.one; cases h0.str; exact ⟨a, _, rfl, hs, .nil⟩
  | rest k => obtain ⟨a, vs, rfl, hs, hx⟩ := PAt.get h; obtain ⟨x0, x1, rfl, h0, h1⟩ := hx.two; cases h0.str; exact ⟨a, _, rfl, hs, .cons h1.int .nil⟩
  | send k => obtain ⟨a, vs, rfl, hs, hx⟩ := PAt.get h; obtain ⟨x0, x1, rfl, h0, h1⟩ := hx.two; cases h0.str; exact ⟨a, _, rfl, hs, .cons h1.int .nil⟩
  | exit k => obtain ⟨a, vs, rfl, hs, hx⟩ := PAt.get h; obtain ⟨x0, x1, rfl, h0, h1⟩ := hx.two; cases h0.str; exact ⟨a, _, rfl, hs, .cons h1.int .nil⟩
  | trap p => obtain ⟨a, vs, rfl, hs, hx⟩ := PAt.get h; obtain ⟨x0, x1, rfl, h0, h1⟩ := hx.two; cases h0.str; exact ⟨a, _, rfl, hs, .cons h1 .nil⟩
  | again k p => obtain ⟨a, vs, rfl, hs, hx⟩ := PAt.get h; obtain ⟨x0, x1, x2, rfl, h0, h1, h2⟩ := hx.three; cases h0.str; exact ⟨a, _, rfl, hs, .cons h1.int (.cons h2 .nil)⟩
  | hold k p => obtain ⟨a, vs, rfl, hs, hx⟩ := PAt.get h; obtain ⟨x0, x1, x2, rfl, h0, h1, h2⟩ := hx.three; cases h0.str; exact ⟨a, _, rfl, hs, .cons h1.int (.cons h2 .nil)⟩
  | watch k p => obtain ⟨a, vs, rfl, hs, hx⟩ := PAt.get h; obtain ⟨x0, x1, x2, rfl, h0, h1, h2⟩ := hx.three; cases h0.str; exact ⟨a, _, rfl, hs, .cons h1.int (.cons h2 .nil)⟩
  | thn p q => obtain ⟨a, vs, rfl, hs, hx⟩ := PAt.get h; obtain ⟨x0, x1, x2, rfl, h0, h1, h2⟩ := hx.three; cases h0.str; exact ⟨a, _, rfl, hs, .cons h1 (.cons h2 .nil)⟩
  | bes p q => obtain ⟨a, vs, rfl, hs, hx⟩ := PAt.get h; obtain ⟨x0, x1, x2, rfl, h0, h1, h2⟩ := hx.three; cases h0.str; exact ⟨a, _, rfl, hs, .cons h1 (.cons h2 .nil)⟩
  | iff s p q => obtain ⟨a, vs, rfl, hs, hx⟩ := PAt.get h; obtain ⟨x0, x1, x2, x3, rfl, h0, h1, h2, h3⟩ := hx.four; cases h0.str; exact ⟨a, _, rfl, hs, .cons h1.int (.cons h2 (.cons h3 .nil))⟩
theorem tl_in {p q : Pt} (h : Sum.inr q ∈ tl p) : (okE p → okE q) ∧ q.hg + 1 ≤ p.hg ∧ q.rc ≤ p.rc ∧ q.sc ≤ p.sc := by
  cases p <;> simp only [tl, List.mem_cons, List.not_mem_nil, or_false, reduceCtorEq, false_or, Sum.inr.injEq] at h <;> first | exact h.elim | (subst h; exact ⟨fun z => z, Nat.le_refl _, by first | exact Nat.le_refl _ | exact Nat.le_succ _, Nat.le_refl _⟩) | (rcases h with rfl | rfl; (exact ⟨fun z => z.1, Nat.succ_le_succ (Nat.le_max_left _ _), Nat.le_add_right _ _, Nat.le_add_right _ _⟩); (exact ⟨fun z => z.2, Nat.succ_le_succ (Nat.le_max_right _ _), Nat.le_add_left _ _, Nat.le_add_left _ _⟩))
theorem tl_short (p : Pt) : (tl p).length ≤ 3 := by cases p <;> simp [tl]
theorem flat_take {l : List Ch} {i : Nat} {c : Ch} (h : l[i]? = some c) : (l.take (i + 1)).flatMap chR = (l.take i).flatMap chR ++ chR c := by
  rw [List.take_add_one, h]; simp
theorem flat_len {p : Pt} (h : okE p) (i : Nat) : (ownR p ++ ((tl p).take i).flatMap chR).length ≤ p.rc := by
  have h1 := rsL_len p
  rw [rsL_tl h] at h1
  rw [List.length_append] at h1 ⊢
  have h2 : (((tl p).take i).flatMap chR).length ≤ ((tl p).flatMap chR).length := by
    have e : (tl p).flatMap chR = ((tl p).take i).flatMap chR ++ ((tl p).drop i).flatMap chR := by rw [← List.flatMap_append, List.take_append_drop]
    rw [e, List.length_append]; exact Nat.le_add_right _ _
  exact Nat.le_trans (Nat.add_le_add_left h2 _) h1
inductive C_spRs (K : PySem.W.Frag) (n : Nat) (vs : List V) (H : Hp) (Q : VK) : Prop
  | mk (v) (p) (c0 : vs = [v]) (c1 : PAt K H (Pt.nd p) v) (c2 : okE p) (c3 : p.hg ≤ n) (c4 : p.rc < 64) (c5 : ∀ r H', Same H H' → H' r = some (.lst ((sortI (rsL p)).map V.int)) → Q (.ref r) H') : C_spRs K n vs H Q
def spRs (K : PySem.W.Frag) (n : Nat) : Sp := fun vs H Q _ => C_spRs K n vs H Q
inductive C_spGoes (K : PySem.W.Frag) (n : Nat) (vs : List V) (H : Hp) (Q : VK) : Prop
  | mk (v) (p) (sv) (st) (c0 : vs = [v, sv]) (c1 : PAt K H (Pt.nd p) v) (c2 : okE p) (c3 : p.hg ≤ n) (c4 : p.rc < 64) (c5 : StAt K H st sv) (c6 : ∀ H', Same H H' → Q (.bl (goesP p st)) H') : C_spGoes K n vs H Q
def spGoes (K : PySem.W.Frag) (n : Nat) : Sp := fun vs H Q _ => C_spGoes K n vs H Q
section
variable {P : Program} {w : World} {K : PySem.W.Frag} {mg : Str → Option Value} {base : Heap}
set_option maxHeartbeats 16000000 in
theorem ok_rs {n : Nat} (F : FunM K mg "_law_rests" ["_law_part"] s__law_rests) (T : Txt mg) (C__law_rests : Callee P w K mg base n "_law_rests" ["_law_part"] (spRs K n)) : Callee P w K mg base (n + 1) "_law_rests" ["_law_part"] (spRs K (n + 1)) := by
  refine F.ok sc__law_rests (fun vs H Q E h => ?_) (fun f cdv A outer s H vs Q E hr h => ?_)
  · obtain ⟨v, p, rfl, _⟩ := h; rfl
  obtain ⟨v, p, rfl, hp, ok, hh, hc, q⟩ := h
  refine ⟨_, (pss_cons (ps_set (i := 1) sc__law_rests.nd rfl (Or.inl rfl) (pe_lst pa_nil))
    (pss_cons (ps_if (PW.pt (pw_or (pt_cmpR op_eq (pe_ix ix_tup (pv 0) pe_int (fun _ _ => rfl)) pe_str (nomark _)) (pw_or1 (pt_cmpR op_eq (pe_ix ix_tup (pv 0) pe_int (fun _ _ => rfl)) pe_str (nomark _)))))
      (pss_one (ps_expr (pe_bm PySem.F.plainAttrs_list PySem.F.slot_list_append PySem.F.type_list_append mt_append (pv 1) (pa_cons (pe_ix ix_tup (pv 0) pe_int (fun _ _ => rfl)) pa_nil))))
      pss_nil)
    (pss_cons (ps_for PassesOwn.never rfl (pi_tup (pe_slice sl_tup (pv 0) (po_some pe_int) po_none)) (pg_name (i := 2) sc__law_rests.nd rfl (Or.inl rfl))
      (pss_one (ps_if (pt_val (pe_callB call_isinstK rfl T.n_isinstance PyProof.Rows.boot_isinstance (pa_cons (pv 2) (pa_cons (pe_bltn rfl T.n_tuple (by decide +kernel) (v := .ty "tuple") rfl) pa_nil))))
      (pss_one (ps_set (i := 1) sc__law_rests.nd rfl (Or.inl rfl) (pe_op op_cat (pv 1) (pe_callC C__law_rests hr rfl pass0 (pa_cons (pv 2) pa_nil)))))
      pss_nil)))
    (pss_one (ps_ret (pe_callB call_sorted rfl T.n_sorted (by decide +kernel) (pa_cons (pv 1) pa_nil))))))), ?_⟩
  obtain ⟨a, vs, rfl, hs, hx⟩ := tl_at ok hp
  have hvl := PySem.Paired.length hx
  have hts := tl_short p
  refine ⟨(by show 0 ≤ sizeLine; decide), fun l0 hl0 => ?_⟩
  have g0 := same_new hl0 (.lst [])
  dsimp only [gName, tSeq, tAsg, tC]
  refine if_via fun nx hn _ => ?_
  have main : ∀ (H1 : Hp), Same H H1 → H1 l0 = some (.lst ((ownR p).map V.int)) → nx [some (.ref a), some (.ref l0), none] H1 := by
    intro H1 g1 e1
    refine hn _ _ ?_
    refine ⟨_, rfl, _, rfl, a, _, rfl, (hs.mono g1.tp).sq, tail_not, fun tp htp => ?_⟩
    have g2 := same_new htp (.tup (cutV (.str (wdP p) :: vs) (some 1) none))
    have e2 : (upd H1 tp (.tup (cutV (.str (wdP p) :: vs) (some 1) none))) tp = some (.tup vs) := by rw [upd_same, tail_cut]
    have e1' := g2 _ _ e1
    generalize (upd H1 tp (.tup (cutV (.str (wdP p) :: vs) (some 1) none))) = H2 at g2 e2 e1'
    have g12 := g1.trans g2
    refine ⟨tp, rfl, ⟨_, SqT.of e2⟩, for_tup (K := K) (a := tp) (xs := vs) (fun i σ H3 => Ex3 fun lc ms x2 => An4 (σ = [some (.ref a), some (.ref lc), x2]) (Same H2 H3) (H3 lc = some (.lst ((ms : List Int).map V.int))) (ms.Perm (ownR p ++ ((tl p).take i).flatMap chR))) ⟨l0, ownR p, none, rfl, Same.refl _, e1', by simp⟩ (fun i σ H3 _ h => by obtain ⟨_, _, _, _, g, _⟩ := h; exact SqT.of (g _ _ e2)) ?_ ?_⟩
    · rintro i y σ H3 hi ⟨lc, ms, x2, rfl, g3, e3, pm⟩
      obtain ⟨c, ec, hcv⟩ := paired_of_right hx hi
      have fl := flat_len ok (i + 1)
      rw [flat_take ec, ← List.append_assoc, List.length_append] at fl
      have pml := pm.length_eq
      cases c with
      | inl k =>
        have e : y = .int k := hcv
        subst e
        refine ⟨_, rfl, _, _, _, _, rfl, .inl (.int k), rfl, _, rfl, iteF ?_⟩
        refine ⟨lc, ms, _, rfl, g3, e3, ?_⟩
        rw [flat_take ec]
        simpa [chR] using pm
      | inr q' =>
        have hq : PAt K H3 (Pt.nd q') y := PAt.mono (g12.trans g3).tp hcv
        obtain ⟨o1, o2, o3, o4⟩ := tl_in (List.mem_of_getElem? ec)
        obtain ⟨ty, hty, hk⟩ := tyk_of (K := K) hq
        have it : isT (Pt.nd q') = true := by cases q' <;> rfl
        rw [it] at hk
        refine ⟨_, rfl, _, _, _, _, rfl, hty, hk, _, rfl, iteT ?_⟩
        refine ⟨_, rfl, _, rfl, y, q', rfl, hq, o1 ok, by first | exact Nat.le_of_succ_le_succ (Nat.le_trans o2 hh) | omega, by first | exact Nat.lt_of_le_of_lt o3 hc | omega, fun r H4 g4 e4 => ?_⟩
        have e3' := g4 _ _ e3
        have sl := (sortI_perm (rsL q')).length_eq
        refine ⟨lc, r, _, _, rfl, rfl, e3', e4, by rw [List.length_map, List.length_map]; have : (chR (Sum.inr q')).length = (rsL q').length := rfl; exact small (by omega), fun l2 hl2 => ?_⟩
        have g5 := same_new hl2 (.lst (ms.map V.int ++ (sortI (rsL q')).map V.int))
        refine ⟨l2, ms ++ sortI (rsL q'), _, rfl, (g3.trans g4).trans g5, by rw [upd_same, List.map_append], ?_⟩
        rw [flat_take ec, ← List.append_assoc]
        exact pm.append (sortI_perm _)
    · rintro σ H3 ⟨lc, ms, x2, rfl, g3, e3, pm⟩
      rw [List.take_of_length_le (by omega), ← rsL_tl ok] at pm
      have pml := pm.length_eq
      have rl := rsL_len p
      refine ⟨_, rfl, lc, ms, rfl, SqL.of e3, by first | (rw [pml]; exact Nat.lt_of_le_of_lt rl hc) | omega, fun r zs hr pz oz => ?_⟩
      cases sortI_eq (pz.trans pm) oz
      exact q _ _ ((g12.trans g3).trans (same_new hr _)) upd_same
  refine (rdy (j := 0) ((hs.mono g0.tp).sq) rfl rfl ⟨rfl, _, rfl, iteW (fun z => iteT ?_) fun n1 => (rdy (j := 0) ((hs.mono g0.tp).sq) rfl rfl ⟨rfl, _, rfl, iteW (fun z => ?_) fun n2 => main _ g0 (by rw [ownR_no n1 n2]; exact upd_same)⟩)⟩)
  · obtain ⟨k, rfl⟩ := wd_rest z
    cases hx with
    | cons e t =>
      cases t
      have e : _ = V.int k := e
      subst e
      exact ⟨_, rfl, .inl ⟨rfl, _, SqL.of upd_same⟩, rdy (j := 1) ((hs.mono g0.tp).sq) rfl rfl ⟨l0, _, _, rfl, rfl, upd_same, (by show 0 < sizeLine; decide), main _ (g0.young hl0 _) upd_same⟩⟩
  · obtain ⟨k, p, rfl⟩ := wd_again z
    cases hx with
    | cons e t =>
      have e : _ = V.int k := e
      subst e
      exact ⟨_, rfl, .inl ⟨rfl, _, SqL.of upd_same⟩, rdy (j := 1) ((hs.mono g0.tp).sq) rfl rfl ⟨l0, _, _, rfl, rfl, upd_same, (by show 0 < sizeLine; decide), main _ (g0.young hl0 _) upd_same⟩⟩
theorem rs_all (F : FunM K mg "_law_rests" ["_law_part"] s__law_rests) (T : Txt mg) : ∀ n, Callee P w K mg base n "_law_rests" ["_law_part"] (spRs K n)
  | 0 => F.zero (sp := spRs K 0) fun vs H Q E h => by obtain ⟨v, p, _, _, _, hh, _⟩ := h; exact absurd hh (Nat.not_le_of_gt (Pt.hg_pos p))
  | n + 1 => ok_rs F T (rs_all F T n)
theorem ok_goes {n : Nat} (F : FunM K mg "_law_goes" ["_law_part", "_law_state"] s__law_goes) (T : Txt mg) (C__law_rests : Callee P w K mg base n "_law_rests" ["_law_part"] (spRs K n)) : Callee P w K mg base (n + 1) "_law_goes" ["_law_part", "_law_state"] (spGoes K n) := by
  refine F.ok sc__law_goes (fun vs H Q E h => ?_) (fun f cdv A outer s H vs Q E hr h => ?_)
  · obtain ⟨v, p, sv, st, rfl, _⟩ := h; rfl
  obtain ⟨v, p, sv, st, rfl, hp, ok, hh, hc, hst, q⟩ := h
  refine ⟨_, (pss_one (ps_ret (pe_and (pe_cmpR op_notN (pv 1) pe_non (nomark _)) (pe_one (pe_callB (call_any rfl) rfl T.n_any (by decide +kernel) (pa_cons (pe_comp (g := (gName 0)) (tc := tAlways) (te := (tOp (rIn K false) (tVar 0) (tVar 1))) ["_law_rest"] [("_law_state", 1)] rfl (compOk (defScope s__law_goes) ["_law_part", "_law_state"] (by decide +kernel)) (pi_list (pe_callC C__law_rests hr rfl pass0 (pa_cons (pv 0) pa_nil))) (fun s2 H2 fp cl C => pg_name (i := 0) (show List.Nodup [("_law_rest" : Str), ("_law_state" : Str)] from by decide +kernel) rfl (Or.inl rfl)) (gkeep_name (by decide)) (fun s2 H2 fp cl C => pif_nil) (fun s2 H2 fp cl C => (pe_cmpR op_in_seq (pv 0) (pv 1) (by rfl)))) pa_nil)))))), ?_⟩
  cases st with
  | none =>
    have e : sv = .non := hst
    subst e
    exact ⟨_, rfl, rfl, false, rfl, iteF (q _ (Same.refl _))⟩
  | some l =>
    obtain ⟨b, rfl, hS⟩ := hst
    refine ⟨_, rfl, rfl, true, rfl, iteT ?_⟩
    refine ⟨_, rfl, v, p, rfl, hp, ok, hh, hc, fun r H1 g1 e1 => ?_⟩
    have sl := (sortI_perm (rsL p)).length_eq
    have rl := rsL_len p
    refine ⟨r, rfl, ⟨_, SqL.of e1⟩, comp_list (K := K) (xs := (sortI (rsL p)).map V.int) (fun i ys H' => H' = H1 ∧ ys = (((sortI (rsL p)).take i).map fun k => decide (k ∈ l)).map V.bl) ⟨rfl, by simp⟩ (by rw [List.length_map]; exact small (by omega)) (fun i ys H' ⟨e, _⟩ => by rw [e]; exact SqL.of e1) ?_ ?_⟩
    · rintro i x ys H' Nx hi ⟨rfl, rfl⟩ hN hyl
      rw [List.getElem?_map] at hi
      cases e : (sortI (rsL p))[i]? with
      | none => rw [e] at hi; cases hi
      | some z =>
        rw [e] at hi
        cases hi
        refine ⟨_, rfl, _, rfl, b, _, rfl, .inl (g1.seq hS), rfl, flat_ints l, hN _ _ ?_ ⟨rfl, ?_⟩⟩
        · exact snoc_le hyl
        · rw [if_neg Bool.false_ne_true, inV_ints, List.take_add_one, e]
          simp
    · rintro ys H' hyl ⟨rfl, rfl⟩ D hD
      rw [List.length_map, List.take_of_length_le (Nat.le_refl _)]
      refine ⟨D, _, rfl, SqL.of upd_same, ?_⟩
      have e : ((sortI (rsL p)).map fun k => decide (k ∈ l)).any id = goesP p (some l) := by
        rw [List.any_map]
        show _ = (rsL p).any _
        exact any_perm (sortI_perm _) _
      rw [e]
      exact q _ (g1.trans (same_new hD _))
end
theorem mx_lel (a b : Int) : a ≤ mx a b := by
  unfold mx; split
  · next c => exact Int.le_of_lt c
  · exact Int.le_refl _
theorem mx_ler (a b : Int) : b ≤ mx a b := by
  unfold mx; split
  · exact Int.le_refl _
  · next c => exact Int.not_lt.mp c
theorem mx_or (a b : Int) : mx a b = a ∨ mx a b = b := by
  unfold mx; split
  · exact .inr rfl
  · exact .inl rfl
theorem wbeg_sg {sg : Int} (kn : List (Option Bool)) {p : Pt} (h : okW sg p) : ∀ s x, (x ∈ (wbeg kn s p).2.2.1 ∨ x ∈ (wbeg kn s p).2.2.2) → 0 ≤ x ∧ x < sg := by
  induction p with
  | thn p q ih1 ih2 =>
    intro s x
    simp only [wbeg]
    split
    · simp only [turnW, List.mem_append]
      rintro ((z | z) | (z | z))
      · exact ih1 h.1 _ x (.inl z)
      · exact ih2 h.2 _ x (.inl z)
      · exact ih1 h.1 _ x (.inr z)
      · exact ih2 h.2 _ x (.inr z)
    · exact ih1 h.1 s x
  | bes p q ih1 ih2 =>
    intro s x
    simp only [wbeg, sideW, List.mem_append]
    rintro ((z | z) | (z | z))
    · exact ih1 h.1 _ x (.inl z)
    · exact ih2 h.2 _ x (.inl z)
    · exact ih1 h.1 _ x (.inr z)
    · exact ih2 h.2 _ x (.inr z)
  | iff y p q ih1 ih2 =>
    intro s x
    simp only [wbeg]
    split
    · simp only [oneW, List.mem_append]
      rintro (z | (z | z))
      · cases z
      · exact ih1 h.2.1 _ x (.inr z)
      · exact ih2 h.2.2 _ x (.inr z)
    · exact ih1 h.2.1 s x
    · exact ih2 h.2.2 s x
  | again k p ih => intro s x; exact ih h s x
  | hold y p ih => intro s x; exact ih h.2 s x
  | watch y p ih => intro s x; exact ih h.2 s x
  | trap p ih => intro s x; exact ih h s x
  | send y =>
    intro s x hx
    have : x = y := by
      rcases hx with z | z
      · cases s
        · cases z
        · exact List.mem_singleton.mp z
      · exact List.mem_singleton.mp z
    rw [this]
    exact h
  | nothing => intro s x hx; rcases hx with z | z <;> cases z
  | exit d => intro s x hx; rcases hx with z | z <;> cases z
  | rest d => intro s x hx; rcases hx with z | z <;> cases z
  | stay d => intro s x hx; rcases hx with z | z <;> cases z
structure Gw (d : Wk) : Prop where
  r1 : d.1.Pairwise (· < ·)
  r2 : d.2.2.1.Pairwise (· < ·)
  r3 : d.2.2.2.Pairwise (· < ·)
  n1 : ∀ x ∈ d.1, 0 ≤ x
  n2 : ∀ x ∈ d.2.2.1, 0 ≤ x
  n3 : ∀ x ∈ d.2.2.2, 0 ≤ x
  l1 : d.1.length < 64
  l2 : d.2.2.1.length < 64
  l3 : d.2.2.2.length < 64
theorem gw_walk {sg : Int} {kn : List (Option Bool)} {s : Bool} {p : Pt} {st : Option (List Int)} (h : okW sg p) (hs : p.sc < 64) : Gw (walkD kn s p st) := by
  have h' := okW_pb h st
  have c := cw_beg kn h' s
  have k2 : (pb p st).sc ≤ p.sc := by cases st with | none => exact Nat.le_refl _ | some l => exact rem_sc l p
  have wl := wbeg_len kn (pb p st) s
  have n1 := nub_len (wbeg kn s (pb p st)).2.2.1
  have n2 := nub_len (wbeg kn s (pb p st)).2.2.2
  have := c.len
  exact ⟨c.ri, rise_nub _, rise_nub _, fun x hx => (c.bd x hx).1, fun x hx => (wbeg_sg kn h' s x (.inl (mem_nub.mp hx))).1, fun x hx => (wbeg_sg kn h' s x (.inr (mem_nub.mp hx))).1,
    Nat.lt_of_le_of_lt c.len (by decide), Nat.lt_of_le_of_lt n1 (Nat.lt_of_le_of_lt (Nat.le_trans wl.1 k2) hs), Nat.lt_of_le_of_lt n2 (Nat.lt_of_le_of_lt (Nat.le_trans wl.2 k2) hs)⟩
inductive C_spRising (K : PySem.W.Frag) (vs : List V) (H : Hp) (Q : VK) : Prop
  | mk (a : Addr) (ns : List Int) (c0 : vs = [.ref a]) (c1 : H a = some (.lst (ns.map V.int))) (c2 : ns.Pairwise (· < ·)) (c3 : (∀ x ∈ ns, 0 ≤ x)) (c4 : ns.length < 64) (c5 : ∀ H', Same H H' → Q (.bl true) H') : C_spRising K vs H Q
def spRising (K : PySem.W.Frag) : Sp := fun vs H Q _ => C_spRising K vs H Q
inductive C_spFormed  (vs : List V) (H : Hp) (Q : VK) : Prop
  | mk (t : Addr) (d : Wk) (c0 : vs = [.ref t]) (c1 : WkAt H t d) (c2 : Gw d) (c3 : ∀ H', Same H H' → Q (.bl true) H') : C_spFormed  vs H Q
def spFormed : Sp := fun vs H Q _ => C_spFormed  vs H Q
section
variable {P : Program} {w : World} {K : PySem.W.Frag} {mg : Str → Option Value} {base : Heap} {aN aP aR : Addr} {uE uR uL : Value}
set_option maxHeartbeats 16000000 in
theorem ok_rising (F : FunM K mg "_law_rising" ["_law_row"] s__law_rising) (T : Txt mg) (C__law_whole : Callee P w K mg base 1 "_law_whole" ["_law_found"] spWhole) : Callee P w K mg base 2 "_law_rising" ["_law_row"] (spRising K) := by
  refine F.ok sc__law_rising (fun vs H Q E h => ?_) (fun f cdv A outer s H vs Q E hr h => ?_)
  · obtain ⟨a, ns, rfl, _⟩ := h; rfl
  obtain ⟨a, ns, rfl, ha, ri, nn, hl, q⟩ := h
  refine ⟨_, (pss_cons (ps_if (PW.pt (pw_or (pt_not (pt_val (pe_callB call_isinstK rfl T.n_isinstance PyProof.Rows.boot_isinstance (pa_cons (pv 0) (pa_cons (pe_bltn rfl T.n_list (by decide +kernel) (v := .ty "list") rfl) pa_nil))))) (pw_or1 (pt_not (pt_val (pe_callB (call_all rfl) rfl T.n_all (by decide +kernel) (pa_cons (pe_comp (g := (gName 0)) (tc := tAlways) (te := (tAndV (tCall spWhole [] E0 (tCons (tVar 0) tNil)) (tOp (rI0 fun i j => .bl (decide (j ≤ i))) (tVar 0) (tC (.int 0))))) ["_law_one"] [] rfl (compOk (defScope s__law_rising) ["_law_row"] (by decide +kernel)) (pi_list (pv 0)) (fun s2 H2 fp cl C => pg_name (i := 0) (show List.Nodup [("_law_one" : Str)] from by decide +kernel) rfl (Or.inl rfl)) (gkeep_name (by decide)) (fun s2 H2 fp cl C => pif_nil) (fun s2 H2 fp cl C => (pe_and (pe_callC C__law_whole hr rfl pass0 (pa_cons (pv 0) pa_nil)) (pe_one (pe_cmpR op_ge (pv 0) pe_int (nomark _)))))) pa_nil)))))))
      (pss_one (ps_ret pe_bl))
      pss_nil)
    (pss_one (ps_ret (pe_cmpR (op_eqI hr.units0) (pv 0) (pe_sset rfl rfl T.n_sorted rfl T.n_set (pv 0)) (nomark _))))), ?_⟩
  refine ⟨_, rfl, _, _, _, _, rfl, .inl (.lst ha), rfl, _, rfl, iteF ?_⟩
  refine ⟨_, rfl, a, rfl, ⟨_, SqL.of ha⟩, comp_list (K := K) (xs := ns.map V.int) (fun i ys H' => H' = H ∧ ys = (List.replicate i true).map V.bl) ⟨rfl, rfl⟩ (by rw [List.length_map]; exact small (by omega)) (fun i ys H' ⟨e, _⟩ => by rw [e]; exact SqL.of ha) ?_ ?_⟩
  · rintro j z ys H' N hj ⟨rfl, rfl⟩ hN hyl
    rw [List.getElem?_map] at hj
    cases ej : ns[j]? with
    | none => rw [ej] at hj; cases hj
    | some c =>
      rw [ej] at hj
      cases hj
      refine ⟨_, rfl, c, rfl, _, rfl, iteT ⟨_, rfl, _, _, rfl, rfl, hN _ _ ?_ ⟨rfl, ?_⟩⟩⟩
      · exact snoc_le hyl
      · show _ ++ [V.bl (decide (0 ≤ c))] = _
        rw [decide_eq_true (nn c (List.mem_of_getElem? ej)), List.replicate_succ', List.map_append]; rfl
  · rintro ys H' hyl ⟨rfl, rfl⟩ D hD
    have k1 := same_new hD (.lst ((List.replicate (ns.map V.int).length true).map V.bl))
    refine ⟨D, _, rfl, SqL.of upd_same, _, rfl, ?_⟩
    have e : (List.replicate (ns.map V.int).length true).all id = true := by simp
    rw [e]
    refine iteF ⟨_, rfl, _, rfl, a, ns, rfl, SqL.of (k1 _ _ ha), hl, fun r hr => ?_⟩
    have k2 := same_new hr (.lst ((nub ns).map V.int))
    refine ⟨a, r, ns, nub ns, rfl, rfl, SqL.of (k2 _ _ (k1 _ _ ha)), SqL.of upd_same, ?_⟩
    rw [if_neg Bool.false_ne_true, decide_eq_true (nub_eq ri fun k => Iff.rfl)]
    exact q _ (k1.trans k2)
set_option maxHeartbeats 16000000 in
theorem ok_formed (F : FunM K mg "_law_formed" ["_law_found"] s__law_formed) (T : Txt mg) (C__law_rising : Callee P w K mg base 2 "_law_rising" ["_law_row"] (spRising K)) : Callee P w K mg base 3 "_law_formed" ["_law_found"] spFormed := by
  refine F.ok sc__law_formed (fun vs H Q E h => ?_) (fun f cdv A outer s H vs Q E hr h => ?_)
  · obtain ⟨t, d, rfl, _⟩ := h; rfl
  obtain ⟨t, d, rfl, ⟨l1, l2, l3, a1, a2, a3, a4⟩, gw, q⟩ := h
  refine ⟨_, (pss_cons (ps_if (PW.pt (pw_or (pt_not (pt_val (pe_callB call_isinstK rfl T.n_isinstance PyProof.Rows.boot_isinstance (pa_cons (pv 0) (pa_cons (pe_bltn rfl T.n_tuple (by decide +kernel) (v := .ty "tuple") rfl) pa_nil))))) (pw_or (pt_cmpR op_ne (pe_callB call_lenK rfl T.n_len PySem.boot_len (pa_cons (pv 0) pa_nil)) pe_int (nomark _)) (pw_or1 (pt_not (pt_val (pe_callB call_isinstK rfl T.n_isinstance PyProof.Rows.boot_isinstance (pa_cons (pe_ix ix_tup (pv 0) pe_int (fun _ _ => rfl)) (pa_cons (pe_bltn rfl T.n_bool (by decide +kernel) (v := .ty "bool") rfl) pa_nil)))))))))
      (pss_one (ps_ret pe_bl))
      pss_nil)
    (pss_one (ps_ret (pe_and (pe_callC C__law_rising hr rfl pass0 (pa_cons (pe_ix ix_tup (pv 0) pe_int (fun _ _ => rfl)) pa_nil)) (pe_and (pe_callC C__law_rising hr rfl pass0 (pa_cons (pe_ix ix_tup (pv 0) pe_int (fun _ _ => rfl)) pa_nil)) (pe_one (pe_callC C__law_rising hr rfl pass0 (pa_cons (pe_ix ix_tup (pv 0) pe_int (fun _ _ => rfl)) pa_nil)))))))), ?_⟩
  refine ⟨_, rfl, _, _, _, _, rfl, .inl (.tup a1), rfl, _, rfl, iteF ?_⟩
  refine ⟨_, rfl, t, _, rfl, .inr (SqT.of a1), rfl, _, rfl, iteF ?_⟩
  refine (rdx (j := 1) a1 rfl rfl ⟨_, _, _, _, rfl, .inl (.bl _), rfl, _, rfl, iteF ?_⟩)
  refine (rdx (j := 0) a1 rfl rfl ⟨l1, d.1, rfl, a2, gw.r1, gw.n1, gw.l1, fun H1 g1 => ⟨_, rfl, iteT ?_⟩⟩)
  refine (rdx (j := 2) (g1 _ _ a1) rfl rfl ⟨l2, d.2.2.1, rfl, g1 _ _ a3, gw.r2, gw.n2, gw.l2, fun H2 g2 => ⟨_, rfl, iteT ?_⟩⟩)
  have g12 := g1.trans g2
  exact (rdx (j := 3) (g12 _ _ a1) rfl rfl ⟨l3, d.2.2.2, rfl, g12 _ _ a4, gw.r3, gw.n3, gw.l3, fun H3 g3 => q _ (g12.trans g3)⟩)
end
/-! ### more known, more sure: nothing is taken back -/
theorem off_beg (kn : List (Option Bool)) (p : Pt) : (wbeg kn false p).2.1 = false ∧ (wbeg kn false p).2.2.1 = [] := by
  induction p with
  | thn p q ih1 ih2 =>
    simp only [wbeg]
    split
    · simp only [turnW]
      rw [ih1.1, ih1.2, ih2.2]
      exact ⟨ih2.1, rfl⟩
    · exact ih1
  | bes p q ih1 ih2 =>
    simp only [wbeg, sideW]
    rw [ih1.1, ih1.2, ih2.2]
    exact ⟨rfl, rfl⟩
  | iff x p q ih1 ih2 =>
    simp only [wbeg]
    split
    · exact ⟨rfl, rfl⟩
    · exact ih1
    · exact ih2
  | again k p ih => exact ih
  | hold x p ih => exact ih
  | watch x p ih => exact ih
  | trap p ih => exact ih
  | _ => exact ⟨rfl, rfl⟩
theorem sure_of {kn : List (Option Bool)} {s : Bool} {p : Pt} (h : (wbeg kn s p).2.1 = true) : s = true := by
  cases s with
  | true => rfl
  | false => rw [(off_beg kn p).1] at h; cases h
theorem eqd_kn {K : PySem.W.Frag} {H : Hp} {kn : List (Option Bool)} {d : Nat} : ∀ (i : Nat) (x y : V), (kn.map vO)[i]? = some x → (kn.map vO)[i]? = some y → EqD K H d x y := fun i x y hx hy => by
  rw [hx] at hy
  cases hy
  rw [List.getElem?_map] at hx
  cases e : kn[i]? with
  | none => rw [e] at hx; cases hx
  | some o =>
    rw [e] at hx
    cases hx
    cases o with
    | none => exact .flat rfl rfl rfl
    | some b => exact .flat rfl rfl (by cases b <;> rfl)
theorem eqd_wk {K : PySem.W.Frag} {H : Hp} {a b c a' b' c' : Addr} {x y z : List Int} {s : Bool} (h1 : H a = some (.lst (x.map V.int))) (h2 : H b = some (.lst (y.map V.int))) (h3 : H c = some (.lst (z.map V.int))) (k1 : H a' = some (.lst (x.map V.int))) (k2 : H b' = some (.lst (y.map V.int))) (k3 : H c' = some (.lst (z.map V.int))) :
    ∀ (i : Nat) (u v : V), [V.ref a, .bl s, .ref b, .ref c][i]? = some u → [V.ref a', .bl s, .ref b', .ref c'][i]? = some v → EqD K H 1 u v := by
  intro i u v hu hv
  match i, hu, hv with
  | 0, hu, hv => cases hu; cases hv; exact .lst (SqL.of h1) (SqL.of k1) rfl eqd_ints
  | 1, hu, hv => cases hu; cases hv; exact .flat rfl rfl (by cases s <;> rfl)
  | 2, hu, hv => cases hu; cases hv; exact .lst (SqL.of h2) (SqL.of k2) rfl eqd_ints
  | 3, hu, hv => cases hu; cases hv; exact .lst (SqL.of h3) (SqL.of k3) rfl eqd_ints
  | i + 4, hu, hv => simp at hu

end My
end

section
set_option Elab.async false
set_option linter.all false
set_option maxRecDepth 100000
set_option maxHeartbeats 4000000
namespace My
open PySem L2
theorem goes_bes (p q : Pt) (st : Option (List Int)) : goesP (.bes p q) st = (goesP p st || goesP q st) := by
  cases st with
  | none => rfl
  | some l => exact List.any_append
theorem pb_iff {x : Int} {p q : Pt} {st : Option (List Int)} (hp : okE p) (hq : okE q) : pb (.iff x p q) st = if goesP p st = true then pb p st else if goesP q st = true then pb q st else .iff x p q := by
  cases st with
  | none => rfl
  | some l =>
    have e1 := goes_rem (l := l) hp
    have e2 := goes_rem (l := l) hq
    show lp (.iff x p q) (rem l p) (rem l q) = _
    by_cases z1 : (rem l p).1 = [] <;> by_cases z2 : (rem l q).1 = [] <;> simp [lp, z1, z2, e1, e2, pb]
theorem pb_thn {p q : Pt} {st : Option (List Int)} (hp : okE p) (hq : okE q) : pb (.thn p q) st = if goesP q st = true then pb q st else .thn (pb p st) q := by
  cases st with
  | none => rfl
  | some l =>
    have e2 := goes_rem (l := l) hq
    show lp (.thn p q) (rem l p) (rem l q) = _
    by_cases z2 : (rem l q).1 = [] <;> simp [lp, z2, e2, pb]
theorem pb_bes {p q : Pt} {st : Option (List Int)} (hp : okE p) (hq : okE q) : pb (.bes p q) st = if goesP p st = true ∧ goesP q st = true then .bes (pb p st) (pb q st) else if goesP p st = true then pb p st else if goesP q st = true then pb q st else .bes p q := by
  cases st with
  | none => simp [goesP, pb]
  | some l =>
    have e1 := goes_rem (l := l) hp
    have e2 := goes_rem (l := l) hq
    show lp (.bes p q) (rem l p) (rem l q) = _
    by_cases z1 : (rem l p).1 = [] <;> by_cases z2 : (rem l q).1 = [] <;> simp [lp, z1, z2, e1, e2, pb]
theorem pb_hold {x : Int} {p : Pt} {st : Option (List Int)} (hp : okE p) : (goesP p st = true → ∃ ks, pb (.hold x p) st = .iff x (.stay ks) (pb p st)) ∧ (¬ goesP p st = true → pb (.hold x p) st = .hold x p) := by
  cases st with
  | none => exact ⟨fun z => (by cases z), fun _ => rfl⟩
  | some l =>
    have e1 := goes_rem (l := l) hp
    show (_ → ∃ ks, lr (.hold x p) (rem l p) = _) ∧ (_ → lr (.hold x p) (rem l p) = _)
    by_cases z1 : (rem l p).1 = [] <;> simp [lr, z1, e1, pb]
theorem pb_watch {x : Int} {p : Pt} {st : Option (List Int)} (hp : okE p) : (goesP p st = true → pb (.watch x p) st = .iff x .nothing (pb p st)) ∧ (¬ goesP p st = true → pb (.watch x p) st = .watch x p) := by
  cases st with
  | none => exact ⟨fun z => (by cases z), fun _ => rfl⟩
  | some l =>
    have e1 := goes_rem (l := l) hp
    show (_ → lr (.watch x p) (rem l p) = _) ∧ (_ → lr (.watch x p) (rem l p) = _)
    by_cases z1 : (rem l p).1 = [] <;> simp [lr, z1, e1, pb]
theorem pb_trap {p : Pt} {st : Option (List Int)} : pb (.trap p) st = .trap (pb p st) := by
  cases st with
  | none => rfl
  | some l =>
    show lr (.trap p) (rem l p) = .trap (rem l p).2
    by_cases z1 : (rem l p).1 = []
    · rw [rem_nil l p z1]; simp [lr, z1]
    · simp [lr, z1]
/-- the rest of an again is in a state that has none of its part -/
def AgS (k : Int) (p : Pt) : Option (List Int) → Prop
  | none => True
  | some l => k ∈ l → ¬ goesP p (some l) = true
theorem pb_again {k : Int} {p : Pt} {st : Option (List Int)} (hp : okE p) (h : AgS k p st) : pb (.again k p) st = .again k (pb p st) := by
  cases st with
  | none => rfl
  | some l =>
    show (rem l (.again k p)).2 = .again k (rem l p).2
    simp only [rem]
    split
    · next c => rw [show (rem l p).2 = p from pb_not (st := some l) hp (h c)]
    · by_cases z1 : (rem l p).1 = []
      · rw [rem_nil l p z1]; simp [lr, z1]
      · simp [lr, z1]
def normW (d : Wk) : Wk := (d.1, d.2.1, nub d.2.2.1, nub d.2.2.2)
theorem walk_norm (kn : List (Option Bool)) (s : Bool) (p : Pt) (st : Option (List Int)) : walkD kn s p st = normW (wbeg kn s (pb p st)) := rfl
def bothW (a b : Wk) (cs : List Int) (s : Bool) : Wk := (nub cs, s, nub (a.2.2.1 ++ b.2.2.1), nub (a.2.2.2 ++ b.2.2.2))
theorem nub_set {a b : List Int} (h : ∀ x, x ∈ a ↔ x ∈ b) : nub a = nub b := nub_eq (rise_nub a) fun k => mem_nub.trans (h k)
theorem nub_id {a : List Int} (h : a.Pairwise (· < ·)) : nub a = a := (nub_eq h fun k => Iff.rfl).symm
theorem nub_app (a b : List Int) : nub (nub a ++ nub b) = nub (a ++ b) := nub_set fun x => by rw [List.mem_append, List.mem_append, mem_nub, mem_nub]
theorem nub_nil : nub [] = [] := rfl
section
variable {kn : List (Option Bool)} {s : Bool} {x : Int} {p q : Pt} {st : Option (List Int)}
theorem w_if1 (hp : okE p) (hq : okE q) (h : goesP p st = true ∨ ((kn[x.toNat]?).getD none = some true ∧ ¬ goesP q st = true)) : walkD kn s (.iff x p q) st = walkD kn s p st := by
  rw [walk_norm, walk_norm, pb_iff hp hq]
  by_cases g : goesP p st = true
  · rw [if_pos g]
  · have h := h.resolve_left g
    rw [if_neg g, if_neg h.2, pb_not hp g]
    simp only [wbeg, h.1]
theorem w_if2 (hp : okE p) (hq : okE q) (g : ¬ goesP p st = true) (h : goesP q st = true ∨ (kn[x.toNat]?).getD none = some false) : walkD kn s (.iff x p q) st = walkD kn s q st := by
  rw [walk_norm, walk_norm, pb_iff hp hq, if_neg g]
  by_cases g2 : goesP q st = true
  · rw [if_pos g2]
  · rw [if_neg g2, pb_not hq g2]
    simp only [wbeg, h.resolve_left g2]
theorem w_if3 (hp : okE p) (hq : okE q) (g : ¬ goesP p st = true) (g2 : ¬ goesP q st = true) (h : (kn[x.toNat]?).getD none = none) : walkD kn s (.iff x p q) st = bothW (walkD kn false p st) (walkD kn false q st) ((walkD kn false p st).1 ++ (walkD kn false q st).1) false := by
  rw [walk_norm, walk_norm, walk_norm, pb_iff hp hq, if_neg g, if_neg g2, pb_not hp g, pb_not hq g2]
  simp only [wbeg, h, bothW, normW, oneW, nub_app, (off_beg kn p).2, (off_beg kn q).2, nub_nil, List.append_nil]
theorem w_thn1 (hp : okE p) (hq : okE q) (g : goesP q st = true) : walkD kn s (.thn p q) st = walkD kn s q st := by
  rw [walk_norm, walk_norm, pb_thn hp hq, if_pos g]
theorem w_thn2 (hp : okE p) (hq : okE q) (g : ¬ goesP q st = true) (h : ¬ 0 ∈ (walkD kn s p st).1) : walkD kn s (.thn p q) st = walkD kn s p st := by
  have h' : ¬ 0 ∈ (wbeg kn s (pb p st)).1 := h
  rw [walk_norm, walk_norm, pb_thn hp hq, if_neg g]
  simp only [wbeg]
  rw [if_neg h']
theorem w_thn3 (hp : okE p) (hq : okE q) (g : ¬ goesP q st = true) (h : 0 ∈ (walkD kn s p st).1) : walkD kn s (.thn p q) st = bothW (walkD kn s p st) (walkD kn (walkD kn s p st).2.1 q st) ((walkD kn s p st).1.filter (fun c => !decide (c = 0)) ++ (walkD kn (walkD kn s p st).2.1 q st).1) (walkD kn (walkD kn s p st).2.1 q st).2.1 := by
  have h' : 0 ∈ (wbeg kn s (pb p st)).1 := h
  show normW (wbeg kn s (pb (.thn p q) st)) = bothW (normW (wbeg kn s (pb p st))) (normW (wbeg kn (wbeg kn s (pb p st)).2.1 (pb q st))) ((wbeg kn s (pb p st)).1.filter (fun c => !decide (c = 0)) ++ (wbeg kn (wbeg kn s (pb p st)).2.1 (pb q st)).1) (wbeg kn (wbeg kn s (pb p st)).2.1 (pb q st)).2.1
  rw [pb_thn hp hq, if_neg g, pb_not hq g]
  simp only [wbeg]
  rw [if_pos h']
  simp only [bothW, normW, turnW, nub_app]
def sideD' (kn : List (Option Bool)) (s : Bool) (w p : Pt) (st : Option (List Int)) : Wk := if goesP w st = true ∧ ¬ goesP p st = true then ([0], s, [], []) else walkD kn s p st
def prodC (a b : List Int) : List Int := a.flatMap fun c => b.map fun d => mx c d
theorem mx_l {a b : Int} (h : b ≤ a) : mx a b = a := if_neg (Int.not_lt.mpr h)
theorem mx_r {a b : Int} (h : a ≤ b) : mx a b = b := (mx_or a b).elim (fun e => by rw [e]; exact Int.le_antisymm h (e ▸ mx_ler a b)) fun e => e
theorem mx_le {a b c : Int} (h1 : a ≤ c) (h2 : b ≤ c) : mx a b ≤ c := (mx_or a b).elim (fun e => by rw [e]; exact h1) fun e => by rw [e]; exact h2
theorem prod_side {a b : List Int} (ha : 0 < a.length) (hb : 0 < b.length) : nub (prodC a b) = (nub (a ++ b)).filter (fun c => decide (mx (minL a) (minL b) ≤ c)) := by
  have la := minL_low ha
  have lb := minL_low hb
  refine (nub_eq ((rise_nub _).filter _) fun c => ?_).symm
  unfold prodC
  rw [List.mem_filter, mem_nub, List.mem_append, List.mem_flatMap]
  constructor
  · rintro ⟨z | z, h⟩
    · have h := of_decide_eq_true h
      refine ⟨c, z, List.mem_map.mpr ⟨minL b, lb.1, ?_⟩⟩
      exact mx_l (Int.le_trans (mx_ler _ _) h)
    · have h := of_decide_eq_true h
      refine ⟨minL a, la.1, List.mem_map.mpr ⟨c, z, ?_⟩⟩
      exact mx_r (Int.le_trans (mx_lel _ _) h)
  · rintro ⟨u, hu, h⟩
    obtain ⟨v, hv, rfl⟩ := List.mem_map.mp h
    have h1 := la.2 u hu
    have h2 := lb.2 v hv
    refine ⟨?_, decide_eq_true ?_⟩
    · rcases mx_or u v with e | e <;> rw [e]
      · exact .inl hu
      · exact .inr hv
    · exact mx_le (Int.le_trans h1 (mx_lel _ _)) (Int.le_trans h2 (mx_ler _ _))
theorem prod_zero {a : List Int} (h : Cw a) : nub (prodC a [0]) = a ∧ nub (prodC [0] a) = a := by
  refine ⟨(nub_eq h.ri fun c => ?_).symm, (nub_eq h.ri fun c => ?_).symm⟩
  · unfold prodC
    rw [List.mem_flatMap]
    constructor
    · intro z
      exact ⟨c, z, List.mem_map.mpr ⟨0, List.mem_singleton.mpr rfl, mx_l (h.bd c z).1⟩⟩
    · rintro ⟨u, hu, z⟩
      obtain ⟨v, hv, rfl⟩ := List.mem_map.mp z
      have := h.bd u hu
      rw [List.mem_singleton.mp hv, mx_l this.1]
      exact hu
  · unfold prodC
    rw [List.mem_flatMap]
    constructor
    · intro z
      exact ⟨0, List.mem_singleton.mpr rfl, List.mem_map.mpr ⟨c, z, mx_r (h.bd c z).1⟩⟩
    · rintro ⟨u, hu, z⟩
      obtain ⟨v, hv, rfl⟩ := List.mem_map.mp z
      have := h.bd v hv
      rw [List.mem_singleton.mp hu, mx_r this.1]
      exact hv
theorem sure_and {d : Bool} (h : d = true → s = true) : (d && s) = d ∧ (s && d) = d := by
  cases d with
  | false => exact ⟨rfl, by cases s <;> rfl⟩
  | true => rw [h rfl]; exact ⟨rfl, rfl⟩
theorem w_bes {sg : Int} (wp : okW sg p) (wq : okW sg q) (hp : okE p) (hq : okE q) : walkD kn s (.bes p q) st = bothW (sideD' kn s (.bes p q) p st) (sideD' kn s (.bes p q) q st) (prodC (sideD' kn s (.bes p q) p st).1 (sideD' kn s (.bes p q) q st).1) ((sideD' kn s (.bes p q) p st).2.1 && (sideD' kn s (.bes p q) q st).2.1) := by
  have cp := cw_beg kn (okW_pb wp st) s
  have cq := cw_beg kn (okW_pb wq st) s
  have two : normW (sideW (wbeg kn s (pb p st)) (wbeg kn s (pb q st))) = bothW (walkD kn s p st) (walkD kn s q st) (prodC (walkD kn s p st).1 (walkD kn s q st).1) ((walkD kn s p st).2.1 && (walkD kn s q st).2.1) := by
    rw [walk_norm, walk_norm]
    simp only [bothW, normW, sideW, nub_app]
    rw [prod_side cp.ne cq.ne]
  rw [walk_norm, pb_bes hp hq]
  unfold sideD'
  rw [goes_bes]
  by_cases g : goesP p st = true
  · by_cases g2 : goesP q st = true
    · rw [if_pos ⟨g, g2⟩, if_neg (fun z => z.2 g), if_neg (fun z => z.2 g2)]
      exact two
    · rw [if_neg (fun z => g2 z.2), if_pos g, if_neg (fun z => z.2 g), if_pos ⟨by rw [g]; rfl, g2⟩, walk_norm]
      simp only [bothW, normW]
      rw [(prod_zero cp).1, (sure_and (fun z => sure_of z)).1, List.append_nil, List.append_nil, nub_id (rise_nub _), nub_id (rise_nub _)]
  · rw [if_neg (fun z => g z.1), if_neg g]
    by_cases g2 : goesP q st = true
    · rw [if_pos g2, if_pos ⟨by rw [g2, Bool.or_true], g⟩, if_neg (fun z => z.2 g2), walk_norm]
      simp only [bothW, normW]
      rw [(prod_zero cq).2, (sure_and (fun z => sure_of z)).2, List.nil_append, List.nil_append, nub_id (rise_nub _), nub_id (rise_nub _)]
    · have no : ¬ (goesP p st || goesP q st) = true := fun z => by rw [Bool.or_eq_true] at z; exact z.elim g g2
      rw [if_neg g2, if_neg (fun z => no z.1), if_neg (fun z => no z.1), ← two, pb_not hp g, pb_not hq g2]
      rfl
theorem w_again {k sg : Int} (wp : okW sg p) (hp : okE p) (h : AgS k p st) : walkD kn s (.again k p) st = (nub ((walkD kn s p st).1.map fun c => mx c 1), (walkD kn s p st).2.1, (walkD kn s p st).2.2.1, (walkD kn s p st).2.2.2) := by
  have cp := cw_beg kn (okW_pb wp st) s
  rw [walk_norm, walk_norm, pb_again hp h]
  simp only [wbeg, normW, recW]
  congr 1
  refine congrArg nub (List.map_congr_left fun c hc => ?_)
  exact six (P := fun c => agC c = mx c 1) rfl rfl rfl rfl rfl rfl (cp.bd c hc)
def trapL (c : Int) : Int := mx (c - 1) (if 1 < c then 1 else c) - (if c = 2 then 1 else 0)
theorem w_trap {sg : Int} (wp : okW sg p) : walkD kn s (.trap p) st = (nub ((walkD kn s p st).1.map trapL), (walkD kn s p st).2.1, (walkD kn s p st).2.2.1, (walkD kn s p st).2.2.2) := by
  have cp := cw_beg kn (okW_pb wp st) s
  rw [walk_norm, walk_norm, pb_trap]
  simp only [wbeg, normW, recW]
  congr 1
  refine congrArg nub (List.map_congr_left fun c hc => ?_)
  exact six (P := fun c => trapC c = trapL c) rfl rfl rfl rfl rfl rfl (cp.bd c hc)
/-- hold and watch alike: the code that a sign leads to -/
theorem w_rnd1 {r : Pt} (hr : r = .hold x p ∨ r = .watch x p) (hp : okE p) (h : (kn[x.toNat]?).getD none = some false ∨ ¬ goesP p st = true) : walkD kn s r st = walkD kn s p st := by
  rw [walk_norm, walk_norm]
  rcases hr with rfl | rfl
  · by_cases g : goesP p st = true
    · obtain ⟨ks, e⟩ := (pb_hold (x := x) hp).1 g
      rw [e]
      simp only [wbeg, h.resolve_right fun z => z g]
    · rw [(pb_hold (x := x) hp).2 g, pb_not hp g]
      rfl
  · by_cases g : goesP p st = true
    · rw [(pb_watch (x := x) hp).1 g]
      simp only [wbeg, h.resolve_right fun z => z g]
    · rw [(pb_watch (x := x) hp).2 g, pb_not hp g]
      rfl
def rndC : Pt → Int
  | .hold _ _ => 1
  | _ => 0
theorem w_rnd2 {r : Pt} (hr : r = .hold x p ∨ r = .watch x p) (hp : okE p) (h : (kn[x.toNat]?).getD none = some true) (g : goesP p st = true) : walkD kn s r st = ([rndC r], s, [], []) := by
  rw [walk_norm]
  rcases hr with rfl | rfl
  · obtain ⟨ks, e⟩ := (pb_hold (x := x) hp).1 g
    rw [e]
    simp only [wbeg, h]
    rfl
  · rw [(pb_watch (x := x) hp).1 g]
    simp only [wbeg, h]
    rfl
theorem w_rnd3 {r : Pt} (hr : r = .hold x p ∨ r = .watch x p) (hp : okE p) (h : (kn[x.toNat]?).getD none = none) (g : goesP p st = true) : walkD kn s r st = (nub ((walkD kn false p st).1 ++ [rndC r]), false, [], (walkD kn false p st).2.2.2) := by
  rw [walk_norm, walk_norm]
  rcases hr with rfl | rfl
  · obtain ⟨ks, e⟩ := (pb_hold (x := x) hp).1 g
    rw [e]
    simp only [wbeg, h, normW, oneW, rndC, List.nil_append, nub_nil]
    rw [nub_set (a := [1] ++ (wbeg kn false (pb p st)).1) (b := (wbeg kn false (pb p st)).1 ++ [1]) fun y => by rw [List.mem_append, List.mem_append, or_comm]]
  · rw [(pb_watch (x := x) hp).1 g]
    simp only [wbeg, h, normW, oneW, rndC, List.nil_append, nub_nil]
    rw [nub_set (a := [0] ++ (wbeg kn false (pb p st)).1) (b := (wbeg kn false (pb p st)).1 ++ [0]) fun y => by rw [List.mem_append, List.mem_append, or_comm]]
theorem walk_sg {n : Nat} (wp : okW (n : Int) p) : (walkD kn s p st).1.length ≤ 6 ∧ (walkD kn s p st).2.2.1.length ≤ n ∧ (walkD kn s p st).2.2.2.length ≤ n := by
  have h' := okW_pb wp st
  refine ⟨(cw_beg kn h' s).len, ?_, ?_⟩
  · have := rise_len (l := (walkD kn s p st).2.2.1) (a := 0) (b := n) (rise_nub _) fun x hx => wbeg_sg kn h' s x (.inl (mem_nub.mp hx))
    omega
  · have := rise_len (l := (walkD kn s p st).2.2.2) (a := 0) (b := n) (rise_nub _) fun x hx => wbeg_sg kn h' s x (.inr (mem_nub.mp hx))
    omega
end

end My
end

section
set_option Elab.async false
set_option linter.all false
set_option maxRecDepth 100000
set_option maxHeartbeats 4000000
namespace My
open PySem L2
theorem vO_eq (a b : Option Bool) : decide (vO a = vO b) = decide (a = b) := by
  cases a with
  | none => cases b with
    | none => rfl
    | some y => rfl
  | some x => cases b with
    | none => rfl
    | some y => cases x <;> cases y <;> rfl
def rMax2 : List V → Hp → VK → Prop := fun xs H Q => ∃ i j, xs = [.int i, .int j] ∧ Q (.int (if j > i then j else i)) H
def rMin2 : List V → Hp → VK → Prop := fun xs H Q => ∃ i j, xs = [.int i, .int j] ∧ Q (.int (if j < i then j else i)) H
/-- a test, by its value -/
theorem if_test {t : TT} {a u : TS} {D : Ends} {σ : St} {H : Hp} (b : Bool) (h : ∀ N : Bool → Hp → Prop, (∀ H', Same H H' → N b H') → t σ H N) (ka : b = true → ∀ H', Same H H' → a { D with nx := u D } σ H') (kb : b = false → ∀ H', Same H H' → u D σ H') : tSeq (tIfS t a tNext) u D σ H :=
  h _ fun H' g => by
    cases b with
    | true => exact iteT (ka rfl H' g)
    | false => exact iteF (kb rfl H' g)
theorem lt_l {a b n : Nat} (h : a + b < n) : a < n := Nat.lt_of_le_of_lt (Nat.le_add_right _ _) h
theorem lt_r {a b n : Nat} (h : a + b < n) : b < n := Nat.lt_of_le_of_lt (Nat.le_add_left _ _) h
theorem app_lt {a b : List Int} (ha : a.length ≤ 6) (hb : b.length ≤ 6) : (a ++ b).length < 64 := by rw [List.length_append]; omega
structure BdR (n : Nat) (p : Pt) : Prop where
  hg : p.hg ≤ 40
  sc : p.sc < 64
  rc : p.rc < 64
  ok : okW n p
  oe : okE p
  n5 : n ≤ 5
def spRow (K : PySem.W.Frag) (S : Pt → Option (List Int) → Prop) : Sp := fun vs H Q _ => ∃ (v : V) (p : Pt) (sv : V) (st : Option (List Int)) (s : Bool) (kl : Addr) (kn : List (Option Bool)), vs = [v, sv, .bl s, .ref kl] ∧ PAt K H (Pt.nd p) v ∧ S p st ∧ BdR kn.length p ∧ StAt K H st sv ∧ SqL K H kl (kn.map vO) ∧ ∀ (t : Addr) (H' : Hp), Same H H' → WkAt H' t (walkD kn s p st) → Q (.ref t) H'
inductive C_spBoth  (vs : List V) (H : Hp) (Q : VK) : Prop
  | mk (a b c : Addr) (d e : Wk) (cs : List Int) (s : Bool) (c0 : vs = [.ref a, .ref b, .ref c, .bl s]) (c1 : WkAt H a d) (c2 : WkAt H b e) (c3 : H c = some (.lst (cs.map V.int))) (c4 : cs.length < 64) (c5 : (d.2.2.1.length ≤ 5 ∧ d.2.2.2.length ≤ 5)) (c6 : (e.2.2.1.length ≤ 5 ∧ e.2.2.2.length ≤ 5)) (c7 : ∀ (t : Addr) (H' : Hp), Same H H' → WkAt H' t (bothW d e cs s) → Q (.ref t) H') : C_spBoth  vs H Q
def spBoth : Sp := fun vs H Q _ => C_spBoth  vs H Q
theorem wk_new {H : Hp} {a b c t : Addr} {x y z : List Int} {s : Bool} (h1 : H a = some (.lst (x.map V.int))) (h2 : H b = some (.lst (y.map V.int))) (h3 : H c = some (.lst (z.map V.int))) (ht : H t = none) : WkAt (upd H t (.tup [.ref a, .bl s, .ref b, .ref c])) t (x, s, y, z) :=
  ⟨a, b, c, upd_same, same_new ht _ _ _ h1, same_new ht _ _ _ h2, same_new ht _ _ _ h3⟩
section
variable {P : Program} {w : World} {K : PySem.W.Frag} {mg : Str → Option Value} {base : Heap} {aN aP aR : Addr} {uE uR uL : Value}
set_option maxHeartbeats 16000000 in
theorem ok_both (F : FunM K mg "_law_both" ["_law_one", "_law_other", "_law_codes", "_law_surely"] s__law_both) (T : Txt mg) : Callee P w K mg base 1 "_law_both" ["_law_one", "_law_other", "_law_codes", "_law_surely"] spBoth := by
  refine F.ok sc__law_both (fun vs H Q E h => ?_) (fun f cdv A outer s H vs Q E hr h => ?_)
  · obtain ⟨a, b, c, d, e, cs, sb, rfl, _⟩ := h; rfl
  obtain ⟨a, b, c, d, e, cs, sb, rfl, ⟨l1, l2, l3, a1, a2, a3, a4⟩, ⟨m1, m2, m3, b1, b2, b3, b4⟩, hc, lc, ld, le, q⟩ := h
  refine ⟨_, (pss_cons (ps_set (i := 4) sc__law_both.nd rfl (Or.inl rfl) (pe_sset rfl rfl T.n_sorted rfl T.n_set (pe_op op_cat (pe_ix ix_tup (pv 0) pe_int (fun _ _ => rfl)) (pe_ix ix_tup (pv 1) pe_int (fun _ _ => rfl)))))
    (pss_one (ps_ret (pe_tup (pa_cons (pe_sset rfl rfl T.n_sorted rfl T.n_set (pv 2)) (pa_cons (pv 3) (pa_cons (pv 4) (pa_cons (pe_sset rfl rfl T.n_sorted rfl T.n_set (pe_op op_cat (pe_ix ix_tup (pv 0) pe_int (fun _ _ => rfl)) (pe_ix ix_tup (pv 1) pe_int (fun _ _ => rfl)))) pa_nil)))))))), ?_⟩
  refine (rdx (j := 2) a1 rfl rfl (rdx (j := 2) b1 rfl rfl ⟨l2, m2, _, _, rfl, rfl, a3, b3, by rw [List.length_map, List.length_map]; exact small (le2K ld.1 le.1 (by decide)), fun x1 hx1 => ?_⟩))
  have k1 := same_new hx1 (.lst (d.2.2.1.map V.int ++ e.2.2.1.map V.int))
  refine ⟨x1, d.2.2.1 ++ e.2.2.1, rfl, SqL.of (by rw [upd_same, List.map_append]), by rw [List.length_append]; exact le2L ld.1 le.1 (by decide), fun r1 hr1 => ?_⟩
  have k2 := same_new hr1 (.lst ((nub (d.2.2.1 ++ e.2.2.1)).map V.int))
  have g2 := k1.trans k2
  have e1 := upd_same (H := (upd H x1 (.lst (d.2.2.1.map V.int ++ e.2.2.1.map V.int)))) (a := r1) (o := .lst ((nub (d.2.2.1 ++ e.2.2.1)).map V.int))
  generalize (upd (upd H x1 (.lst (d.2.2.1.map V.int ++ e.2.2.1.map V.int))) r1 (.lst ((nub (d.2.2.1 ++ e.2.2.1)).map V.int))) = H2 at g2 e1
  refine ⟨_, rfl, c, cs, rfl, SqL.of (g2 _ _ hc), lc, fun r2 hr2 => ?_⟩
  have k3 := same_new hr2 (.lst ((nub cs).map V.int))
  have g3 := g2.trans k3
  have e2 := upd_same (H := H2) (a := r2) (o := .lst ((nub cs).map V.int))
  have e1 := k3 _ _ e1
  generalize (upd H2 r2 (.lst ((nub cs).map V.int))) = H3 at g3 e1 e2
  refine ⟨_, rfl, _, rfl, rdx (j := 3) (g3 _ _ a1) rfl rfl (rdx (j := 3) (g3 _ _ b1) rfl rfl ⟨l3, m3, _, _, rfl, rfl, g3 _ _ a4, g3 _ _ b4, by rw [List.length_map, List.length_map]; exact small (le2K ld.2 le.2 (by decide)), fun x2 hx2 => ?_⟩)⟩
  have k4 := same_new hx2 (.lst (d.2.2.2.map V.int ++ e.2.2.2.map V.int))
  refine ⟨x2, d.2.2.2 ++ e.2.2.2, rfl, SqL.of (by rw [upd_same, List.map_append]), by rw [List.length_append]; exact le2L ld.2 le.2 (by decide), fun r3 hr3 => ?_⟩
  have k5 := same_new hr3 (.lst ((nub (d.2.2.2 ++ e.2.2.2)).map V.int))
  refine ⟨(by show 4 ≤ sizeLine; decide), fun t ht => q t _ (g3.trans (k4.trans (k5.trans (same_new ht _)))) (wk_new ((k4.trans k5) _ _ e2) ((k4.trans k5) _ _ e1) upd_same ht)⟩
set_option maxHeartbeats 32000000 in
theorem ok_if (F : FunM K mg "_law_if" ["_law_whole_here", "_law_state", "_law_sure", "_law_known_here"] s__law_if) (T : Txt mg) (C_walked : Callee P w K mg base 44 "walked" ["part", "state", "sure", "known"] (spWalk K 40)) (C__law_goes : Callee P w K mg base 41 "_law_goes" ["_law_part", "_law_state"] (spGoes K 40)) (C__law_both : Callee P w K mg base 1 "_law_both" ["_law_one", "_law_other", "_law_codes", "_law_surely"] spBoth) :
    Callee P w K mg base 45 "_law_if" ["_law_whole_here", "_law_state", "_law_sure", "_law_known_here"] (spRow K fun p _ => ∃ x p1 q1, p = .iff x p1 q1) := by
  refine F.ok sc__law_if (fun vs H Q E h => ?_) (fun f cdv A outer s H vs Q E hr h => ?_)
  · obtain ⟨v, p, sv, st, sb, kl, kn, rfl, _⟩ := h; rfl
  obtain ⟨v, p, sv, st, sb, kl, kn, rfl, hp, ⟨x, p1, p2, rfl⟩, bd, hst, hk, q⟩ := h
  refine ⟨_, (pss_cons (ps_par (i := 4) (j := 5) rfl sc__law_if.nd rfl rfl (by decide) rfl rfl (pa_cons (pe_ix ix_tup (pv 0) pe_int (fun _ _ => rfl)) (pa_cons (pe_ix ix_tup (pv 0) pe_int (fun _ _ => rfl)) pa_nil)) rfl)
    (pss_cons (ps_if (PW.pt (pw_or (pt_val (pe_callC C__law_goes hr rfl pass0 (pa_cons (pv 4) (pa_cons (pv 1) pa_nil)))) (pw_or1 (PW.pt (pw_and (pt_cmpR op_isB (pe_ix ix_list (pv 3) (pe_ix ix_tup (pv 0) pe_int (fun _ _ => rfl)) (fun _ _ => rfl)) pe_bl (nomark _)) (pw_and1 (pt_not (pt_val (pe_callC C__law_goes hr rfl pass0 (pa_cons (pv 5) (pa_cons (pv 1) pa_nil)))))))))))
      (pss_one (ps_ret (pe_callC C_walked hr rfl pass0 (pa_cons (pv 4) (pa_cons (pv 1) (pa_cons (pv 2) (pa_cons (pv 3) pa_nil)))))))
      pss_nil)
    (pss_cons (ps_if (PW.pt (pw_or (pt_val (pe_callC C__law_goes hr rfl pass0 (pa_cons (pv 5) (pa_cons (pv 1) pa_nil)))) (pw_or1 (pt_cmpR op_isB (pe_ix ix_list (pv 3) (pe_ix ix_tup (pv 0) pe_int (fun _ _ => rfl)) (fun _ _ => rfl)) pe_bl (nomark _)))))
      (pss_one (ps_ret (pe_callC C_walked hr rfl pass0 (pa_cons (pv 5) (pa_cons (pv 1) (pa_cons (pv 2) (pa_cons (pv 3) pa_nil)))))))
      pss_nil)
    (pss_cons (ps_set (i := 6) sc__law_if.nd rfl (Or.inl rfl) (pe_callC C_walked hr rfl pass0 (pa_cons (pv 4) (pa_cons (pv 1) (pa_cons pe_bl (pa_cons (pv 3) pa_nil))))))
    (pss_cons (ps_set (i := 7) sc__law_if.nd rfl (Or.inl rfl) (pe_callC C_walked hr rfl pass0 (pa_cons (pv 5) (pa_cons (pv 1) (pa_cons pe_bl (pa_cons (pv 3) pa_nil))))))
    (pss_one (ps_ret (pe_callC C__law_both hr rfl pass0 (pa_cons (pv 6) (pa_cons (pv 7) (pa_cons (pe_op op_cat (pe_ix ix_tup (pv 6) pe_int (fun _ _ => rfl)) (pe_ix ix_tup (pv 7) pe_int (fun _ _ => rfl))) (pa_cons pe_bl pa_nil)))))))))))), ?_⟩
  obtain ⟨a, vs, rfl, hs, hx⟩ := PAt.get hp
  obtain ⟨x0, x1, x2, x3, rfl, h0, h1, h2, h3⟩ := hx.four
  cases h0.str
  cases h1.int
  have b1 := bd.hg
  have b2 := bd.sc
  have b3 := bd.rc
  have b5 := bd.n5
  obtain ⟨ox, w1, w2⟩ := bd.ok
  obtain ⟨o1, o2⟩ := bd.oe
  simp only [Pt.hg] at b1
  simp only [Pt.sc] at b2
  simp only [Pt.rc] at b3
  have u1 : p1.hg ≤ 40 := Nat.le_trans (hgl b1) (by decide)
  have u2 : p2.hg ≤ 40 := Nat.le_trans (hgr b1) (by decide)
  have s1 := lt_l b2
  have s2 := lt_r b2
  have r1 := lt_l b3
  have r2 := lt_r b3
  have ea : atI (kn.map vO) x = some (vO ((kn[x.toNat]?).getD none)) := by
    have hx : x.toNat < kn.length := tn_lt ox
    have := atI_nat (xs := kn.map vO) (j := x.toNat) (v := vO kn[x.toNat]) (by rw [List.getElem?_map, List.getElem?_eq_getElem hx]; rfl)
    rw [Int.toNat_of_nonneg ox.1] at this
    rw [List.getElem?_eq_getElem hx]
    exact this
  have hv : ∀ o : Option Bool, vO o = .non ∨ ∃ b, vO o = .bl b := fun o => match o with | none => .inl rfl | some b => .inr ⟨b, rfl⟩
  refine (rdy (j := 2) hs.sq rfl rfl (rdy (j := 3) hs.sq rfl rfl ⟨_, _, rfl, ?_⟩))
  have k0 : Same H H := Same.refl H
  dsimp only [gName]
  refine if_test (goesP p1 st || (decide ((kn[x.toNat]?).getD none = some true) && !goesP p2 st)) (fun N fin => ?_) (fun c H1 g1 => ?_) fun c H1 g1 => ?_
  · refine ⟨_, rfl, _, rfl, x2, p1, sv, st, rfl, h2.mono k0.tp, o1, u1, r1, stAt_mono k0 hst, fun H1 g1 => ⟨_, rfl, ?_⟩⟩
    cases e1 : goesP p1 st with
    | true => rw [e1] at fin; exact iteT (fin H1 g1)
    | false =>
      rw [e1] at fin
      have g01 := k0.trans g1
      refine iteF ⟨_, rfl, rdy (j := 1) ((hs.mono g01.tp).sq) rfl rfl ⟨kl, _, _, _, rfl, rfl, g01.seq hk, ea, true, rfl, hv _, _, rfl, ?_⟩⟩
      rw [show V.bl true = vO (some true) from rfl, vO_eq]
      cases e2 : decide ((kn[x.toNat]?).getD none = some true) with
      | false => rw [e2] at fin; exact iteF (fin H1 g1)
      | true =>
        rw [e2] at fin
        exact iteT ⟨_, rfl, _, rfl, x3, p2, sv, st, rfl, h3.mono g01.tp, o2, u2, r2, stAt_mono g01 hst, fun H2 g2 => ⟨_, rfl, fin H2 (g1.trans g2)⟩⟩
  · have g01 := k0.trans g1
    refine ⟨_, rfl, _, rfl, _, rfl, _, rfl, x2, p1, sv, st, sb, kl, kn, rfl, h2.mono g01.tp, stAt_mono g01 hst, g01.seq hk, u1, s1, r1, w1, fun t H2 g2 wk => q t H2 (g01.trans g2) ?_⟩
    rw [w_if1 o1 o2 (by simpa using c)]
    exact wk
  have g01 := k0.trans g1
  have n1 : ¬ goesP p1 st = true := fun z => by rw [z] at c; cases c
  refine if_test (goesP p2 st || decide ((kn[x.toNat]?).getD none = some false)) (fun N fin => ?_) (fun c2 H2 g2 => ?_) fun c2 H2 g2 => ?_
  · refine ⟨_, rfl, _, rfl, x3, p2, sv, st, rfl, h3.mono g01.tp, o2, u2, r2, stAt_mono g01 hst, fun H2 g2 => ⟨_, rfl, ?_⟩⟩
    cases e1 : goesP p2 st with
    | true => rw [e1] at fin; exact iteT (fin H2 g2)
    | false =>
      rw [e1] at fin
      have g02 := g01.trans g2
      refine iteF ⟨_, rfl, rdy (j := 1) ((hs.mono g02.tp).sq) rfl rfl ⟨kl, _, _, _, rfl, rfl, g02.seq hk, ea, false, rfl, hv _, _, rfl, ?_⟩⟩
      rw [show V.bl false = vO (some false) from rfl, vO_eq]
      exact fin H2 g2
  · have g02 := g01.trans g2
    refine ⟨_, rfl, _, rfl, _, rfl, _, rfl, x3, p2, sv, st, sb, kl, kn, rfl, h3.mono g02.tp, stAt_mono g02 hst, g02.seq hk, u2, s2, r2, w2, fun t H3 g3 wk => q t H3 (g02.trans g3) ?_⟩
    rw [w_if2 o1 o2 n1 (by simpa using c2)]
    exact wk
  have g02 := g01.trans g2
  have n2 : ¬ goesP p2 st = true := fun z => by rw [z] at c2; cases c2
  have en : (kn[x.toNat]?).getD none = none := by
    cases e : (kn[x.toNat]?).getD none with
    | none => rfl
    | some b =>
      rw [e] at c c2
      cases b with
      | false => simp at c2
      | true => simp [n2] at c
  have y1 := walk_sg (kn := kn) (s := false) (st := st) w1
  have y2 := walk_sg (kn := kn) (s := false) (st := st) w2
  refine ⟨_, rfl, _, rfl, _, rfl, x2, p1, sv, st, false, kl, kn, rfl, h2.mono g02.tp, stAt_mono g02 hst, g02.seq hk, u1, s1, r1, w1, fun t1 H3 g3 wk1 => ?_⟩
  have g03 := g02.trans g3
  refine ⟨_, rfl, _, rfl, _, rfl, x3, p2, sv, st, false, kl, kn, rfl, h3.mono g03.tp, stAt_mono g03 hst, g03.seq hk, u2, s2, r2, w2, fun t2 H4 g4 wk2 => ?_⟩
  have wk1' := wk1.mono g4
  obtain ⟨l1, l2, l3, a1, a2, a3, a4⟩ := id wk1'
  obtain ⟨m1, m2, m3, c1, c2, c3, c4⟩ := id wk2
  refine ⟨_, rfl, _, rfl, rdx (j := 0) a1 rfl rfl (rdx (j := 0) c1 rfl rfl ⟨l1, m1, _, _, rfl, rfl, a2, c2, by rw [List.length_map, List.length_map]; exact small (Nat.le_trans (Nat.add_le_add y1.1 y2.1) (by decide)), fun lc hlc => ?_⟩)⟩
  have k5 := same_new hlc (.lst ((walkD kn false p1 st).1.map V.int ++ (walkD kn false p2 st).1.map V.int))
  refine ⟨t1, t2, lc, _, _, _, false, rfl, wk1'.mono k5, wk2.mono k5, by rw [upd_same, ← List.map_append], app_lt y1.1 y2.1, ⟨Nat.le_trans y1.2.1 b5, Nat.le_trans y1.2.2 b5⟩, ⟨Nat.le_trans y2.2.1 b5, Nat.le_trans y2.2.2 b5⟩, fun t H5 g5 wk => q t H5 (g03.trans (g4.trans (k5.trans g5))) ?_⟩
  rw [w_if3 o1 o2 n1 n2 en]
  exact wk
end

end My
end

section
set_option Elab.async false
set_option linter.all false
set_option maxRecDepth 100000
set_option maxHeartbeats 4000000
namespace My
open PySem L2
section
variable {P : Program} {w : World} {K : PySem.W.Frag} {mg : Str → Option Value} {base : Heap} {aN aP aR : Addr} {uE uR uL : Value}
set_option maxHeartbeats 32000000 in
theorem ok_then (F : FunM K mg "_law_then" ["_law_whole_here", "_law_state", "_law_sure", "_law_known_here"] s__law_then) (T : Txt mg) (C_walked : Callee P w K mg base 44 "walked" ["part", "state", "sure", "known"] (spWalk K 40)) (C__law_goes : Callee P w K mg base 41 "_law_goes" ["_law_part", "_law_state"] (spGoes K 40)) (C__law_both : Callee P w K mg base 1 "_law_both" ["_law_one", "_law_other", "_law_codes", "_law_surely"] spBoth) :
    Callee P w K mg base 45 "_law_then" ["_law_whole_here", "_law_state", "_law_sure", "_law_known_here"] (spRow K fun p _ => ∃ p1 q1, p = .thn p1 q1) := by
  refine F.ok sc__law_then (fun vs H Q E h => ?_) (fun f cdv A outer s H vs Q E hr h => ?_)
  · obtain ⟨v, p, sv, st, sb, kl, kn, rfl, _⟩ := h; rfl
  obtain ⟨v, p, sv, st, sb, kl, kn, rfl, hp, ⟨p1, p2, rfl⟩, bd, hst, hk, q⟩ := h
  refine ⟨_, (pss_cons (ps_if (pt_val (pe_callC C__law_goes hr rfl pass0 (pa_cons (pe_ix ix_tup (pv 0) pe_int (fun _ _ => rfl)) (pa_cons (pv 1) pa_nil))))
      (pss_one (ps_ret (pe_callC C_walked hr rfl pass0 (pa_cons (pe_ix ix_tup (pv 0) pe_int (fun _ _ => rfl)) (pa_cons (pv 1) (pa_cons (pv 2) (pa_cons (pv 3) pa_nil)))))))
      pss_nil)
    (pss_cons (ps_set (i := 4) sc__law_then.nd rfl (Or.inl rfl) (pe_callC C_walked hr rfl pass0 (pa_cons (pe_ix ix_tup (pv 0) pe_int (fun _ _ => rfl)) (pa_cons (pv 1) (pa_cons (pv 2) (pa_cons (pv 3) pa_nil))))))
    (pss_cons (ps_if (pt_cmpR op_notIn_seq pe_int (pe_ix ix_tup (pv 4) pe_int (fun _ _ => rfl)) (by rfl))
      (pss_one (ps_ret (pv 4)))
      pss_nil)
    (pss_cons (ps_set (i := 5) sc__law_then.nd rfl (Or.inl rfl) (pe_callC C_walked hr rfl pass0 (pa_cons (pe_ix ix_tup (pv 0) pe_int (fun _ _ => rfl)) (pa_cons (pv 1) (pa_cons (pe_ix ix_tup (pv 4) pe_int (fun _ _ => rfl)) (pa_cons (pv 3) pa_nil))))))
    (pss_one (ps_ret (pe_callC C__law_both hr rfl pass0 (pa_cons (pv 4) (pa_cons (pv 5) (pa_cons (pe_op op_cat (pe_comp (g := (gName 0)) (tc := (tTest (tOp rNe (tVar 0) (tC (.int 0))))) (te := (tVar 0)) ["_law_code"] [] rfl (compOk (defScope s__law_then) ["_law_whole_here", "_law_state", "_law_sure", "_law_known_here", "_law_one", "_law_other"] (by decide +kernel)) (pi_list (pe_ix ix_tup (pv 4) pe_int (fun _ _ => rfl))) (fun s2 H2 fp cl C => pg_name (i := 0) (show List.Nodup [("_law_code" : Str)] from by decide +kernel) rfl (Or.inl rfl)) (gkeep_name (by decide)) (fun s2 H2 fp cl C => pif_one (pt_cmpR op_ne (pv 0) pe_int (nomark _))) (fun s2 H2 fp cl C => (pv 0))) (pe_ix ix_tup (pv 5) pe_int (fun _ _ => rfl))) (pa_cons (pe_ix ix_tup (pv 5) pe_int (fun _ _ => rfl)) pa_nil))))))))))), ?_⟩
  obtain ⟨a, vs, rfl, hs, hx⟩ := PAt.get hp
  obtain ⟨x0, x1, x2, rfl, h0, h1, h2⟩ := hx.three
  cases h0.str
  have b1 := bd.hg
  have b2 := bd.sc
  have b3 := bd.rc
  have b5 := bd.n5
  obtain ⟨w1, w2⟩ := bd.ok
  obtain ⟨o1, o2⟩ := bd.oe
  simp only [Pt.hg] at b1
  simp only [Pt.sc] at b2
  simp only [Pt.rc] at b3
  have u1 : p1.hg ≤ 40 := Nat.le_trans (hgl b1) (by decide)
  have u2 : p2.hg ≤ 40 := Nat.le_trans (hgr b1) (by decide)
  have s1 := lt_l b2
  have s2 := lt_r b2
  have r1 := lt_l b3
  have r2 := lt_r b3
  refine if_test (goesP p2 st) (fun N fin => (rdy (j := 2) hs.sq rfl rfl ⟨_, rfl, x2, p2, sv, st, rfl, h2, o2, u2, r2, hst, fun H1 g1 => ⟨_, rfl, fin H1 g1⟩⟩)) (fun c H1 g1 => ?_) fun c H1 g1 => ?_
  · refine (rdy (j := 2) ((hs.mono g1.tp).sq) rfl rfl ⟨_, rfl, _, rfl, _, rfl, x2, p2, sv, st, sb, kl, kn, rfl, h2.mono g1.tp, stAt_mono g1 hst, g1.seq hk, u2, s2, r2, w2, fun t H2 g2 wk => q t H2 (g1.trans g2) ?_⟩)
    rw [w_thn1 o1 o2 c]
    exact wk
  have n2 : ¬ goesP p2 st = true := fun z => by rw [z] at c; cases c
  refine (rdy (j := 1) ((hs.mono g1.tp).sq) rfl rfl ⟨_, rfl, _, rfl, _, rfl, x1, p1, sv, st, sb, kl, kn, rfl, h1.mono g1.tp, stAt_mono g1 hst, g1.seq hk, u1, s1, r1, w1, fun t1 H2 g2 wk1 => ?_⟩)
  have g02 := g1.trans g2
  have y1 := walk_sg (kn := kn) (s := sb) (st := st) w1
  dsimp only [gName]
  refine if_test (!decide (0 ∈ (walkD kn sb p1 st).1)) (fun N fin => ?_) (fun c2 H3 g3 => ?_) fun c2 H3 g3 => ?_
  · obtain ⟨l1, l2, l3, a1, a2, a3, a4⟩ := id wk1
    refine (rdx (j := 0) a1 rfl rfl ⟨l1, _, rfl, .inl (SqL.of a2), rfl, flat_ints _, _, rfl, ?_⟩)
    rw [if_pos rfl, inV_ints]
    exact fin _ (Same.refl _)
  · have c2' : ¬ 0 ∈ (walkD kn sb p1 st).1 := by simpa using c2
    refine ⟨_, rfl, q t1 H3 (g02.trans g3) ?_⟩
    rw [w_thn2 o1 o2 n2 c2']
    exact wk1.mono g3
  have c2' : 0 ∈ (walkD kn sb p1 st).1 := by simpa using c2
  have g03 := g02.trans g3
  have wk3 := wk1.mono g3
  obtain ⟨l1, l2, l3, a1, a2, a3, a4⟩ := id wk3
  refine (rdy (j := 2) ((hs.mono g03.tp).sq) rfl rfl ⟨_, rfl, rdx (j := 1) a1 rfl rfl ⟨_, rfl, x2, p2, sv, st, (walkD kn sb p1 st).2.1, kl, kn, rfl, h2.mono g03.tp, stAt_mono g03 hst, g03.seq hk, u2, s2, r2, w2, fun t2 H4 g4 wk4 => ?_⟩⟩)
  have y2 := walk_sg (kn := kn) (s := (walkD kn sb p1 st).2.1) (st := st) w2
  have r3 := w_thn3 (kn := kn) (s := sb) o1 o2 n2 c2'
  generalize walkD kn (walkD kn sb p1 st).2.1 p2 st = d2 at wk4 y2 r3
  generalize walkD kn sb p1 st = d1 at wk1 wk3 a1 a2 a3 a4 y1 r3
  have wk3' := wk3.mono g4
  obtain ⟨m1, m2, m3, e1, e2, e3, e4⟩ := id wk4
  have a14 := g4 _ _ a1
  have a24 := g4 _ _ a2
  refine ⟨_, rfl, _, rfl, rdx (j := 0) a14 rfl rfl ⟨l1, rfl, ⟨_, SqL.of a24⟩, comp_list (K := K) (xs := d1.1.map V.int) (fun i ys H' => H' = H4 ∧ ys = ((d1.1.take i).filter (fun c => !decide (c = 0))).map V.int) ⟨rfl, rfl⟩ (by rw [List.length_map]; exact small (leK y1.1 (by decide))) (fun i ys H' ⟨e, _⟩ => by rw [e]; exact SqL.of a24) ?_ ?_⟩⟩
  · rintro j z ys H' M hj ⟨rfl, rfl⟩ hN hyl
    rw [List.getElem?_map] at hj
    cases ej : d1.1[j]? with
    | none => rw [ej] at hj; cases hj
    | some u =>
      rw [ej] at hj
      cases hj
      have et : (d1.1.take (j + 1)).filter (fun c => !decide (c = 0)) = (d1.1.take j).filter (fun c => !decide (c = 0)) ++ [u].filter (fun c => !decide (c = 0)) := by
        rw [List.take_add_one, ej, List.filter_append]; rfl
      refine ⟨_, rfl, rfl, _, rfl, ite2 (fun z => ?_) fun z => ?_⟩
      · have z' : ¬ u = 0 := fun e => by subst e; simp at z
        exact ⟨_, rfl, hN _ _ (snoc_le hyl) ⟨rfl, by rw [et, List.filter_cons_of_pos (by simp [z']), List.map_append]; rfl⟩⟩
      · have z' : u = 0 := Classical.byContradiction fun e => z (by simp [e])
        exact hN _ _ (Nat.le_succ_of_le hyl) ⟨rfl, by rw [et, List.filter_cons_of_neg (by simp [z'])]; simp⟩
  · rintro ys H' hyl ⟨rfl, rfl⟩ cl hcl
    rw [List.length_map, List.take_length] at *
    have k5 := same_new hcl (.lst ((d1.1.filter (fun c => !decide (c = 0))).map V.int))
    have fl := List.length_filter_le (fun c : Int => !decide (c = 0)) d1.1
    have e25 := k5 _ _ e1
    refine (rdx (j := 0) e25 rfl rfl ⟨cl, m1, _, _, rfl, rfl, upd_same, k5 _ _ e2, by rw [List.length_map, List.length_map]; exact small (Nat.le_trans (Nat.add_le_add (Nat.le_trans fl y1.1) y2.1) (by decide)), fun lc hlc => ?_⟩)
    have k6 := same_new hlc (.lst ((d1.1.filter (fun c => !decide (c = 0))).map V.int ++ d2.1.map V.int))
    have g6 := k5.trans k6
    refine (rdx (j := 1) (g6 _ _ e1) rfl rfl ⟨t1, t2, lc, d1, d2, _, d2.2.1, rfl, wk3'.mono g6, wk4.mono g6, by rw [upd_same, ← List.map_append], app_lt (Nat.le_trans fl y1.1) y2.1, ⟨Nat.le_trans y1.2.1 b5, Nat.le_trans y1.2.2 b5⟩, ⟨Nat.le_trans y2.2.1 b5, Nat.le_trans y2.2.2 b5⟩, fun t H7 g7 wk => q t H7 (g03.trans (g4.trans (g6.trans g7))) ?_⟩)
    rw [r3]
    exact wk
end

end My
end

section
set_option Elab.async false
set_option linter.all false
set_option maxRecDepth 100000
set_option maxHeartbeats 4000000
namespace My
open PySem L2
def SInn (p : Pt) (st : Option (List Int)) : Prop := (∃ k p1, p = .again k p1 ∧ AgS k p1 st) ∨ (∃ p1, p = .trap p1) ∨ (∃ x p1, p = .hold x p1) ∨ ∃ x p1, p = .watch x p1
section
variable {P : Program} {w : World} {K : PySem.W.Frag} {mg : Str → Option Value} {base : Heap} {aN aP aR : Addr} {uE uR uL : Value}
set_option maxHeartbeats 64000000 in
theorem ok_inner (F : FunM K mg "_law_inner" ["_law_whole_here", "_law_state", "_law_sure", "_law_known_here"] s__law_inner) (T : Txt mg) (C_walked : Callee P w K mg base 44 "walked" ["part", "state", "sure", "known"] (spWalk K 40)) (C__law_goes : Callee P w K mg base 41 "_law_goes" ["_law_part", "_law_state"] (spGoes K 40)) :
    Callee P w K mg base 45 "_law_inner" ["_law_whole_here", "_law_state", "_law_sure", "_law_known_here"] (spRow K SInn) := by
  refine F.ok sc__law_inner (fun vs H Q E h => ?_) (fun f cdv A outer s H vs Q E hr h => ?_)
  · obtain ⟨v, p, sv, st, sb, kl, kn, rfl, _⟩ := h; rfl
  obtain ⟨v, p, sv, st, sb, kl, kn, rfl, hp, sh, bd, hst, hk, q⟩ := h
  refine ⟨_, (pss_cons (ps_par (i := 4) (j := 5) rfl sc__law_inner.nd rfl rfl (by decide) rfl rfl (pa_cons (pe_ix ix_tup (pv 0) pe_int (fun _ _ => rfl)) (pa_cons (pe_ix ix_tup (pv 0) (pe_un un_neg pe_int) (fun _ _ => rfl)) pa_nil)) rfl)
    (pss_cons (ps_if (pt_cmpR op_eq (pv 4) pe_str (nomark _))
      (pss_cons (ps_asg (pe_callC C_walked hr rfl pass0 (pa_cons (pv 5) (pa_cons (pv 1) (pa_cons (pv 2) (pa_cons (pv 3) pa_nil))))) (pg_tup rfl (pgs_cons (pg_name (i := 6) sc__law_inner.nd rfl (Or.inl rfl)) (pgs_cons (pg_name (i := 7) sc__law_inner.nd rfl (Or.inl rfl)) (pgs_cons (pg_name (i := 8) sc__law_inner.nd rfl (Or.inl rfl)) (pgs_cons (pg_name (i := 9) sc__law_inner.nd rfl (Or.inl rfl)) pgs_nil))))))
    (pss_one (ps_ret (pe_tup (pa_cons (pe_sset rfl rfl T.n_sorted rfl T.n_set (pe_comp (g := (gName 0)) (tc := tAlways) (te := (tCB rMax2 (tCons (tVar 0) (tCons (tC (.int 1)) tNil)))) ["_law_code"] [] rfl (compOk (defScope s__law_inner) ["_law_whole_here", "_law_state", "_law_sure", "_law_known_here", "_law_word", "_law_inner_here", "_law_codes", "_law_surely", "_law_must", "_law_can", "_law_value", "_law_code", "_law_found"] (by decide +kernel)) (pi_list (pv 6)) (fun s2 H2 fp cl C => pg_name (i := 0) (show List.Nodup [("_law_code" : Str)] from by decide +kernel) rfl (Or.inl rfl)) (gkeep_name (by decide)) (fun s2 H2 fp cl C => pif_nil) (fun s2 H2 fp cl C => (pe_callB (call_max2 rfl) rfl T.n_max (by decide +kernel) (pa_cons (pv 0) (pa_cons pe_int pa_nil)))))) (pa_cons (pv 7) (pa_cons (pv 8) (pa_cons (pv 9) pa_nil))))))))
      pss_nil)
    (pss_cons (ps_if (pt_cmpR op_eq (pv 4) pe_str (nomark _))
      (pss_cons (ps_asg (pe_callC C_walked hr rfl pass0 (pa_cons (pv 5) (pa_cons (pv 1) (pa_cons (pv 2) (pa_cons (pv 3) pa_nil))))) (pg_tup rfl (pgs_cons (pg_name (i := 6) sc__law_inner.nd rfl (Or.inl rfl)) (pgs_cons (pg_name (i := 7) sc__law_inner.nd rfl (Or.inl rfl)) (pgs_cons (pg_name (i := 8) sc__law_inner.nd rfl (Or.inl rfl)) (pgs_cons (pg_name (i := 9) sc__law_inner.nd rfl (Or.inl rfl)) pgs_nil))))))
    (pss_one (ps_ret (pe_tup (pa_cons (pe_sset rfl rfl T.n_sorted rfl T.n_set (pe_comp (g := (gName 0)) (tc := tAlways) (te := (tOp (rI0 fun i j => .int (i - j)) (tCB rMax2 (tCons (tOp (rI0 fun i j => .int (i - j)) (tVar 0) (tC (.int 1))) (tCons (tCB rMin2 (tCons (tVar 0) (tCons (tC (.int 1)) tNil))) tNil))) (tCB rInt1 (tCons (tOp rEq (tVar 0) (tC (.int 2))) tNil)))) ["_law_code"] [] rfl (compOk (defScope s__law_inner) ["_law_whole_here", "_law_state", "_law_sure", "_law_known_here", "_law_word", "_law_inner_here", "_law_codes", "_law_surely", "_law_must", "_law_can", "_law_value", "_law_code", "_law_found"] (by decide +kernel)) (pi_list (pv 6)) (fun s2 H2 fp cl C => pg_name (i := 0) (show List.Nodup [("_law_code" : Str)] from by decide +kernel) rfl (Or.inl rfl)) (gkeep_name (by decide)) (fun s2 H2 fp cl C => pif_nil) (fun s2 H2 fp cl C => (pe_op op_sub (pe_callB (call_max2 rfl) rfl T.n_max (by decide +kernel) (pa_cons (pe_op op_sub (pv 0) pe_int) (pa_cons (pe_callB (call_min2 rfl) rfl T.n_min (by decide +kernel) (pa_cons (pv 0) (pa_cons pe_int pa_nil))) pa_nil))) (pe_callTy call_intK rfl T.n_int (by decide +kernel) (pa_cons (pe_cmpR op_eq (pv 0) pe_int (nomark _)) pa_nil)))))) (pa_cons (pv 7) (pa_cons (pv 8) (pa_cons (pv 9) pa_nil))))))))
      pss_nil)
    (pss_cons (ps_set (i := 10) sc__law_inner.nd rfl (Or.inl rfl) (pe_ix ix_list (pv 3) (pe_ix ix_tup (pv 0) pe_int (fun _ _ => rfl)) (fun _ _ => rfl)))
    (pss_cons (ps_if (PW.pt (pw_or (pt_cmpR op_isB (pv 10) pe_bl (nomark _)) (pw_or1 (pt_not (pt_val (pe_callC C__law_goes hr rfl pass0 (pa_cons (pv 5) (pa_cons (pv 1) pa_nil))))))))
      (pss_one (ps_ret (pe_callC C_walked hr rfl pass0 (pa_cons (pv 5) (pa_cons (pv 1) (pa_cons (pv 2) (pa_cons (pv 3) pa_nil)))))))
      pss_nil)
    (pss_cons (ps_set (i := 11) sc__law_inner.nd rfl (Or.inl rfl) (pe_callTy call_intK rfl T.n_int (by decide +kernel) (pa_cons (pe_cmpR op_eq (pv 4) pe_str (nomark _)) pa_nil)))
    (pss_cons (ps_if (pt_cmpR op_isB (pv 10) pe_bl (nomark _))
      (pss_one (ps_ret (pe_tup (pa_cons (pe_lst (pa_cons (pv 11) pa_nil)) (pa_cons (pv 2) (pa_cons (pe_lst pa_nil) (pa_cons (pe_lst pa_nil) pa_nil)))))))
      pss_nil)
    (pss_cons (ps_set (i := 12) sc__law_inner.nd rfl (Or.inl rfl) (pe_callC C_walked hr rfl pass0 (pa_cons (pv 5) (pa_cons (pv 1) (pa_cons pe_bl (pa_cons (pv 3) pa_nil))))))
    (pss_one (ps_ret (pe_tup (pa_cons (pe_sset rfl rfl T.n_sorted rfl T.n_set (pe_op op_cat (pe_ix ix_tup (pv 12) pe_int (fun _ _ => rfl)) (pe_lst (pa_cons (pv 11) pa_nil)))) (pa_cons pe_bl (pa_cons (pe_lst pa_nil) (pa_cons (pe_ix ix_tup (pv 12) pe_int (fun _ _ => rfl)) pa_nil))))))))))))))), ?_⟩
  have b1 := bd.hg
  have b2 := bd.sc
  have b3 := bd.rc
  have b5 := bd.n5
  have b4 := bd.ok
  have bo := bd.oe
  rcases sh with ⟨k, p1, rfl, ags⟩ | ⟨p1, rfl⟩ | hw
  · obtain ⟨a, vs, rfl, hs, hx⟩ := PAt.get hp
    obtain ⟨x0, x1, x2, rfl, h0, h1, h2⟩ := hx.three
    cases h0.str
    cases h1.int
    simp only [Pt.hg] at b1
    simp only [Pt.sc] at b2
    simp only [Pt.rc] at b3
    have w1 : okW kn.length p1 := b4
    have y1 := walk_sg (kn := kn) (s := sb) (st := st) w1
    refine (rdy (j := 0) hs.sq rfl rfl ⟨_, rfl, _, rfl, a, _, _, _, rfl, rfl, hs.sq, atI_neg1 rfl, _, _, rfl, ?_⟩)
    refine ⟨_, rfl, rfl, _, rfl, iteEq ?_⟩
    refine ⟨_, rfl, _, rfl, _, rfl, _, rfl, x2, p1, sv, st, sb, kl, kn, rfl, h2, hst, hk, Nat.le_of_succ_le b1, b2, Nat.lt_of_succ_lt b3, w1, fun t1 H2 g2 wk1 => ?_⟩
    have r3 := w_again (kn := kn) (s := sb) (k := k) w1 bo ags
    generalize walkD kn sb p1 st = d1 at wk1 y1 r3
    obtain ⟨l1, l2, l3, a1, a2, a3, a4⟩ := id wk1
    refine ⟨t1, _, rfl, SqT.of a1, rfl, _, _, rfl, _, _, rfl, _, _, rfl, _, _, rfl, rfl, ?_⟩
    refine ⟨_, rfl, l1, rfl, ⟨_, SqL.of a2⟩, comp_list (K := K) (xs := d1.1.map V.int) (fun i ys H' => H' = H2 ∧ ys = ((d1.1.take i).map fun c => mx c 1).map V.int) ⟨rfl, rfl⟩ (by rw [List.length_map]; exact small (leK y1.1 (by decide))) (fun i ys H' ⟨e, _⟩ => by rw [e]; exact SqL.of a2) ?_ ?_⟩
    · rintro j z ys H' M hj ⟨rfl, rfl⟩ hN hyl
      rw [List.getElem?_map] at hj
      cases ej : d1.1[j]? with
      | none => rw [ej] at hj; cases hj
      | some u =>
        rw [ej] at hj
        cases hj
        exact ⟨_, rfl, _, _, rfl, hN _ _ (snoc_le hyl) ⟨rfl, by rw [List.take_add_one, ej, List.map_append, List.map_append]; rfl⟩⟩
    · rintro ys H' hyl ⟨rfl, rfl⟩ cl hcl
      rw [List.length_map, List.take_length] at *
      have k5 := same_new hcl (.lst ((d1.1.map fun c => mx c 1).map V.int))
      refine ⟨cl, d1.1.map (fun c => mx c 1), rfl, SqL.of upd_same, by rw [List.length_map]; exact Nat.lt_of_le_of_lt y1.1 (by decide), fun r hr => ?_⟩
      have k6 := same_new hr (.lst ((nub (d1.1.map fun c => mx c 1)).map V.int))
      refine ⟨_, rfl, _, rfl, _, rfl, (by show 4 ≤ sizeLine; decide), fun t ht => q t _ (g2.trans (k5.trans (k6.trans (same_new ht _)))) ?_⟩
      rw [r3]
      exact wk_new upd_same ((k5.trans k6) _ _ a3) ((k5.trans k6) _ _ a4) ht
  · obtain ⟨a, vs, rfl, hs, hx⟩ := PAt.get hp
    obtain ⟨x0, x1, rfl, h0, h1⟩ := hx.two
    cases h0.str
    simp only [Pt.hg] at b1
    simp only [Pt.sc] at b2
    simp only [Pt.rc] at b3
    have w1 : okW kn.length p1 := b4
    have y1 := walk_sg (kn := kn) (s := sb) (st := st) w1
    refine (rdy (j := 0) hs.sq rfl rfl ⟨_, rfl, _, rfl, a, _, _, _, rfl, rfl, hs.sq, atI_neg1 rfl, _, _, rfl, ?_⟩)
    refine ⟨_, rfl, rfl, _, rfl, iteNe (show ¬ (("trap" : Str) = "again") from by decide +kernel) ?_⟩
    refine ⟨_, rfl, rfl, _, rfl, iteEq ?_⟩
    refine ⟨_, rfl, _, rfl, _, rfl, _, rfl, x1, p1, sv, st, sb, kl, kn, rfl, h1, hst, hk, Nat.le_of_succ_le b1, b2, b3, w1, fun t1 H2 g2 wk1 => ?_⟩
    have r3 := w_trap (kn := kn) (s := sb) (st := st) w1
    generalize walkD kn sb p1 st = d1 at wk1 y1 r3
    obtain ⟨l1, l2, l3, a1, a2, a3, a4⟩ := id wk1
    refine ⟨t1, _, rfl, SqT.of a1, rfl, _, _, rfl, _, _, rfl, _, _, rfl, _, _, rfl, rfl, ?_⟩
    refine ⟨_, rfl, l1, rfl, ⟨_, SqL.of a2⟩, comp_list (K := K) (xs := d1.1.map V.int) (fun i ys H' => H' = H2 ∧ ys = ((d1.1.take i).map trapL).map V.int) ⟨rfl, rfl⟩ (by rw [List.length_map]; exact small (leK y1.1 (by decide))) (fun i ys H' ⟨e, _⟩ => by rw [e]; exact SqL.of a2) ?_ ?_⟩
    · rintro j z ys H' M hj ⟨rfl, rfl⟩ hN hyl
      rw [List.getElem?_map] at hj
      cases ej : d1.1[j]? with
      | none => rw [ej] at hj; cases hj
      | some u =>
        rw [ej] at hj
        cases hj
        have ed : decide (V.int u = V.int 2) = decide (u = 2) := decide_eq_decide.mpr ⟨fun z => V.int.inj z, fun z => congrArg V.int z⟩
        refine ⟨_, rfl, _, _, rfl, rfl, _, rfl, _, _, rfl, _, _, rfl, _, rfl, rfl, .inr ⟨_, rfl, _, _, rfl, rfl, hN _ _ (snoc_le hyl) ⟨rfl, ?_⟩⟩⟩
        rw [List.take_add_one, ej, List.map_append, List.map_append]
        congr 1
        show [V.int (mx (u - 1) (if 1 < u then 1 else u) - (if decide (V.int u = V.int 2) = true then 1 else 0))] = [V.int (trapL u)]
        rw [ed]
        unfold trapL
        by_cases e : u = 2
        · rw [decide_eq_true e, if_pos rfl, if_pos e]
        · rw [decide_eq_false e, if_neg Bool.false_ne_true, if_neg e]
    · rintro ys H' hyl ⟨rfl, rfl⟩ cl hcl
      rw [List.length_map, List.take_length] at *
      have k5 := same_new hcl (.lst ((d1.1.map trapL).map V.int))
      refine ⟨cl, d1.1.map trapL, rfl, SqL.of upd_same, by rw [List.length_map]; exact Nat.lt_of_le_of_lt y1.1 (by decide), fun r hr => ?_⟩
      have k6 := same_new hr (.lst ((nub (d1.1.map trapL)).map V.int))
      refine ⟨_, rfl, _, rfl, _, rfl, (by show 4 ≤ sizeLine; decide), fun t ht => q t _ (g2.trans (k5.trans (k6.trans (same_new ht _)))) ?_⟩
      rw [r3]
      exact wk_new upd_same ((k5.trans k6) _ _ a3) ((k5.trans k6) _ _ a4) ht
  · obtain ⟨x, p1, hr2⟩ : ∃ x p1, p = .hold x p1 ∨ p = .watch x p1 := by
      rcases hw with ⟨x, p1, e⟩ | ⟨x, p1, e⟩
      · exact ⟨x, p1, .inl e⟩
      · exact ⟨x, p1, .inr e⟩
    obtain ⟨wd, a, v2, rfl, hs, h2, hwd, ox, w1, oe, c1, c2, c3⟩ : ∃ (wd : Str) (a : Addr) (v2 : V), v = .ref a ∧ TupAt K H a [.str wd, .int x, v2] ∧ PAt K H (Pt.nd p1) v2 ∧ ((wd = "hold" ∧ rndC p = 1) ∨ (wd = "watch" ∧ rndC p = 0)) ∧ (0 ≤ x ∧ x < kn.length) ∧ okW kn.length p1 ∧ okE p1 ∧ p1.hg ≤ 40 ∧ p1.sc < 64 ∧ p1.rc < 64 := by
      rcases hr2 with rfl | rfl
      · obtain ⟨a, vs, rfl, hs, hx⟩ := PAt.get hp
        obtain ⟨x0, x1, x2, rfl, h0, h1, h2⟩ := hx.three
        cases h0.str
        cases h1.int
        simp only [Pt.hg] at b1
        exact ⟨"hold", a, x2, rfl, hs, h2, .inl ⟨rfl, rfl⟩, b4.1, b4.2, bo, by first | exact Nat.le_of_succ_le b1 | exact Nat.le_of_succ_le_succ b1 | omega, b2, b3⟩
      · obtain ⟨a, vs, rfl, hs, hx⟩ := PAt.get hp
        obtain ⟨x0, x1, x2, rfl, h0, h1, h2⟩ := hx.three
        cases h0.str
        cases h1.int
        simp only [Pt.hg] at b1
        exact ⟨"watch", a, x2, rfl, hs, h2, .inr ⟨rfl, rfl⟩, b4.1, b4.2, bo, by first | exact Nat.le_of_succ_le b1 | exact Nat.le_of_succ_le_succ b1 | omega, b2, b3⟩
    have nw1 : ¬ wd = "again" := by rcases hwd with ⟨rfl, _⟩ | ⟨rfl, _⟩ <;> decide +kernel
    have nw2 : ¬ wd = "trap" := by rcases hwd with ⟨rfl, _⟩ | ⟨rfl, _⟩ <;> decide +kernel
    have ea : atI (kn.map vO) x = some (vO ((kn[x.toNat]?).getD none)) := by
      have hx : x.toNat < kn.length := tn_lt ox
      have := atI_nat (xs := kn.map vO) (j := x.toNat) (v := vO kn[x.toNat]) (by rw [List.getElem?_map, List.getElem?_eq_getElem hx]; rfl)
      rw [Int.toNat_of_nonneg ox.1] at this
      rw [List.getElem?_eq_getElem hx]
      exact this
    have hv : ∀ o : Option Bool, vO o = .non ∨ ∃ b, vO o = .bl b := fun o => match o with | none => .inl rfl | some b => .inr ⟨b, rfl⟩
    refine (rdy (j := 0) hs.sq rfl rfl ⟨_, rfl, _, rfl, a, _, _, _, rfl, rfl, hs.sq, atI_neg1 rfl, _, _, rfl, ?_⟩)
    refine ⟨_, rfl, rfl, _, rfl, iteNe nw1 ?_⟩
    refine ⟨_, rfl, rfl, _, rfl, iteNe nw2 ?_⟩
    refine ⟨_, rfl, rdy (j := 1) hs.sq rfl rfl ⟨kl, _, _, _, rfl, rfl, hk, ea, ?_⟩⟩
    generalize eo : (kn[x.toNat]?).getD none = o
    dsimp only [gName]
    refine if_test (decide (o = some false) || !goesP p1 st) (fun N fin => ?_) (fun c H1 g1 => ?_) fun c H1 g1 => ?_
    · refine ⟨_, rfl, false, rfl, hv _, _, rfl, ?_⟩
      rw [show V.bl false = vO (some false) from rfl, vO_eq]
      cases e1 : decide (o = some false) with
      | true => rw [e1] at fin; exact iteT (fin _ (Same.refl _))
      | false =>
        rw [e1] at fin
        exact iteF ⟨_, rfl, _, rfl, v2, p1, sv, st, rfl, h2, oe, by first | exact c1 | omega, by first | exact c3 | omega, hst, fun H2 g2 => ⟨_, rfl, fin H2 g2⟩⟩
    · refine ⟨_, rfl, _, rfl, _, rfl, _, rfl, v2, p1, sv, st, sb, kl, kn, rfl, h2.mono g1.tp, stAt_mono g1 hst, g1.seq hk, by first | exact c1 | omega, by first | exact c2 | omega, by first | exact c3 | omega, w1, fun t H2 g2 wk => q t H2 (g1.trans g2) ?_⟩
      rw [w_rnd1 hr2 oe (by rw [eo]; simpa using c)]
      exact wk
    have gp : goesP p1 st = true := by
      cases e : goesP p1 st with
      | true => rfl
      | false => rw [e] at c; simp at c
    have nf : ¬ o = some false := fun e => by rw [decide_eq_true e] at c; cases c
    have rc : rndC p = (if decide (V.str wd = V.str "hold") = true then 1 else 0) := by
      rcases hwd with ⟨rfl, e⟩ | ⟨rfl, e⟩
      · rw [e]; rfl
      · rw [e]; rfl
    refine ⟨_, rfl, rfl, .inr ⟨_, rfl, ?_⟩⟩
    rw [← rc]
    dsimp only [gName]
    refine if_test (decide (o = some true)) (fun N fin => ?_) (fun c2 H2 g2 => ?_) fun c2 H2 g2 => ?_
    · refine ⟨_, rfl, true, rfl, hv _, _, rfl, ?_⟩
      rw [show V.bl true = vO (some true) from rfl, vO_eq]
      exact fin _ (Same.refl _)
    · refine ⟨_, rfl, (by show 1 ≤ sizeLine; decide), fun y1 hy1 => ⟨_, rfl, (by show 0 ≤ sizeLine; decide), fun y2 hy2 => ⟨(by show 0 ≤ sizeLine; decide), fun y3 hy3 => ⟨(by show 4 ≤ sizeLine; decide), fun t ht => ?_⟩⟩⟩⟩
      have k1 := same_new hy1 (.lst [.int (rndC p)])
      have k2 := same_new hy2 (.lst [])
      have k3 := same_new hy3 (.lst [])
      refine q t _ (g1.trans (g2.trans (k1.trans (k2.trans (k3.trans (same_new ht _)))))) ?_
      rw [w_rnd2 hr2 oe (by rw [eo]; exact of_decide_eq_true c2) gp]
      exact wk_new (x := [rndC p]) (y := []) (z := []) ((k2.trans k3) _ _ upd_same) (k3 _ _ upd_same) upd_same ht
    have g12 := g1.trans g2
    have en : o = none := by
      cases o with
      | none => rfl
      | some b =>
        cases b with
        | false => exact absurd rfl nf
        | true => cases c2
    refine ⟨_, rfl, _, rfl, _, rfl, v2, p1, sv, st, false, kl, kn, rfl, h2.mono g12.tp, stAt_mono g12 hst, g12.seq hk, by first | exact c1 | omega, by first | exact c2 | omega, by first | exact c3 | omega, w1, fun t1 H3 g3 wk1 => ?_⟩
    have y1 := walk_sg (kn := kn) (s := false) (st := st) w1
    have r3 := w_rnd3 (kn := kn) (s := sb) (st := st) hr2 oe (by rw [eo]; exact en) gp
    generalize walkD kn false p1 st = d1 at wk1 y1 r3
    obtain ⟨l1, l2, l3, a1, a2, a3, a4⟩ := id wk1
    refine (rdx (j := 0) a1 rfl rfl ⟨_, rfl, (by show 1 ≤ sizeLine; decide), fun z1 hz1 => ?_⟩)
    have k1 := same_new hz1 (.lst [.int (rndC p)])
    refine ⟨l1, z1, _, _, rfl, rfl, k1 _ _ a2, upd_same, by rw [List.length_map]; show d1.1.length + 1 ≤ sizeLine; exact small (Nat.le_trans (Nat.succ_le_succ y1.1) (by decide)), fun lc hlc => ?_⟩
    have k2 := same_new hlc (.lst (d1.1.map V.int ++ [.int (rndC p)]))
    refine ⟨lc, d1.1 ++ [rndC p], rfl, SqL.of (by rw [upd_same, List.map_append]; rfl), by rw [List.length_append, List.length_singleton]; exact Nat.lt_of_le_of_lt (Nat.succ_le_succ y1.1) (by decide), fun r hr => ?_⟩
    have k3 := same_new hr (.lst ((nub (d1.1 ++ [rndC p])).map V.int))
    refine ⟨(by show 0 ≤ sizeLine; decide), fun y2 hy2 => ?_⟩
    have k4 := same_new hy2 (.lst [])
    have g4 := k1.trans (k2.trans (k3.trans k4))
    refine (rdx (j := 3) (g4 _ _ a1) rfl rfl ⟨(by show 4 ≤ sizeLine; decide), fun t ht => q t _ (g12.trans (g3.trans (g4.trans (same_new ht _)))) ?_⟩)
    rw [r3]
    exact wk_new (y := []) (k4 _ _ upd_same) upd_same (g4 _ _ a4) ht
end

end My
end

section
set_option Elab.async false
set_option linter.all false
set_option maxRecDepth 100000
set_option maxHeartbeats 4000000
namespace My
open PySem L2
/-- a test with two ends, by its value -/
theorem if_else {t : TT} {a c : TS} {D : Ends} {σ : St} {H : Hp} (b : Bool) (h : ∀ N : Bool → Hp → Prop, (∀ H', Same H H' → N b H') → t σ H N) (ka : b = true → ∀ H', Same H H' → a D σ H') (kb : b = false → ∀ H', Same H H' → c D σ H') : tIfS t a c D σ H :=
  h _ fun H' g => by
    cases b with
    | true => exact iteT (ka rfl H' g)
    | false => exact iteF (kb rfl H' g)
theorem bs_hw {sl t : Addr} {H H' : Hp} {ts : List Addr} {ds : List Wk} {d : Wk} {i : Nat} (hi : ts.length = i) (hd : ds[i]? = some d) (k : Kp sl H H') (hw : ∀ (j : Nat) (t : Addr) (d : Wk), ts[j]? = some t → ds[j]? = some d → WkN sl H t d) (hn : WkN sl H' t d) : ∀ (j : Nat) (t' : Addr) (d' : Wk), (ts ++ [t])[j]? = some t' → ds[j]? = some d' → WkN sl H' t' d' := by
  intro j t' d' h1 h2
  by_cases c : j < ts.length
  · rw [List.getElem?_append_left c] at h1
    exact (hw j t' d' h1 h2).kp k
  · rw [List.getElem?_append_right (Nat.le_of_not_lt c)] at h1
    have e : j - ts.length = 0 := by
      cases e : j - ts.length with
      | zero => rfl
      | succ m => rw [e] at h1; simp at h1
    rw [e] at h1
    cases h1
    have ej : j = i := by omega
    rw [ej, hd] at h2
    cases h2
    exact hn
theorem prod_take {a b : List Int} {i : Nat} {c : Int} (h : a[i]? = some c) : prodC (a.take (i + 1)) b = prodC (a.take i) b ++ b.map fun d => mx c d := by
  unfold prodC
  rw [List.take_add_one, h, List.flatMap_append]
  simp
theorem prod_len (b : List Int) : ∀ a : List Int, (prodC a b).length ≤ a.length * b.length
  | [] => Nat.zero_le _
  | x :: a => by
    have ih := prod_len b a
    unfold prodC at ih ⊢
    rw [List.flatMap_cons, List.length_append, List.length_map, List.length_cons, Nat.add_mul, Nat.one_mul, Nat.add_comm]
    exact Nat.add_le_add_right ih _
theorem side_sg {n : Nat} {kn : List (Option Bool)} {s : Bool} {r p : Pt} {st : Option (List Int)} (wp : okW (n : Int) p) : (sideD' kn s r p st).1.length ≤ 6 ∧ (sideD' kn s r p st).2.2.1.length ≤ n ∧ (sideD' kn s r p st).2.2.2.length ≤ n := by
  unfold sideD'
  split
  · exact ⟨(by show 1 ≤ 6; decide), Nat.zero_le _, Nat.zero_le _⟩
  · exact walk_sg wp
theorem prod_small {a b : List Int} (ha : a.length ≤ 6) (hb : b.length ≤ 6) (i : Nat) : (prodC (a.take i) b).length ≤ 36 := by
  have h := prod_len b (a.take i)
  have l : (a.take i).length ≤ 6 := Nat.le_trans (by rw [List.length_take]; exact Nat.min_le_right _ _) ha
  exact Nat.le_trans h (Nat.le_trans (Nat.mul_le_mul l hb) (by decide))
section
variable {P : Program} {w : World} {K : PySem.W.Frag} {mg : Str → Option Value} {base : Heap} {aN aP aR : Addr} {uE uR uL : Value}
set_option maxHeartbeats 64000000 in
theorem ok_beside (F : FunM K mg "_law_beside" ["_law_whole_here", "_law_state", "_law_sure", "_law_known_here"] s__law_beside) (T : Txt mg) (C_walked : Callee P w K mg base 44 "walked" ["part", "state", "sure", "known"] (spWalkG K 40)) (C__law_goes : Callee P w K mg base 41 "_law_goes" ["_law_part", "_law_state"] (spGoes K 40)) (C__law_both : Callee P w K mg base 1 "_law_both" ["_law_one", "_law_other", "_law_codes", "_law_surely"] spBoth) :
    Callee P w K mg base 45 "_law_beside" ["_law_whole_here", "_law_state", "_law_sure", "_law_known_here"] (spRow K fun p _ => ∃ p1 q1, p = .bes p1 q1) := by
  refine F.ok sc__law_beside (fun vs H Q E h => ?_) (fun f cdv A outer s H vs Q E hr h => ?_)
  · obtain ⟨v, p, sv, st, sb, kl, kn, rfl, _⟩ := h; rfl
  obtain ⟨v, p, sv, st, sb, kl, kn, rfl, hp, ⟨p1, p2, rfl⟩, bd, hst, hk, q⟩ := h
  refine ⟨_, (pss_cons (ps_set (i := 4) sc__law_beside.nd rfl (Or.inl rfl) (pe_lst pa_nil))
    (pss_cons (ps_for PassesOwn.never rfl (pi_tup (pe_slice sl_tup (pv 0) (po_some pe_int) po_none)) (pg_name (i := 5) sc__law_beside.nd rfl (Or.inl rfl))
      (pss_one (ps_if (PW.pt (pw_and (pt_val (pe_callC C__law_goes hr rfl pass0 (pa_cons (pv 0) (pa_cons (pv 1) pa_nil)))) (pw_and1 (pt_not (pt_val (pe_callC C__law_goes hr rfl pass0 (pa_cons (pv 5) (pa_cons (pv 1) pa_nil))))))))
      (pss_one (ps_expr (pe_bm PySem.F.plainAttrs_list PySem.F.slot_list_append PySem.F.type_list_append mt_append (pv 4) (pa_cons (pe_tup (pa_cons (pe_lst (pa_cons pe_int pa_nil)) (pa_cons (pv 2) (pa_cons (pe_lst pa_nil) (pa_cons (pe_lst pa_nil) pa_nil))))) pa_nil))))
      (pss_one (ps_expr (pe_bm PySem.F.plainAttrs_list PySem.F.slot_list_append PySem.F.type_list_append mt_append (pv 4) (pa_cons (pe_callC C_walked hr rfl pass0 (pa_cons (pv 5) (pa_cons (pv 1) (pa_cons (pv 2) (pa_cons (pv 3) pa_nil))))) pa_nil)))))))
    (pss_cons (ps_set (i := 6) sc__law_beside.nd rfl (Or.inl rfl) (pe_lst pa_nil))
    (pss_cons (ps_for PassesOwn.never rfl (pi_list (pe_ix ix_tup (pe_ix ix_list (pv 4) pe_int (fun _ _ => rfl)) pe_int (fun _ _ => rfl))) (pg_name (i := 7) sc__law_beside.nd rfl (Or.inr rfl))
      (pss_one (ps_set (i := 6) sc__law_beside.nd rfl (Or.inl rfl) (pe_op op_cat (pv 6) (pe_comp (g := (gName 0)) (tc := tAlways) (te := (tCB rMax2 (tCons (tVar 1) (tCons (tVar 0) tNil)))) ["_law_other"] [("_law_code", 7)] rfl (compOk (defScope s__law_beside) ["_law_whole_here", "_law_state", "_law_sure", "_law_known_here", "_law_sides", "_law_side", "_law_codes", "_law_code"] (by decide +kernel)) (pi_list (pe_ix ix_tup (pe_ix ix_list (pv 4) pe_int (fun _ _ => rfl)) pe_int (fun _ _ => rfl))) (fun s2 H2 fp cl C => pg_name (i := 0) (show List.Nodup [("_law_other" : Str), ("_law_code" : Str)] from by decide +kernel) rfl (Or.inl rfl)) (gkeep_name (by decide)) (fun s2 H2 fp cl C => pif_nil) (fun s2 H2 fp cl C => (pe_callB (call_max2 rfl) rfl T.n_max (by decide +kernel) (pa_cons (pv 1) (pa_cons (pv 0) pa_nil)))))))))
    (pss_one (ps_ret (pe_callC C__law_both hr rfl pass0 (pa_cons (pe_ix ix_list (pv 4) pe_int (fun _ _ => rfl)) (pa_cons (pe_ix ix_list (pv 4) pe_int (fun _ _ => rfl)) (pa_cons (pv 6) (pa_cons (pe_and (pe_ix ix_tup (pe_ix ix_list (pv 4) pe_int (fun _ _ => rfl)) pe_int (fun _ _ => rfl)) (pe_one (pe_ix ix_tup (pe_ix ix_list (pv 4) pe_int (fun _ _ => rfl)) pe_int (fun _ _ => rfl)))) pa_nil))))))))))), ?_⟩
  have hp' := hp
  obtain ⟨a, vs, rfl, hs, hx⟩ := PAt.get hp
  obtain ⟨x0, x1, x2, rfl, h0, h1, h2⟩ := hx.three
  cases h0.str
  have b1 := bd.hg
  have b2 := bd.sc
  have b3 := bd.rc
  have b5 := bd.n5
  obtain ⟨w1, w2⟩ := bd.ok
  have oe := bd.oe
  obtain ⟨o1, o2⟩ := bd.oe
  have hx : ∀ (i : Nat) (y : V), [x1, x2][i]? = some y → ∃ p, [sideD' kn sb (.bes p1 p2) p1 st, sideD' kn sb (.bes p1 p2) p2 st][i]? = some (sideD' kn sb (.bes p1 p2) p st) ∧ PAt K H (Pt.nd p) y ∧ p.hg ≤ 40 ∧ p.sc < 64 ∧ p.rc < 64 ∧ okW kn.length p ∧ okE p := by
    simp only [Pt.hg] at b1
    simp only [Pt.sc] at b2
    simp only [Pt.rc] at b3
    intro i y hi
    match i, hi with
    | 0, hi => cases hi; exact ⟨p1, rfl, h1, Nat.le_trans (hgl b1) (by decide), lt_l b2, lt_l b3, w1, o1⟩
    | 1, hi => cases hi; exact ⟨p2, rfl, h2, Nat.le_trans (hgr b1) (by decide), lt_r b2, lt_r b3, w2, o2⟩
  have y1 := side_sg (kn := kn) (s := sb) (r := .bes p1 p2) (st := st) w1
  have y2 := side_sg (kn := kn) (s := sb) (r := .bes p1 p2) (st := st) w2
  have r3 := w_bes (kn := kn) (s := sb) (st := st) w1 w2 o1 o2
  have sided : ∀ p, (goesP (.bes p1 p2) st && !goesP p st) = true → sideD' kn sb (.bes p1 p2) p st = ([0], sb, [], []) := fun p c => if_pos (by simpa using c)
  have sidew : ∀ p, (goesP (.bes p1 p2) st && !goesP p st) = false → sideD' kn sb (.bes p1 p2) p st = walkD kn sb p st := fun p c => if_neg (fun z => by rw [z.1, Bool.eq_false_iff.mpr z.2] at c; cases c)
  generalize sideD' kn sb (.bes p1 p2) p1 st = d1 at hx y1 r3
  generalize sideD' kn sb (.bes p1 p2) p2 st = d2 at hx y2 r3
  refine ⟨(by show 0 ≤ sizeLine; decide), fun sl hsl => ?_⟩
  have g0 := same_new hsl (.lst [])
  refine ⟨_, rfl, _, rfl, a, _, rfl, (hs.mono g0.tp).sq, tail_not, fun tp htp => ?_⟩
  have g1 := same_new htp (.tup (cutV [V.str "beside", x1, x2] (some 1) none))
  have e1 : (upd (upd H sl (.lst [])) tp (.tup (cutV [V.str "beside", x1, x2] (some 1) none))) tp = some (.tup [x1, x2]) := by rw [upd_same, tail_cut]
  have e0 := g1 _ _ (upd_same (H := H) (a := sl) (o := .lst []))
  have g01 := g0.trans g1
  have ntp : tp ≠ sl := (ne_of_none upd_same htp).symm
  generalize (upd (upd H sl (.lst [])) tp (.tup (cutV [V.str "beside", x1, x2] (some 1) none))) = H1 at g1 e1 e0 g01
  refine ⟨tp, rfl, ⟨_, SqT.of e1⟩, for_tup (K := K) (a := tp) (xs := [x1, x2]) (fun i σ H' => Ex2 fun (ts : List Addr) (x5 : Option V) => An6 (σ = [some (.ref a), some sv, some (.bl sb), some (.ref kl), some (.ref sl), x5, none, none]) (Same H H') (H' tp = some (.tup [x1, x2])) (H' sl = some (.lst (ts.map V.ref))) (ts.length = i) (∀ (j : Nat) (t : Addr) (d : Wk), ts[j]? = some t → [d1, d2][j]? = some d → WkN sl H' t d)) ⟨[], none, rfl, g01, e1, e0, rfl, fun j t d z => (by cases j <;> cases z)⟩ (fun i σ H' _ h => by obtain ⟨_, _, _, _, z, _⟩ := h; exact SqT.of z) ?_ ?_⟩
  · rintro i y σ H' hi ⟨ts, x5, rfl, g2, etp, esl, tl, hw⟩
    obtain ⟨p, ed, hy, c1, c2, c3, c4, c5⟩ := hx i y hi
    have il : i < 2 := by
      have := (List.getElem?_eq_some_iff.mp hi).1
      exact this
    have nxt : ∀ (t : Addr) (H2 : Hp), Same H' H2 → WkN sl H2 t (sideD' kn sb (.bes p1 p2) p st) → Same H (upd H2 sl (.lst (ts.map V.ref ++ [.ref t]))) ∧ (upd H2 sl (.lst (ts.map V.ref ++ [.ref t]))) tp = some (.tup [x1, x2]) ∧ (upd H2 sl (.lst (ts.map V.ref ++ [.ref t]))) sl = some (.lst ((ts ++ [t]).map V.ref)) ∧ ∀ (j : Nat) (t' : Addr) (d' : Wk), (ts ++ [t])[j]? = some t' → [d1, d2][j]? = some d' → WkN sl (upd H2 sl (.lst (ts.map V.ref ++ [.ref t]))) t' d' := fun t H2 g3 wn =>
      ⟨(g2.trans g3).young hsl _, by rw [upd_ne ntp]; exact g3 _ _ etp, by rw [upd_same, List.map_append]; rfl, bs_hw tl ed ((Same.kp g3).trans Kp.upd) hw (wn.kp Kp.upd)⟩
    have lt : (ts.map V.ref).length < sizeLine := by rw [List.length_map, tl]; exact Nat.lt_of_lt_of_le il (by decide)
    dsimp only [gName]
    refine if_else (goesP (.bes p1 p2) st && !goesP p st) (fun N fin => ?_) (fun c H2 g3 => ?_) fun c H2 g3 => ?_
    · refine ⟨_, rfl, _, rfl, .ref a, .bes p1 p2, sv, st, rfl, hp'.mono g2.tp, oe, b1, b3, stAt_mono g2 hst, fun H2 g3 => ⟨_, rfl, ?_⟩⟩
      cases z : goesP (.bes p1 p2) st with
      | false => rw [z] at fin; exact iteF (fin H2 g3)
      | true =>
        rw [z] at fin
        exact iteT ⟨_, rfl, _, rfl, y, p, sv, st, rfl, hy.mono (g2.trans g3).tp, c5, c1, c3, stAt_mono (g2.trans g3) hst, fun H3 g4 => ⟨_, rfl, fin H3 (g3.trans g4)⟩⟩
    · have esl2 := g3 _ _ esl
      refine ⟨_, rfl, .inl ⟨rfl, _, SqL.of esl2⟩, (by show 1 ≤ sizeLine; decide), fun u1 hu1 => ⟨_, rfl, (by show 0 ≤ sizeLine; decide), fun u2 hu2 => ⟨(by show 0 ≤ sizeLine; decide), fun u3 hu3 => ⟨(by show 4 ≤ sizeLine; decide), fun t ht => ?_⟩⟩⟩⟩
      have k1 := same_new hu1 (.lst [.int 0])
      have k2 := same_new hu2 (.lst [])
      have k3 := same_new hu3 (.lst [])
      have k4 := same_new ht (.tup [.ref u1, .bl sb, .ref u2, .ref u3])
      have kA := k1.trans (k2.trans (k3.trans k4))
      obtain ⟨n1, n2, n3, n4⟩ := nxt t _ (g3.trans kA) (by
        rw [sided p c]
        exact ⟨u1, u2, u3, upd_same, (k2.trans (k3.trans k4)) _ _ upd_same, (k3.trans k4) _ _ upd_same, k4 _ _ upd_same, (ne_of_none ((k1.trans (k2.trans k3)) _ _ esl2) ht).symm, (ne_of_none esl2 hu1).symm, (ne_of_none (k1 _ _ esl2) hu2).symm, (ne_of_none ((k1.trans k2) _ _ esl2) hu3).symm⟩)
      exact ⟨sl, _, _, rfl, rfl, kA _ _ esl2, lt, ts ++ [t], _, rfl, n1, n2, n3, by rw [List.length_append, tl]; rfl, n4⟩
    · have esl2 := g3 _ _ esl
      have g23 := g2.trans g3
      have bb := pb_bd p st
      refine ⟨_, rfl, .inl ⟨rfl, _, SqL.of esl2⟩, _, rfl, _, rfl, _, rfl, _, rfl, y, p, sv, st, sb, kl, kn, rfl, hy.mono g23.tp, stAt_mono g23 hst, g23.seq hk, .inr ⟨c1, Nat.le_of_lt (Nat.lt_of_lt_of_le c3 (by decide))⟩, Nat.le_trans bb.1 c1, Nat.lt_of_le_of_lt bb.2.1 c2, c4, fun t H3 g4 wk wn => ?_⟩
      obtain ⟨n1, n2, n3, n4⟩ := nxt t _ (g3.trans g4) (by rw [sidew p c]; exact wn sl ts esl2)
      exact ⟨sl, _, _, rfl, rfl, g4 _ _ esl2, lt, ts ++ [t], _, rfl, n1, n2, n3, by rw [List.length_append, tl]; rfl, n4⟩
  · rintro σ H2 ⟨ts, x5, rfl, g2, etp, esl, tl, hw⟩
    obtain ⟨t1, t2, rfl⟩ : ∃ t1 t2, ts = [t1, t2] := by
      match ts, tl with
      | [t1, t2], _ => exact ⟨t1, t2, rfl⟩
    have wk1 := (hw 0 t1 d1 rfl rfl).wk
    have wk2 := (hw 1 t2 d2 rfl rfl).wk
    refine ⟨(by show 0 ≤ sizeLine; decide), fun c0 hc0 => ?_⟩
    have g3 := same_new hc0 (.lst [])
    have ec0 := upd_same (H := H2) (a := c0) (o := .lst [])
    have esl := g3 _ _ esl
    have wk1 := wk1.mono g3
    have wk2 := wk2.mono g3
    have g2 := g2.trans g3
    generalize (upd H2 c0 (.lst [])) = H3 at ec0 esl wk1 wk2 g2
    obtain ⟨l1, l2, l3, a1, a2, a3, a4⟩ := id wk1
    obtain ⟨m1, m2, m3, f1, f2, f3, f4⟩ := id wk2
    refine (rdl (j := 0) esl rfl rfl ⟨t1, _, _, _, rfl, rfl, SqT.of a1, atI_nat (j := 0) rfl, l1, rfl, ⟨_, SqL.of a2⟩, for_list (K := K) (a := l1) (xs := d1.1.map V.int) (fun i σ H' => Ex2 fun (cl : Addr) (x7 : Option V) => An3 (σ = [some (.ref a), some sv, some (.bl sb), some (.ref kl), some (.ref sl), x5, some (.ref cl), x7]) (Same H3 H') (H' cl = some (.lst ((prodC (d1.1.take i) d2.1).map V.int)))) ⟨c0, none, rfl, Same.refl _, ec0⟩ (fun i σ H' _ h => by obtain ⟨_, _, _, z, _⟩ := h; exact SqL.of (z _ _ a2)) ?_ ?_⟩)
    · rintro i z σ H4 hi ⟨cl, x7, rfl, g4, ecl⟩
      rw [List.getElem?_map] at hi
      cases ei : d1.1[i]? with
      | none => rw [ei] at hi; cases hi
      | some c =>
        rw [ei] at hi
        cases hi
        have esl4 := g4 _ _ esl
        have f14 := g4 _ _ f1
        have f24 := g4 _ _ f2
        have pl := prod_small (a := d1.1) (b := d2.1) y1.1 y2.1 i
        refine ⟨_, rfl, rdl (j := 1) esl4 rfl rfl ⟨t2, _, _, _, rfl, rfl, SqT.of f14, atI_nat (j := 0) rfl, m1, rfl, ⟨_, SqL.of f24⟩, comp_list (K := K) (xs := d2.1.map V.int) (fun j ys H' => H' = H4 ∧ ys = ((d2.1.take j).map fun o => mx c o).map V.int) ⟨rfl, rfl⟩ (by rw [List.length_map]; exact small (Nat.le_trans y2.1 (by decide))) (fun j ys H' ⟨e, _⟩ => by rw [e]; exact SqL.of f24) ?_ ?_⟩⟩
        · rintro j z ys H' M hj ⟨rfl, rfl⟩ hN hyl
          rw [List.getElem?_map] at hj
          cases ej : d2.1[j]? with
          | none => rw [ej] at hj; cases hj
          | some u =>
            rw [ej] at hj
            cases hj
            exact ⟨_, rfl, _, rfl, _, _, rfl, hN _ _ (snoc_le hyl) ⟨rfl, by rw [List.take_add_one, ej, List.map_append, List.map_append]; rfl⟩⟩
        · rintro ys H' hyl ⟨rfl, rfl⟩ ml hml
          rw [List.length_map, List.take_length] at *
          have k5 := same_new hml (.lst ((d2.1.map fun o => mx c o).map V.int))
          refine ⟨cl, ml, _, _, rfl, rfl, k5 _ _ ecl, upd_same, by rw [List.length_map, List.length_map, List.length_map]; exact small (Nat.le_trans (Nat.add_le_add pl y2.1) (by decide)), fun nl hnl => ?_⟩
          have k6 := same_new hnl (.lst ((prodC (d1.1.take i) d2.1).map V.int ++ (d2.1.map fun o => mx c o).map V.int))
          exact ⟨nl, _, rfl, g4.trans (k5.trans k6), by rw [upd_same, prod_take ei, List.map_append]⟩
    · rintro σ H4 ⟨cl, x7, rfl, g4, ecl⟩
      rw [List.length_map, List.take_length] at ecl
      have esl4 := g4 _ _ esl
      have a14 := g4 _ _ a1
      have f14 := g4 _ _ f1
      have pl := prod_small (a := d1.1) (b := d2.1) y1.1 y2.1 d1.1.length
      rw [List.take_length] at pl
      have fin : ∀ bb, bb = (d1.2.1 && d2.2.1) → ∀ (t : Addr) (H5 : Hp), Same H4 H5 → WkAt H5 t (bothW d1 d2 (prodC d1.1 d2.1) bb) → Q (.ref t) H5 := fun bb e t H5 g5 wk => q t H5 (g2.trans (g4.trans g5)) (by rw [r3, ← e]; exact wk)
      refine (rdl (j := 0) esl4 rfl rfl (rdl (j := 1) esl4 rfl rfl ⟨_, rfl, rdl (j := 0) esl4 rfl rfl ⟨t1, _, _, _, rfl, rfl, SqT.of a14, atI_nat (j := 1) rfl, _, rfl, ?_⟩⟩))
      cases e1 : d1.2.1 with
      | true => exact iteT (rdl (j := 1) esl4 rfl rfl ⟨t2, _, _, _, rfl, rfl, SqT.of f14, atI_nat (j := 1) rfl, t1, t2, cl, d1, d2, _, _, rfl, wk1.mono g4, wk2.mono g4, ecl, Nat.lt_of_le_of_lt pl (by decide), ⟨Nat.le_trans y1.2.1 b5, Nat.le_trans y1.2.2 b5⟩, ⟨Nat.le_trans y2.2.1 b5, Nat.le_trans y2.2.2 b5⟩, fin _ (by rw [e1]; rfl)⟩)
      | false => exact iteF ⟨t1, t2, cl, d1, d2, _, _, rfl, wk1.mono g4, wk2.mono g4, ecl, Nat.lt_of_le_of_lt pl (by decide), ⟨Nat.le_trans y1.2.1 b5, Nat.le_trans y1.2.2 b5⟩, ⟨Nat.le_trans y2.2.1 b5, Nat.le_trans y2.2.2 b5⟩, fin _ (by rw [e1]; rfl)⟩
end

end My
end

section
set_option Elab.async false
set_option linter.all false
set_option maxRecDepth 100000
set_option maxHeartbeats 4000000
namespace My
open PySem L2
def rsS : Pt → List Int
  | .rest k => [k]
  | .stay ks => ks
  | .again k p => k :: rsS p
  | .iff _ p q => rsS p ++ rsS q
  | .thn p q => rsS p ++ rsS q
  | .bes p q => rsS p ++ rsS q
  | .hold _ p => rsS p
  | .watch _ p => rsS p
  | .trap p => rsS p
  | .nothing => []
  | .send _ => []
  | .exit _ => []
theorem rsS_beg (th : List Int) (x : Int) (p : Pt) : x ∈ (beg th p).2.2 → x ∈ rsS p := by
  induction p with
  | iff s p q ih1 ih2 =>
    simp only [beg, rsS, List.mem_append]
    split
    · exact fun h => .inl (ih1 h)
    · exact fun h => .inr (ih2 h)
  | thn p q ih1 ih2 =>
    simp only [beg, rsS, List.mem_append]
    split
    · exact fun h => .inr (ih2 h)
    · exact fun h => .inl (ih1 h)
  | bes p q ih1 ih2 =>
    simp only [beg, rsS, sideD, List.mem_append]
    generalize (if (beg th q).1 > (beg th p).1 then (beg th q).1 else (beg th p).1) = c
    split
    · exact fun h => (List.mem_append.mp h).imp ih1 ih2
    · exact fun h => by cases h
  | again k p ih =>
    simp only [beg, rsS, repD]
    split
    · exact fun h => by rw [List.mem_singleton.mp h]; exact List.mem_cons_self
    · exact fun h => List.mem_cons_of_mem _ (ih h)
  | hold s p ih => exact ih
  | watch s p ih => exact ih
  | trap p ih => exact ih
  | rest k => exact fun h => h
  | stay ks => exact fun h => h
  | nothing => exact fun h => h
  | send s => exact fun h => by cases h
  | exit d => exact fun h => by cases h
theorem mem_rem (l : List Int) (x : Int) (p : Pt) : x ∈ (rem l p).1 ↔ x ∈ rsL p ∧ x ∈ l := by
  induction p with
  | iff s p q ih1 ih2 => simp only [rem, rsL, List.mem_append, ih1, ih2]; exact or_and_right.symm
  | thn p q ih1 ih2 => simp only [rem, rsL, List.mem_append, ih1, ih2]; exact or_and_right.symm
  | bes p q ih1 ih2 => simp only [rem, rsL, List.mem_append, ih1, ih2]; exact or_and_right.symm
  | again k p ih =>
    simp only [rem, rsL]
    split
    · next h =>
      rw [List.mem_append, List.mem_singleton, ih, List.mem_cons]
      exact ⟨fun z => z.elim (fun e => by subst e; exact ⟨.inl rfl, h⟩) fun e => ⟨.inr e.1, e.2⟩, fun z => z.1.elim .inl fun e => .inr ⟨e, z.2⟩⟩
    · next h =>
      rw [ih, List.mem_cons]
      exact ⟨fun z => ⟨.inr z.1, z.2⟩, fun z => ⟨z.1.resolve_left fun e => h (e ▸ z.2), z.2⟩⟩
  | hold s p ih => exact ih
  | watch s p ih => exact ih
  | trap p ih => exact ih
  | rest k =>
    simp only [rem, rsL]
    split
    · next h => rw [List.mem_singleton]; exact ⟨fun e => by subst e; exact ⟨rfl, h⟩, fun e => e.1⟩
    · next h => exact ⟨fun z => (by cases z), fun z => absurd (List.mem_singleton.mp z.1 ▸ z.2) h⟩
  | stay ks => exact ⟨fun z => (by cases z), fun z => (by cases z.1)⟩
  | nothing => exact ⟨fun z => (by cases z), fun z => (by cases z.1)⟩
  | send s => exact ⟨fun z => (by cases z), fun z => (by cases z.1)⟩
  | exit d => exact ⟨fun z => (by cases z), fun z => (by cases z.1)⟩
theorem rsL_S (x : Int) (p : Pt) : x ∈ rsL p → x ∈ rsS p := by
  induction p with
  | iff s p q ih1 ih2 => exact fun h => List.mem_append.mpr ((List.mem_append.mp h).imp ih1 ih2)
  | thn p q ih1 ih2 => exact fun h => List.mem_append.mpr ((List.mem_append.mp h).imp ih1 ih2)
  | bes p q ih1 ih2 => exact fun h => List.mem_append.mpr ((List.mem_append.mp h).imp ih1 ih2)
  | again k p ih => exact fun h => List.mem_cons.mpr ((List.mem_cons.mp h).imp (fun z => z) ih)
  | hold s p ih => exact ih
  | watch s p ih => exact ih
  | trap p ih => exact ih
  | rest k => exact fun h => h
  | stay ks => exact fun h => by cases h
  | nothing => exact fun h => h
  | send s => exact fun h => h
  | exit d => exact fun h => h
theorem rsS_L {sg : Int} (x : Int) {p : Pt} (ok : okS sg p) : x ∈ rsS p → x ∈ rsL p := by
  induction p with
  | iff s p q ih1 ih2 => exact fun h => List.mem_append.mpr ((List.mem_append.mp h).imp (ih1 ok.2.1) (ih2 ok.2.2))
  | thn p q ih1 ih2 => exact fun h => List.mem_append.mpr ((List.mem_append.mp h).imp (ih1 ok.1) (ih2 ok.2))
  | bes p q ih1 ih2 => exact fun h => List.mem_append.mpr ((List.mem_append.mp h).imp (ih1 ok.1) (ih2 ok.2))
  | again k p ih => exact fun h => List.mem_cons.mpr ((List.mem_cons.mp h).imp (fun z => z) (ih ok))
  | hold s p ih => exact ih ok.2
  | watch s p ih => exact ih ok.2
  | trap p ih => exact ih ok
  | rest k => exact fun h => h
  | stay ks => exact ok.elim
  | nothing => exact fun h => h
  | send s => exact fun h => h
  | exit d => exact fun h => h
theorem rsS_rem (l : List Int) (x : Int) (p : Pt) : x ∈ rsS (rem l p).2 → x ∈ rsS p := by
  induction p with
  | iff s p q ih1 ih2 =>
    simp only [rem, lp]
    split
    · exact fun h => List.mem_append.mpr (.inl (ih1 h))
    · split
      · exact fun h => List.mem_append.mpr (.inr (ih2 h))
      · exact fun h => h
  | thn p q ih1 ih2 =>
    simp only [rem, lp]
    split
    · exact fun h => List.mem_append.mpr ((List.mem_append.mp h).imp ih1 fun z => z)
    · exact fun h => List.mem_append.mpr (.inr (ih2 h))
  | bes p q ih1 ih2 =>
    simp only [rem, lp]
    split
    · exact fun h => List.mem_append.mpr ((List.mem_append.mp h).imp ih1 ih2)
    · split
      · exact fun h => List.mem_append.mpr (.inl (ih1 h))
      · split
        · exact fun h => List.mem_append.mpr (.inr (ih2 h))
        · exact fun h => h
  | again k p ih =>
    simp only [rem]
    split
    · exact fun h => h
    · simp only [lr]
      split
      · exact fun h => h
      · exact fun h => List.mem_cons.mpr ((List.mem_cons.mp h).imp (fun z => z) ih)
  | hold s p ih =>
    simp only [rem, lr]
    split
    · exact fun h => h
    · exact fun h => (List.mem_append.mp h).elim (fun z => rsL_S x p ((mem_rem l x p).mp z).1) ih
  | watch s p ih =>
    simp only [rem, lr]
    split
    · exact fun h => h
    · exact fun h => (List.mem_append.mp h).elim (fun z => by cases z) ih
  | trap p ih =>
    simp only [rem, lr]
    split
    · exact fun h => h
    · exact ih
  | rest k =>
    simp only [rem]
    split
    · exact fun h => by cases h
    · exact fun h => h
  | stay ks => exact fun h => h
  | nothing => exact fun h => h
  | send s => exact fun h => h
  | exit d => exact fun h => h
/-- a state that the run comes to: the begin, the end, or one with rests of the body -/
theorem cut_any (ns : List Int) (lo hi : Option Int) : ∃ ms : List Int, cutV (ns.map V.int) lo hi = ms.map V.int ∧ ms.length ≤ ns.length := by
  unfold cutV
  rw [List.length_map, ← List.map_drop, ← List.map_take]
  exact ⟨_, rfl, Nat.le_trans (List.length_take_le' _ _) (by simp)⟩
def JW (p : Pt) (st : Option (List Int)) : Prop := ∀ k p1, p = .again k p1 → AgS k p1 st
def WO (p : Pt) : Prop := (isPr p = true ∨ isRd p = true) ∧ ∀ k p1, p = .again k p1 → ¬ k ∈ rsL p1 ∧ okS 5 p1
theorem rsS_pb (x : Int) (p : Pt) (st : Option (List Int)) : x ∈ rsS (pb p st) → x ∈ rsS p := by
  cases st with
  | none => exact fun h => h
  | some l => exact rsS_rem l x p
theorem ags_next {k : Int} {p : Pt} {st : Option (List Int)} {th : List Int} (ok : okS 5 p) (nk : ¬ k ∈ rsL p) (h : AgS k p st) : AgS k p (some (ranD (.again k p) st th).2.2) := by
  intro hk hg
  have hk : k ∈ sortI (beg th (pb (.again k p) st)).2.2 := hk
  rw [pb_again (okS_E ok) h] at hk
  have hk := (sortI_perm _).mem_iff.mp hk
  simp only [beg, repD] at hk
  split at hk
  · next c =>
    have e : (ranD (.again k p) st th).2.2 = [k] := by
      show sortI (beg th (pb (.again k p) st)).2.2 = [k]
      rw [pb_again (okS_E ok) h]
      simp only [beg, repD]
      rw [if_pos c]
      exact (sortI_eq (List.Perm.refl _) (List.pairwise_singleton _ _)).symm
    rw [e] at hg
    obtain ⟨x, hx, z⟩ := List.any_eq_true.mp hg
    have z := of_decide_eq_true z
    rw [List.mem_singleton.mp z] at hx
    exact nk hx
  · exact nk (rsS_L k ok (rsS_pb k p st (rsS_beg th k _ hk)))
theorem jw_next {p : Pt} {st : Option (List Int)} {th : List Int} (wo : WO p) (h : JW p st) : JW p (some (ranD p st th).2.2) := by
  intro k p1 e
  subst e
  exact ags_next (wo.2 k p1 rfl).2 (wo.2 k p1 rfl).1 (h k p1 rfl)
theorem inn_of {p : Pt} {st : Option (List Int)} (h : isPr p = true ∨ isRd p = true) (jw : JW p st) (n1 : ¬ wdP p = "if") (n2 : ¬ wdP p = "beside") (n3 : ¬ wdP p = "then") : SInn p st := by
  cases p with
  | again k p1 => exact .inl ⟨k, p1, rfl, jw k p1 rfl⟩
  | trap p1 => exact .inr (.inl ⟨p1, rfl⟩)
  | hold x p1 => exact .inr (.inr (.inl ⟨x, p1, rfl⟩))
  | watch x p1 => exact .inr (.inr (.inr ⟨x, p1, rfl⟩))
  | iff x p q => exact absurd rfl n1
  | bes p q => exact absurd rfl n2
  | thn p q => exact absurd rfl n3
  | _ => rcases h with h | h <;> cases h
theorem wo_pr {p : Pt} (h : isPr p = true) : WO p := ⟨.inl h, fun k p1 e => by subst e; cases h⟩
theorem wo_rd {p : Pt} (h : isRd p = true) (n : ¬ wdP p = "again") : WO p := ⟨.inr h, fun k p1 e => by subst e; exact absurd rfl n⟩
theorem jh {a b : Nat} (h1 : a ≤ 21) (h2 : b ≤ 21) : max a b + 1 ≤ 40 := Nat.succ_le_of_lt (Nat.lt_of_le_of_lt (Nat.max_le.mpr ⟨h1, h2⟩) (by decide))
theorem js {a b : Nat} (h1 : a ≤ 20) (h2 : b ≤ 20) : a + b < 64 := Nat.lt_of_le_of_lt (Nat.add_le_add h1 h2) (by decide)
theorem jh1 {a : Nat} (h : a ≤ 21) : a + 1 ≤ 40 := Nat.le_trans (Nat.succ_le_succ h) (by decide)
theorem js1 {a : Nat} (h : a ≤ 20) : a < 64 := Nat.lt_of_le_of_lt h (by decide)
theorem jr1 {a : Nat} (h : a ≤ 20) : a + 1 < 64 := Nat.lt_of_le_of_lt (Nat.succ_le_succ h) (by decide)
theorem seven {n : Int} (h : 0 ≤ n) (h2 : n < 7) : n = 0 ∨ n = 1 ∨ n = 2 ∨ n = 3 ∨ n = 4 ∨ n = 5 ∨ n = 6 := by
  obtain ⟨k, rfl⟩ := Int.eq_ofNat_of_zero_le h
  match k, h2 with
  | 0, _ => exact .inl rfl
  | 1, _ => exact .inr (.inl rfl)
  | 2, _ => exact .inr (.inr (.inl rfl))
  | 3, _ => exact .inr (.inr (.inr (.inl rfl)))
  | 4, _ => exact .inr (.inr (.inr (.inr (.inl rfl))))
  | 5, _ => exact .inr (.inr (.inr (.inr (.inr (.inl rfl)))))
  | 6, _ => exact .inr (.inr (.inr (.inr (.inr (.inr rfl)))))
  | k + 7, z => exact absurd z (by omega)
inductive C_spWhb (K : PySem.W.Frag) (vs : List V) (H : Hp) (Q : VK) : Prop
  | mk (c : Addr) (cs : List Int) (cut pick : Int) (c0 : vs = [.ref c, .int cut, .int pick]) (c1 : SqL K H c (cs.map V.int)) (c2 : cs.length ≤ 20) (c3 : ∀ (v : V) (p : Pt) (H' : Hp), Same H H' → PAt K H' (Pt.nd p) v → WO p → BdR 5 p → Q v H') : C_spWhb K vs H Q
def spWhb (K : PySem.W.Frag) : Sp := fun vs H Q _ => C_spWhb K vs H Q
section
variable {P : Program} {w : World} {K : PySem.W.Frag} {mg : Str → Option Value} {base : Heap} {aN aP aR : Addr} {uE uR uL : Value}
set_option maxHeartbeats 16000000 in
theorem ok_due (F : FunM K mg "_law_due" ["_law_whole_here", "_law_state", "_law_sure", "_law_known_here"] s__law_due) (T : Txt mg) (C__law_if : Callee P w K mg base 45 "_law_if" ["_law_whole_here", "_law_state", "_law_sure", "_law_known_here"] (spRow K fun p _ => ∃ x p1 q1, p = .iff x p1 q1)) (C__law_beside : Callee P w K mg base 45 "_law_beside" ["_law_whole_here", "_law_state", "_law_sure", "_law_known_here"] (spRow K fun p _ => ∃ p1 q1, p = .bes p1 q1))
    (C__law_then : Callee P w K mg base 45 "_law_then" ["_law_whole_here", "_law_state", "_law_sure", "_law_known_here"] (spRow K fun p _ => ∃ p1 q1, p = .thn p1 q1)) (C__law_inner : Callee P w K mg base 45 "_law_inner" ["_law_whole_here", "_law_state", "_law_sure", "_law_known_here"] (spRow K SInn)) :
    Callee P w K mg base 46 "_law_due" ["_law_whole_here", "_law_state", "_law_sure", "_law_known_here"] (spRow K fun p st => (isPr p = true ∨ isRd p = true) ∧ JW p st) := by
  refine F.ok sc__law_due (fun vs H Q E h => ?_) (fun f cdv A outer s H vs Q E hr h => ?_)
  · obtain ⟨v, p, sv, st, sb, kl, kn, rfl, _⟩ := h; rfl
  obtain ⟨v, p, sv, st, sb, kl, kn, rfl, hp, ⟨sh, jw⟩, bd, hst, hk, q⟩ := h
  refine ⟨_, (pss_cons (ps_if (pt_cmpR op_eq (pe_ix ix_tup (pv 0) pe_int (fun _ _ => rfl)) pe_str (nomark _))
      (pss_one (ps_ret (pe_callC C__law_if hr rfl pass0 (pa_cons (pv 0) (pa_cons (pv 1) (pa_cons (pv 2) (pa_cons (pv 3) pa_nil)))))))
      pss_nil)
    (pss_cons (ps_if (pt_cmpR op_eq (pe_ix ix_tup (pv 0) pe_int (fun _ _ => rfl)) pe_str (nomark _))
      (pss_one (ps_ret (pe_callC C__law_beside hr rfl pass0 (pa_cons (pv 0) (pa_cons (pv 1) (pa_cons (pv 2) (pa_cons (pv 3) pa_nil)))))))
      pss_nil)
    (pss_cons (ps_if (pt_cmpR op_eq (pe_ix ix_tup (pv 0) pe_int (fun _ _ => rfl)) pe_str (nomark _))
      (pss_one (ps_ret (pe_callC C__law_then hr rfl pass0 (pa_cons (pv 0) (pa_cons (pv 1) (pa_cons (pv 2) (pa_cons (pv 3) pa_nil)))))))
      pss_nil)
    (pss_one (ps_ret (pe_callC C__law_inner hr rfl pass0 (pa_cons (pv 0) (pa_cons (pv 1) (pa_cons (pv 2) (pa_cons (pv 3) pa_nil)))))))))), ?_⟩
  obtain ⟨a, vs, rfl, hs⟩ := wd_at hp
  refine (rdy (j := 0) hs.sq rfl rfl ⟨rfl, _, rfl, iteW (fun e => ?_) fun n1 => (rdy (j := 0) hs.sq rfl rfl ⟨rfl, _, rfl, iteW (fun e => ?_) fun n2 => (rdy (j := 0) hs.sq rfl rfl ⟨rfl, _, rfl, iteW (fun e => ?_) fun n3 => ?_⟩)⟩)⟩)
  · exact ⟨_, rfl, _, rfl, _, rfl, _, rfl, .ref a, p, sv, st, sb, kl, kn, rfl, hp, wd_iff e, bd, hst, hk, q⟩
  · exact ⟨_, rfl, _, rfl, _, rfl, _, rfl, .ref a, p, sv, st, sb, kl, kn, rfl, hp, wd_bes e, bd, hst, hk, q⟩
  · exact ⟨_, rfl, _, rfl, _, rfl, _, rfl, .ref a, p, sv, st, sb, kl, kn, rfl, hp, wd_thn e, bd, hst, hk, q⟩
  · exact ⟨_, rfl, _, rfl, _, rfl, _, rfl, .ref a, p, sv, st, sb, kl, kn, rfl, hp, inn_of sh jw n1 n2 n3, bd, hst, hk, q⟩
theorem join_at {H : Hp} {q1 q2 q3 q4 q5 q6 q7 : Addr} {v1 v2 : V} {p1 p2 : Pt} {sn k n : Int} (h0 : 0 ≤ n) (h7 : n < 7) (P1 : PAt K H (Pt.nd p1) v1) (P2 : PAt K H (Pt.nd p2) v2) (hs : 0 ≤ sn ∧ sn < 5)
    (e1 : H q1 = some (.tup [.str "then", v1, v2])) (e2 : H q2 = some (.tup [.str "beside", v1, v2])) (e3 : H q3 = some (.tup [.str "if", .int sn, v1, v2])) (e4 : H q4 = some (.tup [.str "again", .int k, v1])) (e5 : H q5 = some (.tup [.str "hold", .int sn, v1])) (e6 : H q6 = some (.tup [.str "watch", .int sn, v1])) (e7 : H q7 = some (.tup [.str "trap", v1]))
    (g1 : GS 5 p1 20) (g2 : GS 5 p2 20) (nk : ¬ k ∈ rsL p1) : ∃ v p, atI ([V.ref q1, .ref q2, .ref q3, .ref q4] ++ [V.ref q5, .ref q6, .ref q7]) n = some v ∧ PAt K H (Pt.nd p) v ∧ WO p ∧ BdR 5 p := by
  have a1 := g1.hg
  have a2 := g1.rs
  have a3 := g1.ok
  have b1 := g2.hg
  have b2 := g2.rs
  have b3 := g2.ok
  have s1 : p1.sc ≤ 20 := adr a2
  have r1 : p1.rc ≤ 20 := adl a2
  have s2 : p2.sc ≤ 20 := adr b2
  have r2 : p2.rc ≤ 20 := adl b2
  have x1 := okS_W a3
  have x2 := okS_E a3
  have y1 := okS_W b3
  have y2 := okS_E b3
  rcases seven h0 h7 with e | e | e | e | e | e | e <;> subst e
  · exact ⟨_, .thn p1 p2, atI_nat (j := 0) rfl, .t (.inl e1) (.cons .s (.cons P1 (.cons P2 .nil))), wo_pr rfl, jh a1 b1, js s1 s2, js r1 r2, ⟨x1, y1⟩, ⟨x2, y2⟩, by decide⟩
  · exact ⟨_, .bes p1 p2, atI_nat (j := 1) rfl, .t (.inl e2) (.cons .s (.cons P1 (.cons P2 .nil))), wo_pr rfl, jh a1 b1, js s1 s2, js r1 r2, ⟨x1, y1⟩, ⟨x2, y2⟩, by decide⟩
  · exact ⟨_, .iff sn p1 p2, atI_nat (j := 2) rfl, .t (.inl e3) (.cons .s (.cons .i (.cons P1 (.cons P2 .nil)))), wo_pr rfl, jh a1 b1, js s1 s2, js r1 r2, ⟨hs, x1, y1⟩, ⟨x2, y2⟩, by decide⟩
  · exact ⟨_, .again k p1, atI_nat (j := 3) rfl, .t (.inl e4) (.cons .s (.cons .i (.cons P1 .nil))), ⟨.inr rfl, fun k' q e => by cases e; exact ⟨nk, a3⟩⟩, jh1 a1, js1 s1, jr1 r1, x1, x2, by decide⟩
  · exact ⟨_, .hold sn p1, atI_nat (j := 4) rfl, .t (.inl e5) (.cons .s (.cons .i (.cons P1 .nil))), wo_rd rfl (by dsimp only [wdP]; decide +kernel), jh1 a1, js1 s1, js1 r1, ⟨hs, x1⟩, x2, by decide⟩
  · exact ⟨_, .watch sn p1, atI_nat (j := 5) rfl, .t (.inl e6) (.cons .s (.cons .i (.cons P1 .nil))), wo_rd rfl (by dsimp only [wdP]; decide +kernel), jh1 a1, js1 s1, js1 r1, ⟨hs, x1⟩, x2, by decide⟩
  · exact ⟨_, .trap p1, atI_nat (j := 6) rfl, .t (.inl e7) (.cons .s (.cons P1 .nil)), wo_rd rfl (by dsimp only [wdP]; decide +kernel), jh1 a1, js1 s1, js1 r1, x1, x2, by decide⟩
set_option maxHeartbeats 64000000 in
theorem ok_whb (F : FunM K mg "_law_whole_by" ["_law_cells", "_law_cut", "_law_pick"] s__law_whole_by) (T : Txt mg) (C__law_part_by : Callee P w K mg base 2 "_law_part_by" ["_law_cells", "_law_rests_here", "_law_signs"] (spPb K)) : Callee P w K mg base 3 "_law_whole_by" ["_law_cells", "_law_cut", "_law_pick"] (spWhb K) := by
  refine F.ok sc__law_whole_by (fun vs H Q E h => ?_) (fun f cdv A outer s H vs Q E hr h => ?_)
  · obtain ⟨c, cs, cut, pick, rfl, _⟩ := h; rfl
  obtain ⟨cl, cs, cut, pick, rfl, hcl, lcs, q⟩ := h
  refine ⟨_, (pss_cons (ps_asg (pe_callC C__law_part_by hr rfl pass0 (pa_cons (pe_slice sl_list (pv 0) po_none (po_some (pv 1))) (pa_cons pe_int (pa_cons pe_int pa_nil)))) (pg_tup rfl (pgs_cons (pg_name (i := 3) sc__law_whole_by.nd rfl (Or.inl rfl)) (pgs_cons (pg_name (i := 4) sc__law_whole_by.nd rfl (Or.inl rfl)) pgs_nil))))
    (pss_cons (ps_set (i := 5) sc__law_whole_by.nd rfl (Or.inl rfl) (pe_ix ix_tup (pe_callC C__law_part_by hr rfl pass0 (pa_cons (pe_slice sl_list (pv 0) (po_some (pv 1)) po_none) (pa_cons (pv 4) (pa_cons pe_int pa_nil)))) pe_int (fun _ _ => rfl)))
    (pss_cons (ps_set (i := 6) sc__law_whole_by.nd rfl (Or.inl rfl) (pe_op op_mod (pe_op op_fdiv (pv 2) pe_int) pe_int))
    (pss_cons (ps_set (i := 7) sc__law_whole_by.nd rfl (Or.inl rfl) (pe_lst (pa_cons (pe_tup (pa_cons pe_str (pa_cons (pv 3) (pa_cons (pv 5) pa_nil)))) (pa_cons (pe_tup (pa_cons pe_str (pa_cons (pv 3) (pa_cons (pv 5) pa_nil)))) (pa_cons (pe_tup (pa_cons pe_str (pa_cons (pv 6) (pa_cons (pv 3) (pa_cons (pv 5) pa_nil))))) (pa_cons (pe_tup (pa_cons pe_str (pa_cons (pv 4) (pa_cons (pv 3) pa_nil)))) pa_nil))))))
    (pss_one (ps_ret (pe_ix ix_list (pe_op op_cat (pv 7) (pe_lst (pa_cons (pe_tup (pa_cons pe_str (pa_cons (pv 6) (pa_cons (pv 3) pa_nil)))) (pa_cons (pe_tup (pa_cons pe_str (pa_cons (pv 6) (pa_cons (pv 3) pa_nil)))) (pa_cons (pe_tup (pa_cons pe_str (pa_cons (pv 3) pa_nil))) pa_nil))))) (pe_op op_mod (pv 2) pe_int) (fun _ _ => rfl)))))))), ?_⟩
  obtain ⟨c1, ec1, hc1⟩ := cut_any cs none (some cut)
  obtain ⟨c2, ec2, hc2⟩ := cut_any cs (some cut) none
  refine ⟨_, rfl, _, rfl, _, rfl, cl, _, rfl, hcl, fun s1 hs1 => ?_⟩
  have k5 := same_new hs1 (.lst (cutV (cs.map V.int) none (some cut)))
  have hs1' : (upd H s1 (.lst (cutV (cs.map V.int) none (some cut)))) s1 = some (.lst (c1.map V.int)) := by rw [upd_same, ec1]
  refine ⟨s1, c1, 0, 5, rfl, SqL.of hs1', by omega, by decide, fun t1 v1 kr p1 H1 g1 ht1 P1 gs1 ro1 => ?_⟩
  refine ⟨t1, _, rfl, SqT.of ht1, rfl, _, _, rfl, _, _, rfl, rfl, ?_⟩
  have g01 := k5.trans g1
  refine ⟨_, rfl, _, rfl, _, rfl, cl, _, rfl, g01.seq hcl, fun s2 hs2 => ?_⟩
  have k6 := same_new hs2 (.lst (cutV (cs.map V.int) (some cut) none))
  have hs2' : (upd H1 s2 (.lst (cutV (cs.map V.int) (some cut) none))) s2 = some (.lst (c2.map V.int)) := by rw [upd_same, ec2]
  refine ⟨_, rfl, s2, c2, kr, 5, rfl, SqL.of hs2', by omega, by decide, fun t2 v2 k2r p2 H3 g3 ht2 P2 gs2 ro2 => ?_⟩
  have g13 := k6.trans g3
  have g03 := g01.trans g13
  have P1 := P1.mono g13.tp
  refine ⟨t2, _, _, _, rfl, rfl, SqT.of ht2, atI_nat (j := 0) rfl, ?_⟩
  have q : ∀ (v : V) (p : Pt) (H' : Hp), Same H3 H' → PAt K H' (Pt.nd p) v → WO p → BdR 5 p → Q v H' := fun v p H' g => q v p H' (g03.trans g)
  have nk : ¬ kr ∈ rsL p1 := fun z => by have := ro1.bd kr (by simpa using z); omega
  have gs1 : GS 5 p1 20 := ⟨by have := gs1.hg; omega, by have := gs1.rs; omega, gs1.ok⟩
  have gs2 : GS 5 p2 20 := ⟨by have := gs2.hg; omega, by have := gs2.rs; omega, gs2.ok⟩
  clear ro1 ro2 ht1 ht2 hs1 hs2 hs1' hs2' k5 k6 g1 g3 g01 g13 g03
  refine ⟨_, rfl, _, _, rfl, rfl, ⟨by decide, by decide⟩, _, _, rfl, rfl, (by show (0 : Int) < 5; decide), ?_⟩
  have hsn : 0 ≤ pick / 7 % 5 ∧ pick / 7 % 5 < 5 := ⟨Int.emod_nonneg _ (by decide), Int.emod_lt_of_pos _ (by decide)⟩
  dsimp only
  generalize pick / 7 % 5 = sn at hsn ⊢
  refine ⟨_, rfl, _, rfl, (by show 3 ≤ sizeLine; decide), fun q1 hq1 => ?_⟩
  have k1 := same_new hq1 (.tup [.str "then", v1, v2])
  have e1 := upd_same (H := H3) (a := q1) (o := .tup [.str "then", v1, v2])
  generalize (upd H3 q1 (.tup [.str "then", v1, v2])) = H4 at k1 e1
  refine ⟨_, rfl, _, rfl, (by show 3 ≤ sizeLine; decide), fun q2 hq2 => ?_⟩
  have k2 := k1.trans (same_new hq2 (.tup [.str "beside", v1, v2]))
  have e1 := same_new hq2 (.tup [.str "beside", v1, v2]) _ _ e1
  have e2 := upd_same (H := H4) (a := q2) (o := .tup [.str "beside", v1, v2])
  generalize (upd H4 q2 (.tup [.str "beside", v1, v2])) = H5 at k2 e1 e2
  refine ⟨_, rfl, _, rfl, _, rfl, (by show 4 ≤ sizeLine; decide), fun q3 hq3 => ?_⟩
  have n3 := same_new hq3 (.tup [.str "if", .int sn, v1, v2])
  have e3 := upd_same (H := H5) (a := q3) (o := .tup [.str "if", .int sn, v1, v2])
  generalize (upd H5 q3 (.tup [.str "if", .int sn, v1, v2])) = H6 at n3 e3
  refine ⟨_, rfl, _, rfl, (by show 3 ≤ sizeLine; decide), fun q4 hq4 => ?_⟩
  have n4 := same_new hq4 (.tup [.str "again", .int kr, v1])
  have e4 := upd_same (H := H6) (a := q4) (o := .tup [.str "again", .int kr, v1])
  generalize (upd H6 q4 (.tup [.str "again", .int kr, v1])) = H7 at n4 e4
  refine ⟨(by show 4 ≤ sizeLine; decide), fun jl hjl => ?_⟩
  have nj := same_new hjl (.lst [.ref q1, .ref q2, .ref q3, .ref q4])
  have ej := upd_same (H := H7) (a := jl) (o := .lst [.ref q1, .ref q2, .ref q3, .ref q4])
  generalize (upd H7 jl (.lst [.ref q1, .ref q2, .ref q3, .ref q4])) = H8 at nj ej
  refine ⟨_, rfl, _, rfl, _, rfl, (by show 3 ≤ sizeLine; decide), fun q5 hq5 => ?_⟩
  have n5 := same_new hq5 (.tup [.str "hold", .int sn, v1])
  have e5 := upd_same (H := H8) (a := q5) (o := .tup [.str "hold", .int sn, v1])
  generalize (upd H8 q5 (.tup [.str "hold", .int sn, v1])) = H9 at n5 e5
  refine ⟨_, rfl, _, rfl, (by show 3 ≤ sizeLine; decide), fun q6 hq6 => ?_⟩
  have n6 := same_new hq6 (.tup [.str "watch", .int sn, v1])
  have e6 := upd_same (H := H9) (a := q6) (o := .tup [.str "watch", .int sn, v1])
  generalize (upd H9 q6 (.tup [.str "watch", .int sn, v1])) = HA at n6 e6
  refine ⟨_, rfl, (by show 2 ≤ sizeLine; decide), fun q7 hq7 => ?_⟩
  have n7 := same_new hq7 (.tup [.str "trap", v1])
  have e7 := upd_same (H := HA) (a := q7) (o := .tup [.str "trap", v1])
  generalize (upd HA q7 (.tup [.str "trap", v1])) = HB at n7 e7
  refine ⟨(by show 3 ≤ sizeLine; decide), fun ml hml => ?_⟩
  have nm := same_new hml (.lst [.ref q5, .ref q6, .ref q7])
  have em := upd_same (H := HB) (a := ml) (o := .lst [.ref q5, .ref q6, .ref q7])
  generalize (upd HB ml (.lst [.ref q5, .ref q6, .ref q7])) = HC at nm em
  have m7 := n7.trans nm
  have m6 := n6.trans m7
  have m5 := n5.trans m6
  have m4 := nj.trans m5
  have m3 := n4.trans m4
  refine ⟨jl, ml, _, _, rfl, rfl, m5 _ _ ej, em, (by show 4 + 3 ≤ sizeLine; decide), fun al hal => ?_⟩
  have na := same_new hal (.lst ([V.ref q1, .ref q2, .ref q3, .ref q4] ++ [V.ref q5, .ref q6, .ref q7]))
  have ea := upd_same (H := HC) (a := al) (o := .lst ([V.ref q1, .ref q2, .ref q3, .ref q4] ++ [V.ref q5, .ref q6, .ref q7]))
  generalize (upd HC al (.lst ([V.ref q1, .ref q2, .ref q3, .ref q4] ++ [V.ref q5, .ref q6, .ref q7]))) = HD at na ea
  have mA := (n3.trans m3).trans na
  have g := k2.trans mA
  obtain ⟨v, p, ev, hv, wo, bd⟩ := join_at (n := pick % 7) (Int.emod_nonneg _ (by decide)) (Int.emod_lt_of_pos _ (by decide)) (P1.mono g.tp) (P2.mono g.tp) hsn (mA _ _ e1) (mA _ _ e2) ((m3.trans na) _ _ e3) ((m4.trans na) _ _ e4) ((m6.trans na) _ _ e5) ((m7.trans na) _ _ e6) ((nm.trans na) _ _ e7) gs1 gs2 nk
  exact ⟨_, rfl, _, _, rfl, rfl, (by show (0 : Int) < 7; decide), al, _, _, _, rfl, rfl, SqL.of ea, ev, q v p HD g hv wo bd⟩
end

end My
end

section
set_option Elab.async false
set_option linter.all false
set_option maxRecDepth 100000
set_option maxHeartbeats 4000000
namespace My
open PySem L2
inductive C_spKnown  (vs : List V) (H : Hp) (Q : VK) : Prop
  | mk (m : Int) (n : Nat) (c0 : vs = [.int m, .int n]) (c1 : n ≤ 30) (c2 : ∀ (r : Addr) (kn : List (Option Bool)) (H' : Hp), Same H H' → H' r = some (.lst (kn.map vO)) → kn.length = n → Q (.ref r) H') : C_spKnown  vs H Q
def spKnown : Sp := fun vs H Q _ => C_spKnown  vs H Q
section
variable {P : Program} {w : World} {K : PySem.W.Frag} {mg : Str → Option Value} {base : Heap} {aN aP aR : Addr} {uE uR uL : Value}
set_option maxHeartbeats 16000000 in
theorem ok_known (F : FunM K mg "_law_known" ["_law_number", "_law_signs"] s__law_known) (T : Txt mg) : Callee P w K mg base 1 "_law_known" ["_law_number", "_law_signs"] spKnown := by
  refine F.ok sc__law_known (fun vs H Q E h => ?_) (fun f cdv A outer s H vs Q E hr h => ?_)
  · obtain ⟨m, n, rfl, _⟩ := h; rfl
  obtain ⟨m, n, rfl, hn, q⟩ := h
  refine ⟨_, (pss_cons (ps_set (i := 2) sc__law_known.nd rfl (Or.inl rfl) (pe_lst pa_nil))
    (pss_cons (ps_for PassesOwn.never rfl (pi_range1 rfl T.n_range (pa_cons (pv 1) pa_nil)) (pg_name (i := 3) sc__law_known.nd rfl (Or.inl rfl))
      (pss_cons (ps_asg (pe_callB call_divmod rfl T.n_divmod (by decide +kernel) (pa_cons (pv 0) (pa_cons pe_int pa_nil))) (pg_tup rfl (pgs_cons (pg_name (i := 0) sc__law_known.nd rfl (Or.inl rfl)) (pgs_cons (pg_name (i := 4) sc__law_known.nd rfl (Or.inl rfl)) pgs_nil))))
    (pss_one (ps_expr (pe_bm PySem.F.plainAttrs_list PySem.F.slot_list_append PySem.F.type_list_append mt_append (pv 2) (pa_cons (pe_ix ix_list (pe_lst (pa_cons pe_non (pa_cons pe_bl (pa_cons pe_bl pa_nil)))) (pv 4) (fun _ _ => rfl)) pa_nil))))))
    (pss_one (ps_ret (pv 2))))), ?_⟩
  refine ⟨(by show 0 ≤ sizeLine; decide), fun r hr0 => ?_⟩
  refine ⟨_, rfl, _, rfl, by omega, by omega, ?_⟩
  dsimp only
  rw [Int.toNat_natCast]
  refine for_range (n := n) (D := { nx := tRet (tVar 2) { nx := fun x H' => Q V.non H', rt := Q }, rt := Q }) (fun i σ H' => Ex4 fun (m : Int) (kn : List (Option Bool)) (x3 : Option V) (x4 : Option V) => An4 (σ = [some (.int m), some (.int n), some (.ref r), x3, x4]) (Same H H') (H' r = some (.lst (kn.map vO))) (kn.length = i)) ⟨m, [], none, none, rfl, same_new hr0 _, upd_same, rfl⟩ ?_ ?_
  · rintro i σ H1 hi ⟨m, kn, x3, x4, rfl, g, hk, hl⟩
    refine ⟨_, rfl, _, _, rfl, ⟨by decide, by decide⟩, fun t ht => ?_⟩
    have g1 := same_new ht (.tup [.int (m / 3), .int (m % 3)])
    refine ⟨t, _, rfl, SqT.of upd_same, rfl, _, _, rfl, _, _, rfl, rfl, ?_⟩
    have hk1 := g1 _ _ hk
    have gg := g.trans g1
    generalize (upd H1 t (.tup [.int (m / 3), .int (m % 3)])) = H2 at hk1 gg
    refine ⟨_, rfl, .inl ⟨rfl, _, SqL.of hk1⟩, (by show 3 ≤ sizeLine; decide), fun l hl3 => ?_⟩
    have g2 := same_new hl3 (.lst [.non, .bl true, .bl false])
    have b1 := Int.emod_nonneg m (show (3 : Int) ≠ 0 by decide)
    have b2 := Int.emod_lt_of_pos m (show (0 : Int) < 3 by decide)
    obtain ⟨o, eo⟩ : ∃ o, atI [V.non, .bl true, .bl false] (m % 3) = some (vO o) := by
      have e3 := three b1 b2
      rcases e3 with e | e | e <;> rw [e]
      · exact ⟨none, atI_nat (j := 0) rfl⟩
      · exact ⟨some true, atI_nat (j := 1) rfl⟩
      · exact ⟨some false, atI_nat (j := 2) rfl⟩
    refine ⟨_, rfl, l, _, _, _, rfl, rfl, SqL.of upd_same, eo, r, _, _, rfl, rfl, g2 _ _ hk1, by rw [List.length_map]; first | exact small1000 (Nat.le_trans (Nat.le_of_eq hl) (Nat.le_trans (Nat.le_of_lt hi) (Nat.le_trans hn (by decide)))) | exact small1000 (by omega), ?_⟩
    refine ⟨_, kn ++ [o], _, _, rfl, (gg.trans g2).young hr0 _, ?_, by rw [List.length_append, hl]; rfl⟩
    rw [upd_same, List.map_append]; rfl
  · rintro σ H1 ⟨m, kn, x3, x4, rfl, g, hk, hl⟩
    exact ⟨_, rfl, q r kn H1 g hk hl⟩
end
section
variable {P : Program} {w : World} {K : PySem.W.Frag} {mg : Str → Option Value} {base : Heap} {aN aP aR : Addr} {uE uR uL : Value}
set_option maxHeartbeats 64000000 in
theorem ok_law {f : Addr} {fd : FuncData} (F : Fun K "law" "law" s_law f fd) (T : Txt mg) (C__law_mixed : Callee P w K mg base 1 "_law_mixed" ["_law_cell"] spMixed) (C__law_seed_at : Callee P w K mg base 2 "_law_seed_at" ["_law_script", "_law_k"] (spSeedAt K)) (C__law_whole_by : Callee P w K mg base 3 "_law_whole_by" ["_law_cells", "_law_cut", "_law_pick"] (spWhb K))
    (C__law_there : Callee P w K mg base 1 "_law_there" ["_law_number", "_law_signs"] spThere) (C__law_copied : Callee P w K mg base 1 "_law_copied" ["_law_state"] (spCopied K)) (C__law_known : Callee P w K mg base 1 "_law_known" ["_law_number", "_law_signs"] spKnown) (C__law_formed : Callee P w K mg base 3 "_law_formed" ["_law_found"] spFormed)
    (C__law_due : Callee P w K mg base 46 "_law_due" ["_law_whole_here", "_law_state", "_law_sure", "_law_known_here"] (spRow K fun p st => (isPr p = true ∨ isRd p = true) ∧ JW p st)) (C_walked : Callee P w K mg base 44 "walked" ["part", "state", "sure", "known"] (spWalk K 40)) (C_ran : Callee P w K mg base 44 "ran" ["part", "state", "there"] (spRan K 40)) :
    FnOk P w K mg base CX0 60 f fd ["_law_script"] (spLaw K) := by
  refine F.ok sc_law (fun vs H Q E h => ?_) (fun cdv A outer s H vs Q E hr h => ?_)
  · obtain ⟨a, ns, rfl, _⟩ := h
    rfl
  obtain ⟨a, ns, rfl, hS, h63, q⟩ := h
  refine ⟨_, (pss_cons (ps_set (i := 1) sc_law.nd rfl (Or.inl rfl) (pe_callC C__law_seed_at hr rfl pass0 (pa_cons (pv 0) (pa_cons pe_int pa_nil))))
    (pss_cons (ps_set (i := 2) sc_law.nd rfl (Or.inl rfl) (pe_op op_cat (pe_lst (pa_cons (pe_op op_fdiv (pv 1) pe_int) pa_nil)) (pe_comp (g := (gName 0)) (tc := tAlways) (te := (tCall spMixed [] E0 (tCons (tVar 0) tNil))) ["_law_cell"] [] rfl (compOk (defScope s_law) ["_law_script", "_law_seed", "_law_numbers", "_law_cells", "_law_pick", "_law_whole_here", "_law_state", "_law_number", "_law_there_here", "_law_known_here", "_law_sure", "_law_handed", "_law_given", "_law_found"] (by decide +kernel)) (pi_list (pe_slice sl_list (pv 0) (po_some pe_int) (po_some pe_int))) (fun s2 H2 fp cl C => pg_name (i := 0) (show List.Nodup [("_law_cell" : Str)] from by decide +kernel) rfl (Or.inl rfl)) (gkeep_name (by decide)) (fun s2 H2 fp cl C => pif_nil) (fun s2 H2 fp cl C => (pe_callC C__law_mixed hr rfl pass0 (pa_cons (pv 0) pa_nil))))))
    (pss_cons (ps_set (i := 3) sc_law.nd rfl (Or.inl rfl) (pe_slice sl_list (pv 0) (po_some pe_int) (po_some pe_int)))
    (pss_cons (ps_set (i := 4) sc_law.nd rfl (Or.inl rfl) (pe_callC C__law_seed_at hr rfl pass0 (pa_cons (pv 0) (pa_cons pe_int pa_nil))))
    (pss_cons (ps_set (i := 5) sc_law.nd rfl (Or.inl rfl) (pe_callC C__law_whole_by hr rfl pass0 (pa_cons (pv 3) (pa_cons (pe_op op_mod (pe_op op_fdiv (pv 4) pe_int) (pe_op op_add (pe_callB call_lenK rfl T.n_len PySem.boot_len (pa_cons (pv 3) pa_nil)) pe_int)) (pa_cons (pv 4) pa_nil)))))
    (pss_cons (ps_set (i := 6) sc_law.nd rfl (Or.inl rfl) pe_non)
    (pss_cons (ps_for PassesOwn.never rfl (pi_list (pv 2)) (pg_name (i := 7) sc_law.nd rfl (Or.inl rfl))
      (pss_cons (ps_set (i := 8) sc_law.nd rfl (Or.inl rfl) (pe_callC C__law_there hr rfl pass0 (pa_cons (pv 7) (pa_cons pe_int pa_nil))))
    (pss_cons (ps_set (i := 9) sc_law.nd rfl (Or.inl rfl) (pe_callC C__law_known hr rfl pass0 (pa_cons (pe_op op_fdiv (pv 7) pe_int) (pa_cons pe_int pa_nil))))
    (pss_cons (ps_set (i := 10) sc_law.nd rfl (Or.inl rfl) (pe_cmpR op_ne (pe_op op_mod (pe_op op_fdiv (pv 7) pe_int) pe_int) pe_int (nomark _)))
    (pss_cons (ps_set (i := 11) sc_law.nd rfl (Or.inl rfl) (pe_callTy call_list_of rfl T.n_list (by decide +kernel) (pa_cons (pv 9) pa_nil)))
    (pss_cons (ps_set (i := 12) sc_law.nd rfl (Or.inl rfl) (pe_callC C__law_copied hr rfl pass0 (pa_cons (pv 6) pa_nil)))
    (pss_cons (ps_set (i := 13) sc_law.nd rfl (Or.inl rfl) (pe_callC C_walked hr rfl pass0 (pa_cons (pv 5) (pa_cons (pv 12) (pa_cons (pv 10) (pa_cons (pv 11) pa_nil))))))
    (pss_cons (ps_if (PW.pt (pw_or (pt_not (pt_val (pe_callC C__law_formed hr rfl pass0 (pa_cons (pv 13) pa_nil)))) (pw_or (pt_cmpR (op_neLD hr.units) (pv 11) (pv 9) (nomark _)) (pw_or1 (pt_cmpR (OpR.or op_ne (op_neI hr.units0)) (pv 12) (pv 6) (nomark _))))))
      (pss_one (ps_ret pe_bl))
      pss_nil)
    (pss_cons (ps_if (pt_cmpR (op_neT hr.units) (pv 13) (pe_callC C__law_due hr rfl pass0 (pa_cons (pv 5) (pa_cons (pv 6) (pa_cons (pv 10) (pa_cons (pv 9) pa_nil))))) (nomark _))
      (pss_one (ps_ret pe_bl))
      pss_nil)
    (pss_cons (ps_set (i := 13) sc_law.nd rfl (Or.inl rfl) (pe_callC C_ran hr rfl pass0 (pa_cons (pv 5) (pa_cons (pe_callC C__law_copied hr rfl pass0 (pa_cons (pv 6) pa_nil)) (pa_cons (pe_callTy call_list_of rfl T.n_list (by decide +kernel) (pa_cons (pv 8) pa_nil)) pa_nil)))))
    (pss_cons (ps_if (pt_cmpR op_ne (pe_ix ix_tup (pv 13) pe_int (fun _ _ => rfl)) pe_int (nomark _))
      (pss_one (ps_ret pe_bl))
      pss_nil)
    (pss_one (ps_set (i := 6) sc_law.nd rfl (Or.inl rfl) (pe_callTy call_list_of rfl T.n_list (by decide +kernel) (pa_cons (pe_ix ix_tup (pv 13) pe_int (fun _ _ => rfl)) pa_nil)))))))))))))))
    (pss_one (ps_ret pe_bl))))))))), ?_⟩
  refine ⟨_, rfl, a, ns, 0, rfl, hS, Int.le_refl _, fun m hm => ?_⟩
  obtain ⟨ms, em, hml, _⟩ := cut_ints ns 22 42
  refine ⟨_, rfl, _, _, rfl, rfl, ⟨by decide, by decide⟩, (by show 1 ≤ sizeLine; decide), fun l0 hl0 => ?_⟩
  have k0 := same_new hl0 (.lst [V.int (m / 7)])
  refine ⟨_, rfl, _, rfl, _, rfl, a, _, rfl, k0.seq hS, fun l1 hl1 => ?_⟩
  have k1 := same_new hl1 (.lst (cutV (ns.map V.int) (some 22) (some 42)))
  have hl1' : (upd (upd H l0 (.lst [V.int (m / 7)])) l1 (.lst (cutV (ns.map V.int) (some 22) (some 42)))) l1 = some (.lst (ms.map V.int)) := by rw [upd_same]; exact congrArg (fun z => some (HO.lst z)) em
  refine ⟨l1, rfl, ⟨_, SqL.of hl1'⟩, comp_list (K := K) (xs := ms.map V.int) (fun i ys H' => H' = (upd (upd H l0 (.lst [V.int (m / 7)])) l1 (.lst (cutV (ns.map V.int) (some 22) (some 42)))) ∧ ∃ zs : List Int, ys = zs.map V.int) ⟨rfl, [], rfl⟩ (by rw [List.length_map]; exact small (by omega)) (fun i ys H' ⟨e, _⟩ => by rw [e]; exact SqL.of hl1') ?_ ?_⟩
  · rintro j z ys H' N hj ⟨rfl, zs, rfl⟩ hN hyl
    obtain ⟨c, rfl⟩ : ∃ c, z = V.int c := by
      rw [List.getElem?_map] at hj
      cases e : ms[j]? with
      | none => rw [e] at hj; cases hj
      | some c => rw [e] at hj; exact ⟨c, (Option.some.inj hj).symm⟩
    refine ⟨_, rfl, c, rfl, fun y hy => hN _ _ ?_ ⟨rfl, zs ++ [y], by simp⟩⟩
    rw [List.length_append, List.length_singleton]; omega
  rintro ys H' hyl ⟨rfl, zs0, rfl⟩ l2 hl2
  have k2 := same_new hl2 (.lst (zs0.map V.int))
  rw [List.length_map, List.length_map] at hyl
  refine ⟨l0, l2, _, _, rfl, rfl, k2 _ _ (k1 _ _ upd_same), upd_same, by rw [List.length_map]; show 1 + zs0.length ≤ sizeLine; exact small (by omega), fun nl hnl => ?_⟩
  have k3 := same_new hnl (.lst ([V.int (m / 7)] ++ zs0.map V.int))
  have kA := k0.trans ((k1.trans k2).trans k3)
  obtain ⟨zs, ez⟩ : ∃ zs : List Int, [V.int (m / 7)] ++ zs0.map V.int = zs.map V.int := ⟨(m / 7) :: zs0, rfl⟩
  have hnum0 : (upd (upd (upd (upd H l0 (.lst [V.int (m / 7)])) l1 (.lst (cutV (ns.map V.int) (some 22) (some 42)))) l2 (.lst (zs0.map V.int))) nl (.lst ([V.int (m / 7)] ++ zs0.map V.int))) nl = some (.lst (zs.map V.int)) := by rw [upd_same, ez]
  generalize (upd (upd (upd (upd H l0 (.lst [V.int (m / 7)])) l1 (.lst (cutV (ns.map V.int) (some 22) (some 42)))) l2 (.lst (zs0.map V.int))) nl (.lst ([V.int (m / 7)] ++ zs0.map V.int))) = H1 at hnum0 kA
  obtain ⟨cs, ec, hcl, _⟩ := cut_ints ns 2 22
  refine ⟨_, rfl, _, rfl, _, rfl, a, _, rfl, kA.seq hS, fun cl hcl0 => ?_⟩
  have k4 := same_new hcl0 (.lst (cutV (ns.map V.int) (some 2) (some 22)))
  have hcl' : (upd H1 cl (.lst (cutV (ns.map V.int) (some 2) (some 22)))) cl = some (.lst (cs.map V.int)) := by rw [upd_same]; exact congrArg (fun z => some (HO.lst z)) ec
  have n1 := k4 _ _ hnum0
  have k04 := kA.trans k4
  generalize (upd H1 cl (.lst (cutV (ns.map V.int) (some 2) (some 22)))) = H2 at hcl' n1 k04
  refine ⟨_, rfl, a, ns, 1, rfl, k04.seq hS, by decide, fun m2 hm2 => ?_⟩
  refine ⟨_, rfl, _, rfl, _, _, rfl, rfl, ⟨by decide, by decide⟩, _, rfl, cl, _, rfl, .inl (SqL.of hcl'), _, _, rfl, rfl, _, _, rfl, rfl, (by show (0 : Int) < (((cs.map V.int).length : Nat) : Int) + 1; omega), _, rfl, cl, cs, _, m2, rfl, SqL.of hcl', hcl, fun v p H3 g3 PW wo bd => ?_⟩
  have hnum := g3 _ _ n1
  refine ⟨_, rfl, nl, rfl, ⟨_, SqL.of hnum⟩, for_list (K := K) (a := nl) (xs := (zs : List Int).map V.int) (D := { nx := tRet (tC (.bl true)) { nx := fun x H' => Q V.non H', rt := Q }, rt := Q }) (fun i σ H' => Ex9 fun sv st x7 x8 x9 x10 x11 x12 x13 => An4 (σ = [some (.ref a), some (.int m), some (.ref nl), some (.ref cl), some (.int m2), some v, some sv, x7, x8, x9, x10, x11, x12, x13]) (Same H3 H') (StAt K H' st sv) (JW p st)) ⟨.non, none, none, none, none, none, none, none, none, rfl, Same.refl _, rfl, fun _ _ _ => trivial⟩ (fun i σ H' _ h => by obtain ⟨_, _, _, _, _, _, _, _, _, _, g, _, _⟩ := h; exact SqL.of (g _ _ hnum)) ?_ ?_⟩
  · rintro i y σ H4 hi ⟨sv, st, x7, x8, x9, x10, x11, x12, x13, rfl, g4, st4, jw⟩
    obtain ⟨num, rfl⟩ : ∃ c, y = V.int c := by
      rw [List.getElem?_map] at hi
      cases e : zs[i]? with
      | none => rw [e] at hi; cases hi
      | some c => rw [e] at hi; exact ⟨c, (Option.some.inj hi).symm⟩
    refine ⟨_, rfl, num, 5, rfl, by decide, fun r1 th hr1 pwt bdt hth => ?_⟩
    have k5 := same_new hr1 (.lst (th.map V.int))
    have g45 := g4.trans k5
    have st5 := stAt_mono k5 st4
    have hR := upd_same (H := H4) (a := r1) (o := .lst (th.map V.int))
    generalize (upd H4 r1 (.lst (th.map V.int))) = H5 at g45 st5 hR
    refine ⟨_, rfl, _, _, rfl, rfl, ⟨by decide, by decide⟩, _, 5, rfl, by decide, fun r2 kn H6 g6 hkn lkn => ?_⟩
    refine ⟨_, rfl, _, _, rfl, rfl, ⟨by decide, by decide⟩, _, _, rfl, rfl, (by show (0 : Int) < 4; decide), rfl, ?_⟩
    generalize (!decide (V.int (num / 3 % 4) = V.int 1)) = sb
    refine ⟨_, rfl, r2, _, rfl, .inl (SqL.of hkn), fun hd hhd => ?_⟩
    have k7 := same_new hhd (.lst (kn.map vO))
    have hh := upd_same (H := H6) (a := hd) (o := .lst (kn.map vO))
    have g57 := g6.trans k7
    have hkn := k7 _ _ hkn
    generalize (upd H6 hd (.lst (kn.map vO))) = H7 at g57 hh hkn
    refine ⟨_, rfl, sv, st, rfl, stAt_mono g57 st5, fun gv H8 g8 hg => ?_⟩
    have okp : okW kn.length p := by rw [lkn]; exact bd.ok
    refine ⟨_, rfl, _, rfl, _, rfl, _, rfl, v, p, gv, st, sb, hd, kn, rfl, PW.mono (g45.trans (g57.trans g8)).tp, hg, SqL.of (g8 _ _ hh), bd.hg, bd.sc, bd.rc, okp, fun t9 H9 g9 W9 => ?_⟩
    have g79 := g8.trans g9
    have g59 := g57.trans g79
    dsimp only [gName]
    refine seq_if (fun N fin => ?_) fun HA gA => ?_
    · refine ⟨_, rfl, t9, _, rfl, W9, gw_walk bd.ok bd.sc, fun HA gA => ⟨_, rfl, iteF ?_⟩⟩
      refine ⟨_, rfl, _, rfl, 0, hd, r2, _, _, by decide, rfl, rfl, SqL.of (gA _ _ (g79 _ _ hh)), SqL.of (gA _ _ (g79 _ _ hkn)), rfl, eqd_kn, _, rfl, iteF ⟨_, rfl, _, rfl, ?_⟩⟩
      exact ne_state (stAt_mono (g9.trans gA) hg) (stAt_mono (g59.trans gA) st5) ⟨_, rfl, fin _ gA⟩
    have g5A := g59.trans gA
    have g7A := g79.trans gA
    have bdk : BdR kn.length p := ⟨bd.hg, bd.sc, bd.rc, okp, bd.oe, by omega⟩
    refine seq_if (fun N fin => ?_) fun HB gB => ?_
    · refine ⟨_, rfl, _, rfl, _, rfl, _, rfl, _, rfl, v, p, sv, st, sb, r2, kn, rfl, PW.mono (g45.trans g5A).tp, ⟨wo.1, jw⟩, bdk, stAt_mono g5A st5, SqL.of (g7A _ _ hkn), fun tB HB gB WB => ?_⟩
      obtain ⟨l1, l2, l3, a1, a2, a3, a4⟩ := W9.mono (gA.trans gB)
      obtain ⟨o1, o2, o3, b1, b2, b3, b4⟩ := WB
      exact ⟨1, t9, tB, _, _, by decide, rfl, rfl, SqT.of a1, SqT.of b1, rfl, eqd_wk a2 a3 a4 b2 b3 b4, _, rfl, fin HB gB⟩
    have g5B := g5A.trans gB
    refine ⟨_, rfl, _, rfl, sv, st, rfl, stAt_mono g5B st5, fun gv2 HC gC hg2 => ?_⟩
    have g5C := g5B.trans gC
    refine ⟨_, rfl, r1, _, rfl, .inl (SqL.of (g5C _ _ hR)), fun r4 hr4 => ?_⟩
    have kD := same_new hr4 (.lst (th.map V.int))
    refine ⟨v, p, gv2, st, r4, th, rfl, PW.mono (g45.trans (g5C.trans kD)).tp, stAt_mono kD hg2, SqL.of upd_same, bd.hg, bd.sc, bd.rc, fun tE HE gE ⟨l1, l2, a1, a2, a3, _⟩ => ?_⟩
    refine (rdx (j := 0) a1 rfl rfl ⟨rfl, _, rfl, ite2 (fun c => q _) fun c => ?_⟩)
    refine (rdx (j := 2) a1 rfl rfl ⟨l2, _, rfl, .inl (SqL.of a3), fun r5 hr5 => ?_⟩)
    exact ⟨_, some (ranD p st th).2.2, _, _, _, _, _, _, _, rfl, (g45.trans (g5C.trans (kD.trans gE))).trans (same_new hr5 _), ⟨r5, rfl, SqL.of upd_same⟩, jw_next wo jw⟩
  · rintro σ H4 ⟨sv, st, x7, x8, x9, x10, x11, x12, x13, rfl, g4, _, _⟩
    exact q H4
end

end My
end

section
set_option Elab.async false
set_option linter.all false
set_option maxRecDepth 100000
set_option maxHeartbeats 4000000
namespace My
open PySem L2
theorem len_1 {α : Type} {Q : List α → Prop} (h : ∀ x0, Q [x0]) : ∀ us : List α, us.length = 1 → Q us
  | [x0], _ => h x0
theorem len_2 {α : Type} {Q : List α → Prop} (h : ∀ x0 x1, Q [x0, x1]) : ∀ us : List α, us.length = 2 → Q us
  | [x0, x1], _ => h x0 x1
theorem len_3 {α : Type} {Q : List α → Prop} (h : ∀ x0 x1 x2, Q [x0, x1, x2]) : ∀ us : List α, us.length = 3 → Q us
  | [x0, x1, x2], _ => h x0 x1 x2
theorem len_4 {α : Type} {Q : List α → Prop} (h : ∀ x0 x1 x2 x3, Q [x0, x1, x2, x3]) : ∀ us : List α, us.length = 4 → Q us
  | [x0, x1, x2, x3], _ => h x0 x1 x2 x3
theorem len_5 {α : Type} {Q : List α → Prop} (h : ∀ x0 x1 x2 x3 x4, Q [x0, x1, x2, x3, x4]) : ∀ us : List α, us.length = 5 → Q us
  | [x0, x1, x2, x3, x4], _ => h x0 x1 x2 x3 x4
theorem all_mk {l : PySem.W.OpenLaw} {w : World} {K : PySem.W.Frag} {h : Heap} {mg : Str → Option Value} {fa f0 f1 f2 f3 f4 f5 f6 f7 f8 f9 f10 f11 f12 f13 f14 f15 f16 f17 f18 f19 f20 f21 f22 f23 f24 f25 f26 f27 f28 f29 f30 f31 f32 f33 f34 f35 f36 f37 f38 f39 f40 f41 a_NOTHING a_PAIRS a_ROUND : Addr} (X : K.In h) (G : h.Ns mainGlobals mg) (hfa : mg "law" = some (.ref fa))
    {od0 an0 : Option Addr} {sl0 : Array (Option Value)} {oc0 kV0 dc0 pm0 cd0 ct0 : Value}
    {od1 an1 : Option Addr} {sl1 : Array (Option Value)} {oc1 kV1 dc1 pm1 cd1 ct1 : Value}
    {od2 an2 : Option Addr} {sl2 : Array (Option Value)} {oc2 kV2 dc2 pm2 cd2 ct2 : Value}
    {od3 an3 : Option Addr} {sl3 : Array (Option Value)} {oc3 kV3 dc3 pm3 cd3 ct3 : Value}
    {od4 an4 : Option Addr} {sl4 : Array (Option Value)} {oc4 kV4 dc4 pm4 cd4 ct4 : Value}
    {od5 an5 : Option Addr} {sl5 : Array (Option Value)} {oc5 kV5 dc5 pm5 cd5 ct5 : Value}
    {od6 an6 : Option Addr} {sl6 : Array (Option Value)} {oc6 kV6 dc6 pm6 cd6 ct6 : Value}
    {od7 an7 : Option Addr} {sl7 : Array (Option Value)} {oc7 kV7 dc7 pm7 cd7 ct7 : Value}
    {od8 an8 : Option Addr} {sl8 : Array (Option Value)} {oc8 kV8 dc8 pm8 cd8 ct8 : Value}
    {od9 an9 : Option Addr} {sl9 : Array (Option Value)} {oc9 kV9 dc9 pm9 cd9 ct9 : Value}
    {od10 an10 : Option Addr} {sl10 : Array (Option Value)} {oc10 kV10 dc10 pm10 cd10 ct10 : Value}
    {od11 an11 : Option Addr} {sl11 : Array (Option Value)} {oc11 kV11 dc11 pm11 cd11 ct11 : Value}
    {od12 an12 : Option Addr} {sl12 : Array (Option Value)} {oc12 kV12 dc12 pm12 cd12 ct12 : Value}
    {od13 an13 : Option Addr} {sl13 : Array (Option Value)} {oc13 kV13 dc13 pm13 cd13 ct13 : Value}
    {od14 an14 : Option Addr} {sl14 : Array (Option Value)} {oc14 kV14 dc14 pm14 cd14 ct14 : Value}
    {od15 an15 : Option Addr} {sl15 : Array (Option Value)} {oc15 kV15 dc15 pm15 cd15 ct15 : Value}
    {od16 an16 : Option Addr} {sl16 : Array (Option Value)} {oc16 kV16 dc16 pm16 cd16 ct16 : Value}
    {od17 an17 : Option Addr} {sl17 : Array (Option Value)} {oc17 kV17 dc17 pm17 cd17 ct17 : Value}
    {od18 an18 : Option Addr} {sl18 : Array (Option Value)} {oc18 kV18 dc18 pm18 cd18 ct18 : Value}
    {od19 an19 : Option Addr} {sl19 : Array (Option Value)} {oc19 kV19 dc19 pm19 cd19 ct19 : Value}
    {od20 an20 : Option Addr} {sl20 : Array (Option Value)} {oc20 kV20 dc20 pm20 cd20 ct20 : Value}
    {od21 an21 : Option Addr} {sl21 : Array (Option Value)} {oc21 kV21 dc21 pm21 cd21 ct21 : Value}
    {od22 an22 : Option Addr} {sl22 : Array (Option Value)} {oc22 kV22 dc22 pm22 cd22 ct22 : Value}
    {od23 an23 : Option Addr} {sl23 : Array (Option Value)} {oc23 kV23 dc23 pm23 cd23 ct23 : Value}
    {od24 an24 : Option Addr} {sl24 : Array (Option Value)} {oc24 kV24 dc24 pm24 cd24 ct24 : Value}
    {od25 an25 : Option Addr} {sl25 : Array (Option Value)} {oc25 kV25 dc25 pm25 cd25 ct25 : Value}
    {od26 an26 : Option Addr} {sl26 : Array (Option Value)} {oc26 kV26 dc26 pm26 cd26 ct26 : Value}
    {od27 an27 : Option Addr} {sl27 : Array (Option Value)} {oc27 kV27 dc27 pm27 cd27 ct27 : Value}
    {od28 an28 : Option Addr} {sl28 : Array (Option Value)} {oc28 kV28 dc28 pm28 cd28 ct28 : Value}
    {od29 an29 : Option Addr} {sl29 : Array (Option Value)} {oc29 kV29 dc29 pm29 cd29 ct29 : Value}
    {od30 an30 : Option Addr} {sl30 : Array (Option Value)} {oc30 kV30 dc30 pm30 cd30 ct30 : Value}
    {od31 an31 : Option Addr} {sl31 : Array (Option Value)} {oc31 kV31 dc31 pm31 cd31 ct31 : Value}
    {od32 an32 : Option Addr} {sl32 : Array (Option Value)} {oc32 kV32 dc32 pm32 cd32 ct32 : Value}
    {od33 an33 : Option Addr} {sl33 : Array (Option Value)} {oc33 kV33 dc33 pm33 cd33 ct33 : Value}
    {od34 an34 : Option Addr} {sl34 : Array (Option Value)} {oc34 kV34 dc34 pm34 cd34 ct34 : Value}
    {od35 an35 : Option Addr} {sl35 : Array (Option Value)} {oc35 kV35 dc35 pm35 cd35 ct35 : Value}
    {od36 an36 : Option Addr} {sl36 : Array (Option Value)} {oc36 kV36 dc36 pm36 cd36 ct36 : Value}
    {od37 an37 : Option Addr} {sl37 : Array (Option Value)} {oc37 kV37 dc37 pm37 cd37 ct37 : Value}
    {od38 an38 : Option Addr} {sl38 : Array (Option Value)} {oc38 kV38 dc38 pm38 cd38 ct38 : Value}
    {od39 an39 : Option Addr} {sl39 : Array (Option Value)} {oc39 kV39 dc39 pm39 cd39 ct39 : Value}
    {od40 an40 : Option Addr} {sl40 : Array (Option Value)} {oc40 kV40 dc40 pm40 cd40 ct40 : Value}
    {od41 an41 : Option Addr} {sl41 : Array (Option Value)} {oc41 kV41 dc41 pm41 cd41 ct41 : Value}
    {od_NOTHING : Option Addr} {it_NOTHING : Array Value} {n_NOTHING : Nat} {sl_NOTHING : Array (Option Value)}
    {od_PAIRS : Option Addr} {it_PAIRS : Array Value} {n_PAIRS : Nat} {sl_PAIRS : Array (Option Value)}
    {od_ROUND : Option Addr} {it_ROUND : Array Value} {n_ROUND : Nat} {sl_ROUND : Array (Option Value)}
    {tk_ENDED : Tok}
    {tk_RESTS : Tok}
    {tk_LEAVES : Tok}
    (a0 : PySem.W.nsIn K mainGlobals "leaf_code" = some (some (.ref f0))) (l0 : K.lookup f0 = some ⟨oc0, od0, .func (PySem.W.fnOf "leaf_code" "leaf_code" (defArgs s_leaf_code) (defBody s_leaf_code) (defScope s_leaf_code) .none kV0 dc0 pm0 an0 cd0 ct0), sl0⟩) (c0 : PySem.W.codeIn K cd0 "leaf_code" = true) (k0 : PySem.W.keepIn K (.ref f0) = true)
    (a1 : PySem.W.nsIn K mainGlobals "code_of_again" = some (some (.ref f1))) (l1 : K.lookup f1 = some ⟨oc1, od1, .func (PySem.W.fnOf "code_of_again" "code_of_again" (defArgs s_code_of_again) (defBody s_code_of_again) (defScope s_code_of_again) .none kV1 dc1 pm1 an1 cd1 ct1), sl1⟩) (c1 : PySem.W.codeIn K cd1 "code_of_again" = true) (k1 : PySem.W.keepIn K (.ref f1) = true)
    (a2 : PySem.W.nsIn K mainGlobals "code_of_trap" = some (some (.ref f2))) (l2 : K.lookup f2 = some ⟨oc2, od2, .func (PySem.W.fnOf "code_of_trap" "code_of_trap" (defArgs s_code_of_trap) (defBody s_code_of_trap) (defScope s_code_of_trap) .none kV2 dc2 pm2 an2 cd2 ct2), sl2⟩) (c2 : PySem.W.codeIn K cd2 "code_of_trap" = true) (k2 : PySem.W.keepIn K (.ref f2) = true)
    (a3 : PySem.W.nsIn K mainGlobals "part_to_begin" = some (some (.ref f3))) (l3 : K.lookup f3 = some ⟨oc3, od3, .func (PySem.W.fnOf "part_to_begin" "part_to_begin" (defArgs s_part_to_begin) (defBody s_part_to_begin) (defScope s_part_to_begin) .none kV3 dc3 pm3 an3 cd3 ct3), sl3⟩) (c3 : PySem.W.codeIn K cd3 "part_to_begin" = true) (k3 : PySem.W.keepIn K (.ref f3) = true)
    (a4 : PySem.W.nsIn K mainGlobals "remaining" = some (some (.ref f4))) (l4 : K.lookup f4 = some ⟨oc4, od4, .func (PySem.W.fnOf "remaining" "remaining" (defArgs s_remaining) (defBody s_remaining) (defScope s_remaining) .none kV4 dc4 pm4 an4 cd4 ct4), sl4⟩) (c4 : PySem.W.codeIn K cd4 "remaining" = true) (k4 : PySem.W.keepIn K (.ref f4) = true)
    (a5 : PySem.W.nsIn K mainGlobals "left_of_pair" = some (some (.ref f5))) (l5 : K.lookup f5 = some ⟨oc5, od5, .func (PySem.W.fnOf "left_of_pair" "left_of_pair" (defArgs s_left_of_pair) (defBody s_left_of_pair) (defScope s_left_of_pair) .none kV5 dc5 pm5 an5 cd5 ct5), sl5⟩) (c5 : PySem.W.codeIn K cd5 "left_of_pair" = true) (k5 : PySem.W.keepIn K (.ref f5) = true)
    (a6 : PySem.W.nsIn K mainGlobals "left_of_round" = some (some (.ref f6))) (l6 : K.lookup f6 = some ⟨oc6, od6, .func (PySem.W.fnOf "left_of_round" "left_of_round" (defArgs s_left_of_round) (defBody s_left_of_round) (defScope s_left_of_round) .none kV6 dc6 pm6 an6 cd6 ct6), sl6⟩) (c6 : PySem.W.codeIn K cd6 "left_of_round" = true) (k6 : PySem.W.keepIn K (.ref f6) = true)
    (a7 : PySem.W.nsIn K mainGlobals "ran" = some (some (.ref f7))) (l7 : K.lookup f7 = some ⟨oc7, od7, .func (PySem.W.fnOf "ran" "ran" (defArgs s_ran) (defBody s_ran) (defScope s_ran) .none kV7 dc7 pm7 an7 cd7 ct7), sl7⟩) (c7 : PySem.W.codeIn K cd7 "ran" = true) (k7 : PySem.W.keepIn K (.ref f7) = true)
    (a8 : PySem.W.nsIn K mainGlobals "begun_instants" = some (some (.ref f8))) (l8 : K.lookup f8 = some ⟨oc8, od8, .func (PySem.W.fnOf "begun" "begun" (defArgs s_begun_instants) (defBody s_begun_instants) (defScope s_begun_instants) .none kV8 dc8 pm8 an8 cd8 ct8), sl8⟩) (c8 : PySem.W.codeIn K cd8 "begun" = true) (k8 : PySem.W.keepIn K (.ref f8) = true)
    (a9 : PySem.W.nsIn K mainGlobals "begun_leaf_instants" = some (some (.ref f9))) (l9 : K.lookup f9 = some ⟨oc9, od9, .func (PySem.W.fnOf "begun_leaf" "begun_leaf" (defArgs s_begun_leaf_instants) (defBody s_begun_leaf_instants) (defScope s_begun_leaf_instants) .none kV9 dc9 pm9 an9 cd9 ct9), sl9⟩) (c9 : PySem.W.codeIn K cd9 "begun_leaf" = true) (k9 : PySem.W.keepIn K (.ref f9) = true)
    (a10 : PySem.W.nsIn K mainGlobals "rests_left" = some (some (.ref f10))) (l10 : K.lookup f10 = some ⟨oc10, od10, .func (PySem.W.fnOf "rests_left" "rests_left" (defArgs s_rests_left) (defBody s_rests_left) (defScope s_rests_left) .none kV10 dc10 pm10 an10 cd10 ct10), sl10⟩) (c10 : PySem.W.codeIn K cd10 "rests_left" = true) (k10 : PySem.W.keepIn K (.ref f10) = true)
    (a11 : PySem.W.nsIn K mainGlobals "in_turn_instants" = some (some (.ref f11))) (l11 : K.lookup f11 = some ⟨oc11, od11, .func (PySem.W.fnOf "in_turn" "in_turn" (defArgs s_in_turn_instants) (defBody s_in_turn_instants) (defScope s_in_turn_instants) .none kV11 dc11 pm11 an11 cd11 ct11), sl11⟩) (c11 : PySem.W.codeIn K cd11 "in_turn" = true) (k11 : PySem.W.keepIn K (.ref f11) = true)
    (a12 : PySem.W.nsIn K mainGlobals "side_by_side_instants" = some (some (.ref f12))) (l12 : K.lookup f12 = some ⟨oc12, od12, .func (PySem.W.fnOf "side_by_side" "side_by_side" (defArgs s_side_by_side_instants) (defBody s_side_by_side_instants) (defScope s_side_by_side_instants) .none kV12 dc12 pm12 an12 cd12 ct12), sl12⟩) (c12 : PySem.W.codeIn K cd12 "side_by_side" = true) (k12 : PySem.W.keepIn K (.ref f12) = true)
    (a13 : PySem.W.nsIn K mainGlobals "repeated" = some (some (.ref f13))) (l13 : K.lookup f13 = some ⟨oc13, od13, .func (PySem.W.fnOf "repeated" "repeated" (defArgs s_repeated) (defBody s_repeated) (defScope s_repeated) .none kV13 dc13 pm13 an13 cd13 ct13), sl13⟩) (c13 : PySem.W.codeIn K cd13 "repeated" = true) (k13 : PySem.W.keepIn K (.ref f13) = true)
    (a14 : PySem.W.nsIn K mainGlobals "walked" = some (some (.ref f14))) (l14 : K.lookup f14 = some ⟨oc14, od14, .func (PySem.W.fnOf "walked" "walked" (defArgs s_walked) (defBody s_walked) (defScope s_walked) .none kV14 dc14 pm14 an14 cd14 ct14), sl14⟩) (c14 : PySem.W.codeIn K cd14 "walked" = true) (k14 : PySem.W.keepIn K (.ref f14) = true)
    (a15 : PySem.W.nsIn K mainGlobals "begun_walking" = some (some (.ref f15))) (l15 : K.lookup f15 = some ⟨oc15, od15, .func (PySem.W.fnOf "begun" "begun" (defArgs s_begun_walking) (defBody s_begun_walking) (defScope s_begun_walking) .none kV15 dc15 pm15 an15 cd15 ct15), sl15⟩) (c15 : PySem.W.codeIn K cd15 "begun" = true) (k15 : PySem.W.keepIn K (.ref f15) = true)
    (a16 : PySem.W.nsIn K mainGlobals "begun_leaf_walking" = some (some (.ref f16))) (l16 : K.lookup f16 = some ⟨oc16, od16, .func (PySem.W.fnOf "begun_leaf" "begun_leaf" (defArgs s_begun_leaf_walking) (defBody s_begun_leaf_walking) (defScope s_begun_leaf_walking) .none kV16 dc16 pm16 an16 cd16 ct16), sl16⟩) (c16 : PySem.W.codeIn K cd16 "begun_leaf" = true) (k16 : PySem.W.keepIn K (.ref f16) = true)
    (a17 : PySem.W.nsIn K mainGlobals "in_turn_walking" = some (some (.ref f17))) (l17 : K.lookup f17 = some ⟨oc17, od17, .func (PySem.W.fnOf "in_turn" "in_turn" (defArgs s_in_turn_walking) (defBody s_in_turn_walking) (defScope s_in_turn_walking) .none kV17 dc17 pm17 an17 cd17 ct17), sl17⟩) (c17 : PySem.W.codeIn K cd17 "in_turn" = true) (k17 : PySem.W.keepIn K (.ref f17) = true)
    (a18 : PySem.W.nsIn K mainGlobals "side_by_side_walking" = some (some (.ref f18))) (l18 : K.lookup f18 = some ⟨oc18, od18, .func (PySem.W.fnOf "side_by_side" "side_by_side" (defArgs s_side_by_side_walking) (defBody s_side_by_side_walking) (defScope s_side_by_side_walking) .none kV18 dc18 pm18 an18 cd18 ct18), sl18⟩) (c18 : PySem.W.codeIn K cd18 "side_by_side" = true) (k18 : PySem.W.keepIn K (.ref f18) = true)
    (a19 : PySem.W.nsIn K mainGlobals "one_of" = some (some (.ref f19))) (l19 : K.lookup f19 = some ⟨oc19, od19, .func (PySem.W.fnOf "one_of" "one_of" (defArgs s_one_of) (defBody s_one_of) (defScope s_one_of) .none kV19 dc19 pm19 an19 cd19 ct19), sl19⟩) (c19 : PySem.W.codeIn K cd19 "one_of" = true) (k19 : PySem.W.keepIn K (.ref f19) = true)
    (a20 : PySem.W.nsIn K mainGlobals "recoded" = some (some (.ref f20))) (l20 : K.lookup f20 = some ⟨oc20, od20, .func (PySem.W.fnOf "recoded" "recoded" (defArgs s_recoded) (defBody s_recoded) (defScope s_recoded) .none kV20 dc20 pm20 an20 cd20 ct20), sl20⟩) (c20 : PySem.W.codeIn K cd20 "recoded" = true) (k20 : PySem.W.keepIn K (.ref f20) = true)
    (a21 : PySem.W.nsIn K mainGlobals "_law_mixed" = some (some (.ref f21))) (l21 : K.lookup f21 = some ⟨oc21, od21, .func (PySem.W.fnOf "_law_mixed" "_law_mixed" (defArgs s__law_mixed) (defBody s__law_mixed) (defScope s__law_mixed) .none kV21 dc21 pm21 an21 cd21 ct21), sl21⟩) (c21 : PySem.W.codeIn K cd21 "_law_mixed" = true) (k21 : PySem.W.keepIn K (.ref f21) = true)
    (a22 : PySem.W.nsIn K mainGlobals "_law_seed_at" = some (some (.ref f22))) (l22 : K.lookup f22 = some ⟨oc22, od22, .func (PySem.W.fnOf "_law_seed_at" "_law_seed_at" (defArgs s__law_seed_at) (defBody s__law_seed_at) (defScope s__law_seed_at) .none kV22 dc22 pm22 an22 cd22 ct22), sl22⟩) (c22 : PySem.W.codeIn K cd22 "_law_seed_at" = true) (k22 : PySem.W.keepIn K (.ref f22) = true)
    (a23 : PySem.W.nsIn K mainGlobals "_law_whole" = some (some (.ref f23))) (l23 : K.lookup f23 = some ⟨oc23, od23, .func (PySem.W.fnOf "_law_whole" "_law_whole" (defArgs s__law_whole) (defBody s__law_whole) (defScope s__law_whole) .none kV23 dc23 pm23 an23 cd23 ct23), sl23⟩) (c23 : PySem.W.codeIn K cd23 "_law_whole" = true) (k23 : PySem.W.keepIn K (.ref f23) = true)
    (a24 : PySem.W.nsIn K mainGlobals "_law_leaf" = some (some (.ref f24))) (l24 : K.lookup f24 = some ⟨oc24, od24, .func (PySem.W.fnOf "_law_leaf" "_law_leaf" (defArgs s__law_leaf) (defBody s__law_leaf) (defScope s__law_leaf) .none kV24 dc24 pm24 an24 cd24 ct24), sl24⟩) (c24 : PySem.W.codeIn K cd24 "_law_leaf" = true) (k24 : PySem.W.keepIn K (.ref f24) = true)
    (a25 : PySem.W.nsIn K mainGlobals "_law_wrapped" = some (some (.ref f25))) (l25 : K.lookup f25 = some ⟨oc25, od25, .func (PySem.W.fnOf "_law_wrapped" "_law_wrapped" (defArgs s__law_wrapped) (defBody s__law_wrapped) (defScope s__law_wrapped) .none kV25 dc25 pm25 an25 cd25 ct25), sl25⟩) (c25 : PySem.W.codeIn K cd25 "_law_wrapped" = true) (k25 : PySem.W.keepIn K (.ref f25) = true)
    (a26 : PySem.W.nsIn K mainGlobals "_law_part_by" = some (some (.ref f26))) (l26 : K.lookup f26 = some ⟨oc26, od26, .func (PySem.W.fnOf "_law_part_by" "_law_part_by" (defArgs s__law_part_by) (defBody s__law_part_by) (defScope s__law_part_by) .none kV26 dc26 pm26 an26 cd26 ct26), sl26⟩) (c26 : PySem.W.codeIn K cd26 "_law_part_by" = true) (k26 : PySem.W.keepIn K (.ref f26) = true)
    (a27 : PySem.W.nsIn K mainGlobals "_law_rests" = some (some (.ref f27))) (l27 : K.lookup f27 = some ⟨oc27, od27, .func (PySem.W.fnOf "_law_rests" "_law_rests" (defArgs s__law_rests) (defBody s__law_rests) (defScope s__law_rests) .none kV27 dc27 pm27 an27 cd27 ct27), sl27⟩) (c27 : PySem.W.codeIn K cd27 "_law_rests" = true) (k27 : PySem.W.keepIn K (.ref f27) = true)
    (a28 : PySem.W.nsIn K mainGlobals "_law_goes" = some (some (.ref f28))) (l28 : K.lookup f28 = some ⟨oc28, od28, .func (PySem.W.fnOf "_law_goes" "_law_goes" (defArgs s__law_goes) (defBody s__law_goes) (defScope s__law_goes) .none kV28 dc28 pm28 an28 cd28 ct28), sl28⟩) (c28 : PySem.W.codeIn K cd28 "_law_goes" = true) (k28 : PySem.W.keepIn K (.ref f28) = true)
    (a29 : PySem.W.nsIn K mainGlobals "_law_there" = some (some (.ref f29))) (l29 : K.lookup f29 = some ⟨oc29, od29, .func (PySem.W.fnOf "_law_there" "_law_there" (defArgs s__law_there) (defBody s__law_there) (defScope s__law_there) .none kV29 dc29 pm29 an29 cd29 ct29), sl29⟩) (c29 : PySem.W.codeIn K cd29 "_law_there" = true) (k29 : PySem.W.keepIn K (.ref f29) = true)
    (a30 : PySem.W.nsIn K mainGlobals "_law_copied" = some (some (.ref f30))) (l30 : K.lookup f30 = some ⟨oc30, od30, .func (PySem.W.fnOf "_law_copied" "_law_copied" (defArgs s__law_copied) (defBody s__law_copied) (defScope s__law_copied) .none kV30 dc30 pm30 an30 cd30 ct30), sl30⟩) (c30 : PySem.W.codeIn K cd30 "_law_copied" = true) (k30 : PySem.W.keepIn K (.ref f30) = true)
    (a31 : PySem.W.nsIn K mainGlobals "_law_known" = some (some (.ref f31))) (l31 : K.lookup f31 = some ⟨oc31, od31, .func (PySem.W.fnOf "_law_known" "_law_known" (defArgs s__law_known) (defBody s__law_known) (defScope s__law_known) .none kV31 dc31 pm31 an31 cd31 ct31), sl31⟩) (c31 : PySem.W.codeIn K cd31 "_law_known" = true) (k31 : PySem.W.keepIn K (.ref f31) = true)
    (a32 : PySem.W.nsIn K mainGlobals "_law_rising" = some (some (.ref f32))) (l32 : K.lookup f32 = some ⟨oc32, od32, .func (PySem.W.fnOf "_law_rising" "_law_rising" (defArgs s__law_rising) (defBody s__law_rising) (defScope s__law_rising) .none kV32 dc32 pm32 an32 cd32 ct32), sl32⟩) (c32 : PySem.W.codeIn K cd32 "_law_rising" = true) (k32 : PySem.W.keepIn K (.ref f32) = true)
    (a33 : PySem.W.nsIn K mainGlobals "_law_formed" = some (some (.ref f33))) (l33 : K.lookup f33 = some ⟨oc33, od33, .func (PySem.W.fnOf "_law_formed" "_law_formed" (defArgs s__law_formed) (defBody s__law_formed) (defScope s__law_formed) .none kV33 dc33 pm33 an33 cd33 ct33), sl33⟩) (c33 : PySem.W.codeIn K cd33 "_law_formed" = true) (k33 : PySem.W.keepIn K (.ref f33) = true)
    (a34 : PySem.W.nsIn K mainGlobals "_law_both" = some (some (.ref f34))) (l34 : K.lookup f34 = some ⟨oc34, od34, .func (PySem.W.fnOf "_law_both" "_law_both" (defArgs s__law_both) (defBody s__law_both) (defScope s__law_both) .none kV34 dc34 pm34 an34 cd34 ct34), sl34⟩) (c34 : PySem.W.codeIn K cd34 "_law_both" = true) (k34 : PySem.W.keepIn K (.ref f34) = true)
    (a35 : PySem.W.nsIn K mainGlobals "_law_if" = some (some (.ref f35))) (l35 : K.lookup f35 = some ⟨oc35, od35, .func (PySem.W.fnOf "_law_if" "_law_if" (defArgs s__law_if) (defBody s__law_if) (defScope s__law_if) .none kV35 dc35 pm35 an35 cd35 ct35), sl35⟩) (c35 : PySem.W.codeIn K cd35 "_law_if" = true) (k35 : PySem.W.keepIn K (.ref f35) = true)
    (a36 : PySem.W.nsIn K mainGlobals "_law_beside" = some (some (.ref f36))) (l36 : K.lookup f36 = some ⟨oc36, od36, .func (PySem.W.fnOf "_law_beside" "_law_beside" (defArgs s__law_beside) (defBody s__law_beside) (defScope s__law_beside) .none kV36 dc36 pm36 an36 cd36 ct36), sl36⟩) (c36 : PySem.W.codeIn K cd36 "_law_beside" = true) (k36 : PySem.W.keepIn K (.ref f36) = true)
    (a37 : PySem.W.nsIn K mainGlobals "_law_then" = some (some (.ref f37))) (l37 : K.lookup f37 = some ⟨oc37, od37, .func (PySem.W.fnOf "_law_then" "_law_then" (defArgs s__law_then) (defBody s__law_then) (defScope s__law_then) .none kV37 dc37 pm37 an37 cd37 ct37), sl37⟩) (c37 : PySem.W.codeIn K cd37 "_law_then" = true) (k37 : PySem.W.keepIn K (.ref f37) = true)
    (a38 : PySem.W.nsIn K mainGlobals "_law_inner" = some (some (.ref f38))) (l38 : K.lookup f38 = some ⟨oc38, od38, .func (PySem.W.fnOf "_law_inner" "_law_inner" (defArgs s__law_inner) (defBody s__law_inner) (defScope s__law_inner) .none kV38 dc38 pm38 an38 cd38 ct38), sl38⟩) (c38 : PySem.W.codeIn K cd38 "_law_inner" = true) (k38 : PySem.W.keepIn K (.ref f38) = true)
    (a39 : PySem.W.nsIn K mainGlobals "_law_due" = some (some (.ref f39))) (l39 : K.lookup f39 = some ⟨oc39, od39, .func (PySem.W.fnOf "_law_due" "_law_due" (defArgs s__law_due) (defBody s__law_due) (defScope s__law_due) .none kV39 dc39 pm39 an39 cd39 ct39), sl39⟩) (c39 : PySem.W.codeIn K cd39 "_law_due" = true) (k39 : PySem.W.keepIn K (.ref f39) = true)
    (a40 : PySem.W.nsIn K mainGlobals "_law_whole_by" = some (some (.ref f40))) (l40 : K.lookup f40 = some ⟨oc40, od40, .func (PySem.W.fnOf "_law_whole_by" "_law_whole_by" (defArgs s__law_whole_by) (defBody s__law_whole_by) (defScope s__law_whole_by) .none kV40 dc40 pm40 an40 cd40 ct40), sl40⟩) (c40 : PySem.W.codeIn K cd40 "_law_whole_by" = true) (k40 : PySem.W.keepIn K (.ref f40) = true)
    (a41 : PySem.W.nsIn K mainGlobals "law" = some (some (.ref f41))) (l41 : K.lookup f41 = some ⟨oc41, od41, .func (PySem.W.fnOf "law" "law" (defArgs s_law) (defBody s_law) (defScope s_law) .none kV41 dc41 pm41 an41 cd41 ct41), sl41⟩) (c41 : PySem.W.codeIn K cd41 "law" = true) (k41 : PySem.W.keepIn K (.ref f41) = true)
    (ca_NOTHING : PySem.W.nsIn K mainGlobals "NOTHING" = some (some (.ref a_NOTHING))) (cl_NOTHING : K.lookup a_NOTHING = some ⟨Value.type "tuple", od_NOTHING, .seq it_NOTHING n_NOTHING, sl_NOTHING⟩) (cs_NOTHING : it_NOTHING.size ≤ sizeLine) (cv_NOTHING : Vals [V.str "nothing"] it_NOTHING.toList)
    (ca_PAIRS : PySem.W.nsIn K mainGlobals "PAIRS" = some (some (.ref a_PAIRS))) (cl_PAIRS : K.lookup a_PAIRS = some ⟨Value.type "tuple", od_PAIRS, .seq it_PAIRS n_PAIRS, sl_PAIRS⟩) (cs_PAIRS : it_PAIRS.size ≤ sizeLine) (cv_PAIRS : Vals [V.str "then", V.str "if", V.str "beside"] it_PAIRS.toList)
    (ca_ROUND : PySem.W.nsIn K mainGlobals "ROUND" = some (some (.ref a_ROUND))) (cl_ROUND : K.lookup a_ROUND = some ⟨Value.type "tuple", od_ROUND, .seq it_ROUND n_ROUND, sl_ROUND⟩) (cs_ROUND : it_ROUND.size ≤ sizeLine) (cv_ROUND : Vals [V.str "again", V.str "hold", V.str "watch", V.str "trap"] it_ROUND.toList)
    (cn_ENDED : PySem.W.nsIn K mainGlobals "ENDED" = some (some (.int 0 tk_ENDED)))
    (cn_RESTS : PySem.W.nsIn K mainGlobals "RESTS" = some (some (.int 1 tk_RESTS)))
    (cn_LEAVES : PySem.W.nsIn K mainGlobals "LEAVES" = some (some (.int 2 tk_LEAVES)))
    (z_all : PySem.W.nsIn K mainGlobals "all" = some none)
    (z_any : PySem.W.nsIn K mainGlobals "any" = some none)
    (z_bool : PySem.W.nsIn K mainGlobals "bool" = some none)
    (z_divmod : PySem.W.nsIn K mainGlobals "divmod" = some none)
    (z_int : PySem.W.nsIn K mainGlobals "int" = some none)
    (z_isinstance : PySem.W.nsIn K mainGlobals "isinstance" = some none)
    (z_len : PySem.W.nsIn K mainGlobals "len" = some none)
    (z_list : PySem.W.nsIn K mainGlobals "list" = some none)
    (z_max : PySem.W.nsIn K mainGlobals "max" = some none)
    (z_min : PySem.W.nsIn K mainGlobals "min" = some none)
    (z_range : PySem.W.nsIn K mainGlobals "range" = some none)
    (z_set : PySem.W.nsIn K mainGlobals "set" = some none)
    (z_sorted : PySem.W.nsIn K mainGlobals "sorted" = some none)
    (z_tuple : PySem.W.nsIn K mainGlobals "tuple" = some none)
    : ∃ fd : FuncData, (∀ (s : Shared) (v : Value), BindsTo s fd ⟨[v], []⟩ [("_law_script", v)]) ∧ ∀ base : Heap, K.In base → base.Ns mainGlobals mg → FnOk l.prog w K mg base CX0 60 fa fd ["_law_script"] (spLaw K) := by
  have e := hfa.symm.trans (PySem.W.mg_of X G a41)
  cases e
  have T : Txt mg := ⟨PySem.W.mg_none_of X G z_all, PySem.W.mg_none_of X G z_any, PySem.W.mg_none_of X G z_bool, PySem.W.mg_none_of X G z_divmod, PySem.W.mg_none_of X G z_int, PySem.W.mg_none_of X G z_isinstance, PySem.W.mg_none_of X G z_len, PySem.W.mg_none_of X G z_list, PySem.W.mg_none_of X G z_max, PySem.W.mg_none_of X G z_min, PySem.W.mg_none_of X G z_range, PySem.W.mg_none_of X G z_set, PySem.W.mg_none_of X G z_sorted, PySem.W.mg_none_of X G z_tuple⟩
  have cm_NOTHING := PySem.W.mg_of X G ca_NOTHING
  have cst_NOTHING : ModT K a_NOTHING [V.str "nothing"] := ⟨_, _, _, cl_NOTHING, rfl, rfl, cs_NOTHING, cv_NOTHING⟩
  have cm_PAIRS := PySem.W.mg_of X G ca_PAIRS
  have cst_PAIRS : ModT K a_PAIRS [V.str "then", V.str "if", V.str "beside"] := ⟨_, _, _, cl_PAIRS, rfl, rfl, cs_PAIRS, cv_PAIRS⟩
  have cm_ROUND := PySem.W.mg_of X G ca_ROUND
  have cst_ROUND : ModT K a_ROUND [V.str "again", V.str "hold", V.str "watch", V.str "trap"] := ⟨_, _, _, cl_ROUND, rfl, rfl, cs_ROUND, cv_ROUND⟩
  have nm_ENDED := PySem.W.mg_of X G cn_ENDED
  have nr_ENDED : RelV (.int 0) (Value.int 0 tk_ENDED) := ⟨_, rfl⟩
  have nm_RESTS := PySem.W.mg_of X G cn_RESTS
  have nr_RESTS : RelV (.int 1) (Value.int 1 tk_RESTS) := ⟨_, rfl⟩
  have nm_LEAVES := PySem.W.mg_of X G cn_LEAVES
  have nr_LEAVES : RelV (.int 2) (Value.int 2 tk_LEAVES) := ⟨_, rfl⟩
  have F_leaf_code : FunM K mg "leaf_code" ["part"] s_leaf_code := ⟨_, _, fun_mk (st := s_leaf_code) l0 c0 k0, PySem.W.mg_of X G a0, (fun_mk (st := s_leaf_code) l0 c0 k0).binds (ps := ["part"]) fun _ _ _ _ _ _ us hl => len_1 (Q := fun us => bindArgs _ ⟨us, []⟩ = pure (List.zip _ us)) (fun _ => rfl) us hl⟩
  have F_code_of_again : FunM K mg "code_of_again" ["code"] s_code_of_again := ⟨_, _, fun_mk (st := s_code_of_again) l1 c1 k1, PySem.W.mg_of X G a1, (fun_mk (st := s_code_of_again) l1 c1 k1).binds (ps := ["code"]) fun _ _ _ _ _ _ us hl => len_1 (Q := fun us => bindArgs _ ⟨us, []⟩ = pure (List.zip _ us)) (fun _ => rfl) us hl⟩
  have F_code_of_trap : FunM K mg "code_of_trap" ["code"] s_code_of_trap := ⟨_, _, fun_mk (st := s_code_of_trap) l2 c2 k2, PySem.W.mg_of X G a2, (fun_mk (st := s_code_of_trap) l2 c2 k2).binds (ps := ["code"]) fun _ _ _ _ _ _ us hl => len_1 (Q := fun us => bindArgs _ ⟨us, []⟩ = pure (List.zip _ us)) (fun _ => rfl) us hl⟩
  have F_part_to_begin : FunM K mg "part_to_begin" ["part", "state"] s_part_to_begin := ⟨_, _, fun_mk (st := s_part_to_begin) l3 c3 k3, PySem.W.mg_of X G a3, (fun_mk (st := s_part_to_begin) l3 c3 k3).binds (ps := ["part", "state"]) fun _ _ _ _ _ _ us hl => len_2 (Q := fun us => bindArgs _ ⟨us, []⟩ = pure (List.zip _ us)) (fun _ _ => rfl) us hl⟩
  have F_remaining : FunM K mg "remaining" ["part", "state"] s_remaining := ⟨_, _, fun_mk (st := s_remaining) l4 c4 k4, PySem.W.mg_of X G a4, (fun_mk (st := s_remaining) l4 c4 k4).binds (ps := ["part", "state"]) fun _ _ _ _ _ _ us hl => len_2 (Q := fun us => bindArgs _ ⟨us, []⟩ = pure (List.zip _ us)) (fun _ _ => rfl) us hl⟩
  have F_left_of_pair : FunM K mg "left_of_pair" ["part", "first", "second"] s_left_of_pair := ⟨_, _, fun_mk (st := s_left_of_pair) l5 c5 k5, PySem.W.mg_of X G a5, (fun_mk (st := s_left_of_pair) l5 c5 k5).binds (ps := ["part", "first", "second"]) fun _ _ _ _ _ _ us hl => len_3 (Q := fun us => bindArgs _ ⟨us, []⟩ = pure (List.zip _ us)) (fun _ _ _ => rfl) us hl⟩
  have F_left_of_round : FunM K mg "left_of_round" ["part", "inner"] s_left_of_round := ⟨_, _, fun_mk (st := s_left_of_round) l6 c6 k6, PySem.W.mg_of X G a6, (fun_mk (st := s_left_of_round) l6 c6 k6).binds (ps := ["part", "inner"]) fun _ _ _ _ _ _ us hl => len_2 (Q := fun us => bindArgs _ ⟨us, []⟩ = pure (List.zip _ us)) (fun _ _ => rfl) us hl⟩
  have F_ran : FunM K mg "ran" ["part", "state", "there"] s_ran := ⟨_, _, fun_mk (st := s_ran) l7 c7 k7, PySem.W.mg_of X G a7, (fun_mk (st := s_ran) l7 c7 k7).binds (ps := ["part", "state", "there"]) fun _ _ _ _ _ _ us hl => len_3 (Q := fun us => bindArgs _ ⟨us, []⟩ = pure (List.zip _ us)) (fun _ _ _ => rfl) us hl⟩
  have F_begun_instants : FunA K mg "begun_instants" "begun" ["part", "there"] s_begun_instants := ⟨_, _, fun_mk (st := s_begun_instants) l8 c8 k8, PySem.W.mg_of X G a8, (fun_mk (st := s_begun_instants) l8 c8 k8).binds (ps := ["part", "there"]) fun _ _ _ _ _ _ us hl => len_2 (Q := fun us => bindArgs _ ⟨us, []⟩ = pure (List.zip _ us)) (fun _ _ => rfl) us hl⟩
  have F_begun_leaf_instants : FunA K mg "begun_leaf_instants" "begun_leaf" ["part"] s_begun_leaf_instants := ⟨_, _, fun_mk (st := s_begun_leaf_instants) l9 c9 k9, PySem.W.mg_of X G a9, (fun_mk (st := s_begun_leaf_instants) l9 c9 k9).binds (ps := ["part"]) fun _ _ _ _ _ _ us hl => len_1 (Q := fun us => bindArgs _ ⟨us, []⟩ = pure (List.zip _ us)) (fun _ => rfl) us hl⟩
  have F_rests_left : FunM K mg "rests_left" ["part"] s_rests_left := ⟨_, _, fun_mk (st := s_rests_left) l10 c10 k10, PySem.W.mg_of X G a10, (fun_mk (st := s_rests_left) l10 c10 k10).binds (ps := ["part"]) fun _ _ _ _ _ _ us hl => len_1 (Q := fun us => bindArgs _ ⟨us, []⟩ = pure (List.zip _ us)) (fun _ => rfl) us hl⟩
  have F_in_turn_instants : FunA K mg "in_turn_instants" "in_turn" ["first", "second"] s_in_turn_instants := ⟨_, _, fun_mk (st := s_in_turn_instants) l11 c11 k11, PySem.W.mg_of X G a11, (fun_mk (st := s_in_turn_instants) l11 c11 k11).binds (ps := ["first", "second"]) fun _ _ _ _ _ _ us hl => len_2 (Q := fun us => bindArgs _ ⟨us, []⟩ = pure (List.zip _ us)) (fun _ _ => rfl) us hl⟩
  have F_side_by_side_instants : FunA K mg "side_by_side_instants" "side_by_side" ["first", "second"] s_side_by_side_instants := ⟨_, _, fun_mk (st := s_side_by_side_instants) l12 c12 k12, PySem.W.mg_of X G a12, (fun_mk (st := s_side_by_side_instants) l12 c12 k12).binds (ps := ["first", "second"]) fun _ _ _ _ _ _ us hl => len_2 (Q := fun us => bindArgs _ ⟨us, []⟩ = pure (List.zip _ us)) (fun _ _ => rfl) us hl⟩
  have F_repeated : FunM K mg "repeated" ["rest", "inner"] s_repeated := ⟨_, _, fun_mk (st := s_repeated) l13 c13 k13, PySem.W.mg_of X G a13, (fun_mk (st := s_repeated) l13 c13 k13).binds (ps := ["rest", "inner"]) fun _ _ _ _ _ _ us hl => len_2 (Q := fun us => bindArgs _ ⟨us, []⟩ = pure (List.zip _ us)) (fun _ _ => rfl) us hl⟩
  have F_walked : FunM K mg "walked" ["part", "state", "sure", "known"] s_walked := ⟨_, _, fun_mk (st := s_walked) l14 c14 k14, PySem.W.mg_of X G a14, (fun_mk (st := s_walked) l14 c14 k14).binds (ps := ["part", "state", "sure", "known"]) fun _ _ _ _ _ _ us hl => len_4 (Q := fun us => bindArgs _ ⟨us, []⟩ = pure (List.zip _ us)) (fun _ _ _ _ => rfl) us hl⟩
  have F_begun_walking : FunA K mg "begun_walking" "begun" ["part", "sure", "known"] s_begun_walking := ⟨_, _, fun_mk (st := s_begun_walking) l15 c15 k15, PySem.W.mg_of X G a15, (fun_mk (st := s_begun_walking) l15 c15 k15).binds (ps := ["part", "sure", "known"]) fun _ _ _ _ _ _ us hl => len_3 (Q := fun us => bindArgs _ ⟨us, []⟩ = pure (List.zip _ us)) (fun _ _ _ => rfl) us hl⟩
  have F_begun_leaf_walking : FunA K mg "begun_leaf_walking" "begun_leaf" ["part", "sure"] s_begun_leaf_walking := ⟨_, _, fun_mk (st := s_begun_leaf_walking) l16 c16 k16, PySem.W.mg_of X G a16, (fun_mk (st := s_begun_leaf_walking) l16 c16 k16).binds (ps := ["part", "sure"]) fun _ _ _ _ _ _ us hl => len_2 (Q := fun us => bindArgs _ ⟨us, []⟩ = pure (List.zip _ us)) (fun _ _ => rfl) us hl⟩
  have F_in_turn_walking : FunA K mg "in_turn_walking" "in_turn" ["first", "second"] s_in_turn_walking := ⟨_, _, fun_mk (st := s_in_turn_walking) l17 c17 k17, PySem.W.mg_of X G a17, (fun_mk (st := s_in_turn_walking) l17 c17 k17).binds (ps := ["first", "second"]) fun _ _ _ _ _ _ us hl => len_2 (Q := fun us => bindArgs _ ⟨us, []⟩ = pure (List.zip _ us)) (fun _ _ => rfl) us hl⟩
  have F_side_by_side_walking : FunA K mg "side_by_side_walking" "side_by_side" ["first", "second"] s_side_by_side_walking := ⟨_, _, fun_mk (st := s_side_by_side_walking) l18 c18 k18, PySem.W.mg_of X G a18, (fun_mk (st := s_side_by_side_walking) l18 c18 k18).binds (ps := ["first", "second"]) fun _ _ _ _ _ _ us hl => len_2 (Q := fun us => bindArgs _ ⟨us, []⟩ = pure (List.zip _ us)) (fun _ _ => rfl) us hl⟩
  have F_one_of : FunM K mg "one_of" ["first", "second"] s_one_of := ⟨_, _, fun_mk (st := s_one_of) l19 c19 k19, PySem.W.mg_of X G a19, (fun_mk (st := s_one_of) l19 c19 k19).binds (ps := ["first", "second"]) fun _ _ _ _ _ _ us hl => len_2 (Q := fun us => bindArgs _ ⟨us, []⟩ = pure (List.zip _ us)) (fun _ _ => rfl) us hl⟩
  have F_recoded : FunM K mg "recoded" ["inner", "codes"] s_recoded := ⟨_, _, fun_mk (st := s_recoded) l20 c20 k20, PySem.W.mg_of X G a20, (fun_mk (st := s_recoded) l20 c20 k20).binds (ps := ["inner", "codes"]) fun _ _ _ _ _ _ us hl => len_2 (Q := fun us => bindArgs _ ⟨us, []⟩ = pure (List.zip _ us)) (fun _ _ => rfl) us hl⟩
  have F__law_mixed : FunM K mg "_law_mixed" ["_law_cell"] s__law_mixed := ⟨_, _, fun_mk (st := s__law_mixed) l21 c21 k21, PySem.W.mg_of X G a21, (fun_mk (st := s__law_mixed) l21 c21 k21).binds (ps := ["_law_cell"]) fun _ _ _ _ _ _ us hl => len_1 (Q := fun us => bindArgs _ ⟨us, []⟩ = pure (List.zip _ us)) (fun _ => rfl) us hl⟩
  have F__law_seed_at : FunM K mg "_law_seed_at" ["_law_script", "_law_k"] s__law_seed_at := ⟨_, _, fun_mk (st := s__law_seed_at) l22 c22 k22, PySem.W.mg_of X G a22, (fun_mk (st := s__law_seed_at) l22 c22 k22).binds (ps := ["_law_script", "_law_k"]) fun _ _ _ _ _ _ us hl => len_2 (Q := fun us => bindArgs _ ⟨us, []⟩ = pure (List.zip _ us)) (fun _ _ => rfl) us hl⟩
  have F__law_whole : FunM K mg "_law_whole" ["_law_found"] s__law_whole := ⟨_, _, fun_mk (st := s__law_whole) l23 c23 k23, PySem.W.mg_of X G a23, (fun_mk (st := s__law_whole) l23 c23 k23).binds (ps := ["_law_found"]) fun _ _ _ _ _ _ us hl => len_1 (Q := fun us => bindArgs _ ⟨us, []⟩ = pure (List.zip _ us)) (fun _ => rfl) us hl⟩
  have F__law_leaf : FunM K mg "_law_leaf" ["_law_pick", "_law_rests_here", "_law_signs"] s__law_leaf := ⟨_, _, fun_mk (st := s__law_leaf) l24 c24 k24, PySem.W.mg_of X G a24, (fun_mk (st := s__law_leaf) l24 c24 k24).binds (ps := ["_law_pick", "_law_rests_here", "_law_signs"]) fun _ _ _ _ _ _ us hl => len_3 (Q := fun us => bindArgs _ ⟨us, []⟩ = pure (List.zip _ us)) (fun _ _ _ => rfl) us hl⟩
  have F__law_wrapped : FunM K mg "_law_wrapped" ["_law_deed", "_law_pick", "_law_piled", "_law_rests_here", "_law_signs"] s__law_wrapped := ⟨_, _, fun_mk (st := s__law_wrapped) l25 c25 k25, PySem.W.mg_of X G a25, (fun_mk (st := s__law_wrapped) l25 c25 k25).binds (ps := ["_law_deed", "_law_pick", "_law_piled", "_law_rests_here", "_law_signs"]) fun _ _ _ _ _ _ us hl => len_5 (Q := fun us => bindArgs _ ⟨us, []⟩ = pure (List.zip _ us)) (fun _ _ _ _ _ => rfl) us hl⟩
  have F__law_part_by : FunM K mg "_law_part_by" ["_law_cells", "_law_rests_here", "_law_signs"] s__law_part_by := ⟨_, _, fun_mk (st := s__law_part_by) l26 c26 k26, PySem.W.mg_of X G a26, (fun_mk (st := s__law_part_by) l26 c26 k26).binds (ps := ["_law_cells", "_law_rests_here", "_law_signs"]) fun _ _ _ _ _ _ us hl => len_3 (Q := fun us => bindArgs _ ⟨us, []⟩ = pure (List.zip _ us)) (fun _ _ _ => rfl) us hl⟩
  have F__law_rests : FunM K mg "_law_rests" ["_law_part"] s__law_rests := ⟨_, _, fun_mk (st := s__law_rests) l27 c27 k27, PySem.W.mg_of X G a27, (fun_mk (st := s__law_rests) l27 c27 k27).binds (ps := ["_law_part"]) fun _ _ _ _ _ _ us hl => len_1 (Q := fun us => bindArgs _ ⟨us, []⟩ = pure (List.zip _ us)) (fun _ => rfl) us hl⟩
  have F__law_goes : FunM K mg "_law_goes" ["_law_part", "_law_state"] s__law_goes := ⟨_, _, fun_mk (st := s__law_goes) l28 c28 k28, PySem.W.mg_of X G a28, (fun_mk (st := s__law_goes) l28 c28 k28).binds (ps := ["_law_part", "_law_state"]) fun _ _ _ _ _ _ us hl => len_2 (Q := fun us => bindArgs _ ⟨us, []⟩ = pure (List.zip _ us)) (fun _ _ => rfl) us hl⟩
  have F__law_there : FunM K mg "_law_there" ["_law_number", "_law_signs"] s__law_there := ⟨_, _, fun_mk (st := s__law_there) l29 c29 k29, PySem.W.mg_of X G a29, (fun_mk (st := s__law_there) l29 c29 k29).binds (ps := ["_law_number", "_law_signs"]) fun _ _ _ _ _ _ us hl => len_2 (Q := fun us => bindArgs _ ⟨us, []⟩ = pure (List.zip _ us)) (fun _ _ => rfl) us hl⟩
  have F__law_copied : FunM K mg "_law_copied" ["_law_state"] s__law_copied := ⟨_, _, fun_mk (st := s__law_copied) l30 c30 k30, PySem.W.mg_of X G a30, (fun_mk (st := s__law_copied) l30 c30 k30).binds (ps := ["_law_state"]) fun _ _ _ _ _ _ us hl => len_1 (Q := fun us => bindArgs _ ⟨us, []⟩ = pure (List.zip _ us)) (fun _ => rfl) us hl⟩
  have F__law_known : FunM K mg "_law_known" ["_law_number", "_law_signs"] s__law_known := ⟨_, _, fun_mk (st := s__law_known) l31 c31 k31, PySem.W.mg_of X G a31, (fun_mk (st := s__law_known) l31 c31 k31).binds (ps := ["_law_number", "_law_signs"]) fun _ _ _ _ _ _ us hl => len_2 (Q := fun us => bindArgs _ ⟨us, []⟩ = pure (List.zip _ us)) (fun _ _ => rfl) us hl⟩
  have F__law_rising : FunM K mg "_law_rising" ["_law_row"] s__law_rising := ⟨_, _, fun_mk (st := s__law_rising) l32 c32 k32, PySem.W.mg_of X G a32, (fun_mk (st := s__law_rising) l32 c32 k32).binds (ps := ["_law_row"]) fun _ _ _ _ _ _ us hl => len_1 (Q := fun us => bindArgs _ ⟨us, []⟩ = pure (List.zip _ us)) (fun _ => rfl) us hl⟩
  have F__law_formed : FunM K mg "_law_formed" ["_law_found"] s__law_formed := ⟨_, _, fun_mk (st := s__law_formed) l33 c33 k33, PySem.W.mg_of X G a33, (fun_mk (st := s__law_formed) l33 c33 k33).binds (ps := ["_law_found"]) fun _ _ _ _ _ _ us hl => len_1 (Q := fun us => bindArgs _ ⟨us, []⟩ = pure (List.zip _ us)) (fun _ => rfl) us hl⟩
  have F__law_both : FunM K mg "_law_both" ["_law_one", "_law_other", "_law_codes", "_law_surely"] s__law_both := ⟨_, _, fun_mk (st := s__law_both) l34 c34 k34, PySem.W.mg_of X G a34, (fun_mk (st := s__law_both) l34 c34 k34).binds (ps := ["_law_one", "_law_other", "_law_codes", "_law_surely"]) fun _ _ _ _ _ _ us hl => len_4 (Q := fun us => bindArgs _ ⟨us, []⟩ = pure (List.zip _ us)) (fun _ _ _ _ => rfl) us hl⟩
  have F__law_if : FunM K mg "_law_if" ["_law_whole_here", "_law_state", "_law_sure", "_law_known_here"] s__law_if := ⟨_, _, fun_mk (st := s__law_if) l35 c35 k35, PySem.W.mg_of X G a35, (fun_mk (st := s__law_if) l35 c35 k35).binds (ps := ["_law_whole_here", "_law_state", "_law_sure", "_law_known_here"]) fun _ _ _ _ _ _ us hl => len_4 (Q := fun us => bindArgs _ ⟨us, []⟩ = pure (List.zip _ us)) (fun _ _ _ _ => rfl) us hl⟩
  have F__law_beside : FunM K mg "_law_beside" ["_law_whole_here", "_law_state", "_law_sure", "_law_known_here"] s__law_beside := ⟨_, _, fun_mk (st := s__law_beside) l36 c36 k36, PySem.W.mg_of X G a36, (fun_mk (st := s__law_beside) l36 c36 k36).binds (ps := ["_law_whole_here", "_law_state", "_law_sure", "_law_known_here"]) fun _ _ _ _ _ _ us hl => len_4 (Q := fun us => bindArgs _ ⟨us, []⟩ = pure (List.zip _ us)) (fun _ _ _ _ => rfl) us hl⟩
  have F__law_then : FunM K mg "_law_then" ["_law_whole_here", "_law_state", "_law_sure", "_law_known_here"] s__law_then := ⟨_, _, fun_mk (st := s__law_then) l37 c37 k37, PySem.W.mg_of X G a37, (fun_mk (st := s__law_then) l37 c37 k37).binds (ps := ["_law_whole_here", "_law_state", "_law_sure", "_law_known_here"]) fun _ _ _ _ _ _ us hl => len_4 (Q := fun us => bindArgs _ ⟨us, []⟩ = pure (List.zip _ us)) (fun _ _ _ _ => rfl) us hl⟩
  have F__law_inner : FunM K mg "_law_inner" ["_law_whole_here", "_law_state", "_law_sure", "_law_known_here"] s__law_inner := ⟨_, _, fun_mk (st := s__law_inner) l38 c38 k38, PySem.W.mg_of X G a38, (fun_mk (st := s__law_inner) l38 c38 k38).binds (ps := ["_law_whole_here", "_law_state", "_law_sure", "_law_known_here"]) fun _ _ _ _ _ _ us hl => len_4 (Q := fun us => bindArgs _ ⟨us, []⟩ = pure (List.zip _ us)) (fun _ _ _ _ => rfl) us hl⟩
  have F__law_due : FunM K mg "_law_due" ["_law_whole_here", "_law_state", "_law_sure", "_law_known_here"] s__law_due := ⟨_, _, fun_mk (st := s__law_due) l39 c39 k39, PySem.W.mg_of X G a39, (fun_mk (st := s__law_due) l39 c39 k39).binds (ps := ["_law_whole_here", "_law_state", "_law_sure", "_law_known_here"]) fun _ _ _ _ _ _ us hl => len_4 (Q := fun us => bindArgs _ ⟨us, []⟩ = pure (List.zip _ us)) (fun _ _ _ _ => rfl) us hl⟩
  have F__law_whole_by : FunM K mg "_law_whole_by" ["_law_cells", "_law_cut", "_law_pick"] s__law_whole_by := ⟨_, _, fun_mk (st := s__law_whole_by) l40 c40 k40, PySem.W.mg_of X G a40, (fun_mk (st := s__law_whole_by) l40 c40 k40).binds (ps := ["_law_cells", "_law_cut", "_law_pick"]) fun _ _ _ _ _ _ us hl => len_3 (Q := fun us => bindArgs _ ⟨us, []⟩ = pure (List.zip _ us)) (fun _ _ _ => rfl) us hl⟩
  have F_law := fun_mk (st := s_law) l41 c41 k41
  refine ⟨PySem.W.fnOf "law" "law" (defArgs s_law) (defBody s_law) (defScope s_law) .none kV41 dc41 pm41 an41 cd41 ct41, fun s v => .of_eq rfl, fun base _ _ => ?_⟩
  have TR : TxtR K mg a_NOTHING a_PAIRS a_ROUND (Value.int 0 tk_ENDED) (Value.int 1 tk_RESTS) (Value.int 2 tk_LEAVES) := { toTxt := T, m_ENDED := nm_ENDED, r_ENDED := nr_ENDED, m_RESTS := nm_RESTS, r_RESTS := nr_RESTS, m_LEAVES := nm_LEAVES, r_LEAVES := nr_LEAVES, m_NOTHING := cm_NOTHING, r_NOTHING := rfl, mN := cst_NOTHING, m_PAIRS := cm_PAIRS, r_PAIRS := rfl, mP := cst_PAIRS, m_ROUND := cm_ROUND, r_ROUND := rfl, mR := cst_ROUND }
  have CRem := rem_all (P := l.prog) (w := w) (base := base) F_remaining TR (ok_LP F_left_of_pair TR) (ok_LR F_left_of_round TR) 40
  have CBeg := beg_all (P := l.prog) (w := w) (base := base) F_begun_instants TR (ok_bl F_begun_leaf_instants TR (ok_leafCode F_leaf_code TR) (ok_rl F_rests_left TR)) (ok_turn F_in_turn_instants TR) (ok_side F_side_by_side_instants TR) (ok_rep F_repeated TR (ok_agC F_code_of_again TR)) (ok_trC F_code_of_trap TR) 40
  have CPtb := ok_ptb F_part_to_begin TR CRem
  have CRanG := ok_ranG F_ran TR CPtb CBeg
  have CRan := ok_ran CRanG
  have CMix := ok_mixed (P := l.prog) (w := w) (base := base) F__law_mixed
  have CWb := wb_all (P := l.prog) (w := w) (base := base) F_begun_walking TR (ok_leafW F_begun_leaf_walking TR (ok_leafCode F_leaf_code TR)) (ok_turnW F_in_turn_walking TR) (ok_sideW F_side_by_side_walking TR) (ok_oneW F_one_of TR) (ok_recW F_recoded TR) (ok_agC F_code_of_again TR) (ok_trC F_code_of_trap TR) 40
  have CWalkG := ok_walkG F_walked TR CPtb CWb
  have CWalk := ok_walk CWalkG
  have CThere := ok_there (P := l.prog) (w := w) (base := base) F__law_there T
  have CSeed := ok_seedAt F__law_seed_at T CMix
  have CPb := ok_pby F__law_part_by T CMix (ok_lf F__law_leaf) (ok_wr F__law_wrapped T)
  have CCop := ok_copied (P := l.prog) (w := w) (base := base) F__law_copied T
  have CGo := ok_goes (P := l.prog) (w := w) (base := base) F__law_goes T (rs_all F__law_rests T 40)
  have CBoth := ok_both (P := l.prog) (w := w) (base := base) F__law_both T
  exact ok_law F_law T CMix CSeed (ok_whb F__law_whole_by T CPb) CThere CCop (ok_known F__law_known T) (ok_formed F__law_formed T (ok_rising F__law_rising T (ok_whole F__law_whole T))) (ok_due F__law_due T (ok_if F__law_if T CWalk CGo CBoth) (ok_beside F__law_beside T CWalkG CGo CBoth) (ok_then F__law_then T CWalk CGo CBoth) (ok_inner F__law_inner T CWalk CGo)) CWalk CRan
theorem walk {l : PySem.W.OpenLaw} {q : Program} {loose : List Str} {XP : (Str → Option Value) → Heap → Prop} {YP : World → Heap → Prop} {d : DefRec} {K : Params → PySem.W.Frag} (hn : l.most = some 63) (hdf : d.params.defaults = [])
    (hY : ∀ (w : World) (h : Heap), YP w h → (K w.params).In h)
    (F : ∀ (w : World) (mg : Str → Option Value) (fa : Addr) (h : Heap), (K w.params).In h → h.Ns mainGlobals mg → mg d.name = some (.ref fa) →
      ∃ fd : FuncData, (∀ (s : Shared) (u : Value), BindsTo s fd ⟨[u], []⟩ [("_law_script", u)]) ∧ ∀ base : Heap, (K w.params).In base → base.Ns mainGlobals mg → FnOk l.prog w (K w.params) mg base CX0 60 fa fd ["_law_script"] (spLaw (K w.params))) :
    PySem.W.WalkO q loose XP YP l.row.toRowW d [] (fun f vs => PySem.call f vs) :=
  L2.walk_of (n := 63) (k := 60) (x := "_law_script") (CX := fun _ => CX0) (sp := fun w => spLaw (K w.params)) hn (by decide) hdf ⟨rfl, by decide, by decide⟩ hY F (fun _ _ a ns hl _ hS => ⟨a, ns, rfl, hS, hl, fun _ => rfl⟩) fun _ _ _ _ _ z => z
end My
end
open PySem PySem.W PyProof.Rows L2
def PySem.Challenge.cw_signalwise_k32_walked_rows_holds.tw12720799178745048427 : PySem.Program := PySem.Challenge.pw_signalwise_k32_walked_rows
theorem PySem.Challenge.cw_signalwise_k32_walked_rows_holds.te12720799178745048427 : PySem.Challenge.pw_signalwise_k32_walked_rows = PySem.Challenge.cw_signalwise_k32_walked_rows_holds.tw12720799178745048427 := rfl
set_option maxRecDepth 100000 in
set_option maxHeartbeats 0 in
theorem PySem.Challenge.cw_signalwise_k32_walked_rows_holds : PySem.Challenge.rw_signalwise_k32_walked_rows.Holds := by
  w_on; o_law; k_head; (case hw => w_witness2)
  k_fill
  refine My.walk (l := PySem.Challenge.rw_signalwise_k32_walked_rows) rfl rfl (fun w h Y => PySem.W.kIn_of Y) ?F
  case F =>
    intro w mg fa h KX G hmg
    refine' My.all_mk KX G hmg ?a0 ?l0 ?c0 ?k0 ?a1 ?l1 ?c1 ?k1 ?a2 ?l2 ?c2 ?k2 ?a3 ?l3 ?c3 ?k3 ?a4 ?l4 ?c4 ?k4 ?a5 ?l5 ?c5 ?k5 ?a6 ?l6 ?c6 ?k6 ?a7 ?l7 ?c7 ?k7 ?a8 ?l8 ?c8 ?k8 ?a9 ?l9 ?c9 ?k9 ?a10 ?l10 ?c10 ?k10 ?a11 ?l11 ?c11 ?k11 ?a12 ?l12 ?c12 ?k12 ?a13 ?l13 ?c13 ?k13 ?a14 ?l14 ?c14 ?k14 ?a15 ?l15 ?c15 ?k15 ?a16 ?l16 ?c16 ?k16 ?a17 ?l17 ?c17 ?k17 ?a18 ?l18 ?c18 ?k18 ?a19 ?l19 ?c19 ?k19 ?a20 ?l20 ?c20 ?k20 ?a21 ?l21 ?c21 ?k21 ?a22 ?l22 ?c22 ?k22 ?a23 ?l23 ?c23 ?k23 ?a24 ?l24 ?c24 ?k24 ?a25 ?l25 ?c25 ?k25 ?a26 ?l26 ?c26 ?k26 ?a27 ?l27 ?c27 ?k27 ?a28 ?l28 ?c28 ?k28 ?a29 ?l29 ?c29 ?k29 ?a30 ?l30 ?c30 ?k30 ?a31 ?l31 ?c31 ?k31 ?a32 ?l32 ?c32 ?k32 ?a33 ?l33 ?c33 ?k33 ?a34 ?l34 ?c34 ?k34 ?a35 ?l35 ?c35 ?k35 ?a36 ?l36 ?c36 ?k36 ?a37 ?l37 ?c37 ?k37 ?a38 ?l38 ?c38 ?k38 ?a39 ?l39 ?c39 ?k39 ?a40 ?l40 ?c40 ?k40 ?a41 ?l41 ?c41 ?k41 ?ca_NOTHING ?cl_NOTHING ?cs_NOTHING ?cv_NOTHING ?ca_PAIRS ?cl_PAIRS ?cs_PAIRS ?cv_PAIRS ?ca_ROUND ?cl_ROUND ?cs_ROUND ?cv_ROUND ?cn_ENDED ?cn_RESTS ?cn_LEAVES ?z_all ?z_any ?z_bool ?z_divmod ?z_int ?z_isinstance ?z_len ?z_list ?z_max ?z_min ?z_range ?z_set ?z_sorted ?z_tuple
    (case a0 => k_is)
    (case l0 => k_is)
    (case c0 => k_is)
    (case k0 => k_is)
    (case a1 => k_is)
    (case l1 => k_is)
    (case c1 => k_is)
    (case k1 => k_is)
    (case a2 => k_is)
    (case l2 => k_is)
    (case c2 => k_is)
    (case k2 => k_is)
    (case a3 => k_is)
    (case l3 => k_is)
    (case c3 => k_is)
    (case k3 => k_is)
    (case a4 => k_is)
    (case l4 => k_is)
    (case c4 => k_is)
    (case k4 => k_is)
    (case a5 => k_is)
    (case l5 => k_is)
    (case c5 => k_is)
    (case k5 => k_is)
    (case a6 => k_is)
    (case l6 => k_is)
    (case c6 => k_is)
    (case k6 => k_is)
    (case a7 => k_is)
    (case l7 => k_is)
    (case c7 => k_is)
    (case k7 => k_is)
    (case a8 => k_is)
    (case l8 => k_is)
    (case c8 => k_is)
    (case k8 => k_is)
    (case a9 => k_is)
    (case l9 => k_is)
    (case c9 => k_is)
    (case k9 => k_is)
    (case a10 => k_is)
    (case l10 => k_is)
    (case c10 => k_is)
    (case k10 => k_is)
    (case a11 => k_is)
    (case l11 => k_is)
    (case c11 => k_is)
    (case k11 => k_is)
    (case a12 => k_is)
    (case l12 => k_is)
    (case c12 => k_is)
    (case k12 => k_is)
    (case a13 => k_is)
    (case l13 => k_is)
    (case c13 => k_is)
    (case k13 => k_is)
    (case a14 => k_is)
    (case l14 => k_is)
    (case c14 => k_is)
    (case k14 => k_is)
    (case a15 => k_is)
    (case l15 => k_is)
    (case c15 => k_is)
    (case k15 => k_is)
    (case a16 => k_is)
    (case l16 => k_is)
    (case c16 => k_is)
    (case k16 => k_is)
    (case a17 => k_is)
    (case l17 => k_is)
    (case c17 => k_is)
    (case k17 => k_is)
    (case a18 => k_is)
    (case l18 => k_is)
    (case c18 => k_is)
    (case k18 => k_is)
    (case a19 => k_is)
    (case l19 => k_is)
    (case c19 => k_is)
    (case k19 => k_is)
    (case a20 => k_is)
    (case l20 => k_is)
    (case c20 => k_is)
    (case k20 => k_is)
    (case a21 => k_is)
    (case l21 => k_is)
    (case c21 => k_is)
    (case k21 => k_is)
    (case a22 => k_is)
    (case l22 => k_is)
    (case c22 => k_is)
    (case k22 => k_is)
    (case a23 => k_is)
    (case l23 => k_is)
    (case c23 => k_is)
    (case k23 => k_is)
    (case a24 => k_is)
    (case l24 => k_is)
    (case c24 => k_is)
    (case k24 => k_is)
    (case a25 => k_is)
    (case l25 => k_is)
    (case c25 => k_is)
    (case k25 => k_is)
    (case a26 => k_is)
    (case l26 => k_is)
    (case c26 => k_is)
    (case k26 => k_is)
    (case a27 => k_is)
    (case l27 => k_is)
    (case c27 => k_is)
    (case k27 => k_is)
    (case a28 => k_is)
    (case l28 => k_is)
    (case c28 => k_is)
    (case k28 => k_is)
    (case a29 => k_is)
    (case l29 => k_is)
    (case c29 => k_is)
    (case k29 => k_is)
    (case a30 => k_is)
    (case l30 => k_is)
    (case c30 => k_is)
    (case k30 => k_is)
    (case a31 => k_is)
    (case l31 => k_is)
    (case c31 => k_is)
    (case k31 => k_is)
    (case a32 => k_is)
    (case l32 => k_is)
    (case c32 => k_is)
    (case k32 => k_is)
    (case a33 => k_is)
    (case l33 => k_is)
    (case c33 => k_is)
    (case k33 => k_is)
    (case a34 => k_is)
    (case l34 => k_is)
    (case c34 => k_is)
    (case k34 => k_is)
    (case a35 => k_is)
    (case l35 => k_is)
    (case c35 => k_is)
    (case k35 => k_is)
    (case a36 => k_is)
    (case l36 => k_is)
    (case c36 => k_is)
    (case k36 => k_is)
    (case a37 => k_is)
    (case l37 => k_is)
    (case c37 => k_is)
    (case k37 => k_is)
    (case a38 => k_is)
    (case l38 => k_is)
    (case c38 => k_is)
    (case k38 => k_is)
    (case a39 => k_is)
    (case l39 => k_is)
    (case c39 => k_is)
    (case k39 => k_is)
    (case a40 => k_is)
    (case l40 => k_is)
    (case c40 => k_is)
    (case k40 => k_is)
    (case a41 => k_is)
    (case l41 => k_is)
    (case c41 => k_is)
    (case k41 => k_is)
    (case ca_NOTHING => k_is)
    (case cl_NOTHING => k_is)
    (case cs_NOTHING => decide)
    (case cv_NOTHING => exact .cons ⟨_, rfl⟩ (.nil))
    (case ca_PAIRS => k_is)
    (case cl_PAIRS => k_is)
    (case cs_PAIRS => decide)
    (case cv_PAIRS => exact .cons ⟨_, rfl⟩ (.cons ⟨_, rfl⟩ (.cons ⟨_, rfl⟩ (.nil))))
    (case ca_ROUND => k_is)
    (case cl_ROUND => k_is)
    (case cs_ROUND => decide)
    (case cv_ROUND => exact .cons ⟨_, rfl⟩ (.cons ⟨_, rfl⟩ (.cons ⟨_, rfl⟩ (.cons ⟨_, rfl⟩ (.nil)))))
    (case cn_ENDED => k_is)
    (case cn_RESTS => k_is)
    (case cn_LEAVES => k_is)
    (case z_all => k_is)
    (case z_any => k_is)
    (case z_bool => k_is)
    (case z_divmod => k_is)
    (case z_int => k_is)
    (case z_isinstance => k_is)
    (case z_len => k_is)
    (case z_list => k_is)
    (case z_max => k_is)
    (case z_min => k_is)
    (case z_range => k_is)
    (case z_set => k_is)
    (case z_sorted => k_is)
    (case z_tuple => k_is)
#print axioms PySem.Challenge.cw_signalwise_k32_walked_rows_holds
