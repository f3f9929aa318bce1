import PyProof.Rows.All
import Wide.All
import OpenK.AllK
import Wide.FinOn
import Lean
import PyProof.EqAt
import PyProof.EqKinds
import PyProof.TupleCall
import PyProof.StrLawsRepr
import KE.LcSums
import PyProof.RulesAs
import KE.KIsAll
import PyProof.ExcArgs
import KE.RegKTryMore
import KE.RegKIsAll
import PySem.Challenge.RW_signalwise_k54_runners_apart
-- CHANGE: your row's module here, as the last of these rows
set_option Elab.async false
set_option linter.all false
set_option maxRecDepth 100000
/-! THE HAND LAYER, for ints, bools, texts, own classes, LISTS and tuples (index, slices, in, append, pop ..), calls, loops. Paste it whole ahead of your own text; what your proof does not reach may be deleted. -/
namespace L2
open PySem PySem.Spec PyProof.Rows

/-- a key: an int or a str -/
abbrev Key := Sum Int Str
def keyIs : Key → Value → Bool
  | .inl k, v => Value.isInt k v
  | .inr x, v => Value.isStrOf x v
def keyH (w : World) : Key → Int
  | .inl k => hashInt k
  | .inr x => hashStr w x
theorem keyIs_shape : ∀ {k : Key} {v : Value}, keyIs k v = true → (∃ i t, k = Sum.inl i ∧ v = Value.int i t) ∨ (∃ x t, k = Sum.inr x ∧ v = Value.str x t)
  | .inl i, v, h => by
    obtain ⟨t, e⟩ := Value.isInt_shape (k := i) (v := v) h
    exact .inl ⟨i, t, rfl, e⟩
  | .inr x, v, h => by
    obtain ⟨t, e⟩ := Value.isStrOf_shape (x := x) (v := v) h
    exact .inr ⟨x, t, rfl, e⟩
theorem key_ll (a b : Int) : decide ((Sum.inl a : Key) = Sum.inl b) = (a == b) := by
  by_cases e : a = b
  · subst e; simp
  · have h : ¬ (Sum.inl a : Key) = Sum.inl b := fun q => e (Sum.inl.inj q)
    rw [decide_eq_false h]
    exact (beq_eq_false_iff_ne.mpr e).symm
theorem key_rr (a b : Str) : decide ((Sum.inr a : Key) = Sum.inr b) = decide (a = b) := by
  by_cases e : a = b
  · subst e; simp
  · have h : ¬ (Sum.inr a : Key) = Sum.inr b := fun q => e (Sum.inr.inj q)
    rw [decide_eq_false h, decide_eq_false e]
theorem key_lr (a : Int) (b : Str) : decide ((Sum.inl a : Key) = Sum.inr b) = false := decide_eq_false (fun q => nomatch q)
theorem key_rl (a : Str) (b : Int) : decide ((Sum.inr a : Key) = Sum.inl b) = false := decide_eq_false (fun q => nomatch q)

def mixKind (prog : Program) (w : World) : PySem.KeyKind prog w Key where
  is := keyIs
  hash := keyH w
  inj := fun v a b ha hb => by
    rcases keyIs_shape ha with ⟨i, t, rfl, rfl⟩ | ⟨x, t, rfl, rfl⟩
    · rcases keyIs_shape hb with ⟨j, u, rfl, e⟩ | ⟨y, u, rfl, e⟩
      · injection e with e1 _; rw [e1]
      · exact nomatch e
    · rcases keyIs_shape hb with ⟨j, u, rfl, e⟩ | ⟨y, u, rfl, e⟩
      · exact nomatch e
      · injection e with e1 _; rw [e1]
  byValue := fun k v h => by
    rcases keyIs_shape h with ⟨i, t, rfl, rfl⟩ | ⟨x, t, rfl, rfl⟩ <;> rfl
  pyHash := fun hv h => by
    rcases keyIs_shape hv with ⟨i, t, rfl, rfl⟩ | ⟨x, t, rfl, rfl⟩
    · exact wpAny_pyHash_int h
    · exact wpAny_pyHash_str h
  eqBool := fun hu hv h => by
    rcases keyIs_shape hu with ⟨i, t, rfl, rfl⟩ | ⟨x, t, rfl, rfl⟩
    · rcases keyIs_shape hv with ⟨j, u, rfl, rfl⟩ | ⟨y, u, rfl, rfl⟩
      · rw [key_ll] at h; exact wpAny_eqBool_int h
      · rw [key_lr] at h; exact SeqAt.EqAt.int_str i t y u _ _ _ _ h
    · rcases keyIs_shape hv with ⟨j, u, rfl, rfl⟩ | ⟨y, u, rfl, rfl⟩
      · rw [key_rl] at h; exact SeqAt.EqAt.str_int x t j u _ _ _ _ h
      · rw [key_rr] at h; exact wpAny_eqBool_str h
  «strs» := fun k x t v h => by
    rcases keyIs_shape h with ⟨i, u, rfl, e⟩ | ⟨y, u, rfl, e⟩
    · exact nomatch e
    · injection e with e1 _
      subst e1
      cases v <;> rfl

end L2

namespace L2
open PySem PySem.Spec PyProof.Rows

/-- a value, without the heap -/
inductive V where
  | non | bl (b : Bool) | int (i : Int) | str (x : Str) | byt (b : Array UInt8) | flt (b : UInt64) | ref (a : Addr) | ty (n : String)
  deriving DecidableEq

def RelV : V → Value → Prop
  | .non, u => u = Value.none
  | .bl b, u => u = Value.bool b
  | .int i, u => ∃ t, u = Value.int i t
  | .str x, u => ∃ t, u = Value.str x t
  | .byt b, u => ∃ t, u = Value.bytes b t
  | .flt b, u => ∃ t, u = Value.float b t
  | .ref a, u => u = Value.ref a
  | .ty n, u => u = Value.type n

abbrev Vals : List V → List Value → Prop := Paired RelV
theorem Vals.length {xs : List V} {us : List Value} (r : Vals xs us) : xs.length = us.length := Paired.length r
theorem Vals.get : ∀ {xs : List V} {us : List Value} {i : Nat} {x : V}, Vals xs us → xs[i]? = some x → ∃ u, us[i]? = some u ∧ RelV x u
  | _, _, _, _, .nil, e => by simp at e
  | _, _, 0, _, .cons r _, e => by simp at e; subst e; exact ⟨_, rfl, r⟩
  | _, _, i + 1, x, .cons _ t, e => by
    obtain ⟨u, h1, h2⟩ := Vals.get (i := i) (x := x) t (by simpa using e)
    exact ⟨u, by simpa using h1, h2⟩
theorem Vals.set {x : V} {u : Value} (r : RelV x u) : ∀ {xs : List V} {us : List Value} (i : Nat), Vals xs us → Vals (xs.set i x) (us.set i u)
  | _, _, _, .nil => .nil
  | _, _, 0, .cons _ t => .cons r t
  | _, _, i + 1, .cons q t => .cons q (Vals.set r i t)
theorem Vals.append : ∀ {xs ys : List V} {us ws : List Value}, Vals xs us → Vals ys ws → Vals (xs ++ ys) (us ++ ws)
  | _, _, _, _, .nil, s => s
  | _, _, _, _, .cons r t, s => .cons r (Vals.append t s)
theorem Vals.take : ∀ {xs : List V} {us : List Value} (n : Nat), Vals xs us → Vals (xs.take n) (us.take n)
  | _, _, 0, _ => .nil
  | _, _, _ + 1, .nil => .nil
  | _, _, n + 1, .cons r t => .cons r (Vals.take n t)
theorem Vals.drop : ∀ {xs : List V} {us : List Value} (n : Nat), Vals xs us → Vals (xs.drop n) (us.drop n)
  | _, _, 0, r => r
  | _, _, _ + 1, .nil => .nil
  | _, _, n + 1, .cons _ t => Vals.drop n t
def RelO : Option V → Option Value → Prop
  | some v, some u => RelV v u
  | none, none => True
  | _, _ => False
def KV {κ : Type} : List (κ × V) → List (κ × Value) → Prop := Paired fun (p : κ × V) (q : κ × Value) => p.1 = q.1 ∧ RelV p.2 q.2

/-- a key of a dict (00_mix): an int or a text -/
def kV : Key → V
  | .inl i => .int i
  | .inr x => .str x

/-- what stands at a tracked address -/
inductive HO where
  /-- a list -/
  | lst (xs : List V)
  /-- a tuple (never changes) -/
  | tup (xs : List V)
  /-- a dict whose keys are ints and texts; one whose keys are tuples of ints and texts (the empty one is both) -/
  | dK (kvs : List (Key × V)) | dT (kvs : List (List Key × V))
  /-- a set of ints: its members, its size -/
  | set (S : Int → Bool) (n : Nat)
  /-- an instance of the class at C, its dict at dx, its attributes -/
  | ins (C dx : Addr) (fs : List (Str × V))
  /-- the dict of the instance at x -/
  | own (x : Addr)
  /-- the dict of an exception -/
  | xd (fs : List (Str × V))
  /-- a bound method, f of x -/
  | met (f x : Addr)
  /-- a range object lo, lo + 1, .. below hi -/
  | rng (lo hi : Int)
  /-- a thing that is known to the object (the script; a dict while a loop walks it): read, never written while it is so -/
  | frz (o : Obj) (u : HO)
  /-- a code object's table -/
  | tbl (ps : Array Value)
  /-- any other thing, by what is true of its one object (a def of one's own: SetO a S n := HO.ext fun h => ..) -/
  | ext (φ : Heap → Prop)

abbrev Hp := Addr → Option HO
def upd (H : Hp) (a : Addr) (o : HO) : Hp := fun b => if b = a then some o else H b
theorem upd_same {H : Hp} {a : Addr} {o : HO} : upd H a o a = some o := by unfold upd; rw [if_pos rfl]
theorem upd_ne {H : Hp} {a b : Addr} {o : HO} (h : b ≠ a) : upd H a o b = H b := by unfold upd; rw [if_neg h]
/-- two objects of different content stand apart -/
theorem ne_of {H : Hp} {a b : Addr} {o u : HO} (h : H a = some o) (h' : H b = some u) (d : o ≠ u) : a ≠ b := by
  intro e; subst e; rw [h] at h'; exact d (Option.some.inj h')
theorem ne_of_none {H : Hp} {a b : Addr} {o : HO} (h : H a = some o) (h' : H b = none) : a ≠ b := by
  intro e; subst e; rw [h] at h'; cases h'

section
variable (P : Program) (w : World)
def ObjOk (H : Hp) (h : Heap) (a : Addr) : HO → Prop
  | .lst xs => xs.length ≤ sizeLine ∧ ∃ (its : List Value) (n : Nat), Vals xs its ∧ h.get? a = some { cls := .type "list", data := .seq its.toArray n }
  | .tup xs => xs.length ≤ sizeLine ∧ ∃ its : List Value, Vals xs its ∧ IsTup h a its.toArray
  | .dK kvs => kvs.length ≤ sizeLine ∧ (a == sysModules) = false ∧ ∃ vs, KV kvs vs ∧ h.DictOf (mixKind P w) a vs
  | .dT kvs => kvs.length ≤ sizeLine ∧ (a == sysModules) = false ∧ ∃ xs : List (List Key × Addr × Value),
      Paired (fun (p : List Key × V) (q : List Key × Addr × Value) => p.1 = q.1 ∧ H q.2.1 = some (.tup (p.1.map kV)) ∧ RelV p.2 q.2.2) kvs xs ∧
      ∃ o es ep, h.get? a = some o ∧ o.ExactDict ∧ o.data = .dict es ep ∧ es.toList = xs.map (entryOfKey (tupleKind (mixKind P w))) ∧ (xs.map (·.1)).Nodup
  | .set S n => h.SetOf (intKind P w) a S n
  | .ins C dx fs => H dx = some (.own a) ∧ fs.length ≤ 1000 ∧ dx ≠ a ∧ h.get? a = some (PySem.W.instObj C dx) ∧
      ∃ mA, h.Ns1 dx mA ∧ (∀ f, RelO (fs.lookup f) (mA f)) ∧ PySem.Within mA (fs.map (·.1))
  | .own _ => ∃ o, h.get? a = some o
  | .xd fs => ∃ mA, h.Ns1 a mA ∧ ∀ f, RelO (fs.lookup f) (mA f)
  | .rng lo hi => ∃ t u v, h.get? a = some { cls := .type "range", data := .fields #[.int lo t, .int hi u, .int 1 v] }
  | .frz o u => h.get? a = some o ∧ ObjOk H h a u
  | .tbl ps => h.get? a = some { cls := .none, data := .fields ps }
  | .met f x => h.get? a = some (PySem.W.methodObj (.ref f) (.ref x))
  | .ext φ => φ h ∧ (∃ o, h.get? a = some o) ∧ ∀ h1 h2 : Heap, φ h1 → (∀ o, h1.get? a = some o → h2.get? a = some o) → φ h2
/-- the abstract heap is held -/
def HOk (H : Hp) (h : Heap) : Prop := ∀ a o, H a = some o → ObjOk P w H h a o
end

section
variable {P : Program} {w : World} {H H' : Hp} {h h' : Heap} {a : Addr} {o : HO}
theorem ObjOk.lt (x : ObjOk P w H h a o) : a < h.objs.size := by
  cases o with
  | lst xs => obtain ⟨_, _, _, _, e⟩ := x; exact Heap.lt_size e
  | tup xs => obtain ⟨_, _, _, p⟩ := x; exact p.lt
  | dK kvs => obtain ⟨_, _, _, _, o, _, _, e, _⟩ := x; exact Heap.lt_size e
  | dT kvs => obtain ⟨_, _, _, _, o, _, _, e, _⟩ := x; exact Heap.lt_size e
  | set S n => obtain ⟨o, _, _, _, e, _⟩ := x; exact Heap.lt_size e
  | ins C dx fs => obtain ⟨_, _, _, e, _⟩ := x; exact Heap.lt_size e
  | own y => obtain ⟨_, e⟩ := x; exact Heap.lt_size e
  | xd fs => obtain ⟨_, ⟨_, _, _, e, _⟩, _⟩ := x; exact Heap.lt_size e
  | rng lo hi => obtain ⟨_, _, _, e⟩ := x; exact Heap.lt_size e
  | frz ob u => obtain ⟨e, _⟩ := x; exact Heap.lt_size e
  | tbl ps => exact Heap.lt_size (show h.get? a = some _ from x)
  | met f y => exact Heap.lt_size (show h.get? a = some _ from x)
  | ext φ => obtain ⟨_, ⟨_, e⟩, _⟩ := x; exact Heap.lt_size e
theorem Paired.mapP {α β : Type} {F G : α → β → Prop} : ∀ {l₁ : List α} {l₂ : List β}, Paired F l₁ l₂ → (∀ a b, F a b → G a b) → Paired G l₁ l₂
  | _, _, .nil, _ => .nil
  | _, _, .cons r t, f => .cons (f _ _ r) (Paired.mapP t f)
/-- what an object's description leans on: its own object, its own dict, the tuples -/
theorem ObjOk.stay (x : ObjOk P w H h a o) (k : ∀ b u, (b = a ∨ H b = some (.own a)) → h.get? b = some u → h'.get? b = some u)
    (ho : ∀ b, H b = some (.own a) → H' b = some (.own a)) (ht : ∀ b xs, H b = some (.tup xs) → H' b = some (.tup xs)) : ObjOk P w H' h' a o := by
  induction o with
  | lst xs => obtain ⟨z, its, n, r, e⟩ := x; exact ⟨z, its, n, r, k _ _ (.inl rfl) e⟩
  | tup xs => obtain ⟨z, its, r, ob, e, c⟩ := x; exact ⟨z, its, r, ob, k _ _ (.inl rfl) e, c⟩
  | dK kvs => obtain ⟨z, y, vs, r, ob, es, ep, e, c⟩ := x; exact ⟨z, y, vs, r, ob, es, ep, k _ _ (.inl rfl) e, c⟩
  | dT kvs =>
    obtain ⟨z, y, xs, r, ob, es, ep, e, c⟩ := x
    exact ⟨z, y, xs, Paired.mapP r fun p q z => ⟨z.1, ht _ _ z.2.1, z.2.2⟩, ob, es, ep, k _ _ (.inl rfl) e, c⟩
  | set S n => obtain ⟨ob, es, ep, t, e, c⟩ := x; exact ⟨ob, es, ep, t, k _ _ (.inl rfl) e, c⟩
  | ins C dx fs =>
    obtain ⟨d, z, ne, e, mA, ⟨od, es, ep, e2, c⟩, r⟩ := x
    exact ⟨ho _ d, z, ne, k _ _ (.inl rfl) e, mA, ⟨od, es, ep, k _ _ (.inr d) e2, c⟩, r⟩
  | own y => obtain ⟨ob, e⟩ := x; exact ⟨ob, k _ _ (.inl rfl) e⟩
  | xd fs => obtain ⟨mA, ⟨od, es, ep, e, c⟩, r⟩ := x; exact ⟨mA, ⟨od, es, ep, k _ _ (.inl rfl) e, c⟩, r⟩
  | rng lo hi => obtain ⟨t, u, v, e⟩ := x; exact ⟨t, u, v, k _ _ (.inl rfl) e⟩
  | frz ob u ih => obtain ⟨e, q⟩ := x; exact ⟨k _ _ (.inl rfl) e, ih q⟩
  | tbl ps =>
    have e : h.get? a = some { cls := .none, data := .fields ps } := x
    show h'.get? a = some { cls := .none, data := .fields ps }
    exact k a _ (.inl rfl) e
  | met f y =>
    have e : h.get? a = some (PySem.W.methodObj (.ref f) (.ref y)) := x
    show h'.get? a = some (PySem.W.methodObj (.ref f) (.ref y))
    exact k a _ (.inl rfl) e
  | ext φ => obtain ⟨p, ⟨o, e⟩, st⟩ := x; exact ⟨st _ _ p fun o q => k _ _ (.inl rfl) q, ⟨o, k _ _ (.inl rfl) e⟩, st⟩
theorem HOk.lt (x : HOk P w H h) (e : H a = some o) : a < h.objs.size := (x a o e).lt
theorem HOk.fresh (x : HOk P w H h) (e : h.objs.size ≤ a) : H a = none := by
  cases q : H a with
  | none => rfl
  | some u => exact absurd (Nat.lt_of_lt_of_le (x.lt q) e) (Nat.lt_irrefl _)
/-- every object of the heap is kept -/
theorem HOk.kept (x : HOk P w H h) (k : ∀ b u, h.get? b = some u → h'.get? b = some u) : HOk P w H h' := fun a o e =>
  (x a o e).stay (fun b u _ q => k b u q) (fun _ q => q) fun _ _ q => q
/-- a new object is laid and tracked -/
theorem HOk.laid (x : HOk P w H h) (k : ∀ b u, h.get? b = some u → h'.get? b = some u) (hp : h.objs.size ≤ a) (new : ObjOk P w (upd H a o) h' a o) : HOk P w (upd H a o) h' := fun b u e => by
  have hn := x.fresh hp
  by_cases hb : b = a
  · subst hb; rw [upd_same] at e; cases e; exact new
  · rw [upd_ne hb] at e
    exact (x b u e).stay (fun c v _ q => k c v q) (fun c q => by rw [upd_ne (ne_of_none q hn)]; exact q) fun c xs q => by rw [upd_ne (ne_of_none q hn)]; exact q
end

/-- what may be read as u: it is u, or a known u -/
def Rd (H : Hp) (a : Addr) (u : HO) : Prop := H a = some u ∨ ∃ o, H a = some (.frz o u)
theorem Rd.ok {P : Program} {w : World} {H : Hp} {h : Heap} {a : Addr} {u : HO} (r : Rd H a u) (x : HOk P w H h) : ObjOk P w H h a u := by
  rcases r with r | ⟨o, r⟩
  · exact x a u r
  · obtain ⟨_, q⟩ := x a _ r
    exact q
/-- what may be written -/
def Mut : Option HO → Prop
  | some (.lst _) => True
  | some (.dK _) => True
  | some (.dT _) => True
  | some (.set _ _) => True
  | some (.ins _ _ _) => True
  | some (.ext _) => True
  | _ => False
section
variable {P : Program} {w : World} {H : Hp} {h h' : Heap} {x e : Addr} {o' : HO}
/-- the object at e is changed: x itself, or the dict of the instance x -/
theorem HOk.write (ok : HOk P w H h) (mu : Mut (H x)) (he : e = x ∨ H e = some (.own x)) (k : ∀ b u, b ≠ e → h.get? b = some u → h'.get? b = some u) (heo : ∃ u, h'.get? e = some u)
    (new : ObjOk P w (upd H x o') h' x o') : HOk P w (upd H x o') h' := fun b u q => by
  have nown : ∀ c y, H c = some (.own y) → c ≠ x := fun c y r z => by subst z; rw [r] at mu; exact mu
  have ntup : ∀ c xs, H c = some (.tup xs) → c ≠ x := fun c xs r z => by subst z; rw [r] at mu; exact mu
  by_cases hb : b = x
  · subst hb; rw [upd_same] at q; cases q; exact new
  · rw [upd_ne hb] at q
    by_cases hbe : b = e
    · have q' : H b = some (.own x) := by
        rcases he with z | z
        · exact absurd (hbe.trans z) hb
        · rw [hbe]; exact z
      rw [q] at q'; cases q'
      obtain ⟨v, hv⟩ := heo
      exact ⟨v, by rw [hbe]; exact hv⟩
    · refine (ok b u q).stay (fun c v hc r => k c v ?_ r) (fun c r => by rw [upd_ne (nown c b r)]; exact r) fun c xs r => by rw [upd_ne (ntup c xs r)]; exact r
      rcases hc with rfl | hc
      · exact hbe
      · rintro rfl
        rcases he with z | z
        · exact nown c b hc z
        · rw [hc] at z; cases z; exact hb rfl
end

/-! ### kept unless tracked; of the frames at fs (the callers') the slots may change (an exception that passes writes there); of the records at ex (iterators) nothing is said -/
structure Un (fs ex : List Addr) (H H' : Hp) (h h' : Heap) : Prop where
  keep : ∀ b o, h.get? b = some o → H b = none → b ∉ fs → b ∉ ex → h'.get? b = some o
  slot : ∀ b o, h.get? b = some o → H b = none → b ∈ fs → b ∉ ex → ∃ sl, h'.get? b = some { o with slots := sl }
  free : ∀ b o, h.get? b = some o → H b = none → b ∉ ex → H' b = none
  there : ∀ b o, h.get? b = some o → b ∉ ex → ∃ o', h'.get? b = some o'
  tups : ∀ b xs, H b = some (.tup xs) → H' b = some (.tup xs)
  frzs : ∀ b o u, H b = some (.frz o u) → H' b = some (.frz o u)
  tbls : ∀ b ps, H b = some (.tbl ps) → ∃ more, H' b = some (.tbl (ps ++ more))
section
variable {fs fs' ex ex' : List Addr} {H H1 H2 : Hp} {h h1 h2 h' : Heap} {a x e : Addr} {o : HO}
theorem Un.any (u : Un fs ex H H1 h h1) {b : Addr} {ob : Obj} (q : h.get? b = some ob) (n : H b = none) (hx : b ∉ ex) : ∃ sl, h1.get? b = some { ob with slots := sl } := by
  by_cases hb : b ∈ fs
  · exact u.slot b ob q n hb hx
  · exact ⟨ob.slots, u.keep b ob q n hb hx⟩
theorem Un.kept (k : ∀ b u, h.get? b = some u → h'.get? b = some u) : Un fs ex H H h h' :=
  ⟨fun b ob q _ _ _ => k b ob q, fun b ob q _ _ _ => ⟨ob.slots, k b ob q⟩, fun _ _ _ n _ => n, fun b ob q _ => ⟨ob, k b ob q⟩, fun _ _ q => q, fun _ _ _ q => q, fun _ ps q => ⟨#[], by rw [q]; simp⟩⟩
theorem Un.refl : Un fs ex H H h h := Un.kept fun _ _ q => q
theorem Un.laid (k : ∀ b u, h.get? b = some u → h'.get? b = some u) (hp : h.objs.size ≤ a) (hn : H a = none) : Un fs ex H (upd H a o) h h' where
  keep := fun b u q _ _ _ => k b u q
  slot := fun b u q _ _ _ => ⟨u.slots, k b u q⟩
  free := fun b u q n _ => by rw [upd_ne (Nat.ne_of_lt (Nat.lt_of_lt_of_le (Heap.lt_size q) hp))]; exact n
  there := fun b u q _ => ⟨u, k b u q⟩
  tups := fun b xs q => by rw [upd_ne (ne_of_none q hn)]; exact q
  frzs := fun b u xs q => by rw [upd_ne (ne_of_none q hn)]; exact q
  tbls := fun b ps q => ⟨#[], by rw [upd_ne (ne_of_none q hn), q]; simp⟩
theorem Un.write (mu : Mut (H x)) (he : e = x ∨ H e = some (.own x)) (k : ∀ b u, b ≠ e → h.get? b = some u → h'.get? b = some u) (heo : ∃ u, h'.get? e = some u) : Un fs ex H (upd H x o) h h' := by
  have hx : ∀ b, H b = none → b ≠ x := fun b n z => by subst z; rw [n] at mu; exact mu
  have hb : ∀ b, H b = none → b ≠ e := fun b n z => by
    subst z
    rcases he with r | r
    · exact hx b n r
    · rw [n] at r; cases r
  have hm : ∀ b u, H b = some u → ¬ Mut (some u) → b ≠ x := fun b u q nm z => by subst z; rw [q] at mu; exact nm mu
  refine ⟨fun b u q n _ _ => k b u (hb b n) q, fun b u q n _ _ => ⟨u.slots, k b u (hb b n) q⟩, fun b u q n _ => by rw [upd_ne (hx b n)]; exact n, fun b u q _ => ?_,
    fun b xs q => by rw [upd_ne (hm b _ q fun z => z)]; exact q, fun b u xs q => by rw [upd_ne (hm b _ q fun z => z)]; exact q, fun b ps q => ⟨#[], by rw [upd_ne (hm b _ q fun z => z), q]; simp⟩⟩
  by_cases hbe : b = e
  · subst hbe; exact heo
  · exact ⟨u, k b u hbe q⟩
end

/-! ### the heap without what is tracked -/
def trk (h : Heap) (H : Hp) : List Addr := (List.range h.objs.size).filter fun a => (H a).isSome
def hidT (h : Heap) (H : Hp) : Heap := PySem.W.hideAll h (trk h H)
theorem hidT_size (h : Heap) (H : Hp) : (hidT h H).objs.size = h.objs.size := PySem.W.hideAll_size _ _
theorem hidT_get {h : Heap} {H : Hp} {b : Addr} {o : Obj} (e : h.get? b = some o) (n : H b = none) : (hidT h H).get? b = some o :=
  PySem.W.hideAll_get _ e fun hm => by
    have q : (H b).isSome = true := (List.mem_filter.mp hm).2
    rw [n] at q; simp at q
theorem of_hidT {h : Heap} {H : Hp} {b : Addr} {o : Obj} (e : (hidT h H).get? b = some o) : h.get? b = some o ∧ H b = none := by
  have e' : h.get? b = some o := PySem.W.of_hideAll (trk h H) e
  refine ⟨e', ?_⟩
  cases q : H b with
  | none => rfl
  | some x =>
    have hm : b ∈ trk h H := List.mem_filter.mpr ⟨List.mem_range.mpr (Heap.lt_size e'), by simp [q]⟩
    have z : (hidT h H).get? b = none := PySem.W.hideAll_none (trk h H) hm
    rw [z] at e; cases e

/-! ### OpenK's ledger, filled with every new object but one -/
def allNews (g h : Heap) (L : Addr) : List (Addr × Obj) := (List.range h.objs.size).filterMap fun a => if a = L ∨ (g.get? a).isSome = true then none else (h.get? a).map fun o => (a, o)
def rest (g h : Heap) (L d : Addr) : List (Addr × Obj) := (allNews g h L).filter fun p => decide (p.1 ≠ d)
end L2

namespace L2
open PySem PySem.Spec PyProof.Rows

/-- the module's facts, over the base: the heap at the law's entry without what is tracked there -/
structure Mod (K : PySem.W.Frag) (mg : Str → Option Value) (base : Heap) : Prop where
  kin : K.In base
  glob : base.Ns mainGlobals mg
  blt : ∃ mb, base.Ns builtinsNs mb ∧ ∀ x : Str, x ≠ "__name__" → mb x = bootBuiltins x
  nolimit : base.NoLimit

/-- the context: a def's body (or a comprehension's block) running. base: fixed through the whole law; s₀, H₀: the entry; outer: the frames whose slots others may change (a def's callers); stack: all frames that run;
   ex: iterators that were made ahead of the entry and are walked here (a comprehension's); fn: the names whose cells were made at the entry (a def: all; a comprehension's block: its own); calm: not within an except suite; pn: pins that every state bears; xe: what is wanted of an exception that leaves the code -/
structure Cx where
  prog : Program
  w : World
  K : PySem.W.Frag
  mg : Str → Option Value
  base : Heap
  A : Around
  N : List Str
  s₀ : Shared
  H₀ : Hp
  env : Env
  outer : List Env
  stack : List Env
  ex : List Addr
  fn : Str → Bool
  calm : Bool
  pn : List (Addr × Obj)
  xe : Value → Shared → Prop
/-- the callers' frames -/
def frs (l : List Env) : List Addr := l.filterMap (·.frame)
abbrev Cx.fs (X : Cx) : List Addr := frs X.outer

def Vis (sc : Scope) (x : Str) : Prop := sc.names.lookup x = some .local ∨ sc.names.lookup x = some .cell ∨ sc.names.lookup x = some .free
def Loc (sc : Scope) (x : Str) : Prop := sc.names.lookup x = some .local ∨ sc.names.lookup x = some .cell
def Look (env : Env) (h : Heap) (m : Str → Option Value) (x : Str) (u : Value) : Prop :=
  (env.kindOf x = some .local ∧ m x = some u) ∨ ((env.kindOf x = some .cell ∨ env.kindOf x = some .free) ∧ ∃ c, env.cells.lookup x = some c ∧ h.IsCell c (some u))

structure Cx.Ok (X : Cx) : Prop where
  mod : Mod X.K X.mg X.base
  kind : X.env.scope.kind = .function
  glob : X.env.globals = mainGlobals
  blt : X.env.builtins = builtinsNs
  above : X.s₀.heap.objs.size ≤ X.env.locals
  inj : ∀ x y c, X.env.cells.lookup x = some c → X.env.cells.lookup y = some c → x = y
  has : ∀ x, (X.env.kindOf x = some .cell ∨ X.env.kindOf x = some .free) → ∃ c, X.env.cells.lookup x = some c
  cab : ∀ x c, X.fn x = true → X.env.cells.lookup x = some c → X.s₀.heap.objs.size ≤ c
  hd : X.calm = true → X.A.handled = none
  frames : X.A.frames = some X.stack
  stk : X.stack = X.outer ∨ (X.stack = X.env :: X.outer ∧ X.env.frame = some X.env.locals)
  exf : ∀ b ∈ X.ex, b ≠ X.env.locals ∧ ∀ x c, X.env.cells.lookup x = some c → c ≠ b
  bs : ∀ b o, X.base.get? b = some o → X.s₀.heap.get? b = some o ∧ X.H₀ b = none
  bsz : X.base.objs.size ≤ X.s₀.heap.objs.size
  noex : ∀ b o, X.base.get? b = some o → b ∉ X.ex
  exfs : ∀ b ∈ X.ex, b ∉ X.fs
  funs : X.s₀.heap.FunFrames X.base X.outer
  frf : ∀ b ∈ X.fs, X.H₀ b = none

structure Inv (X : Cx) (pins : List (Addr × Obj)) (σ : List (Option V)) (H : Hp) (s : Shared) : Prop where
  ok : X.Ok
  os : s.os = X.s₀.os
  bare : AllBare s.gens
  base : Un X.fs X.ex X.H₀ H X.s₀.heap s.heap
  loc : ∃ m, s.heap.Ns X.env.locals m ∧ ∀ (i : Nat) (x : Str) (v : V), X.N[i]? = some x → σ[i]? = some (some v) → Vis X.env.scope x → ∃ u, RelV v u ∧ Look X.env s.heap m x u
  cell : ∀ x c, X.env.cells.lookup x = some c → ∃ v, s.heap.IsCell c v
  free : H X.env.locals = none
  freeC : ∀ x c, X.env.cells.lookup x = some c → H c = none
  pin : ∀ p ∈ X.pn ++ pins, s.heap.get? p.1 = some p.2 ∧ H p.1 = none ∧ p.1 ≠ X.env.locals ∧ p.1 ∉ X.fs ∧ ∀ v, p.2.data ≠ .cell v
  hok : HOk X.prog X.w H s.heap
  len : σ.length = X.N.length

section
variable {X : Cx} {pins : List (Addr × Obj)} {σ : List (Option V)} {H H' : Hp} {s : Shared} {h' : Heap}

theorem Cx.Ok.nofr (ok : X.Ok) {b : Addr} {o : Obj} (e : X.base.get? b = some o) : b ∉ X.fs := fun hb => by
  have := (ok.funs.mem hb).1
  rw [e] at this; cases this
theorem Inv.bs (I : Inv X pins σ H s) : ∀ b o, X.base.get? b = some o → s.heap.get? b = some o ∧ H b = none := fun b o e =>
  ⟨I.base.keep b o (I.ok.bs b o e).1 (I.ok.bs b o e).2 (I.ok.nofr e) (I.ok.noex b o e), I.base.free b o (I.ok.bs b o e).1 (I.ok.bs b o e).2 (I.ok.noex b o e)⟩
theorem Inv.bk (I : Inv X pins σ H s) : ∀ b o, X.base.get? b = some o → s.heap.get? b = some o := fun b o e => (I.bs b o e).1
theorem Inv.mod (I : Inv X pins σ H s) : Mod X.K X.mg X.base := I.ok.mod
theorem Inv.kIn (I : Inv X pins σ H s) : X.K.In s.heap := I.ok.mod.kin.keeps I.bk
theorem Inv.lt (I : Inv X pins σ H s) : X.env.locals < s.heap.objs.size := let ⟨_, hn, _⟩ := I.loc; hn.lt
theorem Inv.sz (I : Inv X pins σ H s) : X.s₀.heap.objs.size ≤ s.heap.objs.size := Nat.le_trans I.ok.above (Nat.le_of_lt I.lt)
theorem Inv.nofs (I : Inv X pins σ H s) {a : Addr} (h : s.heap.objs.size ≤ a) : a ∉ X.fs := fun hb => by
  obtain ⟨_, o, ho, _⟩ := I.ok.funs.mem hb
  exact absurd (Nat.lt_of_lt_of_le (Heap.lt_size ho) (Nat.le_trans I.sz h)) (Nat.lt_irrefl _)
theorem Inv.cne (I : Inv X pins σ H s) : ∀ x c, X.env.cells.lookup x = some c → c ≠ X.env.locals := fun x c e z => by
  obtain ⟨v, o, ho, hd⟩ := I.cell x c e
  obtain ⟨m, ⟨o', es, ep, ho', hd', _⟩, _⟩ := I.loc
  rw [z, ho'] at ho; cases ho; rw [hd'] at hd; cases hd
theorem Inv.funs (I : Inv X pins σ H s) : s.heap.FunFrames X.base X.outer := by
  have all : ∀ (l : List Env), (∀ b ∈ frs l, b ∈ X.fs) → X.s₀.heap.FunFrames X.base l → s.heap.FunFrames X.base l := by
    intro l
    induction l with
    | nil => intro _ _; trivial
    | cons env r ih =>
      intro hs hl
      obtain ⟨hk, ⟨L, o, hf, hn, ho, hd⟩, hr⟩ := hl
      have hL : L ∈ X.fs := hs L (by unfold frs; rw [List.filterMap_cons, hf]; exact List.mem_cons_self)
      obtain ⟨sl, e⟩ := I.base.slot L o ho (I.ok.frf L hL) hL fun z => I.ok.exfs L z hL
      exact ⟨hk, ⟨L, _, hf, hn, e, hd⟩, ih (fun b hb => hs b (by unfold frs; rw [List.filterMap_cons, hf]; exact List.mem_cons_of_mem _ hb)) hr⟩
  exact all X.outer (fun _ hb => hb) I.ok.funs

/-- the frames that run, for a call -/
theorem Inv.stack (I : Inv X pins σ H s) : s.heap.FunFrames X.base X.stack := by
  rcases I.ok.stk with e | ⟨e, hf⟩
  · rw [e]; exact I.funs
  · rw [e]
    obtain ⟨m, hn, _⟩ := I.loc
    refine .cons (by rw [I.ok.kind]; decide) hf hn ?_ I.funs
    exact Heap.get?_none_of_le (Nat.le_trans I.ok.bsz I.ok.above)
theorem Inv.stkSub (I : Inv X pins σ H s) : ∀ b ∈ frs X.stack, b ∈ X.env.locals :: X.fs := fun b hb => by
  rcases I.ok.stk with e | ⟨e, hf⟩
  · rw [e] at hb; exact List.mem_cons_of_mem _ hb
  · rw [e] at hb
    unfold frs at hb
    rw [List.filterMap_cons, hf] at hb
    exact hb
theorem Inv.stkFree (I : Inv X pins σ H s) : ∀ b ∈ frs X.stack, H b = none := fun b hb => by
  rcases List.mem_cons.mp (I.stkSub b hb) with e | hb
  · rw [e]; exact I.free
  · obtain ⟨_, o, ho, _⟩ := I.ok.funs.mem hb
    exact I.base.free b o ho (I.ok.frf b hb) fun z => I.ok.exfs b z hb

/-- THE STEP: the untracked objects but the frame and the records at ch are kept (the callers' frames up to slots), the frame's map is kept, the new abstract heap is held -/
theorem Inv.step {g' : Array GenState} {t' : Nat} {d' : Drawn} {ch : List Addr} (I : Inv X pins σ H s)
    (hch : ∀ b ∈ ch, (b ∈ X.ex ∨ X.s₀.heap.objs.size ≤ b) ∧ b ≠ X.env.locals ∧ (∀ x c, X.env.cells.lookup x = some c → c ≠ b) ∧ ∀ p ∈ X.pn ++ pins, p.1 ≠ b)
    (keep : ∀ b o, b ≠ X.env.locals → b ∉ X.fs → b ∉ ch → s.heap.get? b = some o → H b = none → h'.get? b = some o)
    (slot : ∀ b o, b ≠ X.env.locals → b ∈ X.fs → b ∉ ch → s.heap.get? b = some o → H b = none → ∃ sl, h'.get? b = some { o with slots := sl }) (free : ∀ b o, b ∉ ch → s.heap.get? b = some o → H b = none → H' b = none)
    (there : ∀ b o, b ∉ ch → s.heap.get? b = some o → ∃ o', h'.get? b = some o')
    (tups : ∀ b xs, H b = some (.tup xs) → H' b = some (.tup xs)) (frzs : ∀ b o u, H b = some (.frz o u) → H' b = some (.frz o u)) (tbls : ∀ b ps, H b = some (.tbl ps) → ∃ more, H' b = some (.tbl (ps ++ more)))
    (ns : ∀ m, s.heap.Ns X.env.locals m → h'.Ns X.env.locals m) (hok : HOk X.prog X.w H' h') (hg : AllBare g') :
    Inv X pins σ H' { s with heap := h', gens := g', drawn := d', toks := t' } := by
  have neL : ∀ b o, X.s₀.heap.get? b = some o → b ≠ X.env.locals := fun b o e => Nat.ne_of_lt (Nat.lt_of_lt_of_le (Heap.lt_size e) I.ok.above)
  have neC : ∀ b o, X.s₀.heap.get? b = some o → b ∉ X.ex → b ∉ ch := fun b o e hx hb => by
    rcases (hch b hb).1 with z | z
    · exact hx z
    · exact absurd (Nat.lt_of_lt_of_le (Heap.lt_size e) z) (Nat.lt_irrefl _)
  have cellK : ∀ x c, X.env.cells.lookup x = some c → ∀ v, s.heap.IsCell c v → h'.IsCell c v := fun x c e v ⟨o, ho, hd⟩ => by
    have nch : c ∉ ch := fun z => (hch c z).2.2.1 x c e rfl
    by_cases hc : c ∈ X.fs
    · obtain ⟨sl, q⟩ := slot c o (I.cne x c e) hc nch ho (I.freeC x c e)
      exact ⟨_, q, hd⟩
    · exact ⟨o, keep c o (I.cne x c e) hc nch ho (I.freeC x c e), hd⟩
  refine ⟨I.ok, I.os, hg, ⟨fun b o e n hb hx => ?_, fun b o e n hb hx => ?_, fun b o e n hx => ?_, fun b o e hx => ?_, fun b xs e => tups b xs (I.base.tups b xs e), fun b o xs e => frzs b o xs (I.base.frzs b o xs e), fun b ps e => ?_⟩, ?_, fun x c e => ?_, ?_, fun x c e => ?_, fun p hp => ?_, hok, I.len⟩
  · exact keep b o (neL b o e) hb (neC b o e hx) (I.base.keep b o e n hb hx) (I.base.free b o e n hx)
  · obtain ⟨sl, e1⟩ := I.base.slot b o e n hb hx
    obtain ⟨sl', e2⟩ := slot b _ (neL b o e) hb (neC b o e hx) e1 (I.base.free b o e n hx)
    exact ⟨sl', e2⟩
  · obtain ⟨o', e1⟩ := I.base.there b o e hx
    exact free b o' (neC b o e hx) e1 (I.base.free b o e n hx)
  · obtain ⟨o', e1⟩ := I.base.there b o e hx
    exact there b o' (neC b o e hx) e1
  · obtain ⟨m1, e1⟩ := I.base.tbls b ps e
    obtain ⟨m2, e2⟩ := tbls b _ e1
    exact ⟨m1 ++ m2, by rw [e2, Array.append_assoc]⟩
  · obtain ⟨m, hn, hl⟩ := I.loc
    refine ⟨m, ns m hn, fun i x v e1 e2 e3 => ?_⟩
    obtain ⟨u, r, l⟩ := hl i x v e1 e2 e3
    refine ⟨u, r, ?_⟩
    rcases l with l | ⟨k, c, e, z⟩
    · exact .inl l
    · exact .inr ⟨k, c, e, cellK x c e _ z⟩
  · obtain ⟨v, z⟩ := I.cell x c e
    exact ⟨v, cellK x c e v z⟩
  · obtain ⟨m, ⟨o, _, _, ho, _⟩, _⟩ := I.loc
    exact free _ o (fun z => (hch _ z).2.1 rfl) ho I.free
  · obtain ⟨v, o, ho, hd⟩ := I.cell x c e
    exact free c o (fun z => (hch c z).2.2.1 x c e rfl) ho (I.freeC x c e)
  · obtain ⟨e, n, ne, nf, d⟩ := I.pin p hp
    have nch : p.1 ∉ ch := fun z => (hch p.1 z).2.2.2 p hp rfl
    exact ⟨keep p.1 p.2 ne nf nch e n, free p.1 p.2 nch e n, ne, nf, d⟩
/-- .. where the frame's own object is kept too -/
theorem Inv.un {t' : Nat} (I : Inv X pins σ H s) (u : Un X.fs [] H H' s.heap h') (hok : HOk X.prog X.w H' h') : Inv X pins σ H' { s with heap := h', toks := t' } := by
  obtain ⟨m, ⟨o, es, ep, ho, r⟩, _⟩ := id I.loc
  obtain ⟨sl, hL⟩ := u.any ho I.free (by simp)
  exact I.step (g' := s.gens) (d' := s.drawn) (ch := []) (fun _ z => nomatch z) (fun b o _ hb _ e n => u.keep b o e n hb (by simp)) (fun b o _ hb _ e n => u.slot b o e n hb (by simp)) (fun b o _ e n => u.free b o e n (by simp)) (fun b o _ e => u.there b o e (by simp)) u.tups u.frzs u.tbls (fun m' hm => by
    obtain ⟨o', es', ep', ho', r'⟩ := hm
    rw [ho] at ho'; cases ho'
    exact ⟨_, es', ep', hL, r'⟩) hok I.bare
/-- behind a call (or a comprehension's block): the slots of this frame may have changed too, the records at ch may have turned -/
theorem Inv.call {g' : Array GenState} {t' : Nat} {d' : Drawn} {ch : List Addr} (I : Inv X pins σ H s) (u : Un (frs X.stack) ch H H' s.heap h') (hok : HOk X.prog X.w H' h') (hg : AllBare g')
    (hch : ∀ b ∈ ch, (b ∈ X.ex ∨ X.s₀.heap.objs.size ≤ b) ∧ b ≠ X.env.locals ∧ (∀ x c, X.env.cells.lookup x = some c → c ≠ b) ∧ ∀ p ∈ X.pn ++ pins, p.1 ≠ b) :
    Inv X pins σ H' { s with heap := h', gens := g', drawn := d', toks := t' } := by
  obtain ⟨m, ⟨o, es, ep, ho, r⟩, _⟩ := id I.loc
  obtain ⟨sl, hL⟩ := u.any ho I.free fun z => (hch _ z).2.1 rfl
  exact I.step (ch := ch) hch (fun b o hL hb hc e n => u.keep b o e n (fun z => (List.mem_cons.mp (I.stkSub b z)).elim hL hb) hc) (fun b o _ _ hc e n => u.any e n hc) (fun b o hc e n => u.free b o e n hc) (fun b o hc e => u.there b o e hc) u.tups u.frzs u.tbls (fun m' hm => by
    obtain ⟨o', es', ep', ho', r'⟩ := hm
    rw [ho] at ho'; cases ho'
    exact ⟨_, es', ep', hL, r'⟩) hok hg
/-- an untracked record of ours (an iterator) has turned -/
theorem Inv.turned {t' : Nat} {it : Addr} (I : Inv X pins σ H s) (k : ∀ b o, b ≠ it → s.heap.get? b = some o → h'.get? b = some o) (hn : H it = none) (hL : it ≠ X.env.locals)
    (h1 : it ∈ X.ex ∨ X.s₀.heap.objs.size ≤ it) (h2 : ∀ x c, X.env.cells.lookup x = some c → c ≠ it) (h3 : ∀ p ∈ X.pn ++ pins, p.1 ≠ it) : Inv X pins σ H { s with heap := h', toks := t' } := by
  have nit : ∀ b u, H b = some u → b ≠ it := fun b u e z => by rw [z, hn] at e; cases e
  refine I.step (g' := s.gens) (d' := s.drawn) (ch := [it]) (fun b hb => ?_) (fun b o _ _ hc e _ => k b o (fun z => hc (by simp [z])) e) (fun b o _ _ hc e _ => ⟨o.slots, k b o (fun z => hc (by simp [z])) e⟩) (fun _ _ _ _ n => n)
    (fun b o hc e => ⟨o, k b o (fun z => hc (by simp [z])) e⟩) (fun _ _ e => e) (fun _ _ _ e => e) (fun b ps e => ⟨#[], by rw [e]; simp⟩) (fun m hm => ?_) (fun b u e => ?_) I.bare
  · have e : b = it := by simpa using hb
    subst e
    exact ⟨h1, hL, h2, h3⟩
  · obtain ⟨o, es, ep, ho, r⟩ := hm
    exact ⟨o, es, ep, k _ o (Ne.symm hL) ho, r⟩
  · refine (I.hok b u e).stay (fun c v hc q => k c v ?_ q) (fun _ q => q) fun _ _ q => q
    rcases hc with z | z
    · rw [z]; exact nit b u e
    · exact nit c _ z
theorem Inv.tok (I : Inv X pins σ H s) (t : Nat) : Inv X pins σ H { s with toks := t } := I.un (h' := s.heap) (t' := t) Un.refl I.hok
/-- all objects kept -/
theorem Inv.kept {t' : Nat} (I : Inv X pins σ H s) (k : ∀ b u, s.heap.get? b = some u → h'.get? b = some u) : Inv X pins σ H { s with heap := h', toks := t' } := I.un (Un.kept k) (I.hok.kept k)
/-- a new object laid and tracked -/
theorem Inv.laid {a : Addr} {o : HO} {t' : Nat} (I : Inv X pins σ H s) (k : ∀ b u, s.heap.get? b = some u → h'.get? b = some u) (hp : s.heap.objs.size ≤ a) (new : ObjOk X.prog X.w (upd H a o) h' a o) :
    Inv X pins σ (upd H a o) { s with heap := h', toks := t' } := I.un (Un.laid k hp (I.hok.fresh hp)) (I.hok.laid k hp new)
/-- an object written -/
theorem Inv.write {x e : Addr} {o : HO} {t' : Nat} (I : Inv X pins σ H s) (mu : Mut (H x)) (he : e = x ∨ H e = some (.own x)) (k : ∀ b u, b ≠ e → s.heap.get? b = some u → h'.get? b = some u) (heo : ∃ u, h'.get? e = some u)
    (new : ObjOk X.prog X.w (upd H x o) h' x o) : Inv X pins σ (upd H x o) { s with heap := h', toks := t' } := I.un (Un.write mu he k heo) (I.hok.write mu he k heo new)
/-- forgetting slots, pins -/
theorem Inv.weak {σ' : List (Option V)} (I : Inv X pins σ H s) (hl : σ'.length = σ.length) (w : ∀ (i : Nat) v, σ'[i]? = some (some v) → σ[i]? = some (some v)) : Inv X pins σ' H s :=
  ⟨I.ok, I.os, I.bare, I.base, let ⟨m, hn, hl'⟩ := I.loc; ⟨m, hn, fun i x v e1 e2 e3 => hl' i x v e1 (w i v e2) e3⟩, I.cell, I.free, I.freeC, I.pin, I.hok, hl.trans I.len⟩
theorem Inv.pins_of {pins' : List (Addr × Obj)} (I : Inv X pins σ H s) (h : ∀ p ∈ pins', s.heap.get? p.1 = some p.2 ∧ H p.1 = none ∧ p.1 ≠ X.env.locals ∧ p.1 ∉ X.fs ∧ ∀ v, p.2.data ≠ .cell v) : Inv X pins' σ H s :=
  ⟨I.ok, I.os, I.bare, I.base, I.loc, I.cell, I.free, I.freeC, fun p hp => (List.mem_append.mp hp).elim (fun z => I.pin p (List.mem_append_left _ z)) (h p), I.hok, I.len⟩

theorem nodup_ix {N : List Str} (hN : N.Nodup) {i j : Nat} {x : Str} (a : N[i]? = some x) (b : N[j]? = some x) : i = j := by
  obtain ⟨h1, e1⟩ := List.getElem?_eq_some_iff.mp a
  obtain ⟨h2, e2⟩ := List.getElem?_eq_some_iff.mp b
  exact (List.getElem_inj hN).mp (e1.trans e2.symm)

/-- a name is stored; what changed -/
theorem store_ok2 {M : Model} {A : Around} {E : Value → Shared → Prop} {i : Nat} {x : Str} {v : V} {u : Value} {Q : Unit → Shared → Prop} (I : Inv X pins σ H s) (hN : X.N.Nodup) (hi : X.N[i]? = some x) (hx : Loc X.env.scope x) (r : RelV v u)
    (h : ∀ s', Inv X pins (σ.set i (some v)) H s' → (∃ a, Heap.SameBut a s.heap s'.heap ∧ (a = X.env.locals ∨ X.env.cells.lookup x = some a)) → Q () s') (hf : X.fn x = true ∨ X.env.scope.names.lookup x = some .local := by first | exact .inl rfl | exact .inr rfl | assumption) : wpAny M A (storeName X.env x u) Q E s := by
  obtain ⟨m, hn, hl⟩ := id I.loc
  have hcls : (X.env.scope.kind == .class || (X.env.scope.kind == .module && X.env.locals != X.env.globals)) = false := by rw [I.ok.kind]; rfl
  have hiσ : i < σ.length := by rw [I.len]; exact (List.getElem?_eq_some_iff.mp hi).1
  have cne := I.cne
  have tracked : ∀ {a : Addr} {h' : Heap}, (∃ o, s.heap.get? a = some o ∧ H a = none) → Heap.SameBut a s.heap h' → HOk X.prog X.w H h' := fun {a h'} ha hs b ob e => by
    obtain ⟨_, _, hfree⟩ := ha
    refine (I.hok b ob e).stay (fun c w' hc q => (hs.2 c ?_).trans q) (fun _ q => q) fun _ _ q => q
    rintro rfl
    rcases hc with rfl | hc
    · rw [hfree] at e; cases e
    · rw [hfree] at hc; cases hc
  rcases hx with hk | hk
  · refine wpAny_storeName_local hk hn (fun h' hn' hs => ?_) hcls
    obtain ⟨oL, _, _, hoL, _⟩ := id hn
    refine h _ ⟨I.ok, I.os, I.bare, ⟨fun b o e n hb hx => ?_, fun b o e n hb hx => ?_, I.base.free, fun b o e hx => ?_, I.base.tups, I.base.frzs, I.base.tbls⟩, ⟨_, hn', fun j y v' e1 e2 e3 => ?_⟩, fun y c e => ?_, I.free, I.freeC, fun p hp => ?_, tracked ⟨oL, hoL, I.free⟩ hs, by simpa using I.len⟩ ⟨_, hs, .inl rfl⟩
    · exact (hs.2 b (Nat.ne_of_lt (Nat.lt_of_lt_of_le (Heap.lt_size e) I.ok.above))).trans (I.base.keep b o e n hb hx)
    · obtain ⟨sl, e1⟩ := I.base.slot b o e n hb hx
      exact ⟨sl, (hs.2 b (Nat.ne_of_lt (Nat.lt_of_lt_of_le (Heap.lt_size e) I.ok.above))).trans e1⟩
    · obtain ⟨o', e1⟩ := I.base.there b o e hx
      exact ⟨o', (hs.2 b (Nat.ne_of_lt (Nat.lt_of_lt_of_le (Heap.lt_size e) I.ok.above))).trans e1⟩
    · by_cases hj : j = i
      · subst hj
        rw [hi] at e1; cases e1
        rw [List.getElem?_set_self hiσ] at e2
        cases e2
        exact ⟨u, r, .inl ⟨hk, by simp⟩⟩
      · rw [List.getElem?_set_ne (Ne.symm hj)] at e2
        obtain ⟨u', r', q⟩ := hl j y v' e1 e2 e3
        refine ⟨u', r', ?_⟩
        rcases q with ⟨k, e⟩ | ⟨k, c, e, z⟩
        · refine .inl ⟨k, ?_⟩
          have : y ≠ x := fun e => hj (nodup_ix hN e1 (e ▸ hi))
          simp [this, e]
        · exact .inr ⟨k, c, e, z.sameBut hs (cne y c e)⟩
    · obtain ⟨w', z⟩ := I.cell y c e
      exact ⟨w', z.sameBut hs (cne y c e)⟩
    · obtain ⟨e, n, ne, nf, d⟩ := I.pin p hp
      exact ⟨(hs.2 p.1 ne).trans e, n, ne, nf, d⟩
  · have hfn : X.fn x = true := by
      rcases hf with z | z
      · exact z
      · rw [z] at hk; cases hk
    obtain ⟨c, hc⟩ := I.ok.has x (.inl hk)
    obtain ⟨w', z⟩ := I.cell x c hc
    refine wpAny_storeName_cell I.ok.kind hk hc z (fun h' hc' hs => ?_)
    obtain ⟨oc, hoc, hocd⟩ := id z
    refine h { s with heap := h' } ⟨I.ok, I.os, I.bare, ⟨fun b o e n hb hx => ?_, fun b o e n hb hx => ?_, I.base.free, fun b o e hx => ?_, I.base.tups, I.base.frzs, I.base.tbls⟩, ⟨m, hn.sameBut hs (Ne.symm (cne x c hc)), fun j y v' e1 e2 e3 => ?_⟩, fun y c' e => ?_, I.free, I.freeC, fun p hp => ?_, tracked ⟨oc, hoc, I.freeC x c hc⟩ hs, by simpa using I.len⟩ ⟨c, hs, .inr hc⟩
    · exact (hs.2 b (Nat.ne_of_lt (Nat.lt_of_lt_of_le (Heap.lt_size e) (I.ok.cab x c hfn hc)))).trans (I.base.keep b o e n hb hx)
    · obtain ⟨sl, e1⟩ := I.base.slot b o e n hb hx
      exact ⟨sl, (hs.2 b (Nat.ne_of_lt (Nat.lt_of_lt_of_le (Heap.lt_size e) (I.ok.cab x c hfn hc)))).trans e1⟩
    · obtain ⟨o', e1⟩ := I.base.there b o e hx
      exact ⟨o', (hs.2 b (Nat.ne_of_lt (Nat.lt_of_lt_of_le (Heap.lt_size e) (I.ok.cab x c hfn hc)))).trans e1⟩
    · by_cases hj : j = i
      · subst hj
        rw [hi] at e1; cases e1
        rw [List.getElem?_set_self hiσ] at e2
        cases e2
        exact ⟨u, r, .inr ⟨.inl hk, c, hc, hc'⟩⟩
      · rw [List.getElem?_set_ne (Ne.symm hj)] at e2
        obtain ⟨u', r', q⟩ := hl j y v' e1 e2 e3
        refine ⟨u', r', ?_⟩
        rcases q with q | ⟨k, c', e, z'⟩
        · exact .inl q
        · refine .inr ⟨k, c', e, z'.sameBut hs ?_⟩
          rintro rfl
          exact hj (nodup_ix hN e1 (I.ok.inj _ _ _ e hc ▸ hi))
    · by_cases hcc : c' = c
      · subst hcc; exact ⟨_, hc'⟩
      · obtain ⟨w2, z2⟩ := I.cell y c' e
        exact ⟨w2, z2.sameBut hs hcc⟩
    · obtain ⟨e, n, ne, nf, d⟩ := I.pin p hp
      refine ⟨(hs.2 p.1 ?_).trans e, n, ne, nf, d⟩
      intro q
      rw [q, hoc] at e
      have q' : oc = p.2 := Option.some.inj e
      exact d w' (by rw [← q']; exact hocd)
theorem store_ok {M : Model} {A : Around} {E : Value → Shared → Prop} {i : Nat} {x : Str} {v : V} {u : Value} {Q : Unit → Shared → Prop} (I : Inv X pins σ H s) (hN : X.N.Nodup) (hi : X.N[i]? = some x) (hx : Loc X.env.scope x) (r : RelV v u)
    (h : ∀ s', Inv X pins (σ.set i (some v)) H s' → Q () s') (hf : X.fn x = true ∨ X.env.scope.names.lookup x = some .local := by first | exact .inl rfl | exact .inr rfl | assumption) : wpAny M A (storeName X.env x u) Q E s :=
  store_ok2 I hN hi hx r (fun s' I' _ => h s' I') hf
/-- behind a call or a block, the state as it is -/
theorem Inv.call' {s' : Shared} {ch : List Addr} (I : Inv X pins σ H s) (ho : s'.os = s.os) (u : Un (frs X.stack) ch H H' s.heap s'.heap) (hok : HOk X.prog X.w H' s'.heap) (hg : AllBare s'.gens)
    (hch : ∀ b ∈ ch, (b ∈ X.ex ∨ X.s₀.heap.objs.size ≤ b) ∧ b ≠ X.env.locals ∧ (∀ x c, X.env.cells.lookup x = some c → c ≠ b) ∧ ∀ p ∈ X.pn ++ pins, p.1 ≠ b) : Inv X pins σ H' s' := by
  obtain ⟨h', g', d', t', o'⟩ := s'
  have e : o' = s.os := ho
  subst e
  exact I.call (g' := g') (t' := t') (d' := d') u hok hg hch
end

/-! ### the judgements -/
/-- an exception: its class, its own dict's address (where it has one), the abstract heap behind it -/
abbrev XK := Value → Option Addr → Hp → Prop
abbrev St := List (Option V)
abbrev VK := V → Hp → Prop
/-- an expression's reading; a test's; an argument list's -/
abbrev TE := St → Hp → VK → Prop
abbrev TT := St → Hp → (Bool → Hp → Prop) → Prop
abbrev TA := St → Hp → (List V → Hp → Prop) → Prop
/-- what is wanted behind a statement -/
structure Ends where
  nx : St → Hp → Prop
  rt : VK
  bk : St → Hp → Prop := fun _ _ => False
  ct : St → Hp → Prop := fun _ _ => False
abbrev TS := Ends → St → Hp → Prop

def EP (X : Cx) (pins : List (Addr × Obj)) (σ : St) (Q : VK) (u : Value) (s' : Shared) : Prop := ∃ v H', Inv X pins σ H' s' ∧ RelV v u ∧ Q v H'
def TP (X : Cx) (pins : List (Addr × Obj)) (σ : St) (Q : Bool → Hp → Prop) (b : Bool) (s' : Shared) : Prop := ∃ H', Inv X pins σ H' s' ∧ Q b H'
def AP (X : Cx) (pins : List (Addr × Obj)) (σ : St) (Q : List V → Hp → Prop) (us : List Value) (s' : Shared) : Prop := ∃ vs H', Inv X pins σ H' s' ∧ Vals vs us ∧ Q vs H'
def SP (X : Cx) (pins : List (Addr × Obj)) (D : Ends) (f : Flow) (s' : Shared) : Prop :=
  match f with
  | .next => ∃ σ' H', Inv X pins σ' H' s' ∧ D.nx σ' H'
  | .brk => ∃ σ' H', Inv X pins σ' H' s' ∧ D.bk σ' H'
  | .cont => ∃ σ' H', Inv X pins σ' H' s' ∧ D.ct σ' H'
  | .ret u => ∃ v σ' H', Inv X pins σ' H' s' ∧ RelV v u ∧ D.rt v H'

def PE (X : Cx) (e : Expr) (t : TE) : Prop :=
  ∀ (pins : List (Addr × Obj)) (s : Shared) (σ : St) (H : Hp) (Q : VK), Inv X pins σ H s → t σ H Q → wpAny (model X.prog X.w) X.A (eval e X.env) (EP X pins σ Q) X.xe s
def PT (X : Cx) (e : Expr) (t : TT) : Prop :=
  ∀ (pins : List (Addr × Obj)) (s : Shared) (σ : St) (H : Hp) (Q : Bool → Hp → Prop), Inv X pins σ H s → t σ H Q → wpAny (model X.prog X.w) X.A (isTrue e X.env (eval e X.env)) (TP X pins σ Q) X.xe s
/-- a test whatever its 'whole' is (and, or) -/
def PW (X : Cx) (e : Expr) (t : TT) : Prop :=
  ∀ (whole : Sem Value) (pins : List (Addr × Obj)) (s : Shared) (σ : St) (H : Hp) (Q : Bool → Hp → Prop), Inv X pins σ H s → t σ H Q → wpAny (model X.prog X.w) X.A (isTrue e X.env whole) (TP X pins σ Q) X.xe s
theorem PW.pt {X : Cx} {e : Expr} {t : TT} (h : PW X e t) : PT X e t := h _
/-- an argument list (no star), from the left -/
def PA (X : Cx) (es : List Expr) (t : TA) : Prop :=
  ∀ (pos : Pos) (pins : List (Addr × Obj)) (s : Shared) (σ : St) (H : Hp) (Q : List V → Hp → Prop), Inv X pins σ H s → t σ H Q → wpAny (model X.prog X.w) X.A (spliced (backTo pos (starEach es X.env))) (AP X pins σ Q) X.xe s
def PS (X : Cx) (st : Stmt) (t : TS) : Prop :=
  ∀ (pins : List (Addr × Obj)) (s : Shared) (σ : St) (H : Hp) (D : Ends), Inv X pins σ H s → t D σ H → wpAny (model X.prog X.w) X.A (exec st X.env) (SP X pins D) X.xe s
def PSs (X : Cx) (st : List Stmt) (t : TS) : Prop :=
  ∀ (pins : List (Addr × Obj)) (s : Shared) (σ : St) (H : Hp) (D : Ends), Inv X pins σ H s → t D σ H → wpAny (model X.prog X.w) X.A (execs st X.env) (SP X pins D) X.xe s
/-- weaken the end -/
theorem thn {α : Type} {t : Sem α} {Q Q' : α → Shared → Prop} {M : Model} {A : Around} {E : Value → Shared → Prop} {s : Shared} (h : wpAny M A t Q E s) (hQ : ∀ a s, Q a s → Q' a s) : wpAny M A t Q' E s := wpAny_mono h hQ fun _ _ x => x
end L2

namespace L2
open PySem PySem.Spec PyProof.Rows
section
variable {X : Cx}

/-! ### names and constants -/
def tVar (i : Nat) : TE := fun σ H Q => ∃ v, σ[i]? = some (some v) ∧ Q v H
def tC (v : V) : TE := fun _ H Q => Q v H
theorem pe_var {i : Nat} {x : Str} {pos : Pos} (hN : X.N[i]? = some x) (hv : Vis X.env.scope x) (hd : (x == ("__debug__" : Str)) = false := by decide) (hcd : (x == ("__classdict__" : Str)) = false := by decide) : PE X (.Name x pos) (tVar i) := by
  intro pins s σ H Q I h
  obtain ⟨v, e, h⟩ := h
  obtain ⟨m, hn, hl⟩ := I.loc
  obtain ⟨u, r, l⟩ := hl i x v hN e hv
  have fin : EP X pins σ Q u s := ⟨v, H, I, r, h⟩
  rcases l with ⟨hk, hm⟩ | ⟨hk, c, hc, hcell⟩
  · exact wpAny_Name (wpAny_loadName_local I.ok.kind hk hn hm fin) hd
  · rcases hk with hk | hk
    · exact wpAny_Name (wpAny_loadName_cell I.ok.kind hk hc hcell fin) hd
    · exact wpAny_Name (wpAny_loadName_free I.ok.kind hk hc hcell fin hcd) hd
theorem pe_int {i j pos} : PE X (.Constant (.int i) j pos) (tC (.int i)) := fun _ _ _ H _ I h => wpAny_Constant_int ⟨.int i, H, I.tok _, ⟨_, rfl⟩, h⟩
theorem pe_bl {b j pos} : PE X (.Constant (.bool b) j pos) (tC (.bl b)) := fun _ _ _ H _ I h => Constant_bool ⟨.bl b, H, I, rfl, h⟩
theorem pe_non {j pos} : PE X (.Constant .none j pos) (tC .non) := fun _ _ _ H _ I h => Constant_none ⟨.non, H, I, rfl, h⟩
theorem pe_str {x j pos} : PE X (.Constant (.str x) j pos) (tC (.str x)) := fun _ _ _ H _ I h => Calls.Constant_str ⟨.str x, H, I.tok _, ⟨_, rfl⟩, h⟩

/-- a global name of the def -/
def Gl (X : Cx) (x : Str) : Prop := X.env.kindOf x = some .globalImplicit
theorem ld_glob {E : Value → Shared → Prop} {pins : List (Addr × Obj)} {s : Shared} {σ : St} {H : Hp} {x : Str} {u : Value} {pos : Pos} {Q : Value → Shared → Prop} (I : Inv X pins σ H s) (hg : Gl X x) (hm : X.mg x = some u) (h : Q u s)
    (hd : (x == ("__debug__" : Str)) = false := by decide) : wpAny (model X.prog X.w) X.A (eval (.Name x pos) X.env) Q E s :=
  Calls.Name_function_global I.ok.kind hg (Calls.loadGlobal_global (by rw [I.ok.glob]; exact I.mod.glob.keeps I.bk) hm h) hd
theorem ld_blt {E : Value → Shared → Prop} {pins : List (Addr × Obj)} {s : Shared} {σ : St} {H : Hp} {x : Str} {u : Value} {pos : Pos} {Q : Value → Shared → Prop} (I : Inv X pins σ H s) (hg : Gl X x) (hm : X.mg x = none) (hv : bootBuiltins x = some u) (h : Q u s)
    (hn : x ≠ "__name__" := by decide) (hd : (x == ("__debug__" : Str)) = false := by decide) : wpAny (model X.prog X.w) X.A (eval (.Name x pos) X.env) Q E s := by
  obtain ⟨mb, h1, h2⟩ := I.mod.blt
  exact Calls.Name_function_global I.ok.kind hg (Calls.loadGlobal_builtin (by rw [I.ok.glob]; exact I.mod.glob.keeps I.bk) hm (by rw [I.ok.blt]; exact h1.keeps I.bk) ((h2 x hn).trans hv) h) hd
/-- a module's constant, a class, a function, as a value -/
theorem pe_glob {x : Str} {v : V} {u : Value} {pos : Pos} (hg : Gl X x) (hm : X.mg x = some u) (r : RelV v u) (hd : (x == ("__debug__" : Str)) = false := by decide) : PE X (.Name x pos) (tC v) :=
  fun _ _ _ H _ I h => ld_glob I hg hm ⟨v, H, I, r, h⟩ hd
theorem pe_bltn {x : Str} {v : V} {u : Value} {pos : Pos} (hg : Gl X x) (hm : X.mg x = none) (hv : bootBuiltins x = some u) (r : RelV v u) (hn : x ≠ "__name__" := by decide) (hd : (x == ("__debug__" : Str)) = false := by decide) : PE X (.Name x pos) (tC v) :=
  fun _ _ _ H _ I h => ld_blt I hg hm hv ⟨v, H, I, r, h⟩ hn hd

/-! ### arithmetic -/
variable {a b : Expr} {ta tb : TE} {pos : Pos}
/-! ### comparisons -/
/-- a comparison as a value, as a test -/
def tB (t : TE) : TT := fun σ H Q => t σ H fun x H1 => ∃ c, x = .bl c ∧ Q c H1
/-- an expression whose value is a bool, as a test -/
theorem pt_val {e : Expr} {t : TE} (h : PE X e t) (he : ∀ whole, isTrue e X.env whole = (do let v ← whole; standAt e.pos; holding [v] (truthy v)) := by intro _; rfl) : PT X e (tB t) := by
  intro pins s σ H Q I hw
  refine isTrue_plain (thn (h pins s σ H _ I hw) fun v s1 ⟨x, H1, I1, r1, q1⟩ => ?_) (he _)
  obtain ⟨d, rfl, q⟩ := q1
  cases r1
  exact wpAny_truthy_bool ⟨H1, I1, q⟩

/-! ### and, or, not -/
variable {tA tB' : TT} {rest : List Expr}
def tAnd (t u : TT) : TT := fun σ H Q => t σ H fun c H1 => if c = true then u σ H1 Q else Q false H1
def tOr (t u : TT) : TT := fun σ H Q => t σ H fun c H1 => if c = true then Q true H1 else u σ H1 Q
def tNot (t : TT) : TT := fun σ H Q => t σ H fun c H1 => Q (!c) H1
theorem pw_and1 (ha : PT X a tA) : PW X (.BoolOp .And [a] pos) tA := by
  intro wh pins s σ H Q I h
  refine isTrue_and (thn (ha pins s σ H Q I h) fun c s1 e => ?_)
  cases c with
  | true => exact isTrue_and_nil e
  | false => exact e
theorem pw_or1 (ha : PT X a tA) : PW X (.BoolOp .Or [a] pos) tA := by
  intro wh pins s σ H Q I h
  refine isTrue_or (thn (ha pins s σ H Q I h) fun c s1 e => ?_)
  cases c with
  | false => exact isTrue_or_nil e
  | true => exact e
theorem pw_and (ha : PT X a tA) (hb : PW X (.BoolOp .And (b :: rest) pos) tB') : PW X (.BoolOp .And (a :: b :: rest) pos) (tAnd tA tB') := by
  intro wh pins s σ H Q I h
  refine isTrue_and (thn (ha pins s σ H _ I h) fun c s1 ⟨H1, I1, q1⟩ => ?_)
  cases c with
  | true => exact hb wh pins s1 σ H1 Q I1 q1
  | false => exact ⟨H1, I1, q1⟩
theorem pw_or (ha : PT X a tA) (hb : PW X (.BoolOp .Or (b :: rest) pos) tB') : PW X (.BoolOp .Or (a :: b :: rest) pos) (tOr tA tB') := by
  intro wh pins s σ H Q I h
  refine isTrue_or (thn (ha pins s σ H _ I h) fun c s1 ⟨H1, I1, q1⟩ => ?_)
  cases c with
  | true => exact ⟨H1, I1, q1⟩
  | false => exact hb wh pins s1 σ H1 Q I1 q1
theorem pt_not (ha : PT X a tA) : PT X (.UnaryOp .Not a pos) (tNot tA) := by
  intro pins s σ H Q I h
  exact isTrue_not (ha pins s σ H (fun c H1 => Q (!c) H1) I h)
/-- .. as values (bools) -/
def tAndV (ta tb : TE) : TE := fun σ H Q => ta σ H fun x H1 => ∃ c, x = .bl c ∧ if c = true then tb σ H1 Q else Q (.bl false) H1
theorem pe_one {op} {t : TE} (h : PE X a t) : PE X (.BoolOp op [a] pos) t := fun pins s σ H Q I hw => BoolOp_one (h pins s σ H Q I hw)
theorem pe_and (ha : PE X a ta) (hb : PE X (.BoolOp .And (b :: rest) pos) tb) : PE X (.BoolOp .And (a :: b :: rest) pos) (tAndV ta tb) := by
  intro pins s σ H Q I h
  refine BoolOp_and (thn (ha pins s σ H _ I h) fun v s1 ⟨x, H1, I1, r1, q1⟩ => ?_)
  obtain ⟨c, rfl, q1⟩ := q1
  cases r1
  refine wpAny_truthy_bool ?_
  cases c with
  | true => exact hb pins s1 σ H1 Q I1 q1
  | false => exact ⟨.bl false, H1, I1, rfl, q1⟩
/-- a if t else b -/
def tIf (t : TT) (ta tb : TE) : TE := fun σ H Q => t σ H fun c H1 => if c = true then ta σ H1 Q else tb σ H1 Q
theorem pe_ifExp {c : Expr} (hc : PT X c tA) (ha : PE X a ta) (hb : PE X b tb) : PE X (.IfExp c a b pos) (tIf tA ta tb) := by
  intro pins s σ H Q I h
  refine wpAny_IfExp (thn (hc pins s σ H _ I h) fun d s1 ⟨H1, I1, q1⟩ => ?_)
  cases d with
  | true => exact ha pins s1 σ H1 Q I1 q1
  | false => exact hb pins s1 σ H1 Q I1 q1
end
end L2

namespace L2
open PySem PySem.Spec PyProof.Rows

/-! ### a list, a tuple that is read: tracked, frozen, or an object of the module -/
def SqL (K : PySem.W.Frag) (H : Hp) (a : Addr) (xs : List V) : Prop :=
  Rd H a (.lst xs) ∨
    ∃ (o : Obj) (its : Array Value) (n : Nat), K.lookup a = some o ∧ o.cls = .type "list" ∧ o.dict = none ∧ o.data = .seq its n ∧ its.size ≤ sizeLine ∧ Vals xs its.toList
def SqT (K : PySem.W.Frag) (H : Hp) (a : Addr) (xs : List V) : Prop :=
  Rd H a (.tup xs) ∨
    ∃ (o : Obj) (its : Array Value) (n : Nat), K.lookup a = some o ∧ o.cls = .type "tuple" ∧ o.data = .seq its n ∧ its.size ≤ sizeLine ∧ Vals xs its.toList
def absV : Value → Option V
  | .none => some .non
  | .bool b => some (.bl b)
  | .int i _ => some (.int i)
  | .str x _ => some (.str x)
  | .bytes b _ => some (.byt b)
  | .float b _ => some (.flt b)
  | .ref a => some (.ref a)
  | .type n => some (.ty n)
  | _ => none
theorem RelV.abs {x : V} {u : Value} (r : RelV x u) : absV u = some x := by
  cases x with
  | non => cases r; rfl
  | bl _ => cases r; rfl
  | int _ => obtain ⟨t, rfl⟩ := r; rfl
  | str _ => obtain ⟨t, rfl⟩ := r; rfl
  | byt _ => obtain ⟨t, rfl⟩ := r; rfl
  | flt _ => obtain ⟨t, rfl⟩ := r; rfl
  | ref _ => cases r; rfl
  | ty _ => cases r; rfl
theorem RelV.inj {x y : V} {u : Value} (r : RelV x u) (q : RelV y u) : x = y := Option.some.inj (r.abs.symm.trans q.abs)
theorem Vals.inj : ∀ {xs ys : List V} {us : List Value}, Vals xs us → Vals ys us → xs = ys
  | _, _, _, .nil, .nil => rfl
  | _, _, _, .cons r t, .cons r' t' => by rw [r.inj r', Vals.inj t t']
section
variable {X : Cx} {pins : List (Addr × Obj)} {σ : St} {H : Hp} {s : Shared} {a : Addr} {xs ys : List V}
theorem SqL.of {K : PySem.W.Frag} (h : H a = some (.lst xs)) : SqL K H a xs := .inl (.inl h)
theorem SqT.of {K : PySem.W.Frag} (h : H a = some (.tup xs)) : SqT K H a xs := .inl (.inl h)
theorem Inv.list (I : Inv X pins σ H s) (h : SqL X.K H a xs) : ∃ its : List Value, Vals xs its ∧ PlainL s.heap a its.toArray ∧ xs.length ≤ sizeLine := by
  rcases h with h | ⟨o, its, n, hk, hc, hd, hs, hz, r⟩
  · obtain ⟨z, its, n, r, e⟩ := h.ok I.hok
    exact ⟨its, r, ⟨_, n, e, rfl, rfl, rfl⟩, z⟩
  · refine ⟨its.toList, r, ⟨o, n, I.kIn a o hk, hc, hd, by simpa using hs⟩, ?_⟩
    have e := r.length
    simp only [Array.length_toList] at e
    omega
theorem Inv.tuple (I : Inv X pins σ H s) (h : SqT X.K H a xs) : ∃ its : List Value, Vals xs its ∧ IsTup s.heap a its.toArray ∧ xs.length ≤ sizeLine := by
  rcases h with h | ⟨o, its, n, hk, hc, hs, hz, r⟩
  · obtain ⟨z, its, r, p⟩ := h.ok I.hok
    exact ⟨its, r, p, z⟩
  · refine ⟨its.toList, r, ⟨o, I.kIn a o hk, hc, n, by simpa using hs⟩, ?_⟩
    have e := r.length
    simp only [Array.length_toList] at e
    omega
theorem Inv.list_inj (I : Inv X pins σ H s) (h : SqL X.K H a xs) (h' : SqL X.K H a ys) : xs = ys := by
  obtain ⟨its, r, ⟨o, n, e, _, _, d⟩, _⟩ := I.list h
  obtain ⟨its', r', ⟨o', n', e', _, _, d'⟩, _⟩ := I.list h'
  rw [e] at e'; cases e'
  rw [d] at d'
  injection d' with d1 _
  have : its = its' := by simpa using congrArg Array.toList d1
  subst this
  exact r.inj r'
theorem Inv.tuple_inj (I : Inv X pins σ H s) (h : SqT X.K H a xs) (h' : SqT X.K H a ys) : xs = ys := by
  obtain ⟨its, r, ⟨o, e, _, n, d⟩, _⟩ := I.tuple h
  obtain ⟨its', r', ⟨o', e', _, n', d'⟩, _⟩ := I.tuple h'
  rw [e] at e'; cases e'
  rw [d] at d'
  injection d' with d1 _
  have : its = its' := by simpa using congrArg Array.toList d1
  subst this
  exact r.inj r'
end

/-! ### another wish about exceptions -/
abbrev Cx.wish (X : Cx) (E : Value → Shared → Prop) : Cx := { X with xe := E }
/-- no exception leaves -/
abbrev Cx.nox (X : Cx) : Cx := X.wish fun _ _ => False
theorem Cx.Ok.wish {X : Cx} (ok : X.Ok) (E : Value → Shared → Prop) : (X.wish E).Ok :=
  ⟨ok.mod, ok.kind, ok.glob, ok.blt, ok.above, ok.inj, ok.has, ok.cab, ok.hd, ok.frames, ok.stk, ok.exf, ok.bs, ok.bsz, ok.noex, ok.exfs, ok.funs, ok.frf⟩
theorem Cx.Ok.unwish {X : Cx} {E : Value → Shared → Prop} (ok : (X.wish E).Ok) : X.Ok :=
  ⟨ok.mod, ok.kind, ok.glob, ok.blt, ok.above, ok.inj, ok.has, ok.cab, ok.hd, ok.frames, ok.stk, ok.exf, ok.bs, ok.bsz, ok.noex, ok.exfs, ok.funs, ok.frf⟩
section
variable {X : Cx} {pins : List (Addr × Obj)} {σ : St} {H : Hp} {s : Shared} {E : Value → Shared → Prop}
theorem Inv.wish (I : Inv X pins σ H s) (E : Value → Shared → Prop) : Inv (X.wish E) pins σ H s := ⟨I.ok.wish E, I.os, I.bare, I.base, I.loc, I.cell, I.free, I.freeC, I.pin, I.hok, I.len⟩
theorem Inv.unwish (I : Inv (X.wish E) pins σ H s) : Inv X pins σ H s := ⟨I.ok.unwish, I.os, I.bare, I.base, I.loc, I.cell, I.free, I.freeC, I.pin, I.hok, I.len⟩
theorem SP.unwish {D : Ends} {f : Flow} {s' : Shared} (h : SP (X.wish E) pins D f s') : SP X pins D f s' := by
  cases f with
  | next => obtain ⟨σ', H', I, q⟩ := h; exact ⟨σ', H', I.unwish, q⟩
  | brk => obtain ⟨σ', H', I, q⟩ := h; exact ⟨σ', H', I.unwish, q⟩
  | cont => obtain ⟨σ', H', I, q⟩ := h; exact ⟨σ', H', I.unwish, q⟩
  | ret u => obtain ⟨v, σ', H', I, r, q⟩ := h; exact ⟨v, σ', H', I.unwish, r, q⟩
theorem PSs.nox {st : List Stmt} {t : TS} (h : PSs X.nox st t) : PSs X st t := fun pins s σ H D I hw =>
  wpAny_mono (h pins s σ H D (I.wish _) hw) (fun _ _ q => q.unwish) fun _ _ z => False.elim z
end

/-! ### blocks and small statements -/
section
variable {X : Cx} {st : Stmt} {rest : List Stmt} {t u : TS} {e : Expr} {te : TE} {pos : Pos}
def tNext : TS := fun D σ H => D.nx σ H
def tSeq (t u : TS) : TS := fun D σ H => t { D with nx := u D } σ H
theorem pss_nil : PSs X [] tNext := fun _ _ σ H _ I h => wpAny_execs_nil ⟨σ, H, I, h⟩
theorem pss_cons (h1 : PS X st t) (h2 : PSs X rest u) : PSs X (st :: rest) (tSeq t u) := by
  intro pins s σ H D I h
  refine wpAny_execs_cons (thn (h1 pins s σ H { D with nx := u D } I h) fun f s1 q => ?_)
  cases f with
  | next =>
    obtain ⟨σ', H', I', q⟩ := q
    exact h2 pins s1 σ' H' D I' q
  | ret v => exact q
  | brk => exact q
  | cont => exact q
theorem pss_one (h1 : PS X st t) : PSs X [st] t := by
  intro pins s σ H D I h
  refine wpAny_execs_cons (thn (h1 pins s σ H D I h) fun f s1 q => ?_)
  cases f with
  | next => exact wpAny_execs_nil q
  | ret v => exact q
  | brk => exact q
  | cont => exact q
/-- in a def's body nothing is shown -/
theorem Inv.quiet {pins : List (Addr × Obj)} {σ : St} {H : Hp} {s : Shared} (I : Inv X pins σ H s) : interactive X.env = false := by simp [interactive, I.ok.kind]
/-- an expression whose value is dropped -/
def tDrop (te : TE) : TS := fun D σ H => te σ H fun _ H1 => D.nx σ H1
theorem ps_expr (he : PE X e te) (hs : swapsWith e none pos.line X.env = pure false := by rfl) : PS X (.Expr e pos) (tDrop te) := by
  intro pins s σ H D I h
  exact wpAny_Expr_any (thn (he pins s σ H _ I h) fun v s1 ⟨x, H1, I1, r1, q1⟩ => ⟨σ, H1, I1, q1⟩) I.quiet hs
def tRet (te : TE) : TS := fun D σ H => te σ H D.rt
theorem ps_ret (he : PE X e te) : PS X (.Return (some e) pos) (tRet te) := by
  intro pins s σ H D I h
  exact wpAny_Return_some (thn (he pins s σ H _ I h) fun v s1 ⟨x, H1, I1, r1, q1⟩ => ⟨x, σ, H1, I1, r1, q1⟩)
def tIfS (c : TT) (t u : TS) : TS := fun D σ H => c σ H fun b H1 => if b = true then t D σ H1 else u D σ H1
theorem ps_if {c : Expr} {a b : List Stmt} {tc : TT} (hc : PT X c tc) (ha : PSs X a t) (hb : PSs X b u) : PS X (.If c a b pos) (tIfS tc t u) := by
  intro pins s σ H D I h
  refine wpAny_If (thn (hc pins s σ H _ I h) fun d s1 ⟨H1, I1, q1⟩ => ?_)
  cases d with
  | true => exact ha pins s1 σ H1 D I1 q1
  | false => exact hb pins s1 σ H1 D I1 q1
end

/-! ### targets -/
abbrev TG := V → St → Hp → (St → Hp → Prop) → Prop
abbrev TGs := List V → St → Hp → (St → Hp → Prop) → Prop
def PG (X : Cx) (target : Expr) (t : TG) : Prop :=
  ∀ (pins : List (Addr × Obj)) (s : Shared) (σ : St) (H : Hp) (v : V) (u : Value) (Q : St → Hp → Prop), Inv X pins σ H s → RelV v u → t v σ H Q →
    wpAny (model X.prog X.w) X.A (assign target X.env u) (fun _ s' => ∃ σ' H', Inv X pins σ' H' s' ∧ Q σ' H') X.xe s
/-- several targets, one after another -/
def PGs (X : Cx) (ts : List Expr) (t : TGs) : Prop :=
  ∀ (pins : List (Addr × Obj)) (s : Shared) (σ : St) (H : Hp) (vs : List V) (us : List Value) (Q : St → Hp → Prop), Inv X pins σ H s → Vals vs us → t vs σ H Q →
    wpAny (model X.prog X.w) X.A (assignInOrder ((assignEach ts X.env).map (·.2)) us) (fun _ s' => ∃ σ' H', Inv X pins σ' H' s' ∧ Q σ' H') X.xe s
/-- o[i] = v, by values -/
abbrev TSet := V → V → V → Hp → (Hp → Prop) → Prop
def PSet (X : Cx) (t : TSet) : Prop :=
  ∀ (pins : List (Addr × Obj)) (s : Shared) (σ : St) (H : Hp) (o i v : V) (ov iv u : Value) (Q : Hp → Prop), Inv X pins σ H s → RelV o ov → RelV i iv → RelV v u → t o i v H Q →
    wpAny (model X.prog X.w) X.A (setItem ov iv u) (fun _ s' => ∃ H', Inv X pins σ H' s' ∧ Q H') X.xe s
section
variable {X : Cx} {pos : Pos}
def gName (i : Nat) : TG := fun v σ H Q => Q (σ.set i (some v)) H
theorem pg_name {i : Nat} {x : Str} (hN : X.N.Nodup) (hi : X.N[i]? = some x) (hx : Loc X.env.scope x) (hf : X.fn x = true ∨ X.env.scope.names.lookup x = some .local := by first | exact .inl rfl | exact .inr rfl | assumption) : PG X (.Name x pos) (gName i) := by
  intro pins s σ H v u Q I r h
  exact wpAny_assign_Name (store_ok I hN hi hx r (fun s' I' => ⟨_, H, I', h⟩) hf)
def gNil : TGs := fun vs σ H Q => vs = [] ∧ Q σ H
def gCons (t : TG) (u : TGs) : TGs := fun vs σ H Q => ∃ v r, vs = v :: r ∧ t v σ H fun σ' H' => u r σ' H' Q
theorem pgs_nil : PGs X [] gNil := by
  intro pins s σ H vs us Q I r h
  obtain ⟨e, h⟩ := h
  subst e
  cases r
  exact assignInOrder_nil ⟨σ, H, I, h⟩
theorem pgs_cons {e : Expr} {es : List Expr} {t : TG} {u : TGs} (h1 : PG X e t) (h2 : PGs X es u)
    (hs : (assignEach (e :: es) X.env).map (·.2) = assign e X.env :: (assignEach es X.env).map (·.2) := by rfl) : PGs X (e :: es) (gCons t u) := by
  intro pins s σ H vs us Q I r h
  obtain ⟨v, vr, e1, h⟩ := h
  subst e1
  cases r with
  | cons r rr =>
    rw [hs]
    refine assignInOrder_cons (thn (h1 pins s σ H _ _ _ I r h) fun _ s1 ⟨σ1, H1, I1, q1⟩ => ?_)
    exact h2 pins s1 σ1 H1 _ _ Q I1 rr q1
/-- (a, b, ..) = a tuple of that length -/
def gTup (K : PySem.W.Frag) (n : Nat) (t : TGs) : TG := fun v σ H Q => ∃ a xs, v = .ref a ∧ SqT K H a xs ∧ xs.length = n ∧ t xs σ H Q
theorem pg_tup {es : List Expr} {k : Nat} {t : TGs} {n : Nat} (hc : X.calm = true) (h : PGs X es t)
    (hn : (assignEach es X.env).length = n := by rfl) (hst : (assignEach es X.env).findIdx? (·.1) = none := by rfl) : PG X (.Tuple es k pos) (gTup X.K n t) := by
  intro pins s σ H v u Q I r hw
  obtain ⟨a, xs, e1, hq, hl, hw⟩ := hw
  subst e1
  cases r
  obtain ⟨its, rv, ht, hz⟩ := I.tuple hq
  refine assign_Tuple_tuple (I.ok.hd hc) ht (by simp [hn, ← hl, rv.length]) hst fun h' hx => ?_
  have I1 : Inv X pins σ H { s with heap := h' } := I.kept (t' := s.toks) fun b o e => hx b o (Nat.ne_of_lt (Heap.lt_size e)) e
  exact h pins _ σ H xs _ Q I1 (by simpa using rv) hw
/-- o[i] = .. -/
def gSub (to ti : TE) (t : TSet) : TG := fun v σ H Q => to σ H fun o H1 => ti σ H1 fun i H2 => t o i v H2 fun H3 => Q σ H3
theorem pg_sub {o i : Expr} {to ti : TE} {t : TSet} (ho : PE X o to) (hi : PE X i ti) (hs : PSet X t)
    (ha : ∀ v, assign (.Subscript o i pos) X.env v = (do
      let ov ← holding [v] (eval o X.env)
      let iv ← holding [v, ov] (eval i X.env)
      standAt pos
      holding [v, ov, iv] (setItem ov iv v)
      release [v, ov, iv] []) := by intro _; rfl) : PG X (.Subscript o i pos) (gSub to ti t) := by
  intro pins s σ H v u Q I r h
  rw [ha]
  refine wpAny_bind (wpAny_holding (thn (ho pins s σ H _ I h) fun ov s1 ⟨x, H1, I1, r1, q1⟩ => ?_))
  refine wpAny_bind (wpAny_holding (thn (hi pins s1 σ H1 _ I1 q1) fun iv s2 ⟨y, H2, I2, r2, q2⟩ => ?_))
  refine wpAny_bind (wpAny_standAt (wpAny_bind (wpAny_holding (thn (hs pins s2 σ H2 x y v ov iv u _ I2 r1 r2 r q2) fun _ s3 ⟨H3, I3, q3⟩ => ?_))))
  exact wpAny_release ⟨σ, H3, I3, q3⟩
/-- target = value -/
def tAsg (te : TE) (g : TG) : TS := fun D σ H => te σ H fun x H1 => g x σ H1 D.nx
theorem ps_asg {tg e : Expr} {te : TE} {g : TG} (he : PE X e te) (hg : PG X tg g) (hs : swapsWithSole [tg] e pos.line X.env = pure false := by rfl) (hw : swappedStores [tg] e X.env = pure none := by rfl)
    (h1 : (assignEach [tg] X.env).map (·.2) = [assign tg X.env] := by rfl) : PS X (.Assign [tg] e pos) (tAsg te g) := by
  intro pins s σ H D I h
  refine wpAny_Assign_stores (thn (he pins s σ H _ I h) fun v s1 ⟨x, H1, I1, r1, q1⟩ => ?_) hs hw
  rw [h1]
  exact thn (hg pins s1 σ H1 x v _ I1 r1 q1) fun _ s2 q => q
/-- name = value -/
theorem ps_set {i : Nat} {x : Str} {e : Expr} {te : TE} {pos' : Pos} (hN : X.N.Nodup) (hi : X.N[i]? = some x) (hx : Loc X.env.scope x) (he : PE X e te) (hs : swapsWith e (some (.Name x pos')) pos.line X.env = pure false := by rfl) (hf : X.fn x = true ∨ X.env.scope.names.lookup x = some .local := by first | exact .inl rfl | exact .inr rfl | assumption) :
    PS X (.Assign [.Name x pos'] e pos) (tAsg te (gName i)) := by
  intro pins s σ H D I h
  refine wpAny_Assign_Name (thn (he pins s σ H _ I h) fun v s1 ⟨y, H1, I1, r1, q1⟩ => ?_) hs
  exact store_ok I1 hN hi hx r1 (fun s2 I2 => ⟨_, H1, I2, q1⟩) hf
/-- a, b = x, y with plain local names: stored from the right; the pair itself is not tracked (the opening rows as in PyProof/Rows/TupAssign.lean:23) -/
def tPar (i j : Nat) (ta : TA) : TS := fun D σ H => ta σ H fun vs H1 => ∃ v w, vs = [v, w] ∧ D.nx ((σ.set i (some v)).set j (some w)) H1
theorem ps_par {i j : Nat} {x y : Str} {a b : Expr} {ta : TA} {px py pt : Pos} {kt k2 pt2} (hc : X.calm = true) (hN : X.N.Nodup) (hi : X.N[i]? = some x) (hj : X.N[j]? = some y) (hij : i ≠ j)
    (hx : X.env.scope.names.lookup x = some .local) (hy : X.env.scope.names.lookup y = some .local) (ha : PA X [a, b] ta)
    (hw : swappedStores [.Tuple [.Name x px, .Name y py] kt pt] (.Tuple [a, b] k2 pt2) X.env = pure (some [x, y]))
    (hs : swapsWithSole [.Tuple [.Name x px, .Name y py] kt pt] (.Tuple [a, b] k2 pt2) pos.line X.env = pure false := by rfl) :
    PS X (.Assign [.Tuple [.Name x px, .Name y py] kt pt] (.Tuple [a, b] k2 pt2) pos) (tPar i j ta) := by
  intro pins s σ H D I h
  rw [exec_Assign_arm]
  refine wpAny_bind (wpAny_standAt ?_)
  rw [hs]
  refine wpAny_bind (wpAny_pure ?_)
  rw [if_neg (by decide)]
  refine wpAny_bind (Tuple_ (thn (ha _ pins s σ H _ I h) fun us s1 ⟨vs, H1, I1, r1, q1⟩ => ?_))
  obtain ⟨v, w, e1, q1⟩ := q1
  subst e1
  obtain ⟨u1, u2, rfl, rv, rw'⟩ : ∃ u1 u2, us = [u1, u2] ∧ RelV v u1 ∧ RelV w u2 := by
    cases r1 with
    | cons p q =>
      cases q with
      | cons p' q' =>
        cases q'
        exact ⟨_, _, rfl, p, p'⟩
  refine wpAny_newObj_type ?_ (by show 2 ≤ sizeLine; decide)
  have I2 : Inv X pins σ H1 { s1 with heap := s1.heap.push { cls := .type "tuple", data := .seq [u1, u2].toArray } } := I1.kept (t' := s1.toks) fun b o e => Heap.get?_push_of_some _ e
  rw [hw]
  refine wpAny_bind (wpAny_pure ?_)
  show wpAny (model X.prog X.w) X.A (do rule "assign.swapped-stores"; let items ← unpackItems (.ref s1.heap.objs.size) 2 none; assignInOrder [fun v => bindName X.env y v, fun v => bindName X.env x v] items.reverse; pure Flow.next) _ _ _
  refine wpAny_bind (wpAny_rule (wpAny_bind (unpackItems_tuple (items := #[u1, u2]) (I.ok.hd hc) (IsTup.new s1.heap _) fun h' hx' => ?_)))
  have I3 := I2.kept (h' := h') (t' := s1.toks) fun b o e => hx' b o (Nat.ne_of_lt (Heap.lt_size e)) e
  show wpAny _ _ (assignInOrder [fun v => bindName X.env y v, fun v => bindName X.env x v] [u2, u1] >>= fun _ => pure Flow.next) _ _ _
  refine wpAny_bind (assignInOrder_cons (wpAny_bindName (store_ok I3 hN hj (.inl hy) rw' (fun s2 I4 => ?_) (.inr hy))))
  refine assignInOrder_cons (wpAny_bindName (store_ok I4 hN hi (.inl hx) rv (fun s3 I5 => assignInOrder_nil (wpAny_pure ?_)) (.inr hx)))
  rw [List.set_comm _ _ (Ne.symm hij)] at I5
  exact ⟨_, H1, I5, q1⟩
end

/-! ### while -/
section
variable {X : Cx} {pos : Pos}
/-- the invariant W with its measure -/
def tWhile (c : TT) (tb : TS) : TS := fun D σ H => ∃ W : Nat → St → Hp → Prop, (∃ m, W m σ H) ∧ ∀ m σ H, W m σ H →
  c σ H fun b H1 => if b = true then ∃ N : St → Hp → Prop, (∀ σ' H', N σ' H' → ∃ m', m' < m ∧ W m' σ' H') ∧ tb { D with nx := N, ct := N, bk := D.nx } σ H1 else D.nx σ H1
theorem ps_while {c : Expr} {body : List Stmt} {tc : TT} {tb : TS} (hp : PassesOwn (model X.prog X.w) X.A X.env X.xe) (hc : PT X c tc) (hb : PSs X body tb) : PS X (.While c body [] pos) (tWhile tc tb) := by
  intro pins s σ H D I h
  obtain ⟨W, ⟨m0, w0⟩, turn⟩ := h
  refine wpAny_While (codeAny_whileLoop (fun n s' => ∃ σ' H', Inv X pins σ' H' s' ∧ W n σ' H') ?_ m0 ⟨σ, H, I, w0⟩)
  rintro n s1 ⟨σ1, H1, I1, w1⟩
  refine wpAny_passesOwn hp (thn (hc pins s1 σ1 H1 _ I1 (turn n σ1 H1 w1)) fun b s2 ⟨H2, I2, q2⟩ => ?_)
  cases b with
  | true =>
    obtain ⟨N, hN, q2⟩ := q2
    rw [if_pos rfl]
    refine wpAny_passesOwn hp (thn (hb pins s2 σ1 H2 _ I2 q2) fun f s3 q3 => ?_)
    cases f with
    | next =>
      obtain ⟨σ3, H3, I3, n3⟩ := q3
      obtain ⟨m', hm, w3⟩ := hN σ3 H3 n3
      exact ⟨m', hm, σ3, H3, I3, w3⟩
    | cont =>
      obtain ⟨σ3, H3, I3, n3⟩ := q3
      obtain ⟨m', hm, w3⟩ := hN σ3 H3 n3
      exact ⟨m', hm, σ3, H3, I3, w3⟩
    | brk => exact q3
    | ret v => exact q3
  | false =>
    rw [if_neg Bool.false_ne_true]
    exact wpAny_execs_nil ⟨σ1, H2, I2, q2⟩
end

/-! ### what a loop or a comprehension walks -/
/-- at turn i: it yields x (the heap may grow), or it stops -/
structure It where
  go : Nat → Hp → Prop
  yld : Nat → Hp → V → Hp → Prop
  stop : Nat → Hp → Prop
/-- the iterator's own objects may turn: they are not the frame's, not pinned, younger than the entry (or a comprehension's own) -/
def FpOk (X : Cx) (pins : List (Addr × Obj)) (H : Hp) (b : Addr) : Prop :=
  H b = none ∧ b ≠ X.env.locals ∧ b ∉ X.fs ∧ (b ∈ X.ex ∨ X.s₀.heap.objs.size ≤ b) ∧ (∀ x c, X.env.cells.lookup x = some c → c ≠ b) ∧ ∀ p ∈ X.pn ++ pins, p.1 ≠ b
theorem Inv.fpOk {X : Cx} {pins : List (Addr × Obj)} {σ : St} {H H' : Hp} {s : Shared} {b : Addr} (I : Inv X pins σ H s) (hb : s.heap.objs.size ≤ b) (hn : H' b = none) : FpOk X pins H' b := by
  refine ⟨hn, Nat.ne_of_gt (Nat.lt_of_lt_of_le I.lt hb), I.nofs hb, .inr (Nat.le_trans I.sz hb), fun x c e z => ?_, fun p hp z => ?_⟩
  · obtain ⟨v, q⟩ := I.cell x c e
    exact absurd (Nat.lt_of_lt_of_le q.lt (by rw [z]; exact hb)) (Nat.lt_irrefl _)
  · exact absurd (Nat.lt_of_lt_of_le (Heap.lt_size (I.pin p hp).1) (by rw [z]; exact hb)) (Nat.lt_irrefl _)
structure Turn (P : Program) (w : World) (K : PySem.W.Frag) (tg : Expr) (J : It) (fp : List Addr) (it : Addr) (tn : Nat → Heap → Prop) : Prop where
  mem : it ∈ fp
  obj : ∀ i h, tn i h → ∀ b ∈ fp, ∃ o, h.get? b = some o ∧ ∀ v, o.data ≠ .cell v
  keep : ∀ i h h', tn i h → (∀ b ∈ fp, ∀ o, h.get? b = some o → h'.get? b = some o) → tn i h'
  item : ∀ (X : Cx), X.prog = P → X.w = w → X.K = K → X.calm = true → ∀ (i : Nat) (pins : List (Addr × Obj)) (s : Shared) (σ : St) (H : Hp) (E : Value → Shared → Prop), Inv X pins σ H s → (∀ b ∈ fp, FpOk X pins H b) → tn i s.heap → J.go i H →
    wpAny (model P w) X.A (pyNext (.ref it)) (fun r s1 => ∃ u, r = some u ∧
      wpAny (model P w) X.A (letOwnedTupleGo tg (.ref it) u) (fun _ s2 => ∃ x H', Inv X pins σ H' s2 ∧ RelV x u ∧ J.yld i H x H' ∧ tn (i + 1) s2.heap ∧ ∀ b ∈ fp, H' b = none) E s1) E s
  done : ∀ (X : Cx), X.prog = P → X.w = w → X.K = K → X.calm = true → ∀ (i : Nat) (pins : List (Addr × Obj)) (s : Shared) (σ : St) (H : Hp) (E : Value → Shared → Prop), Inv X pins σ H s → (∀ b ∈ fp, FpOk X pins H b) → tn i s.heap → J.stop i H →
    wpAny (model P w) X.A (pyNext (.ref it)) (fun r s1 => r = none ∧ Inv X pins σ H s1) E s
  self : ∀ (A : Around) (i : Nat) (s : Shared) (Q : Value → Shared → Prop) (E : Value → Shared → Prop), tn i s.heap → Q (.ref it) s → wpAny (model P w) A (pyIter (.ref it)) Q E s
abbrev TI := St → Hp → (It → Hp → Prop) → Prop
/-- an iterator has come -/
def PIE (X : Cx) (pins : List (Addr × Obj)) (σ : St) (tg : Expr) (R : It → Hp → Prop) (itv : Value) (s2 : Shared) : Prop :=
  ∃ (it : Addr) (fp : List Addr) (tn : Nat → Heap → Prop) (J : It) (H' : Hp), itv = .ref it ∧ Inv X pins σ H' s2 ∧ Turn X.prog X.w X.K tg J fp it tn ∧ tn 0 s2.heap ∧ (∀ b ∈ fp, FpOk X pins H' b) ∧ R J H'
def PI (X : Cx) (tg iter : Expr) (wi : TI) : Prop :=
  ∀ (pins : List (Addr × Obj)) (s : Shared) (σ : St) (H : Hp) (R : It → Hp → Prop), Inv X pins σ H s → wi σ H R →
    wpAny (model X.prog X.w) X.A (eval iter X.env) (fun v s1 => wpAny (model X.prog X.w) X.A (pyIter v) (PIE X pins σ tg R) X.xe s1) X.xe s

/-- the step ahead of the store is nothing for an iterator that keeps no tuple -/
theorem go_of {M : Model} {A : Around} {E : Value → Shared → Prop} {s : Shared} {tg : Expr} {it : Addr} {u : Value} {o : Obj} {n : String} {vs : Array Value} {Q : Unit → Shared → Prop} (ho : s.heap.get? it = some o) (hc : o.cls = .type n) (hd : o.data = .fields vs)
    (hn : ["enumerate", "zip", "dict_itemiterator", "dict_reverseitemiterator", "odict_iterator", "itertools.zip_longest", "itertools.pairwise"].contains n = false) (hQ : Q () s) : wpAny M A (letOwnedTupleGo tg (.ref it) u) Q E s := by
  unfold letOwnedTupleGo
  cases tg <;> first
    | exact wpAny_pure hQ
    | (cases u <;> first
        | exact wpAny_pure hQ
        | (refine wpAny_bind (wpAny_load ho ?_)
           rw [hc, hd]
           show wpAny M A (if (["enumerate", "zip", "dict_itemiterator", "dict_reverseitemiterator", "odict_iterator", "itertools.zip_longest", "itertools.pairwise"].contains n && vs[0]? == some (rawInt _)) = true then _ else _) Q E s
           rw [if_neg (by intro h; rw [hn, Bool.false_and] at h; cases h)]
           exact wpAny_pure hQ))

/-- the list at a, as it stands at each turn (a loop may append to it) -/
def Itl (K : PySem.W.Frag) (a : Addr) : It :=
  ⟨fun i H => ∃ xs x, SqL K H a xs ∧ xs[i]? = some x, fun i H x H' => H' = H ∧ ∀ xs, SqL K H a xs → xs[i]? = some x, fun i H => ∃ xs, SqL K H a xs ∧ xs.length ≤ i⟩
def Itt (K : PySem.W.Frag) (a : Addr) : It :=
  ⟨fun i H => ∃ xs x, SqT K H a xs ∧ xs[i]? = some x, fun i H x H' => H' = H ∧ ∀ xs, SqT K H a xs → xs[i]? = some x, fun i H => ∃ xs, SqT K H a xs ∧ xs.length ≤ i⟩
/-- lo, lo + 1, .. (n of them) -/
def Itr (lo : Int) (n : Nat) : It := ⟨fun i _ => i < n, fun i H x H' => H' = H ∧ x = .int (lo + i), fun i _ => n ≤ i⟩
theorem turn_list {P : Program} {w : World} {K : PySem.W.Frag} {tg : Expr} (a it : Addr) : Turn P w K tg (Itl K a) [it] it (fun i h => h.IsListIter it a i) where
  mem := by simp
  obj := fun i h st b hb => by
    have e : b = it := by simpa using hb
    subst e
    obtain ⟨o, e, c, d⟩ := st
    exact ⟨o, e, fun v z => by rw [d] at z; cases z⟩
  keep := fun i h h' st k => st.at fun o e => k it (by simp) o e
  item := by
    intro X hP hw hK hc i pins s σ H E I hf st hg
    subst hP hw hK
    obtain ⟨xs, x, hq, hx⟩ := hg
    obtain ⟨its, rv, p, hz⟩ := I.list hq
    obtain ⟨u, hu, ru⟩ := rv.get hx
    obtain ⟨f0, f1, f2, f3, f4, f5⟩ := hf it (by simp)
    refine wpAny_pyNext_list_item st p.isList (x := u) (by simpa using hu) fun h' st' sb => ?_
    have I1 : Inv X pins σ H { s with heap := h' } := I.turned (t' := s.toks) (fun b o hb e => (sb.2 b hb).trans e) f0 f1 f3 f4 f5
    obtain ⟨o, e, c, d⟩ := id st'
    exact ⟨u, rfl, go_of (s := { s with heap := h' }) e c d (by decide) ⟨x, H, I1, ru, ⟨rfl, fun ys hy => by rw [I.list_inj hy hq]; exact hx⟩, st', fun b hb => (hf b hb).1⟩⟩
  done := by
    intro X hP hw hK hc i pins s σ H E I hf st hg
    subst hP hw hK
    obtain ⟨xs, hq, hx⟩ := hg
    obtain ⟨its, rv, p, hz⟩ := I.list hq
    obtain ⟨f0, f1, f2, f3, f4, f5⟩ := hf it (by simp)
    have hl := rv.length
    exact wpAny_pyNext_list_end (I.ok.hd hc) st p.isList (by simp; omega) fun h' eb => ⟨rfl, I.turned (t' := s.toks) (fun b o hb e => eb b o hb e) f0 f1 f3 f4 f5⟩
  self := fun _ _ _ _ _ st h => wpAny_pyIter_listiter st h
theorem turn_tuple {P : Program} {w : World} {K : PySem.W.Frag} {tg : Expr} (a it : Addr) : Turn P w K tg (Itt K a) [it] it (fun i h => h.IsTupleIter it a i) where
  mem := by simp
  obj := fun i h st b hb => by
    have e : b = it := by simpa using hb
    subst e
    obtain ⟨o, e, c, d⟩ := st
    exact ⟨o, e, fun v z => by rw [d] at z; cases z⟩
  keep := fun i h h' st k => st.at fun o e => k it (by simp) o e
  item := by
    intro X hP hw hK hc i pins s σ H E I hf st hg
    subst hP hw hK
    obtain ⟨xs, x, hq, hx⟩ := hg
    obtain ⟨its, rv, p, hz⟩ := I.tuple hq
    obtain ⟨u, hu, ru⟩ := rv.get hx
    obtain ⟨f0, f1, f2, f3, f4, f5⟩ := hf it (by simp)
    refine wpAny_pyNext_tuple_item st (show s.heap.IsTuple a its.toArray from p) (x := u) (by simpa using hu) fun h' st' sb => ?_
    have I1 : Inv X pins σ H { s with heap := h' } := I.turned (t' := s.toks) (fun b o hb e => (sb.2 b hb).trans e) f0 f1 f3 f4 f5
    obtain ⟨o, e, c, d⟩ := id st'
    exact ⟨u, rfl, go_of (s := { s with heap := h' }) e c d (by decide) ⟨x, H, I1, ru, ⟨rfl, fun ys hy => by rw [I.tuple_inj hy hq]; exact hx⟩, st', fun b hb => (hf b hb).1⟩⟩
  done := by
    intro X hP hw hK hc i pins s σ H E I hf st hg
    subst hP hw hK
    obtain ⟨xs, hq, hx⟩ := hg
    obtain ⟨its, rv, p, hz⟩ := I.tuple hq
    obtain ⟨f0, f1, f2, f3, f4, f5⟩ := hf it (by simp)
    have hl := rv.length
    exact wpAny_pyNext_tuple_end (I.ok.hd hc) st (show s.heap.IsTuple a its.toArray from p) (by simp; omega) fun h' eb => ⟨rfl, I.turned (t' := s.toks) (fun b o hb e => eb b o hb e) f0 f1 f3 f4 f5⟩
  self := fun _ _ _ _ _ st h => wpAny_pyIter_tupleiter st h
theorem turn_range {P : Program} {w : World} {K : PySem.W.Frag} {tg : Expr} (it : Addr) (lo : Int) (n : Nat) : Turn P w K tg (Itr lo n) [it] it (fun i h => IsRangeIter h it (lo + (i : Nat) * 1) ((n : Int) - (i : Nat)) 1) where
  mem := by simp
  obj := fun i h st b hb => by
    have e : b = it := by simpa using hb
    subst e
    exact ⟨_, st, fun v z => by
      have z' : Data.fields _ = Data.cell v := z
      cases z'⟩
  keep := fun i h h' st k => k it (by simp) _ st
  item := by
    intro X hP hw hK hc i pins s σ H E I hf st hg
    subst hP hw hK
    obtain ⟨f0, f1, f2, f3, f4, f5⟩ := hf it (by simp)
    have W := Walks.range (prog := X.prog) (w := X.w) (I.ok.hd hc) it lo 1 n
    refine W.item i s _ _ hg st fun v h' tk hv st' kk => ?_
    obtain ⟨t, rfl⟩ := hv
    have I1 : Inv X pins σ H { s with heap := h', toks := tk } := I.turned (fun b o hb e => kk b o (by simpa using hb) e) f0 f1 f3 f4 f5
    refine ⟨_, rfl, go_of (s := { s with heap := h', toks := tk }) (n := "range_iterator") st' rfl rfl (by decide) ⟨.int (lo + i), H, I1, ⟨t, ?_⟩, ⟨rfl, rfl⟩, st', fun b hb => (hf b hb).1⟩⟩
    rw [Int.mul_one]
  done := by
    intro X hP hw hK hc i pins s σ H E I hf st hg
    subst hP hw hK
    obtain ⟨f0, f1, f2, f3, f4, f5⟩ := hf it (by simp)
    exact wpAny_pyNext_range_end (I.ok.hd hc) st (by have : n ≤ i := hg; omega) fun h' eb => ⟨rfl, I.turned (t' := s.toks) (fun b o hb e => eb b o hb e) f0 f1 f3 f4 f5⟩
  self := fun _ _ _ _ _ st h => wpAny_pyIter_rangeiter st h
end L2

namespace L2
open PySem PySem.Spec PyProof.Rows
section
variable {X : Cx} {tg : Expr}
def iList (K : PySem.W.Frag) (tl : TE) : TI := fun σ H R => tl σ H fun x H1 => ∃ a, x = .ref a ∧ (∃ xs, SqL K H1 a xs) ∧ R (Itl K a) H1
def iTup (K : PySem.W.Frag) (tl : TE) : TI := fun σ H R => tl σ H fun x H1 => ∃ a, x = .ref a ∧ (∃ xs, SqT K H1 a xs) ∧ R (Itt K a) H1
theorem pi_list {l : Expr} {tl : TE} (hl : PE X l tl) : PI X tg l (iList X.K tl) := by
  intro pins s σ H R I h
  refine thn (hl pins s σ H _ I h) fun v s1 ⟨x, H1, I1, r1, q1⟩ => ?_
  obtain ⟨a, e, ⟨xs, hq⟩, q⟩ := q1
  subst e
  cases r1
  obtain ⟨its, rv, p, hz⟩ := I1.list hq
  refine wpAny_pyIter_list p.isList ?_
  refine ⟨s1.heap.objs.size, [s1.heap.objs.size], _, _, H1, rfl, I1.kept (t' := s1.toks) fun b o e => Heap.get?_push_of_some _ e, turn_list a _, ⟨_, Heap.get?_push_size _ rfl, rfl, rfl⟩, fun b hb => ?_, q⟩
  have e : b = s1.heap.objs.size := by simpa using hb
  subst e
  exact I1.fpOk (Nat.le_refl _) (I1.hok.fresh (Nat.le_refl _))
theorem pi_tup {l : Expr} {tl : TE} (hl : PE X l tl) : PI X tg l (iTup X.K tl) := by
  intro pins s σ H R I h
  refine thn (hl pins s σ H _ I h) fun v s1 ⟨x, H1, I1, r1, q1⟩ => ?_
  obtain ⟨a, e, ⟨xs, hq⟩, q⟩ := q1
  subst e
  cases r1
  obtain ⟨its, rv, p, hz⟩ := I1.tuple hq
  refine wpAny_pyIter_tuple (show s1.heap.IsTuple a its.toArray from p) ?_
  refine ⟨s1.heap.objs.size, [s1.heap.objs.size], _, _, H1, rfl, I1.kept (t' := s1.toks) fun b o e => Heap.get?_push_of_some _ e, turn_tuple a _, ⟨_, Heap.get?_push_size _ rfl, rfl, rfl⟩, fun b hb => ?_, q⟩
  have e : b = s1.heap.objs.size := by simpa using hb
  subst e
  exact I1.fpOk (Nat.le_refl _) (I1.hok.fresh (Nat.le_refl _))
/-- a range object just made, walked -/
theorem range_it {pins : List (Addr × Obj)} {σ : St} {H : Hp} {s : Shared} {R : It → Hp → Prop} {E : Value → Shared → Prop} {lo hi : Int} {t u v : Tok} {tk : Nat} (I : Inv X pins σ H s) (h1 : -(2 ^ 62) ≤ lo) (h2 : lo < 2 ^ 62) (h3 : -(2 ^ 62) ≤ hi) (h4 : hi < 2 ^ 62)
    (q : R (Itr lo (hi - lo).toNat) H) : wpAny (model X.prog X.w) X.A (pyIter (.ref s.heap.objs.size)) (PIE X pins σ tg R) E { s with heap := s.heap.push { cls := .type "range", data := .fields #[.int lo t, .int hi u, .int 1 v] }, toks := tk } := by
  refine wpAny_pyIter_range (IsRange.new ..) (small_one h1 h2 h3 h4) ?_
  have I1 : Inv X pins σ H { s with heap := s.heap.push { cls := .type "range", data := .fields #[.int lo t, .int hi u, .int 1 v] }, toks := tk } := I.kept fun b o e => Heap.get?_push_of_some _ e
  refine ⟨(s.heap.push { cls := .type "range", data := .fields #[.int lo t, .int hi u, .int 1 v] }).objs.size, [(s.heap.push { cls := .type "range", data := .fields #[.int lo t, .int hi u, .int 1 v] }).objs.size], _, _, H, rfl,
    I1.kept (t' := tk) fun b o e => Heap.get?_push_of_some _ e, turn_range _ lo (hi - lo).toNat, ?_, fun b hb => ?_, q⟩
  · have e1 : lo + ((0 : Nat) : Int) * 1 = lo := by simp
    have e2 : (((hi - lo).toNat : Nat) : Int) - ((0 : Nat) : Int) = Builtin.Range.rangeSize lo hi 1 := by rw [rangeSize_one]; split <;> omega
    show IsRangeIter _ _ (lo + ((0 : Nat) : Int) * 1) ((((hi - lo).toNat : Nat) : Int) - ((0 : Nat) : Int)) 1
    rw [e1, e2]
    exact Heap.get?_push_size _ rfl
  · have e : b = (s.heap.push { cls := .type "range", data := .fields #[.int lo t, .int hi u, .int 1 v] }).objs.size := by simpa using hb
    subst e
    exact I1.fpOk (Nat.le_refl _) (I1.hok.fresh (Nat.le_refl _))
def iRng1 (ta : TA) : TI := fun σ H R => ta σ H fun vs H1 => ∃ j : Int, vs = [.int j] ∧ -(2 ^ 62) ≤ j ∧ j < 2 ^ 62 ∧ R (Itr 0 j.toNat) H1
theorem pi_range1 {a : Expr} {ta : TA} {p pos : Pos} (hg : Gl X "range") (hm : X.mg "range" = none) (ha : PA X [a] ta) (hs : starEach [a] X.env = [(false, eval a X.env)] := by rfl) : PI X tg (.Call (.Name "range" p) [a] [] pos) (iRng1 ta) := by
  intro pins s σ H R I h
  refine Call_ (ld_blt I hg hm boot_range (PyProof.Rows.callWith_type1 (thn (ha pos pins s σ H _ I h) fun us s1 ⟨vs, H1, I1, r1, q1⟩ => ?_) hs rfl))
  obtain ⟨j, e, q1, q2, q⟩ := q1
  subst e
  cases r1 with
  | cons r rr =>
    cases rr
    obtain ⟨t, rfl⟩ := r
    exact call_range_1 (range_it I1 (by omega) (by omega) q1 q2 (by simpa using q))
/-! ### for -/
/-- W: the invariant by the turn and a measure; N: what the body is to reach -/
def tFor (wi : TI) (g : TG) (tb : TS) : TS := fun D σ H => wi σ H fun J H1 => ∃ W : Nat → Nat → St → Hp → Prop, (∃ m, W 0 m σ H1) ∧ ∀ i m σ H, W i m σ H →
  (J.stop i H ∧ D.nx σ H) ∨ (J.go i H ∧ ∃ N : St → Hp → Prop, (∀ σ' H', N σ' H' → ∃ m', m' < m ∧ W (i + 1) m' σ' H') ∧ ∀ x H', J.yld i H x H' → g x σ H' fun σ2 H2 => tb { D with nx := N, ct := N, bk := D.nx } σ2 H2)
/-- the records at fp as they stand -/
def pinsAt (fp : List Addr) (h : Heap) : List (Addr × Obj) := fp.filterMap fun b => (h.get? b).map fun o => (b, o)
theorem mem_pinsAt {fp : List Addr} {h : Heap} {b : Addr} {o : Obj} (hb : b ∈ fp) (e : h.get? b = some o) : (b, o) ∈ pinsAt fp h := List.mem_filterMap.mpr ⟨b, hb, by rw [e]; rfl⟩
theorem of_pinsAt {fp : List Addr} {h : Heap} {p : Addr × Obj} (hp : p ∈ pinsAt fp h) : p.1 ∈ fp ∧ h.get? p.1 = some p.2 := by
  obtain ⟨b, hb, e⟩ := List.mem_filterMap.mp hp
  cases q : h.get? b with
  | none => rw [q] at e; cases e
  | some o =>
    rw [q] at e
    have e' : (b, o) = p := Option.some.inj e
    subst e'
    exact ⟨hb, q⟩
theorem Inv.pinned {pins : List (Addr × Obj)} {σ : St} {H : Hp} {s : Shared} {fp : List Addr} (I : Inv X pins σ H s) (hf : ∀ b ∈ fp, FpOk X pins H b) (ho : ∀ b ∈ fp, ∃ o, s.heap.get? b = some o ∧ ∀ v, o.data ≠ .cell v) : Inv X (pins ++ pinsAt fp s.heap) σ H s :=
  I.pins_of fun p hp => (List.mem_append.mp hp).elim (fun z => I.pin p (List.mem_append_right _ z)) fun z => by
    obtain ⟨hb, e⟩ := of_pinsAt z
    obtain ⟨f0, f1, f2, _⟩ := hf p.1 hb
    obtain ⟨o, e', d⟩ := ho p.1 hb
    rw [e] at e'; cases e'
    exact ⟨e, f0, f1, f2, d⟩
theorem Inv.unpinned {pins pl : List (Addr × Obj)} {σ : St} {H : Hp} {s : Shared} (I : Inv X (pins ++ pl) σ H s) : Inv X pins σ H s := I.pins_of fun p hp => I.pin p (List.mem_append_right _ (List.mem_append_left _ hp))
theorem ps_for {iter : Expr} {body : List Stmt} {wi : TI} {g : TG} {tb : TS} {pos : Pos} (hp : PassesOwn (model X.prog X.w) X.A X.env X.xe) (hc : X.calm = true) (hi : PI X tg iter wi) (hg : PG X tg g) (hb : PSs X body tb)
    (hs : ∀ x, foldedSetIterable iter X.env x = pure x := by intro _; rfl) : PS X (.For tg iter body [] pos) (tFor wi g tb) := by
  intro pins s σ H D I h
  refine wpAny_For (thn (hi pins s σ H _ I h) fun v s1 h1 => thn h1 fun itv s2 h2 => ?_) hs
  obtain ⟨it, fp, tn, J, H2, e, I2, T, st2, f2, W, ⟨m0, w0⟩, turn⟩ := h2
  subst e
  -- what stays true of the iterator's objects through the loop
  have stat : ∀ {H' : Hp}, (∀ b ∈ fp, H' b = none) → ∀ b ∈ fp, FpOk X pins H' b := fun hn b hb => ⟨hn b hb, (f2 b hb).2⟩
  refine codeAny_forLoop_any (fun n s' => ∃ i σ' H', Inv X pins σ' H' s' ∧ tn i s'.heap ∧ (∀ b ∈ fp, H' b = none) ∧ W i n σ' H') ?_ m0 ⟨0, σ, H2, I2, st2, fun b hb => (f2 b hb).1, w0⟩
  rintro n s3 ⟨i, σ3, H3, I3, st3, fr3, w3⟩
  rcases turn i n σ3 H3 w3 with ⟨stop, qn⟩ | ⟨go, N, hN, step⟩
  · refine wpAny_passesOwn hp (thn (T.done X rfl rfl rfl hc i pins s3 σ3 H3 X.xe I3 (stat fr3) st3 stop) fun r s4 ⟨hr, I4⟩ => ?_)
    subst hr
    exact wpAny_execs_nil ⟨σ3, H3, I4, qn⟩
  · refine wpAny_passesOwn hp (thn (T.item X rfl rfl rfl hc i pins s3 σ3 H3 X.xe I3 (stat fr3) st3 go) fun r s4 ⟨u, hr, h4⟩ => ?_)
    subst hr
    refine wpAny_passesOwn hp (thn h4 fun _ s5 ⟨x, H5, I5, r5, y5, st5, fr5⟩ => ?_)
    have I5' := I5.pinned (stat fr5) (T.obj _ _ st5)
    refine wpAny_passesOwn hp (thn (hg _ s5 σ3 H5 x u _ I5' r5 (step x H5 y5)) fun _ s6 ⟨σ6, H6, I6, q6⟩ => ?_)
    refine wpAny_passesOwn hp (thn (hb _ s6 σ6 H6 _ I6 q6) fun f s7 q7 => ?_)
    have again : ∀ {σ7 : St} {H7 : Hp}, Inv X (pins ++ pinsAt fp s5.heap) σ7 H7 s7 → N σ7 H7 → ∃ m, m < n ∧ ∃ i σ' H', Inv X pins σ' H' s7 ∧ tn i s7.heap ∧ (∀ b ∈ fp, H' b = none) ∧ W i m σ' H' := fun {σ7 H7} I7 n7 => by
      obtain ⟨m', hm, w7⟩ := hN σ7 H7 n7
      refine ⟨m', hm, i + 1, σ7, H7, I7.unpinned, T.keep _ _ _ st5 fun b hb o e => (I7.pin (b, o) (List.mem_append_right _ (List.mem_append_right _ (mem_pinsAt hb e)))).1, fun b hb => ?_, w7⟩
      obtain ⟨o, e, d⟩ := T.obj _ _ st5 b hb
      exact (I7.pin (b, o) (List.mem_append_right _ (List.mem_append_right _ (mem_pinsAt hb e)))).2.1
    cases f with
    | next => obtain ⟨σ7, H7, I7, n7⟩ := q7; exact again I7 n7
    | cont => obtain ⟨σ7, H7, I7, n7⟩ := q7; exact again I7 n7
    | brk => obtain ⟨σ7, H7, I7, q7⟩ := q7; exact ⟨σ7, H7, I7.unpinned, q7⟩
    | ret v => obtain ⟨x7, σ7, H7, I7, r7, q7⟩ := q7; exact ⟨x7, σ7, H7, I7.unpinned, r7, q7⟩
end

/-! ### the forms one uses -/
/-- over a list that the body leaves as it is -/
theorem for_list {K : PySem.W.Frag} {a : Addr} {xs : List V} {g : TG} {tb : TS} {D : Ends} {σ : St} {H : Hp} (Pv : Nat → St → Hp → Prop) (h0 : Pv 0 σ H) (hl : ∀ i σ H, i ≤ xs.length → Pv i σ H → SqL K H a xs)
    (hs : ∀ i x σ H, xs[i]? = some x → Pv i σ H → g x σ H fun σ2 H2 => tb { D with nx := Pv (i + 1), ct := Pv (i + 1), bk := D.nx } σ2 H2) (hd : ∀ σ H, Pv xs.length σ H → D.nx σ H) :
    ∃ W : Nat → Nat → St → Hp → Prop, (∃ m, W 0 m σ H) ∧ ∀ i m σ H, W i m σ H →
      ((Itl K a).stop i H ∧ D.nx σ H) ∨ ((Itl K a).go i H ∧ ∃ N : St → Hp → Prop, (∀ σ' H', N σ' H' → ∃ m', m' < m ∧ W (i + 1) m' σ' H') ∧ ∀ x H', (Itl K a).yld i H x H' → g x σ H' fun σ2 H2 => tb { D with nx := N, ct := N, bk := D.nx } σ2 H2) := by
  refine ⟨fun i m σ H => m = xs.length - i ∧ i ≤ xs.length ∧ Pv i σ H, ⟨xs.length, by simp, Nat.zero_le _, h0⟩, ?_⟩
  rintro i m σ H ⟨rfl, hi, p⟩
  have q := hl i σ H hi p
  by_cases hlt : i < xs.length
  · refine .inr ⟨⟨xs, xs[i], q, by simp [hlt]⟩, Pv (i + 1), fun σ' H' p' => ⟨xs.length - (i + 1), by omega, rfl, hlt, p'⟩, fun x H' y => ?_⟩
    obtain ⟨e, y⟩ := y
    subst e
    exact hs i x σ _ (y xs q) p
  · have e : i = xs.length := by omega
    subst e
    exact .inl ⟨⟨xs, q, Nat.le_refl _⟩, hd σ H p⟩
/-- while, by a word and a measure of the state -/
theorem while_by {c : TT} {tb : TS} {D : Ends} {σ : St} {H : Hp} (Pv : St → Hp → Prop) (μ : St → Hp → Nat) (h0 : Pv σ H)
    (hs : ∀ σ H, Pv σ H → c σ H fun b H1 => if b = true then tb { D with nx := fun σ' H' => Pv σ' H' ∧ μ σ' H' < μ σ H, ct := fun σ' H' => Pv σ' H' ∧ μ σ' H' < μ σ H, bk := D.nx } σ H1 else D.nx σ H1)
    (mono : ∀ σ H Q Q', (∀ b H1, Q b H1 → Q' b H1) → c σ H Q → c σ H Q') : tWhile c tb D σ H := by
  refine ⟨fun m σ H => m = μ σ H ∧ Pv σ H, ⟨_, rfl, h0⟩, ?_⟩
  rintro m σ H ⟨rfl, p⟩
  refine mono σ H _ _ (fun b H1 q => ?_) (hs σ H p)
  cases b with
  | true => exact ⟨_, fun σ' H' ⟨p', l⟩ => ⟨_, l, rfl, p'⟩, q⟩
  | false => exact q
end L2

namespace L2
open PySem PySem.Spec PyProof.Rows

abbrev R2 := V → V → Hp → VK → Prop
/-- a two-place operation on values: f is binaryOp op, inplaceOp op or compareOp op -/
def OpR (X : Cx) (f : Value → Value → Sem Value) (r : R2) : Prop :=
  ∀ (pins : List (Addr × Obj)) (s : Shared) (σ : St) (H : Hp) (x y : V) (v u : Value) (Q : VK), Inv X pins σ H s → RelV x v → RelV y u → r x y H Q →
    wpAny (model X.prog X.w) X.A (f v u) (EP X pins σ Q) X.xe s
/-- a one-place operation -/
def UnR (X : Cx) (f : Value → Sem Value) (r : V → Hp → VK → Prop) : Prop :=
  ∀ (pins : List (Addr × Obj)) (s : Shared) (σ : St) (H : Hp) (x : V) (v : Value) (Q : VK), Inv X pins σ H s → RelV x v → r x H Q →
    wpAny (model X.prog X.w) X.A (f v) (EP X pins σ Q) X.xe s
/-- a call of a value that is known (a builtin, a type) with values -/
def CallR (X : Cx) (f : Value) (r : List V → Hp → VK → Prop) : Prop :=
  ∀ (pins : List (Addr × Obj)) (s : Shared) (σ : St) (H : Hp) (xs : List V) (us : List Value) (Q : VK), Inv X pins σ H s → Vals xs us → r xs H Q →
    wpAny (model X.prog X.w) X.A (call f us) (EP X pins σ Q) X.xe s
/-- a value's truth -/
def TruR (X : Cx) (r : V → Hp → (Bool → Hp → Prop) → Prop) : Prop :=
  ∀ (pins : List (Addr × Obj)) (s : Shared) (σ : St) (H : Hp) (x : V) (v : Value) (Q : Bool → Hp → Prop), Inv X pins σ H s → RelV x v → r x H Q →
    wpAny (model X.prog X.w) X.A (truthy v) (TP X pins σ Q) X.xe s

def tOp (r : R2) (ta tb : TE) : TE := fun σ H Q => ta σ H fun x H1 => tb σ H1 fun y H2 => r x y H2 Q
def tUn (r : V → Hp → VK → Prop) (ta : TE) : TE := fun σ H Q => ta σ H fun x H1 => r x H1 Q
/-- ints in, under C, and a value out -/
def rI (C : Int → Int → Prop) (g : Int → Int → V) : R2 := fun x y H Q => ∃ i j, x = .int i ∧ y = .int j ∧ C i j ∧ Q (g i j) H
def rI0 (g : Int → Int → V) : R2 := fun x y H Q => ∃ i j, x = .int i ∧ y = .int j ∧ Q (g i j) H
def rU (g : Int → V) : V → Hp → VK → Prop := fun x H Q => ∃ i, x = .int i ∧ Q (g i) H

section
variable {X : Cx} {a b c : Expr} {ta tb tc : TE} {pos : Pos}

theorem binT (ha : PE X a ta) (hb : PE X b tb) {pins : List (Addr × Obj)} {s : Shared} {σ : St} {H : Hp} {R : V → V → Hp → Prop} (I : Inv X pins σ H s)
    (h : ta σ H fun x H1 => tb σ H1 fun y H2 => R x y H2) {Q : Value → Shared → Prop} {f : Value → Value → Sem Value}
    (hf : ∀ v u s2 x y H2, Inv X pins σ H2 s2 → RelV x v → RelV y u → R x y H2 → wpAny (model X.prog X.w) X.A (f v u) Q X.xe s2) :
    wpAny (model X.prog X.w) X.A (eval a X.env) (fun v s₁ => wpAny (model X.prog X.w) X.A (eval b X.env) (fun u s₂ => wpAny (model X.prog X.w) X.A (f v u) Q X.xe s₂) X.xe s₁) X.xe s := by
  refine thn (ha pins s σ H _ I h) fun v s1 ⟨x, H1, I1, r1, q1⟩ => ?_
  refine thn (hb pins s1 σ H1 _ I1 q1) fun u s2 ⟨y, H2, I2, r2, q2⟩ => ?_
  exact hf v u s2 x y H2 I2 r1 r2 q2

theorem pe_op {op : Operator} {r : R2} (ho : OpR X (binaryOp op) r) (ha : PE X a ta) (hb : PE X b tb) : PE X (.BinOp a op b pos) (tOp r ta tb) := by
  intro pins s σ H Q I h
  exact wpAny_BinOp (binT ha hb I h fun v u s2 x y H2 I2 rx ry q => ho pins s2 σ H2 x y v u Q I2 rx ry q)
theorem pe_un {op : UnaryOp} {r : V → Hp → VK → Prop} (ho : UnR X (unaryOp op) r) (ha : PE X a ta) : PE X (.UnaryOp op a pos) (tUn r ta) := by
  intro pins s σ H Q I h
  exact UnaryOp_ (thn (ha pins s σ H _ I h) fun v s1 ⟨x, H1, I1, r1, q1⟩ => ho pins s1 σ H1 x v Q I1 r1 q1)
/-! ### ints -/
theorem opI {f : Value → Value → Sem Value} {C : Int → Int → Prop} {g : Int → Int → Int}
    (rule : ∀ (i j : Int) (t u : Tok) (s : Shared) (Q : Value → Shared → Prop) (E : Value → Shared → Prop), C i j → Q (.int (g i j) s.toks) { s with toks := s.toks + 1 } → wpAny (model X.prog X.w) X.A (f (.int i t) (.int j u)) Q E s) :
    OpR X f (rI C fun i j => .int (g i j)) := by
  intro pins s σ H x y v u Q I rx ry h
  obtain ⟨i, j, rfl, rfl, hc, q⟩ := h
  obtain ⟨t, rfl⟩ := rx
  obtain ⟨t', rfl⟩ := ry
  exact rule i j t t' s _ _ hc ⟨.int (g i j), H, I.tok _, ⟨_, rfl⟩, q⟩
theorem opI0 {f : Value → Value → Sem Value} {g : Int → Int → Int}
    (rule : ∀ (i j : Int) (t u : Tok) (s : Shared) (Q : Value → Shared → Prop) (E : Value → Shared → Prop), Q (.int (g i j) s.toks) { s with toks := s.toks + 1 } → wpAny (model X.prog X.w) X.A (f (.int i t) (.int j u)) Q E s) :
    OpR X f (rI0 fun i j => .int (g i j)) := by
  intro pins s σ H x y v u Q I rx ry h
  obtain ⟨i, j, rfl, rfl, q⟩ := h
  obtain ⟨t, rfl⟩ := rx
  obtain ⟨t', rfl⟩ := ry
  exact rule i j t t' s _ _ ⟨.int (g i j), H, I.tok _, ⟨_, rfl⟩, q⟩
theorem opB0 {f : Value → Value → Sem Value} {g : Int → Int → Bool}
    (rule : ∀ (i j : Int) (t u : Tok) (s : Shared) (Q : Value → Shared → Prop) (E : Value → Shared → Prop), Q (.bool (g i j)) s → wpAny (model X.prog X.w) X.A (f (.int i t) (.int j u)) Q E s) :
    OpR X f (rI0 fun i j => .bl (g i j)) := by
  intro pins s σ H x y v u Q I rx ry h
  obtain ⟨i, j, rfl, rfl, q⟩ := h
  obtain ⟨t, rfl⟩ := rx
  obtain ⟨t', rfl⟩ := ry
  exact rule i j t t' s _ _ ⟨.bl (g i j), H, I, rfl, q⟩

def CDiv (i j : Int) : Prop := 0 < j ∧ j < 1073741824
def CPow (i j : Int) : Prop := 0 ≤ j ∧ j ≤ 1000000 ∧ i.natAbs < 2 ^ 64
def CMul (i j : Int) : Prop := (-(2 ^ 64) < i ∧ i < 2 ^ 64) ∨ (-(2 ^ 64) < j ∧ j < 2 ^ 64)
theorem CMul.ok {i j : Int} (h : CMul i j) : IntMulOk i j := by
  rcases h with ⟨h1, h2⟩ | ⟨h1, h2⟩
  · exact .of_left (intBits_le_64 h1 h2)
  · exact .of_right (intBits_le_64 h1 h2)
theorem op_add : OpR X (binaryOp .Add) (rI0 fun i j => .int (i + j)) := opI0 fun _ _ _ _ _ _ _ q => add_int q
theorem op_sub : OpR X (binaryOp .Sub) (rI0 fun i j => .int (i - j)) := opI0 fun _ _ _ _ _ _ _ q => sub_int q
theorem op_mul : OpR X (binaryOp .Mult) (rI CMul fun i j => .int (i * j)) := opI fun _ _ _ _ _ _ _ hc q => mul_int q hc.ok
/-- // by a positive divisor -/
theorem op_fdiv : OpR X (binaryOp .FloorDiv) (rI CDiv fun i j => .int (i / j)) := opI fun i j _ _ _ _ _ hc q => by
  have h1 : (0 : Int) < j := hc.1
  have h2 : j < 1073741824 := hc.2
  exact floordiv_int (by omega) (by rw [Int.fdiv_eq_ediv_of_nonneg i (by omega)]; exact q) (.inl (PyProof.noPylong_small (by omega)))
/-- % by a positive divisor of any size -/
theorem op_mod : OpR X (binaryOp .Mod) (rI (fun _ j => 0 < j) fun i j => .int (i % j)) := opI fun i j _ _ _ _ _ hc q => by
  have h1 : (0 : Int) < j := hc
  exact mod_int' (by omega) (by rw [Int.fmod_eq_emod_of_nonneg i (by omega)]; exact q)
theorem op_shl : OpR X (binaryOp .LShift) (rI CPow fun i j => .int (i * 2 ^ j.toNat)) := opI fun _ _ _ _ _ _ _ hc q => lshift_int_small hc.1 hc.2.1 hc.2.2 q
theorem unI {f : Value → Sem Value} {g : Int → Int}
    (rule : ∀ (i : Int) (t : Tok) (s : Shared) (Q : Value → Shared → Prop) (E : Value → Shared → Prop), Q (.int (g i) s.toks) { s with toks := s.toks + 1 } → wpAny (model X.prog X.w) X.A (f (.int i t)) Q E s) :
    UnR X f (rU fun i => .int (g i)) := by
  intro pins s σ H x v Q I rx h
  obtain ⟨i, rfl, q⟩ := h
  obtain ⟨t, rfl⟩ := rx
  exact rule i t s _ _ ⟨.int (g i), H, I.tok _, ⟨_, rfl⟩, q⟩
theorem un_neg : UnR X (unaryOp .USub) (rU fun i => .int (-i)) := unI fun _ _ _ _ _ q => neg_int q
/-! ### bools among ints: n += (a < b) -/
end

/-! ### comparisons -/
/-- the scalars that == tells apart as data does -/
def scal : V → V → Bool
  | .non, .non => true | .non, .int _ => true | .int _, .non => true | .non, .bl _ => true | .bl _, .non => true | .non, .str _ => true | .str _, .non => true
  | .int _, .int _ => true | .bl _, .bl _ => true | .str _, .str _ => true | .byt _, .byt _ => true
  | .int _, .str _ => true | .str _, .int _ => true | .bl _, .str _ => true | .str _, .bl _ => true
  | _, _ => false
def rEq : R2 := fun x y H Q => scal x y = true ∧ Q (.bl (decide (x = y))) H
def rNe : R2 := fun x y H Q => scal x y = true ∧ Q (.bl (!decide (x = y))) H

theorem dec_int {i j : Int} : decide (V.int i = V.int j) = (i == j) := by
  rw [Bool.eq_iff_iff]
  simp
theorem dec_bl {i j : Bool} : decide (V.bl i = V.bl j) = (i == j) := by
  rw [Bool.eq_iff_iff]
  simp
theorem dec_str {i j : Str} : decide (V.str i = V.str j) = (i == j) := by
  rw [Bool.eq_iff_iff]
  simp
theorem dec_byt {i j : Array UInt8} : decide (V.byt i = V.byt j) = (i.toList == j.toList) := by
  rw [Bool.eq_iff_iff]
  cases i
  cases j
  simp

section
variable {X : Cx} {a b c : Expr} {ta tb tc : TE} {pos : Pos}
theorem fin_bl {pins : List (Addr × Obj)} {σ : St} {H : Hp} {s : Shared} {Q : VK} {k k' : Bool} (I : Inv X pins σ H s) (q : Q (.bl k) H) (e : k = k') : EP X pins σ Q (.bool k') s := by
  subst e
  exact ⟨.bl k, H, I, rfl, q⟩
theorem op_eq : OpR X (compareOp .Eq) rEq := by
  intro pins s σ H x y v u Q I rx ry h
  obtain ⟨hs, q⟩ := h
  cases x with
  | non =>
    cases rx
    cases y with
    | non => cases ry; exact PySem.EqNone.eq_none_none (fin_bl I q (by simp))
    | bl j => cases ry; exact PySem.EqNone.eq_none_bool (fin_bl I q (by simp))
    | int j => obtain ⟨t', rfl⟩ := ry; exact PySem.EqNone.eq_none_int (fin_bl I q (by simp))
    | str j => obtain ⟨t', rfl⟩ := ry; exact PySem.EqNone.eq_none_str (fin_bl I q (by simp))
    | _ => exact absurd (show false = true from hs) Bool.false_ne_true
  | bl i =>
    cases rx
    cases y with
    | non => cases ry; exact PySem.EqNone.eq_bool_none (fin_bl I q (by simp))
    | bl j => cases ry; exact eq_bool (fin_bl I q dec_bl)
    | str j => obtain ⟨t', rfl⟩ := ry; exact PySem.EqMixed.eq_bool_str (fin_bl I q (by simp))
    | _ => exact absurd (show false = true from hs) Bool.false_ne_true
  | int i =>
    obtain ⟨t, rfl⟩ := rx
    cases y with
    | non => cases ry; exact PySem.EqNone.eq_int_none (fin_bl I q (by simp))
    | int j => obtain ⟨t', rfl⟩ := ry; exact eq_int (fin_bl I q dec_int)
    | str j => obtain ⟨t', rfl⟩ := ry; exact PySem.EqMixed.eq_int_str (fin_bl I q (by simp))
    | _ => exact absurd (show false = true from hs) Bool.false_ne_true
  | str i =>
    obtain ⟨t, rfl⟩ := rx
    cases y with
    | non => cases ry; exact PySem.EqNone.eq_str_none (fin_bl I q (by simp))
    | bl j => cases ry; exact PySem.EqMixed.eq_str_bool (fin_bl I q (by simp))
    | int j => obtain ⟨t', rfl⟩ := ry; exact PySem.EqMixed.eq_str_int (fin_bl I q (by simp))
    | str j => obtain ⟨t', rfl⟩ := ry; exact eq_str (fin_bl I q dec_str)
    | _ => exact absurd (show false = true from hs) Bool.false_ne_true
  | byt i =>
    obtain ⟨t, rfl⟩ := rx
    cases y with
    | byt j => obtain ⟨t', rfl⟩ := ry; exact PySem.W.eq_bytes (fin_bl I q dec_byt)
    | _ => exact absurd (show false = true from hs) Bool.false_ne_true
  | _ => cases y <;> exact absurd (show false = true from hs) Bool.false_ne_true
theorem op_ne : OpR X (compareOp .NotEq) rNe := by
  intro pins s σ H x y v u Q I rx ry h
  obtain ⟨hs, q⟩ := h
  cases x with
  | non =>
    cases rx
    cases y with
    | non => cases ry; exact PySem.EqNone.ne_none_none (fin_bl I q (by simp))
    | bl j => cases ry; exact PySem.EqNone.ne_none_bool (fin_bl I q (by simp))
    | int j => obtain ⟨t', rfl⟩ := ry; exact PySem.EqNone.ne_none_int (fin_bl I q (by simp))
    | str j => obtain ⟨t', rfl⟩ := ry; exact PySem.EqNone.ne_none_str (fin_bl I q (by simp))
    | _ => exact absurd (show false = true from hs) Bool.false_ne_true
  | bl i =>
    cases rx
    cases y with
    | non => cases ry; exact PySem.EqNone.ne_bool_none (fin_bl I q (by simp))
    | bl j => cases ry; exact ne_bool (fin_bl I q (congrArg not dec_bl))
    | str j => obtain ⟨t', rfl⟩ := ry; exact PySem.EqMixed.ne_bool_str (fin_bl I q (by simp))
    | _ => exact absurd (show false = true from hs) Bool.false_ne_true
  | int i =>
    obtain ⟨t, rfl⟩ := rx
    cases y with
    | non => cases ry; exact PySem.EqNone.ne_int_none (fin_bl I q (by simp))
    | int j => obtain ⟨t', rfl⟩ := ry; exact ne_int (fin_bl I q (congrArg not dec_int))
    | str j => obtain ⟨t', rfl⟩ := ry; exact PySem.EqMixed.ne_int_str (fin_bl I q (by simp))
    | _ => exact absurd (show false = true from hs) Bool.false_ne_true
  | str i =>
    obtain ⟨t, rfl⟩ := rx
    cases y with
    | non => cases ry; exact PySem.EqNone.ne_str_none (fin_bl I q (by simp))
    | bl j => cases ry; exact PySem.EqMixed.ne_str_bool (fin_bl I q (by simp))
    | int j => obtain ⟨t', rfl⟩ := ry; exact PySem.EqMixed.ne_str_int (fin_bl I q (by simp))
    | str j => obtain ⟨t', rfl⟩ := ry; exact ne_str (fin_bl I q (congrArg not dec_str))
    | _ => exact absurd (show false = true from hs) Bool.false_ne_true
  | byt i =>
    obtain ⟨t, rfl⟩ := rx
    cases y with
    | byt j => obtain ⟨t', rfl⟩ := ry; exact PySem.W.ne_bytes (fin_bl I q (congrArg not dec_byt))
    | _ => exact absurd (show false = true from hs) Bool.false_ne_true
  | _ => cases y <;> exact absurd (show false = true from hs) Bool.false_ne_true

theorem op_lt : OpR X (compareOp .Lt) (rI0 fun i j => .bl (decide (i < j))) := opB0 fun _ _ _ _ _ _ _ q => lt_int q
theorem op_gt : OpR X (compareOp .Gt) (rI0 fun i j => .bl (decide (j < i))) := opB0 fun _ _ _ _ _ _ _ q => gt_int q
theorem op_ge : OpR X (compareOp .GtE) (rI0 fun i j => .bl (decide (j ≤ i))) := opB0 fun _ _ _ _ _ _ _ q => ge_int q
/-- is None, is not None: the right side a value none -/
theorem op_isN : OpR X (compareOp .Is) (fun x y H Q => y = .non ∧ Q (.bl (decide (x = .non))) H) := by
  intro pins s σ H x y v u Q I rx ry h
  obtain ⟨rfl, q⟩ := h
  cases ry
  refine is_none_gen (fin_bl I q ?_)
  cases x <;> first
    | (cases rx; rfl)
    | (obtain ⟨t, rfl⟩ := rx; rfl)
theorem op_notN : OpR X (compareOp .IsNot) (fun x y H Q => y = .non ∧ Q (.bl (!decide (x = .non))) H) := by
  intro pins s σ H x y v u Q I rx ry h
  obtain ⟨rfl, q⟩ := h
  cases ry
  refine isnot_none_gen (fin_bl I q ?_)
  cases x <;> first
    | (cases rx; rfl)
    | (obtain ⟨t, rfl⟩ := rx; rfl)

theorem nomark (b : Expr) {op : CmpOp} (h : op ≠ .In := by decide) (h2 : op ≠ .NotIn := by decide) : behindInMarks op b = false := by
  have e1 : (op == CmpOp.In) = false := by cases op <;> first | rfl | exact absurd rfl h
  have e2 : (op == CmpOp.NotIn) = false := by cases op <;> first | rfl | exact absurd rfl h2
  cases b <;> simp [behindInMarks, e1, e2]
/-- a comparison as a value; hm: nomark b, or (for in, not in) by with_unfolding_all rfl -/
theorem pe_cmpR {op : CmpOp} {r : R2} (ho : OpR X (compareOp op) r) (ha : PE X a ta) (hb : PE X b tb) (hm : behindInMarks op b = false) : PE X (.Compare a [op] [b] pos) (tOp r ta tb) := by
  intro pins s σ H Q I h
  exact wpAny_Compare1 (binT ha hb I h fun v u s2 x y H2 I2 rx ry q => ho pins s2 σ H2 x y v u Q I2 rx ry q) hm
/-- a reading of a value as a test -/
def tTest (t : TE) : TT := fun σ H Q => t σ H fun x H' => ∃ k, x = .bl k ∧ Q k H'
theorem pt_cmpR {op : CmpOp} {r : R2} (ho : OpR X (compareOp op) r) (ha : PE X a ta) (hb : PE X b tb) (hm : behindInMarks op b = false) : PT X (.Compare a [op] [b] pos) (tTest (tOp r ta tb)) := by
  intro pins s σ H Q I h
  refine wpAny_isTrue_Compare1 (thn (ha pins s σ H _ I h) fun v s1 ⟨x, H1, I1, r1, q1⟩ => thn (hb pins s1 σ H1 _ I1 q1) fun u s2 ⟨y, H2, I2, r2, q2⟩ =>
    thn (ho pins s2 σ H2 x y v u _ I2 r1 r2 q2) fun c s3 ⟨z, H3, I3, r3, k, e, q3⟩ => ?_) hm
  subst e
  cases r3
  exact wpAny_truthy_bool ⟨H3, I3, q3⟩
/-! ### truth -/
/-- a value's truth by the abstract heap -/
def TruV (K : PySem.W.Frag) (x : V) (H : Hp) (k : Bool) : Prop :=
  match x with
  | .non => k = false
  | .bl b => k = b
  | .int i => k = (i != 0)
  | .str y => y.length ≤ sizeLine ∧ k = ((y.length : Int) != 0)
  | .byt y => y.size ≤ sizeLine ∧ k = ((y.size : Int) != 0)
  | .ref p => (∃ xs, SqL K H p xs ∧ k = !xs.isEmpty) ∨ (∃ xs, SqT K H p xs ∧ k = !xs.isEmpty) ∨ ∃ kvs, H p = some (.dK kvs) ∧ k = !kvs.isEmpty
  | _ => False
theorem isEmpty_kv {κ : Type} {kvs : List (κ × V)} {vs : List (κ × Value)} (r : KV kvs vs) : (!vs.isEmpty) = !kvs.isEmpty := by
  cases r <;> rfl
theorem isEmpty_of {xs : List V} {its : List Value} (r : Vals xs its) : (!its.toArray.isEmpty) = !xs.isEmpty := by
  cases r <;> simp
theorem line63 : (sizeLine : Nat) < 2 ^ 63 := by rw [sizeLine_eq]; decide
theorem tru_ok : TruR X (fun x H Q => ∃ k, TruV X.K x H k ∧ Q k H) := by
  intro pins s σ H x v Q I rx h
  obtain ⟨k, e, q⟩ := h
  have hl := line63
  have hs : sizeLine = 16777216 := sizeLine_eq
  cases x with
  | non =>
    cases rx
    have e' : k = false := e
    subst e'
    exact truthy_none ⟨H, I, q⟩
  | bl b =>
    cases rx
    have e' : k = b := e
    subst e'
    exact wpAny_truthy_bool ⟨H, I, q⟩
  | int i =>
    obtain ⟨t, rfl⟩ := rx
    have e' : k = (i != 0) := e
    subst e'
    exact PySem.P.truthy_int ⟨H, I, q⟩
  | str y =>
    obtain ⟨t, rfl⟩ := rx
    obtain ⟨hy, e'⟩ : y.length ≤ sizeLine ∧ k = ((y.length : Int) != 0) := e
    subst e'
    exact PySem.P.truthy_str (by omega) ⟨H, I.tok _, q⟩
  | byt y =>
    obtain ⟨t, rfl⟩ := rx
    obtain ⟨hy, e'⟩ : y.size ≤ sizeLine ∧ k = ((y.size : Int) != 0) := e
    subst e'
    exact PySem.W.truthy_bytes (by omega) ⟨H, I.tok _, q⟩
  | ref p =>
    cases rx
    have e' : (∃ xs, SqL X.K H p xs ∧ k = !xs.isEmpty) ∨ (∃ xs, SqT X.K H p xs ∧ k = !xs.isEmpty) ∨ ∃ kvs, H p = some (.dK kvs) ∧ k = !kvs.isEmpty := e
    rcases e' with ⟨xs, hx, e'⟩ | ⟨xs, hx, e'⟩ | ⟨kvs, hx, e'⟩
    · subst e'
      obtain ⟨its, r, pl, hz⟩ := I.list hx
      have hlen := r.length
      exact wpAny_truthy_list pl.isList (by simp only [List.size_toArray]; omega) ⟨H, I.tok _, by rw [isEmpty_of r]; exact q⟩
    · subst e'
      obtain ⟨its, r, pl, hz⟩ := I.tuple hx
      have hlen := r.length
      exact truthy_tuple pl (by simp only [List.size_toArray]; omega) ⟨H, I.tok _, by rw [isEmpty_of r]; exact q⟩
    · subst e'
      obtain ⟨hz, hS, vs, r, m⟩ : kvs.length ≤ sizeLine ∧ (p == sysModules) = false ∧ ∃ vs, KV kvs vs ∧ s.heap.DictOf (mixKind X.prog X.w) p vs := I.hok p _ hx
      have hlen : kvs.length = vs.length := Paired.length r
      exact wpAny_truthy_dict hS m (by omega) ⟨H, I.tok _, by rw [isEmpty_kv r]; exact q⟩
  | _ => exact (show False from e).elim
/-- any expression whose test is its value's truth (a name, a call, a subscript, a field ..: he by fun _ => rfl) -/
theorem pt_truth (ha : PE X a ta) (he : ∀ whole, isTrue a X.env whole = (do let v ← whole; standAt a.pos; holding [v] (truthy v))) :
    PT X a (fun σ H Q => ta σ H fun x H' => ∃ k, TruV X.K x H' k ∧ Q k H') := by
  intro pins s σ H Q I h
  exact isTrue_plain (thn (ha pins s σ H _ I h) fun v s1 ⟨x, H1, I1, r1, q1⟩ => tru_ok pins s1 σ H1 x v Q I1 r1 q1) (he _)

/-! ### strs and bytes -/
/-! ### scalar builtins, by CallR -/
theorem vals1 {x : V} {us : List Value} (r : Vals [x] us) : ∃ u, us = [u] ∧ RelV x u := by
  cases r with
  | cons r1 r2 => cases r2; exact ⟨_, rfl, r1⟩
theorem vals2 {x y : V} {us : List Value} (r : Vals [x, y] us) : ∃ u w', us = [u, w'] ∧ RelV x u ∧ RelV y w' := by
  cases r with
  | cons r1 r2 =>
    cases r2 with
    | cons r3 r4 => cases r4; exact ⟨_, _, rfl, r1, r3⟩
theorem call_max2 (hc : X.calm = true) : CallR X (.builtin "max") (fun xs H Q => ∃ i j, xs = [.int i, .int j] ∧ Q (.int (if j > i then j else i)) H) := by
  intro pins s σ H xs us Q I r h
  obtain ⟨i, j, rfl, q⟩ := h
  obtain ⟨u, w', rfl, ⟨t, rfl⟩, ⟨t', rfl⟩⟩ := vals2 r
  refine max_two_ints (I.ok.hd hc) fun h' tk k => ⟨_, H, I.kept k, ?_, q⟩
  by_cases hj : j > i
  · rw [if_pos hj, if_pos hj]; exact ⟨_, rfl⟩
  · rw [if_neg hj, if_neg hj]; exact ⟨_, rfl⟩
theorem call_int1 : CallR X (.type "int") (fun xs H Q => (∃ i, xs = [.int i] ∧ Q (.int i) H) ∨ ∃ k, xs = [.bl k] ∧ Q (.int (if k then 1 else 0)) H) := by
  intro pins s σ H xs us Q I r h
  rcases h with ⟨i, rfl, q⟩ | ⟨k, rfl, q⟩
  · obtain ⟨u, rfl, t, rfl⟩ := vals1 r
    exact call_int_int ⟨.int i, H, I, ⟨_, rfl⟩, q⟩
  · obtain ⟨u, rfl, r1⟩ := vals1 r
    cases r1
    exact call_int_bool ⟨.int (if k then 1 else 0), H, I.tok _, ⟨_, rfl⟩, q⟩
end
end L2

namespace L2
open PySem PySem.Spec PyProof.Rows

/-! ### an instance, its attributes a map -/
structure ObjM (h : Heap) (x dx C : Addr) (mA : Str → Option Value) : Prop where
  obj : h.get? x = some (PySem.W.instObj C dx)
  ns : h.Ns1 dx mA
  ne : dx ≠ x

theorem lookIn_ns {h : Heap} {dx : Addr} {mA : Str → Option Value} (n : h.Ns1 dx mA) : ∃ od, h.get? dx = some od ∧ ∀ name, PySem.W.lookIn name od = some (mA name) := by
  obtain ⟨o, es, ep, ho, hd, hk, _, hm⟩ := n
  refine ⟨o, ho, fun name => ?_⟩
  have e := hm name
  unfold nsFind findBy at e
  rw [← Array.find?_toList] at e
  unfold PySem.W.lookIn
  rw [hd]
  dsimp only
  split
  · rename_i y q
    rw [q] at e
    exact congrArg some e
  · rename_i q
    rw [q] at e
    have a : es.toList.any (·.refKey) = false := by
      rw [List.any_eq_false]
      intro y hy
      obtain ⟨z, t, hkey⟩ := hk y (Array.mem_toList_iff.mp hy)
      simp [DictEntry.refKey, hkey]
    have a' : ¬ es.toList.any (·.refKey) = true := by rw [a]; exact Bool.false_ne_true
    rw [if_neg a']
    exact congrArg some e

theorem ObjM.look {h : Heap} {x dx C : Addr} {mA : Str → Option Value} (I : ObjM h x dx C mA) : ∃ od, PySem.W.InstAt h x (PySem.W.instObj C dx) C (some od) ∧ ∀ name, PySem.W.lookIn name od = some (mA name) :=
  let ⟨od, ho, hl⟩ := lookIn_ns I.ns
  ⟨od, ⟨I.obj, rfl, rfl, ho⟩, hl⟩

section
variable {prog : Program} {w : World} {A : Around} {E : Value → Shared → Prop} {s : Shared} {K : PySem.W.Frag} {x dx C f : Addr} {mA : Str → Option Value} {name : Str} {v : Value}

theorem get_map {expr : Bool} {Q : Value → Shared → Prop} (X : K.In s.heap) (I : ObjM s.heap x dx C mA) (hg : PySem.W.plainGet K C name = true) (hh : PySem.W.hasDictIn K C = true)
    (ha : PySem.W.findIn K (.ref C) name = some none) (hv : mA name = some v) (hv' : PySem.W.handedIn v = true) (h : Q v { s with toks := s.toks + 1 }) :
    wpAny (model prog w) A (getAttr (.ref x) name expr) Q E s := by
  obtain ⟨od, J, hl⟩ := I.look
  exact PySem.W.get_value X J (PySem.W.plainGet_of hg).1 (PySem.W.findObj_own hh ha rfl (by rw [hl, hv])) hv' h

theorem get_meth {pl : Sem Bool} {Q : Value × List Value → Shared → Prop} (X : K.In s.heap) (I : ObjM s.heap x dx C mA) (hg : PySem.W.plainGet K C name = true)
    (hf : PySem.W.findIn K (.ref C) name = some (some (.ref f))) (ht : PySem.W.isFn K (.ref f) = true) (hv : mA name = none) (h : Q (.ref f, [.ref x]) s) :
    wpAny (model prog w) A (getMethod (.ref x) name pl) Q E s := by
  obtain ⟨od, J, hl⟩ := I.look
  exact PySem.W.method_fn X J (PySem.W.plainGet_of hg).1 (PySem.W.plainGet_of hg).2 hf (beq_iff_eq.mp ht) (by show (PySem.W.lookIn name od).map (·.isSome) = some false; rw [hl, hv]; rfl) h

theorem set_map {ns : List Str} {Q : Unit → Shared → Prop} (X : K.In s.heap) (I : ObjM s.heap x dx C mA)
    (hs : PySem.W.findIn K (.ref C) "__setattr__" = some (some (.builtin "object.__setattr__"))) (hp : PySem.W.plainOver K C = true) (ht : PySem.W.takerIn K C name = some none) (hh : PySem.W.hasDictIn K C = true)
    (hw : PySem.Within mA ns) (hsz : ns.length ≤ sizeLine)
    (h : ∀ h', ObjM h' x dx C (fun y => if y = name then some v else mA y) → Heap.SameBut dx s.heap h' → Q () { s with heap := h', toks := s.toks + 2 }) :
    wpAny (model prog w) A (setAttr (.ref x) name v) Q E s := by
  obtain ⟨od, J, hl⟩ := I.look
  refine PySem.W.set_plain X J hs (PySem.W.osa_open (s := { s with toks := s.toks + 1 }) (r := none) X J hp ht fun b => ?_)
  obtain ⟨cd, hc, hd'⟩ := PySem.W.any_some hh
  have hx : s.heap.get? x = some ⟨.ref C, some dx, .plain, #[]⟩ := I.obj
  refine wpAny_bind (wpAny_pure (wpAny_bind (wpAny_bind (wpAny_loadPart hx (wpAny_bind (PySem.W.Looks.here (s := { s with toks := s.toks + 1 }) (PySem.W.looks_clsIn X hc) ?_))))))
  rw [hd']
  refine wpAny_pure (a := some dx) (wpAny_bind (wpAny_pure (wpAny_bind ?_)))
  refine wpAny_nsSet1 (s := { s with toks := s.toks + 1 }) I.ns fun h' hn2 hs2 => ?_
  obtain ⟨oD, esD, epD, hoD, hdD, hcD⟩ := hn2.count (PySem.Within.cons name v hw)
  refine wpAny_bind (wpAny_lookBehind hoD (by rw [hdD]; exact pastItsLine_dict (Nat.le_trans hcD (by rw [List.length_cons]; omega))) ?_)
  exact wpAny_pure (h _ ⟨(hs2.2 _ (Ne.symm I.ne)).trans I.obj, hn2, I.ne⟩ hs2)

/-- C(..): the dict at the heap's end, the instance behind it; then its __init__ -/
theorem make_map {R : Result → Shared → Prop} {vs : List Value} {kw : List (Str × Value)} (X : K.In s.heap) (hm : PySem.W.makesIn K C = true)
    (hi : PySem.W.findIn K (.ref C) "__init__" = some (some (.ref f))) (hf : PySem.W.typeIn K (.ref f) = some (.type "function"))
    (h : codeAny (model prog w) (A.under (.builtin "type.__call__" ⟨.ref C :: vs, kw⟩)) (.call (.ref f) ⟨.ref (s.heap.objs.size + 1) :: vs, kw⟩) (PySem.W.InitBack (s.heap.objs.size + 1) R)
      { s with heap := (s.heap.push PySem.W.emptyDict).push (PySem.W.instObj C s.heap.objs.size) }) :
    codeAny (model prog w) A (.call (.ref C) ⟨vs, kw⟩) R s := by
  obtain ⟨hh, g, d, t, os⟩ := s
  exact PySem.W.make_core (PySem.W.makes_of X hm) (PySem.W.looks_findIn X hi) (fun self => PySem.W.bind_fn X self hf) (.inl rfl) h
end

/-! ### the attributes as a list of pairs -/
def putF (f : Str) (v : V) : List (Str × V) → List (Str × V)
  | [] => [(f, v)]
  | (g, x) :: r => if g = f then (g, v) :: r else (g, x) :: putF f v r
theorem lookup_putF (f g : Str) (v : V) : ∀ fs : List (Str × V), (putF f v fs).lookup g = if g = f then some v else fs.lookup g
  | [] => by
    show List.lookup g [(f, v)] = _
    by_cases h : g = f
    · have hb : (g == f) = true := beq_iff_eq.mpr h
      simp only [List.lookup, hb, if_pos h]
    · have hb : (g == f) = false := beq_eq_false_iff_ne.mpr h
      simp only [List.lookup, hb, if_neg h]
  | (k, x) :: r => by
    have ih := lookup_putF f g v r
    rw [show putF f v ((k, x) :: r) = (if k = f then (k, v) :: r else (k, x) :: putF f v r) from rfl]
    by_cases hk : k = f
    · rw [if_pos hk]
      by_cases h : g = k
      · have hb : (g == k) = true := beq_iff_eq.mpr h
        simp only [List.lookup, hb, if_pos (h.trans hk)]
      · have hb : (g == k) = false := beq_eq_false_iff_ne.mpr h
        simp only [List.lookup, hb, if_neg (fun e : g = f => h (e.trans hk.symm))]
    · rw [if_neg hk]
      by_cases h : g = k
      · have hb : (g == k) = true := beq_iff_eq.mpr h
        simp only [List.lookup, hb, if_neg (fun e : g = f => hk (h.symm.trans e))]
      · have hb : (g == k) = false := beq_eq_false_iff_ne.mpr h
        simp only [List.lookup, hb]
        exact ih
theorem keys_putF (f : Str) (v : V) : ∀ fs : List (Str × V), f ∈ (putF f v fs).map (·.1) ∧ ∀ g, g ∈ fs.map (·.1) → g ∈ (putF f v fs).map (·.1)
  | [] => ⟨by simp [putF], fun g h => by simp at h⟩
  | (k, x) :: r => by
    obtain ⟨i1, i2⟩ := keys_putF f v r
    rw [show putF f v ((k, x) :: r) = (if k = f then (k, v) :: r else (k, x) :: putF f v r) from rfl]
    by_cases hk : k = f
    · rw [if_pos hk]
      subst hk
      exact ⟨by simp, fun g h => by simpa using h⟩
    · rw [if_neg hk]
      refine ⟨?_, fun g h => ?_⟩
      · rw [List.map_cons]
        exact List.mem_cons_of_mem _ i1
      · rw [List.map_cons] at h ⊢
        rcases List.mem_cons.mp h with e | e
        · exact List.mem_cons.mpr (.inl e)
        · exact List.mem_cons_of_mem _ (i2 g e)
theorem length_putF (f : Str) (v : V) : ∀ fs : List (Str × V), (putF f v fs).length ≤ fs.length + 1
  | [] => by simp [putF]
  | (k, x) :: r => by
    have ih := length_putF f v r
    rw [show putF f v ((k, x) :: r) = (if k = f then (k, v) :: r else (k, x) :: putF f v r) from rfl]
    by_cases hk : k = f
    · rw [if_pos hk, List.length_cons, List.length_cons]; omega
    · rw [if_neg hk, List.length_cons, List.length_cons]; omega

theorem RelO.some_of {v : V} {o : Option Value} (r : RelO (some v) o) : ∃ u, o = some u ∧ RelV v u := by
  cases o with
  | none => exact (show False from r).elim
  | some u => exact ⟨u, rfl, r⟩
theorem RelO.none_of {o : Option Value} (r : RelO none o) : o = none := by
  cases o with
  | none => rfl
  | some u => exact (show False from r).elim
theorem handed_of {v : V} {u : Value} (r : RelV v u) : PySem.W.handedIn u = true := by
  cases v with
  | non => cases (show u = Value.none from r); rfl
  | bl b => cases (show u = Value.bool b from r); rfl
  | int i => obtain ⟨t, e⟩ := (show ∃ t, u = Value.int i t from r); cases e; rfl
  | str x => obtain ⟨t, e⟩ := (show ∃ t, u = Value.str x t from r); cases e; rfl
  | byt b => obtain ⟨t, e⟩ := (show ∃ t, u = Value.bytes b t from r); cases e; rfl
  | flt b => obtain ⟨t, e⟩ := (show ∃ t, u = Value.float b t from r); cases e; rfl
  | ref a => cases (show u = Value.ref a from r); rfl
  | ty n => cases (show u = Value.type n from r); rfl

section
variable {P : Program} {w : World} {H H' : Hp} {h h' : Heap} {a C dx : Addr} {fs fs' : List (Str × V)}
theorem ins_get (hok : HOk P w H h) (e : H a = some (.ins C dx fs)) : ∃ mA, ObjM h a dx C mA ∧ (∀ f, RelO (fs.lookup f) (mA f)) ∧ PySem.Within mA (fs.map (·.1)) ∧ fs.length ≤ 1000 ∧ H dx = some (.own a) := by
  obtain ⟨d, z, ne, ob, mA, n, r, q⟩ := (show ObjOk P w H h a (.ins C dx fs) from hok a _ e)
  exact ⟨mA, ⟨ob, n, ne⟩, r, q, z, d⟩
end

/-! ### what of the text a class must have -/
structure Cls (K : PySem.W.Frag) (C : Addr) : Prop where
  pg : PySem.W.plainGet K C Str.empty = true
  hd : PySem.W.hasDictIn K C = true
  po : PySem.W.plainOver K C = true
  sa : PySem.W.findIn K (.ref C) "__setattr__" = some (some (.builtin "object.__setattr__"))
theorem Cls.get {K : PySem.W.Frag} {C : Addr} (c : Cls K C) (f : Str) : PySem.W.plainGet K C f = true := c.pg
/-- no class of it has the name -/
def NoAttr (K : PySem.W.Frag) (C : Addr) (f : Str) : Prop := PySem.W.findIn K (.ref C) f = some none
theorem NoAttr.taker {K : PySem.W.Frag} {C : Addr} {f : Str} (n : NoAttr K C f) : PySem.W.takerIn K C f = some none := by
  unfold PySem.W.takerIn
  rw [show PySem.W.findIn K (.ref C) f = some none from n]
  rfl
/-- a method: a plain def of the class or of one above it -/
structure Meth (K : PySem.W.Frag) (C : Addr) (m : Str) (f : Addr) : Prop where
  at_ : PySem.W.findIn K (.ref C) m = some (some (.ref f))
  fn : PySem.W.isFn K (.ref f) = true
  kp : PySem.W.keepIn K (.ref f) = true

section
variable {X : Cx} {pins : List (Addr × Obj)} {σ : St} {H : Hp} {s : Shared} {a C dx : Addr} {fs : List (Str × V)} {f : Str} {v : V} {A : Around} {E : Value → Shared → Prop}

theorem getattr_ok {b : Bool} {Q : Value → Shared → Prop} (I : Inv X pins σ H s) (e : H a = some (.ins C dx fs)) (c : Cls X.K C) (n : NoAttr X.K C f) (l : fs.lookup f = some v)
    (h : ∀ u s', Inv X pins σ H s' → RelV v u → Q u s') : wpAny (model X.prog X.w) A (getAttr (.ref a) f b) Q E s := by
  obtain ⟨mA, O, r, _, _, _⟩ := ins_get I.hok e
  obtain ⟨u, hu, ru⟩ := RelO.some_of (v := v) (o := mA f) (by rw [← l]; exact r f)
  exact get_map I.kIn O (c.get f) c.hd n hu (handed_of ru) (h u _ (I.tok _) ru)

theorem getmeth_ok {m : Str} {g : Addr} {pl : Sem Bool} {Q : Value × List Value → Shared → Prop} (I : Inv X pins σ H s) (e : H a = some (.ins C dx fs)) (c : Cls X.K C) (k : Meth X.K C m g) (l : fs.lookup m = none)
    (h : Q (.ref g, [.ref a]) s) : wpAny (model X.prog X.w) A (getMethod (.ref a) m pl) Q E s := by
  obtain ⟨mA, O, r, _, _, _⟩ := ins_get I.hok e
  have hn : mA m = none := RelO.none_of (by rw [← l]; exact r m)
  exact get_meth I.kIn O (c.get m) k.at_ k.fn hn h

theorem setattr_ok {y : V} {u : Value} {Q : Unit → Shared → Prop} (I : Inv X pins σ H s) (e : H a = some (.ins C dx fs)) (c : Cls X.K C) (n : NoAttr X.K C f) (hl : fs.length < 1000) (ry : RelV y u)
    (h : ∀ s', Inv X pins σ (upd H a (.ins C dx (putF f y fs))) s' → Q () s') : wpAny (model X.prog X.w) A (setAttr (.ref a) f u) Q E s := by
  obtain ⟨mA, O, r, wi, _, ho⟩ := ins_get I.hok e
  have hz : (fs.map (·.1)).length ≤ sizeLine := by rw [List.length_map, sizeLine_eq]; omega
  refine set_map I.kIn O c.sa c.po n.taker c.hd wi hz fun h' O' sb => h _ ?_
  have hd : ∃ o, h'.get? dx = some o := let ⟨o, _, _, e', _⟩ := O'.ns; ⟨o, e'⟩
  refine I.write (x := a) (e := dx) (by rw [e]; exact True.intro) (.inr ho) (fun b q hb z => (sb.2 b hb).trans z) hd ?_
  refine ⟨by rw [upd_ne O.ne]; exact ho, ?_, O.ne, O'.obj, _, O'.ns, fun g => ?_, fun g hg => ?_⟩
  · have := length_putF f y fs; omega
  · show RelO ((putF f y fs).lookup g) (if g = f then some u else mA g)
    rw [lookup_putF]
    by_cases q : g = f
    · rw [if_pos q, if_pos q]; exact ry
    · rw [if_neg q, if_neg q]; exact r g
  · by_cases q : g = f
    · rw [q]; exact (keys_putF f y fs).1
    · refine (keys_putF f y fs).2 g (wi g fun z => hg ?_)
      show (if g = f then some u else mA g) = none
      rw [if_neg q]; exact z

/-- a new instance, tracked, without attributes -/
theorem Inv.made (I : Inv X pins σ H s) : Inv X pins σ (upd (upd H s.heap.objs.size (.own (s.heap.objs.size + 1))) (s.heap.objs.size + 1) (.ins C s.heap.objs.size []))
    { s with heap := (s.heap.push PySem.W.emptyDict).push (PySem.W.instObj C s.heap.objs.size) } := by
  have e1 : (s.heap.push PySem.W.emptyDict).get? s.heap.objs.size = some PySem.W.emptyDict := Heap.get?_push_size s.heap rfl
  have e2 : ((s.heap.push PySem.W.emptyDict).push (PySem.W.instObj C s.heap.objs.size)).get? (s.heap.objs.size + 1) = some (PySem.W.instObj C s.heap.objs.size) := by
    have := Heap.get?_push_size (s.heap.push PySem.W.emptyDict) (o := PySem.W.instObj C s.heap.objs.size) rfl
    rwa [Heap.size_push] at this
  have e3 : (s.heap.push PySem.W.emptyDict).Ns s.heap.objs.size (fun _ => none) := ⟨PySem.W.emptyDict, #[], _, e1, rfl, (fun e he => absurd he (by simp)), fun _ => rfl⟩
  have I1 := I.laid (a := s.heap.objs.size) (o := .own (s.heap.objs.size + 1)) (h' := s.heap.push PySem.W.emptyDict) (t' := s.toks) (fun b u q => Heap.get?_push_of_some _ q) (Nat.le_refl _) ⟨_, e1⟩
  refine I1.laid (a := s.heap.objs.size + 1) (o := .ins C s.heap.objs.size []) (t' := s.toks) (fun b u q => Heap.get?_push_of_some _ q) (Nat.le_of_eq (Heap.size_push _ _)) ?_
  have ne : s.heap.objs.size ≠ s.heap.objs.size + 1 := Nat.ne_of_lt (Nat.lt_succ_self _)
  refine ⟨by rw [upd_ne ne, upd_same], Nat.zero_le _, ne, e2, fun _ => none, (Heap.Ns1.of_empty e3).at fun o q => Heap.get?_push_of_some _ q, fun _ => True.intro, fun y hy => absurd rfl hy⟩

/-- e.f where nothing but the object is asked: through attributeBase (super) and the last hold -/
theorem attr_of {prog : Program} {w : World} {env : Env} {e : Expr} {f : Str} {pos : Pos} {s : Shared} {Q : Value → Shared → Prop} (hb : attributeBase e f env (eval e env) = eval e env)
    (h : wpAny (model prog w) A (eval e env) (fun o s₁ => wpAny (model prog w) A (getAttr o f true) Q E s₁) E s) : wpAny (model prog w) A (eval (.Attribute e f pos) env) Q E s :=
  Attribute_any_ h (by rw [arm_eval_Attribute, hb])
end

/-! ### readings and rules -/
/-- e.f, an attribute of the instance -/
def tFld (K : PySem.W.Frag) (ta : TE) (f : Str) : TE := fun σ H Q => ta σ H fun x H1 => ∃ a C dx fs v, x = .ref a ∧ H1 a = some (.ins C dx fs) ∧ Cls K C ∧ NoAttr K C f ∧ fs.lookup f = some v ∧ Q v H1
/-- e.f = value -/
def sFld (K : PySem.W.Frag) (ta tv : TE) (f : Str) : TS := fun D σ H => tv σ H fun y H1 => ta σ H1 fun x H2 => ∃ a C dx fs, x = .ref a ∧ H2 a = some (.ins C dx fs) ∧ Cls K C ∧ NoAttr K C f ∧ fs.length < 1000 ∧
  D.nx σ (upd H2 a (.ins C dx (putF f y fs)))
section
variable {X : Cx} {o e value : Expr} {f : Str} {pos pos' tpos : Pos} {ta tv : TE}
theorem pe_fld (he : PE X e ta) (hb : attributeBase e f X.env (eval e X.env) = eval e X.env) : PE X (.Attribute e f pos) (tFld X.K ta f) := by
  intro pins s σ H Q I h
  refine attr_of hb (thn (he pins s σ H _ I h) fun u s1 ⟨x, H1, I1, rx, a, C, dx, fs, v, ex, ea, c, n, l, q⟩ => ?_)
  subst ex
  obtain rfl : u = Value.ref a := rx
  exact getattr_ok I1 ea c n l fun u' s2 I2 ru => ⟨v, H1, I2, ru, q⟩
theorem ps_fld (ha : PE X o ta) (hv : PE X value tv) (hs : swapsWith value (some (.Attribute o f pos')) pos.line X.env = pure false) : PS X (.Assign [.Attribute o f pos'] value pos) (sFld X.K ta tv f) := by
  intro pins s σ H D I h
  refine plainObj_wpAny_Assign_Attribute (thn (hv pins s σ H _ I h) fun u s1 ⟨y, H1, I1, ry, q⟩ => thn (ha pins s1 σ H1 _ I1 q) fun ov s2 ⟨x, H2, I2, rx, a, C, dx, fs, ex, ea, c, n, l, q2⟩ => ?_) hs
  subst ex
  obtain rfl : ov = Value.ref a := rx
  exact setattr_ok I2 ea c n l ry fun s3 I3 => ⟨σ, _, I3, q2⟩
end

/-! ### isinstance -/
section
variable {X : Cx} {pins : List (Addr × Obj)} {σ : St} {H : Hp} {s : Shared} {A : Around} {E : Value → Shared → Prop} {Q : Value → Shared → Prop} {c : Value} {b : Bool}
/-- the type of a value, as the fragment's deciders take it; for an instance its class -/
inductive TyOf (K : PySem.W.Frag) (H : Hp) : V → Value → Prop where
  | non : TyOf K H .non (.type "NoneType")
  | bl (x : Bool) : TyOf K H (.bl x) (.type "bool")
  | int (i : Int) : TyOf K H (.int i) (.type "int")
  | str (x : Str) : TyOf K H (.str x) (.type "str")
  | flt (x : UInt64) : TyOf K H (.flt x) (.type "float")
  | lst {a : Addr} {xs : List V} (e : H a = some (.lst xs)) : TyOf K H (.ref a) (.type "list")
  | frz {a : Addr} {o : Obj} {xs : List V} (e : H a = some (.frz o (.lst xs))) : TyOf K H (.ref a) (.type "list")
  | tup {a : Addr} {xs : List V} (e : H a = some (.tup xs)) : TyOf K H (.ref a) (.type "tuple")
  | dK {a : Addr} {kvs : List (Key × V)} (e : H a = some (.dK kvs)) : TyOf K H (.ref a) (.type "dict")
  | dT {a : Addr} {kvs : List (List Key × V)} (e : H a = some (.dT kvs)) : TyOf K H (.ref a) (.type "dict")
  | ins {a C dx : Addr} {fs : List (Str × V)} (e : H a = some (.ins C dx fs)) (cl : Cls K C) (ha : PySem.W.findIn K (.ref C) "__class__" = some (some (.builtin "object.__class__")))
      (hn : PySem.W.specialIn K (.builtin "object.__class__") "__get__" = some (some (.builtin "getset_descriptor.__get__"))) (htk : PySem.W.takesIn K (.builtin "object.__class__") = some true)
      (hm : PySem.W.mroIn K C (.type "object") = some true) : TyOf K H (.ref a) (.ref C)
/-- isinstance(x, c) for one class c, a built-in or an own one: kitOne's answer -/
theorem isinst_ok {x : V} {u t : Value} (I : Inv X pins σ H s) (rx : RelV x u) (ty : TyOf X.K H x t) (e : PySem.W.kitOne X.K t c = some b) (h : ∀ tk, Q (.bool b) { s with toks := tk }) :
    wpAny (model X.prog X.w) A (call (.builtin "isinstance") [u, c]) Q E s := by
  cases ty with
  | non => cases (show u = Value.none from rx); exact PySem.W.kia_one PySem.W.kitx_none I.kIn True.intro e (fun z => nomatch z) h
  | bl y => cases (show u = Value.bool y from rx); exact PySem.W.kia_one PySem.W.kitx_bool I.kIn True.intro e (fun z => nomatch z) h
  | int i => obtain ⟨t, q⟩ := (show ∃ t, u = Value.int i t from rx); cases q; exact PySem.W.kia_one PySem.W.kitx_int I.kIn True.intro e (fun z => nomatch z) h
  | str y => obtain ⟨t, q⟩ := (show ∃ t, u = Value.str y t from rx); cases q; exact PySem.W.kia_one PySem.W.kitx_str I.kIn True.intro e (fun z => nomatch z) h
  | flt y => obtain ⟨t, q⟩ := (show ∃ t, u = Value.float y t from rx); cases q; exact PySem.W.kia_one PySem.W.kitx_float I.kIn True.intro e (fun z => nomatch z) h
  | @lst a xs ea =>
    cases (show u = Value.ref a from rx)
    obtain ⟨_, _, n, _, h1⟩ := (show ObjOk X.prog X.w H s.heap a (.lst xs) from I.hok a _ ea)
    exact PySem.W.kia_one PySem.W.kitx_list I.kIn ⟨_, h1, rfl⟩ e (fun z => nomatch z) h
  | @frz a ob xs ea =>
    cases (show u = Value.ref a from rx)
    obtain ⟨_, _, _, n, _, h1⟩ := (show ObjOk X.prog X.w H s.heap a (.frz ob (.lst xs)) from I.hok a _ ea)
    exact PySem.W.kia_one PySem.W.kitx_list I.kIn ⟨_, h1, rfl⟩ e (fun z => nomatch z) h
  | @tup a xs ea =>
    cases (show u = Value.ref a from rx)
    obtain ⟨_, _, _, p⟩ := (show ObjOk X.prog X.w H s.heap a (.tup xs) from I.hok a _ ea)
    obtain ⟨o, h1, h2, _⟩ := p
    exact PySem.W.kia_one PySem.W.kitx_tuple I.kIn ⟨o, h1, h2⟩ e (fun z => nomatch z) h
  | @dK a kvs ea =>
    cases (show u = Value.ref a from rx)
    obtain ⟨_, _, vs, _, p⟩ := (show ObjOk X.prog X.w H s.heap a (.dK kvs) from I.hok a _ ea)
    obtain ⟨o, es, ep, h1, h2, _⟩ := p
    exact PySem.W.kia_one PySem.W.kitx_dict I.kIn ⟨o, h1, h2.1⟩ e (fun z => nomatch z) h
  | @dT a kvs ea =>
    cases (show u = Value.ref a from rx)
    obtain ⟨_, _, xs, _, o, es, ep, h1, h2, _⟩ := (show ObjOk X.prog X.w H s.heap a (.dT kvs) from I.hok a _ ea)
    exact PySem.W.kia_one PySem.W.kitx_dict I.kIn ⟨o, h1, h2.1⟩ e (fun z => nomatch z) h
  | @ins a C dx fs ea cl ha hn htk hm =>
    cases (show u = Value.ref a from rx)
    obtain ⟨mA, O, _⟩ := ins_get I.hok ea
    obtain ⟨od, J, _⟩ := O.look
    exact PySem.W.kia_one (PySem.W.kitx_own (cl.get _) cl.hd ha hn htk hm) I.kIn J e (fun z => nomatch z) h
end
end L2

namespace L2
open PySem PySem.Spec PyProof.Rows

/-! ### room -/
structure Room (k : Nat) (A : Around) : Prop where
  hd : A.handled = none
  dp : A.depth + 3 * k + 5 < recursionLimit
  un : A.units + 16 * k + 200 < cLine
theorem Room.mono {j k : Nat} {A : Around} (r : Room k A) (h : j ≤ k) : Room j A := ⟨r.hd, by have := r.dp; omega, by have := r.un; omega⟩
theorem Room.deeper {k : Nat} {A : Around} (r : Room (k + 1) A) (env : Env) : Room k (A.deeper env) :=
  ⟨r.hd, by have := r.dp; show A.depth + 1 + 3 * k + 5 < _; omega, by have := r.un; show A.units + 3 + 16 * k + 200 < _; omega⟩
theorem make_depth {A : Around} {C : Addr} {us : List Value} {kw : List (Str × Value)} : (A.under (.builtin "type.__call__" ⟨.ref C :: us, kw⟩)).depth = A.depth + 1 := by
  first | rfl | simp [Around.under, Code.weight, Code.isCreation, Code.isGuard, Code.isCaller, Code.frames, Code.isFrame, guardIds]
theorem make_units {A : Around} {C : Addr} {us : List Value} {kw : List (Str × Value)} : (A.under (.builtin "type.__call__" ⟨.ref C :: us, kw⟩)).units = A.units + 1 := by
  first | rfl | simp [Around.under, Code.cUnits, Code.frames, Code.isFrame]
theorem Room.make {k : Nat} {A : Around} (r : Room (k + 1) A) (C : Addr) (us : List Value) (kw : List (Str × Value)) : Room k (A.under (.builtin "type.__call__" ⟨.ref C :: us, kw⟩)) :=
  ⟨r.hd, by have := r.dp; rw [make_depth]; omega, by have := r.un; rw [make_units]; omega⟩
theorem Room.depth {k : Nat} {A : Around} (r : Room k A) : A.depth < recursionLimit := by have := r.dp; omega
theorem Room.units {k : Nat} {A : Around} (r : Room k A) : A.units + 64 < cLine := by have := r.un; omega
/-! ### argument lists and displays -/
def tNil : TA := fun _ H Q => Q [] H
def tCons (ta : TE) (tr : TA) : TA := fun σ H Q => ta σ H fun x H1 => tr σ H1 fun xs H2 => Q (x :: xs) H2
section
variable {X : Cx} {e : Expr} {es : List Expr} {te : TE} {t : TA} {pos : Pos}
theorem pa_nil : PA X [] tNil := fun _ _ _ _ H Q I h => Calls.spliced_nil ⟨[], H, I, .nil, h⟩
theorem pa_cons (ha : PE X e te) (hr : PA X es t) (hs : starEach (e :: es) X.env = (false, eval e X.env) :: starEach es X.env := by rfl) : PA X (e :: es) (tCons te t) := by
  intro pos pins s σ H Q I h
  rw [hs]
  show wpAny _ _ (spliced ((false, eval e X.env) :: backTo pos (starEach es X.env))) _ _ s
  refine Calls.spliced_cons (thn (ha pins s σ H _ I h) fun u s1 ⟨x, H1, I1, r1, q1⟩ => ?_)
  exact thn (hr pos pins s1 σ H1 _ I1 q1) fun us s2 ⟨xs, H2, I2, r2, q2⟩ => ⟨x :: xs, H2, I2, .cons r1 r2, q2⟩

/-- a tuple, a list of written items -/
def tTup (t : TA) : TE := fun σ H Q => t σ H fun xs H1 => xs.length ≤ sizeLine ∧ ∀ p, H1 p = none → Q (.ref p) (upd H1 p (.tup xs))
def tLst (t : TA) : TE := fun σ H Q => t σ H fun xs H1 => xs.length ≤ sizeLine ∧ ∀ p, H1 p = none → Q (.ref p) (upd H1 p (.lst xs))
theorem pe_tup {x1} (h : PA X es t) : PE X (.Tuple es x1 pos) (tTup t) := by
  intro pins s σ H Q I hq
  refine wpAny_Tuple_spliced (thn (h pos pins s σ H _ I hq) fun us s1 ⟨xs, H1, I1, r, z, q⟩ => ⟨by rw [← r.length]; exact z, ?_⟩)
  have hf : H1 s1.heap.objs.size = none := I1.hok.fresh (Nat.le_refl _)
  refine ⟨.ref s1.heap.objs.size, upd H1 s1.heap.objs.size (.tup xs), I1.laid (t' := s1.toks) (fun b u e => Heap.get?_push_of_some _ e) (Nat.le_refl _) ?_, rfl, q _ hf⟩
  exact ⟨z, us, r, ⟨_, Heap.get?_push_size _ rfl, rfl, _, rfl⟩⟩
theorem pe_lst (h : PA X es t) : PE X (.List es pos) (tLst t) := by
  intro pins s σ H Q I hq
  refine wpAny_List_spliced (thn (h pos pins s σ H _ I hq) fun us s1 ⟨xs, H1, I1, r, z, q⟩ => ⟨by rw [← r.length]; exact z, ?_⟩)
  have hf : H1 s1.heap.objs.size = none := I1.hok.fresh (Nat.le_refl _)
  refine ⟨.ref s1.heap.objs.size, upd H1 s1.heap.objs.size (.lst xs), I1.laid (t' := s1.toks) (fun b u e => Heap.get?_push_of_some _ e) (Nat.le_refl _) ?_, rfl, q _ hf⟩
  exact ⟨z, us, 0, r, Heap.get?_push_size _ rfl⟩
end

/-! ### what a def promises -/
/-- a def's promise: the bound arguments in the parameters' order, the heap, the wanted end, the wanted exception -/
abbrev Sp := List V → Hp → VK → XK → Prop
/-- how an exception lies behind a call (file 08 gives it): the callers' frames, abstract heap and state ahead of the call, the wish, the exception, the state -/
abbrev CXT := List Env → Hp → Shared → XK → Value → Shared → Prop

/-- the state at a call -/
structure Env0 (P : Program) (w : World) (K : PySem.W.Frag) (mg : Str → Option Value) (base : Heap) (A : Around) (outer : List Env) (s : Shared) (H : Hp) : Prop where
  frames : A.frames = some outer
  mod : Mod K mg base
  bs : ∀ b o, base.get? b = some o → s.heap.get? b = some o ∧ H b = none
  bsz : base.objs.size ≤ s.heap.objs.size
  funs : s.heap.FunFrames base outer
  frf : ∀ b ∈ frs outer, H b = none
  hok : HOk P w H s.heap
  bare : AllBare s.gens
/-- a call's end -/
def CE (outer : List Env) (P : Program) (w : World) (H : Hp) (s : Shared) (Q : VK) (u : Value) (s' : Shared) : Prop :=
  ∃ v H', s'.os = s.os ∧ AllBare s'.gens ∧ Un (frs outer) [] H H' s.heap s'.heap ∧ HOk P w H' s'.heap ∧ RelV v u ∧ Q v H'
def CR (CX : CXT) (outer : List Env) (P : Program) (w : World) (H : Hp) (s : Shared) (Q : VK) (E : XK) (r : Result) (s' : Shared) : Prop :=
  match r with
  | .ok (.ret u) => CE outer P w H s Q u s'
  | .ok _ => False
  | .error e => CX outer H s E e s'
structure FnOk (P : Program) (w : World) (K : PySem.W.Frag) (mg : Str → Option Value) (base : Heap) (CX : CXT) (k : Nat) (f : Addr) (fd : FuncData) (ps : List Str) (sp : Sp) : Prop where
  len : ∀ vs H Q E, sp vs H Q E → vs.length = ps.length
  run : ∀ (A : Around) (outer : List Env) (s : Shared) (H : Hp) (args : Args) (us : List Value) (vs : List V) (Q : VK) (E : XK), Room k A → Env0 P w K mg base A outer s H → BindsTo s fd args (ps.zip us) → Vals vs us → sp vs H Q E →
    codeAny (model P w) A (.call (.ref f) args) (CR CX outer P w H s Q E) s
theorem FnOk.mono {P : Program} {w : World} {K : PySem.W.Frag} {mg : Str → Option Value} {base : Heap} {CX : CXT} {j k : Nat} {f : Addr} {fd : FuncData} {ps : List Str} {sp : Sp} (F : FnOk P w K mg base CX j f fd ps sp) (h : j ≤ k) :
    FnOk P w K mg base CX k f fd ps sp := ⟨F.len, fun A outer s H args us vs Q E hr => F.run A outer s H args us vs Q E (hr.mono h)⟩
/-- a weaker promise -/
theorem FnOk.imp {P : Program} {w : World} {K : PySem.W.Frag} {mg : Str → Option Value} {base : Heap} {CX : CXT} {k : Nat} {f : Addr} {fd : FuncData} {ps : List Str} {sp sp' : Sp} (F : FnOk P w K mg base CX k f fd ps sp)
    (h : ∀ vs H Q E, sp' vs H Q E → sp vs H Q E) : FnOk P w K mg base CX k f fd ps sp' :=
  ⟨fun vs H Q E q => F.len vs H Q E (h _ _ _ _ q), fun A outer s H args us vs Q E hr he hb hv hs => F.run A outer s H args us vs Q E hr he hb hv (h _ _ _ _ hs)⟩

theorem Env0.make {P : Program} {w : World} {K : PySem.W.Frag} {mg : Str → Option Value} {base : Heap} {A : Around} {outer : List Env} {s : Shared} {H : Hp} (e : Env0 P w K mg base A outer s H) (C : Addr) (us : List Value) (kw : List (Str × Value)) :
    Env0 P w K mg base (A.under (.builtin "type.__call__" ⟨.ref C :: us, kw⟩)) outer s H := ⟨by first | exact e.frames | (simpa [Around.under, Code.envs, Code.isFrame, pushEnvs] using e.frames), e.mod, e.bs, e.bsz, e.funs, e.frf, e.hok, e.bare⟩
section
variable {X : Cx} {pins : List (Addr × Obj)} {σ : St} {H : Hp} {s s' : Shared}
/-- from a body: what a callee wants -/
theorem Inv.env0 (I : Inv X pins σ H s) : Env0 X.prog X.w X.K X.mg X.base X.A X.stack s H :=
  ⟨I.ok.frames, I.ok.mod, I.bs, Nat.le_trans I.ok.bsz I.sz, I.stack, I.stkFree, I.hok, I.bare⟩
/-- behind a call -/
theorem Inv.after {Q : VK} {u : Value} (I : Inv X pins σ H s) (h : CE X.stack X.prog X.w H s Q u s') : EP X pins σ Q u s' := by
  obtain ⟨v, H', os, bare, un, hok, r, q⟩ := h
  obtain ⟨hh, g, d, t, os'⟩ := s'
  obtain rfl : os' = s.os := os
  exact ⟨v, H', I.call (h' := hh) (g' := g) (d' := d) (t' := t) (ch := []) un hok bare (fun b z => absurd z (by simp)), r, q⟩
end

/-! ### calls -/
/-- f(..): the written arguments, then the defaults dvs; E: what is wanted of an exception -/
def tCall (sp : Sp) (dvs : List V) (E : XK) (t : TA) : TE := fun σ H Q => t σ H fun vs H1 => sp (vs ++ dvs) H1 Q E
/-- o.m(..) of an instance of the class at C -/
def tMeth (C : Addr) (m : Str) (sp : Sp) (dvs : List V) (E : XK) (ta : TE) (t : TA) : TE := fun σ H Q => ta σ H fun x H1 => ∃ a dx fs, x = .ref a ∧ H1 a = some (.ins C dx fs) ∧ fs.lookup m = none ∧
  t σ H1 fun vs H2 => sp (x :: (vs ++ dvs)) H2 Q E
/-- C(..): a new instance and its dict, then __init__ -/
def tMake (C : Addr) (sp : Sp) (dvs : List V) (E : XK) (t : TA) : TE := fun σ H Q => t σ H fun vs H1 => ∀ x dx, H1 x = none → H1 dx = none → dx ≠ x →
  sp (.ref x :: (vs ++ dvs)) (upd (upd H1 dx (.own x)) x (.ins C dx [])) (fun v H2 => v = .non ∧ Q (.ref x) H2) E

/-- how the parameters are bound: us the positional arguments, kw the keywords' values by name, ds the defaults that fill up -/
def Binds (K : PySem.W.Frag) (fd : FuncData) (ps : List Str) (ds : List Value) : Prop :=
  ∀ (s : Shared) (us : List Value), K.In s.heap → (us ++ ds).length = ps.length → BindsTo s fd ⟨us, []⟩ (ps.zip (us ++ ds))
/-- every parameter is given -/
theorem Binds.all {K : PySem.W.Frag} {fd : FuncData} {ps : List Str} (h : ∀ us : List Value, us.length = ps.length → bindArgs fd ⟨us, []⟩ = pure (ps.zip us)) : Binds K fd ps [] := fun s us _ hl => by
  rw [List.append_nil] at hl ⊢
  exact .of_eq (h us hl)

/-- an exception of a callee reaches what this body wants of exceptions -/
def Passes (CX : CXT) (X : Cx) (E : XK) : Prop := ∀ (pins : List (Addr × Obj)) (σ : St) (H : Hp) (s : Shared) (e : Value) (s' : Shared), Inv X pins σ H s → CX X.stack H s E e s' → X.xe e s'

section
variable {X : Cx} {CX : CXT} {k : Nat} {f C : Addr} {fd : FuncData} {ps : List Str} {sp : Sp} {dvs : List V} {ds : List Value} {E : XK} {x m : Str} {p pos apos : Pos} {e o : Expr} {es : List Expr} {ta : TE} {t : TA}

/-- the callee runs -/
theorem run_fn {pins : List (Addr × Obj)} {σ : St} {H : Hp} {s : Shared} {Q : VK} {us : List Value} {vs : List V} (F : FnOk X.prog X.w X.K X.mg X.base CX k f fd ps sp) (hr : Room k X.A) (hb : Binds X.K fd ps ds) (hd : Vals dvs ds) (hx : Passes CX X E)
    (I : Inv X pins σ H s) (r : Vals vs us) (h : sp (vs ++ dvs) H Q E) : wpAny (model X.prog X.w) X.A (call (.ref f) us) (EP X pins σ Q) X.xe s := by
  have r2 : Vals (vs ++ dvs) (us ++ ds) := r.append hd
  have hl : (us ++ ds).length = ps.length := by rw [← r2.length]; exact F.len _ _ _ _ h
  refine wpAny_call (codeAny_mono (F.run X.A X.stack s H ⟨us, []⟩ (us ++ ds) (vs ++ dvs) Q E hr I.env0 (hb s us I.kIn hl) r2 h) fun r s' hq => ?_)
  cases r with
  | error e => exact hx pins σ H s e s' I hq
  | ok fl =>
    cases fl with
    | ret u => exact I.after hq
    | next => exact False.elim hq
    | brk => exact False.elim hq
    | cont => exact False.elim hq

theorem pe_call (F : FnOk X.prog X.w X.K X.mg X.base CX k f fd ps sp) (hr : Room k X.A) (hg : Gl X x) (hm : X.mg x = some (.ref f)) (hk : PySem.W.keepIn X.K (.ref f) = true) (hb : Binds X.K fd ps ds) (hd : Vals dvs ds) (hx : Passes CX X E)
    (ha : PA X (e :: es) t) (hdb : (x == ("__debug__" : Str)) = false := by decide) (he : starEach (e :: es) X.env = (false, eval e X.env) :: starEach es X.env := by rfl) (hpl : (backTo pos (starEach es X.env)).any (·.1) = false := by rfl) :
    PE X (.Call (.Name x p) (e :: es) [] pos) (tCall sp dvs E t) := by
  intro pins s σ H Q I h
  refine wpAny_Call_Name_kw (ld_glob I hg hm ?_ hdb)
  refine PySem.W.callWith_K (h₀ := X.base) I.ok.mod.kin hk (thn (ha pos pins s σ H _ I h) fun us s1 ⟨vs, H1, I1, r, q⟩ => ⟨I1.kIn, ?_⟩) he hpl
  exact run_fn F hr hb hd hx I1 r q
/-- o.m(e, ..) -/
theorem pe_meth {pl : Sem Bool} (he : PE X o ta) (c : Cls X.K C) (hm : Meth X.K C m f) (F : FnOk X.prog X.w X.K X.mg X.base CX k f fd ps sp) (hr : Room k X.A) (hb : Binds X.K fd ps ds) (hd : Vals dvs ds) (hx : Passes CX X E) (ha : PA X (e :: es) t)
    (hst : starEach (e :: es) X.env = (false, eval e X.env) :: starEach es X.env := by rfl) (hpl : (backTo pos (starEach es X.env)).any (·.1) = false := by rfl)
    (ht : eval (.Call (.Attribute o m apos) (e :: es) [] pos) X.env = (do
      let ov ← eval o X.env
      standAt apos.atName
      let (f, first) ← holding [ov] (getMethod ov m pl)
      callWith pos f first (backTo pos (starEach (e :: es) X.env)) (backToKw pos (keywordEach [] X.env))) := by rfl) :
    PE X (.Call (.Attribute o m apos) (e :: es) [] pos) (tMeth C m sp dvs E ta t) := by
  intro pins s σ H Q I h
  refine PySem.W.methodCall_KW (pl := pl) (thn (he pins s σ H _ I h) fun u s1 ⟨x, H1, I1, rx, a, dx, fs, ex, ea, l, q⟩ => ?_) ht
  subst ex
  obtain rfl : u = Value.ref a := rx
  refine getmeth_ok I1 ea c hm l ?_
  refine PySem.W.callWith_K (first := [.ref a]) (h₀ := X.base) I.ok.mod.kin hm.kp (thn (ha pos pins s1 σ H1 _ I1 q) fun us s2 ⟨vs, H2, I2, r, q2⟩ => ⟨I2.kIn, ?_⟩) hst hpl
  exact run_fn (us := .ref a :: us) (vs := .ref a :: vs) F hr hb hd hx I2 (.cons rfl r) q2
/-- o.m() -/
theorem pe_meth0 {pl : Sem Bool} (he : PE X o ta) (c : Cls X.K C) (hm : Meth X.K C m f) (F : FnOk X.prog X.w X.K X.mg X.base CX k f fd ps sp) (hr : Room k X.A) (hb : Binds X.K fd ps ds) (hd : Vals dvs ds) (hx : Passes CX X E)
    (ht : eval (.Call (.Attribute o m apos) [] [] pos) X.env = (do
      let ov ← eval o X.env
      standAt apos.atName
      let (f, first) ← holding [ov] (getMethod ov m pl)
      callWith pos f first (backTo pos (starEach [] X.env)) (backToKw pos (keywordEach [] X.env))) := by rfl) :
    PE X (.Call (.Attribute o m apos) [] [] pos) (tMeth C m sp dvs E ta tNil) := by
  intro pins s σ H Q I h
  refine PySem.W.methodCall_KW (pl := pl) (thn (he pins s σ H _ I h) fun u s1 ⟨x, H1, I1, rx, a, dx, fs, ex, ea, l, q⟩ => ?_) ht
  subst ex
  obtain rfl : u = Value.ref a := rx
  refine getmeth_ok I1 ea c hm l ?_
  exact PySem.W.callWith_K0 (first := [.ref a]) I1.kIn hm.kp (run_fn (us := [.ref a]) (vs := [.ref a]) F hr hb hd hx I1 (.cons rfl .nil) q)

/-- what a class must have to be made -/
structure Mk (K : PySem.W.Frag) (C f : Addr) : Prop where
  makes : PySem.W.makesIn K C = true
  init : PySem.W.findIn K (.ref C) "__init__" = some (some (.ref f))
  fn : PySem.W.isFn K (.ref f) = true
  kp : PySem.W.keepIn K (.ref C) = true

theorem run_make {pins : List (Addr × Obj)} {σ : St} {H : Hp} {s : Shared} {Q : VK} {us : List Value} {vs : List V} (M : Mk X.K C f) (F : FnOk X.prog X.w X.K X.mg X.base CX k f fd ps sp) (hr : Room (k + 1) X.A) (hb : Binds X.K fd ps ds) (hd : Vals dvs ds)
    (hx : Passes CX X E) (I : Inv X pins σ H s) (r : Vals vs us)
    (h : ∀ x dx, H x = none → H dx = none → dx ≠ x → sp (.ref x :: (vs ++ dvs)) (upd (upd H dx (.own x)) x (.ins C dx [])) (fun v H2 => v = .non ∧ Q (.ref x) H2) E) :
    wpAny (model X.prog X.w) X.A (call (.ref C) us) (EP X pins σ Q) X.xe s := by
  have hq := h (s.heap.objs.size + 1) s.heap.objs.size (I.hok.fresh (Nat.le_succ _)) (I.hok.fresh (Nat.le_refl _)) (Nat.ne_of_lt (Nat.lt_succ_self _))
  have I2 := Inv.made (C := C) I
  have r2 : Vals (V.ref (s.heap.objs.size + 1) :: (vs ++ dvs)) (Value.ref (s.heap.objs.size + 1) :: (us ++ ds)) := .cons rfl (r.append hd)
  have hl : (Value.ref (s.heap.objs.size + 1) :: us ++ ds).length = ps.length := by
    have e := r2.length
    rw [F.len _ _ _ _ hq] at e
    exact e.symm
  refine wpAny_call (make_map (f := f) I.kIn M.makes M.init (beq_iff_eq.mp M.fn) (codeAny_mono (F.run _ X.stack _ _ ⟨Value.ref (s.heap.objs.size + 1) :: us, []⟩ (Value.ref (s.heap.objs.size + 1) :: (us ++ ds)) _ _ E (hr.make C us [])
    (I2.env0.make C us []) (hb _ (Value.ref (s.heap.objs.size + 1) :: us) I2.kIn hl) r2 hq) fun r s' hq' => ?_))
  cases r with
  | error e => exact hx pins σ _ _ e s' I2 hq'
  | ok fl =>
    cases fl with
    | ret u =>
      obtain ⟨v, H', I3, rv, ev, q3⟩ := I2.after hq'
      subst ev
      exact ⟨rv, ⟨V.ref (s.heap.objs.size + 1), H', I3, rfl, q3⟩⟩
    | next => exact False.elim hq'
    | brk => exact False.elim hq'
    | cont => exact False.elim hq'
theorem pe_make (M : Mk X.K C f) (F : FnOk X.prog X.w X.K X.mg X.base CX k f fd ps sp) (hr : Room (k + 1) X.A) (hg : Gl X x) (hm : X.mg x = some (.ref C)) (hb : Binds X.K fd ps ds) (hd : Vals dvs ds) (hx : Passes CX X E)
    (ha : PA X (e :: es) t) (hdb : (x == ("__debug__" : Str)) = false := by decide) (he : starEach (e :: es) X.env = (false, eval e X.env) :: starEach es X.env := by rfl) (hpl : (backTo pos (starEach es X.env)).any (·.1) = false := by rfl) :
    PE X (.Call (.Name x p) (e :: es) [] pos) (tMake C sp dvs E t) := by
  intro pins s σ H Q I h
  refine wpAny_Call_Name_kw (ld_glob I hg hm ?_ hdb)
  refine PySem.W.callWith_K (h₀ := X.base) I.ok.mod.kin M.kp (thn (ha pos pins s σ H _ I h) fun us s1 ⟨vs, H1, I1, r, q⟩ => ⟨I1.kIn, ?_⟩) he hpl
  exact run_make M F hr hb hd hx I1 r q
end

/-! ### keywords -/
/-- the values of the keywords, from the left -/
def PK (X : Cx) (kws : List Keyword) (t : TA) : Prop :=
  ∀ (pos : Pos) (pins : List (Addr × Obj)) (s : Shared) (σ : St) (H : Hp) (Q : List V → Hp → Prop), Inv X pins σ H s → t σ H Q → wpAny (model X.prog X.w) X.A (evalAll ((backToKw pos (keywordEach kws X.env)).map (·.2))) (AP X pins σ Q) X.xe s
section
variable {X : Cx} {CX : CXT} {k : Nat} {f C : Addr} {fd : FuncData} {ps ks : List Str} {sp : Sp} {E : XK} {x m : Str} {p pos apos kpos : Pos} {e o : Expr} {es : List Expr} {kws : List Keyword} {te ta : TE} {t tk : TA} {nm : Option Str}
theorem pk_nil : PK X [] tNil := fun _ _ _ _ H Q I h => wpAny_evalAll_nil ⟨[], H, I, .nil, h⟩
theorem pk_cons (ha : PE X e te) (hr : PK X kws t) : PK X (⟨nm, e, kpos⟩ :: kws) (tCons te t) := by
  intro pos pins s σ H Q I h
  show wpAny _ _ (evalAll ((do let v ← eval e X.env; standAt pos; pure v) :: (backToKw pos (keywordEach kws X.env)).map (·.2))) _ _ s
  refine wpAny_evalAll_cons (wpAny_bind (thn (ha pins s σ H _ I h) fun u s1 ⟨x, H1, I1, r1, q1⟩ => wpAny_bind (wpAny_standAt (wpAny_pure ?_))))
  exact thn (hr pos pins s1 σ H1 _ I1 q1) fun us s2 ⟨xs, H2, I2, r2, q2⟩ => ⟨x :: xs, H2, I2, .cons r1 r2, q2⟩

variable {g : List Value → List Value → List Value} {gV : List V → List V → List V}
end

/-! ### a def's body keeps its promise -/
/-- names: the parameters first -/
structure FnScope (N P : List Str) (sc : Scope) : Prop where
  kind : sc.kind = .function
  co : sc.isCoroutine = false
  gen : sc.isGenerator = false
  nd : N.Nodup
  pre : N.take P.length = P
  par : ∀ x ∈ P, sc.names.lookup x = some .local ∨ sc.names.lookup x = some .cell
  nofree : ∀ y ∈ sc.names, y.2 ≠ .free

theorem bindL_out {kindOf : Str → Option NameKind} {x : Str} : ∀ {binds : List (Str × Value)} {m : Str → Option Value}, (∀ v, (x, v) ∉ binds) → bindL kindOf binds m x = m x
  | [], _, _ => rfl
  | (n, v) :: r, m, h => by
    unfold bindL
    rw [bindL_out fun w hw => h w (List.mem_cons_of_mem _ hw)]
    split
    · have : x ≠ n := by rintro rfl; exact h v List.mem_cons_self
      simp [this]
    · rfl
theorem bindC_out {kindOf : Str → Option NameKind} {x : Str} : ∀ {binds : List (Str × Value)} {m : Str → Option Value}, (∀ v, (x, v) ∉ binds) → bindC kindOf binds m x = m x
  | [], _, _ => rfl
  | (n, v) :: r, m, h => by
    unfold bindC
    rw [bindC_out fun w hw => h w (List.mem_cons_of_mem _ hw)]
    split
    · rfl
    · have : x ≠ n := by rintro rfl; exact h v List.mem_cons_self
      simp [this]
theorem bindL_get {kindOf : Str → Option NameKind} {x : Str} {v : Value} : ∀ {P : List Str} {vs : List Value} {i : Nat} {m : Str → Option Value}, P.Nodup → P[i]? = some x → vs[i]? = some v → kindOf x = some .local →
    bindL kindOf (P.zip vs) m x = some v
  | [], _, _, _, _, h, _, _ => by simp at h
  | _ :: _, [], _, _, _, _, h, _ => by simp at h
  | p :: P, w :: vs, 0, m, nd, h1, h2, hk => by
    simp at h1 h2; subst h1; subst h2
    show bindL kindOf ((p, w) :: P.zip vs) m p = _
    unfold bindL
    rw [bindL_out fun v hv => (List.nodup_cons.mp nd).1 (List.of_mem_zip hv).1, if_pos hk]
    simp
  | p :: P, w :: vs, i + 1, m, nd, h1, h2, hk => by
    show bindL kindOf ((p, w) :: P.zip vs) m x = _
    unfold bindL
    exact bindL_get (i := i) (List.nodup_cons.mp nd).2 (by simpa using h1) (by simpa using h2) hk
theorem bindC_get {kindOf : Str → Option NameKind} {x : Str} {v : Value} : ∀ {P : List Str} {vs : List Value} {i : Nat} {m : Str → Option Value}, P.Nodup → P[i]? = some x → vs[i]? = some v → kindOf x ≠ some .local →
    bindC kindOf (P.zip vs) m x = some v
  | [], _, _, _, _, h, _, _ => by simp at h
  | _ :: _, [], _, _, _, _, h, _ => by simp at h
  | p :: P, w :: vs, 0, m, nd, h1, h2, hk => by
    simp at h1 h2; subst h1; subst h2
    show bindC kindOf ((p, w) :: P.zip vs) m p = _
    unfold bindC
    rw [bindC_out fun v hv => (List.nodup_cons.mp nd).1 (List.of_mem_zip hv).1, if_neg hk]
    simp
  | p :: P, w :: vs, i + 1, m, nd, h1, h2, hk => by
    show bindC kindOf ((p, w) :: P.zip vs) m x = _
    unfold bindC
    exact bindC_get (i := i) (List.nodup_cons.mp nd).2 (by simpa using h1) (by simpa using h2) hk

/-- the names' values at the entry -/
def start (N : List Str) (vs : List V) : St := vs.map some ++ List.replicate (N.length - vs.length) none

/-- the context of a def's body, at its entry; an exception leaves the frame, then lies as CX says -/
def cxOf (CX : CXT) (P : Program) (w : World) (K : PySem.W.Frag) (mg : Str → Option Value) (base : Heap) (N : List Str) (qual : Str) (scope : Scope) (f : Addr) (cd : Value) (A : Around) (outer : List Env) (s : Shared) (H : Hp) (E : XK) : Cx where
  prog := P
  w := w
  K := K
  mg := mg
  base := base
  A := A.deeper (envOfC qual scope s.heap.objs.size f cd)
  N := N
  s₀ := s
  H₀ := H
  env := envOfC qual scope s.heap.objs.size f cd
  outer := outer
  stack := envOfC qual scope s.heap.objs.size f cd :: outer
  ex := []
  calm := true
  fn := fun _ => true
  pn := []
  xe := fun e s' => wpAny (model P w) (A.deeper (envOfC qual scope s.heap.objs.size f cd)) (leaving (envOfC qual scope s.heap.objs.size f cd) e) (fun _ s'' => CX outer H s E e s'') (fun e' s'' => CX outer H s E e' s'') s'

theorem cell_has {sc : Scope} {n : Nat} {x : Str} (h : sc.names.lookup x = some .cell) : ∃ c, (cellsFrom n sc.names []).lookup x = some c := by
  have q := PySem.W.cellsFrom_some sc.names n [] (.inl h)
  exact Option.isSome_iff_exists.mp q

theorem inv_start {CX : CXT} {P : Program} {w : World} {K : PySem.W.Frag} {mg : Str → Option Value} {base : Heap} {N ps : List Str} {qual : Str} {scope : Scope} {f : Addr} {cd : Value} {A : Around} {outer : List Env} {s s1 : Shared} {H : Hp} {E : XK} {us : List Value} {vs : List V}
    (S : FnScope N ps scope) (hd : A.handled = none) (e0 : Env0 P w K mg base A outer s H) (hl : vs.length = ps.length) (r : Vals vs us)
    (x : InCallC s s.heap.objs.size (bindL (envOfC qual scope s.heap.objs.size f cd).kindOf (ps.zip us) fun _ => none) (cellsFrom (s.heap.objs.size + 1) scope.names []) (bindC (envOfC qual scope s.heap.objs.size f cd).kindOf (ps.zip us) fun _ => none) s1) :
    Inv (cxOf CX P w K mg base N qual scope f cd A outer s H E) [] (start N vs) H s1 := by
  have hpl : ps.length ≤ N.length := by have := congrArg List.length S.pre; rw [List.length_take] at this; omega
  obtain ⟨h1, tk, rfl, hk⟩ := x.done
  have noA : ∀ b : Addr, b ∉ (cxOf CX P w K mg base N qual scope f cd A outer s H E).ex := fun b z => absurd (show b ∈ ([] : List Addr) from z) (by simp)
  refine ⟨⟨e0.mod, S.kind, rfl, rfl, Nat.le_refl _, fun y z c h1 h2 => ?_, fun y hy => ?_, fun y c _ h => ?_, fun _ => hd, Around.frames_deeper e0.frames, .inr ⟨rfl, rfl⟩, fun b z => absurd z (noA b), e0.bs, e0.bsz, fun b _ _ => noA b, fun b z => absurd z (noA b), e0.funs, e0.frf⟩,
    rfl, e0.bare, Un.kept hk, ⟨_, x.toInCall.ns, fun i y v h1 h2 h3 => ?_⟩, fun y c h => ⟨_, x.cell y c h⟩, e0.hok.fresh (Nat.le_refl _), fun y c h => ?_, fun p hp => absurd (show p ∈ ([] : List (Addr × Obj)) from hp) (by simp), e0.hok.kept hk, ?_⟩
  · exact name_of_addr x.apart (PySem.mem_of_lookup h1) (PySem.mem_of_lookup h2)
  · have hy : scope.names.lookup y = some .cell ∨ scope.names.lookup y = some .free := hy
    rcases hy with hy | hy
    · exact cell_has hy
    · exact absurd rfl (S.nofree _ (PySem.mem_of_lookup hy))
  · exact Nat.le_of_lt (x.above y c (PySem.mem_of_lookup h))
  · have hi : i < vs.length := by
      unfold start at h2
      by_cases hi : i < vs.length
      · exact hi
      · rw [List.getElem?_append_right (by simpa using hi)] at h2
        rw [List.getElem?_replicate] at h2
        split at h2 <;> cases h2
    have ha : vs[i]? = some v := by
      unfold start at h2
      rw [List.getElem?_append_left (by simpa using hi), List.getElem?_map] at h2
      cases e : vs[i]? with
      | none => rw [e] at h2; cases h2
      | some a => rw [e] at h2; cases h2; rfl
    obtain ⟨u, hu, rv⟩ := r.get ha
    have hp : ps[i]? = some y := by
      rw [← S.pre, List.getElem?_take_of_lt (by omega)]; exact h1
    have ndP : ps.Nodup := by rw [← S.pre]; exact S.nd.sublist (List.take_sublist _ _)
    refine ⟨u, rv, ?_⟩
    rcases S.par y (List.mem_of_getElem? hp) with k | k
    · exact .inl ⟨k, bindL_get ndP hp hu k⟩
    · obtain ⟨c, e⟩ := cell_has (n := s.heap.objs.size + 1) k
      refine .inr ⟨.inl k, c, e, ?_⟩
      have q := x.cell y c e
      rw [bindC_get ndP hp hu (by show scope.names.lookup y ≠ _; rw [k]; decide)] at q
      exact q
  · exact e0.hok.fresh (Nat.le_of_lt (x.above y c (PySem.mem_of_lookup h)))
  · unfold start
    show _ = N.length
    rw [List.length_append, List.length_map, List.length_replicate]
    omega

/-- THE RULE: a def (or a method) of the text, by its body. The body's reading t is chosen for each entry; it is run at the parameters' values -/
theorem fn_of {CX : CXT} {P : Program} {w : World} {K : PySem.W.Frag} {mg : Str → Option Value} {base : Heap} {k : Nat} {f : Addr} {name qual : Str} {params : Arguments} {body : List Stmt} {scope : Scope} {dV kV doc pm cdv ct oc : Value} {an od : Option Addr}
    {osl : Array (Option Value)} {N ps : List Str} {sp : Sp} (lk : K.lookup f = some ⟨oc, od, .func (PySem.W.fnOf name qual params body scope dV kV doc pm an cdv ct), osl⟩) (hcd : PySem.W.codeIn K cdv qual = true) (S : FnScope N ps scope)
    (len : ∀ vs H Q E, sp vs H Q E → vs.length = ps.length)
    (hbody : ∀ (A : Around) (outer : List Env) (s : Shared) (H : Hp) (vs : List V) (Q : VK) (E : XK), Room k (A.deeper (envOfC qual scope s.heap.objs.size f cdv)) → sp vs H Q E →
      ∃ t, PSs (cxOf CX P w K mg base N qual scope f cdv A outer s H E) body t ∧ t { nx := fun _ H' => Q .non H', rt := Q } (start N vs) H) :
    FnOk P w K mg base CX (k + 1) f (PySem.W.fnOf name qual params body scope dV kV doc pm an cdv ct) ps sp := by
  refine ⟨len, fun A outer s H args us vs Q E hr e0 hb r hsp => ?_⟩
  have hl := len _ _ _ _ hsp
  have KX : K.In s.heap := e0.mod.kin.keeps fun b o e => (e0.bs b o e).1
  have lim : s.heap.NoLimit := e0.mod.nolimit.keeps fun b o e => (e0.bs b o e).1
  have hkind : ∀ y ∈ ps.zip us, scope.names.lookup y.1 = some .local ∨ (scope.names.lookup y.1 = some .cell ∧ ((cellsFrom (s.heap.objs.size + 1) scope.names []).lookup y.1).isSome = true) := fun ⟨n, v⟩ hy => by
    rcases S.par n (List.of_mem_zip hy).1 with q | q
    · exact .inl q
    · exact .inr ⟨q, PySem.W.cellsFrom_some _ _ _ (.inl q)⟩
  refine codeAny_call_function hr.depth (KX _ _ lk) rfl S.co S.gen rfl (PySem.W.codeRec_of KX hcd) (hb _ _ _ _ ?_)
  refine wpAny_newFunctionEnv_cells S.kind hkind fun env he s1 x => ?_
  subst he
  refine ⟨lim.keeps x.toInCall.keep, codeAny_func ?_⟩
  obtain ⟨t, ht, hq⟩ := hbody A outer s H vs Q E (hr.deeper _) hsp
  have I : Inv (cxOf CX P w K mg base N qual scope f cdv A outer s H E) [] (start N vs) H s1 := inv_start S hr.hd e0 hl r x
  refine wpAny_mono (ht [] s1 (start N vs) H _ I hq) (fun fl s' hs => ?_) fun e s' hs => hs
  have fin : ∀ {σ' : St} {H' : Hp} {v : V} {u : Value}, Inv (cxOf CX P w K mg base N qual scope f cdv A outer s H E) [] σ' H' s' → RelV v u → Q v H' → CE outer P w H s Q u s' :=
    fun {σ' H' v u} J rv q => ⟨v, H', J.os, J.bare, J.base, J.hok, rv, q⟩
  cases fl with
  | ret u =>
    obtain ⟨v, σ', H', J, rv, q⟩ := hs
    exact fin J rv q
  | next =>
    obtain ⟨σ', H', J, q⟩ := hs
    exact fin (v := V.non) (u := Value.none) J rfl q
  | brk =>
    obtain ⟨_, _, _, q⟩ := hs
    exact False.elim q
  | cont =>
    obtain ⟨_, _, _, q⟩ := hs
    exact False.elim q
end L2

namespace L2
open PySem PySem.Spec PyProof.Rows
section
variable {X : Cx} {x : Str} {p pos : Pos} {e : Expr} {es : List Expr} {t : TA} {id T : String} {r : List V → Hp → VK → Prop}

def tCB (r : List V → Hp → VK → Prop) (t : TA) : TE := fun σ H Q => t σ H fun vs H1 => r vs H1 Q
/-- f(e, ..), f a built-in function -/
theorem pe_callB (hc : CallR X (.builtin id) r) (hg : Gl X x) (hm : X.mg x = none) (hv : bootBuiltins x = some (.builtin id)) (ha : PA X (e :: es) t) (hn : x ≠ "__name__" := by decide) (hdb : (x == ("__debug__" : Str)) = false := by decide)
    (he : starEach (e :: es) X.env = (false, eval e X.env) :: starEach es X.env := by rfl) (hpl : (backTo pos (starEach es X.env)).any (·.1) = false := by rfl) : PE X (.Call (.Name x p) (e :: es) [] pos) (tCB r t) := by
  intro pins s σ H Q I h
  refine wpAny_Call_Name_kw (ld_blt I hg hm hv ?_ hn hdb)
  exact PyProof.Rows.callWith_builtin1 (thn (ha pos pins s σ H _ I h) fun us s1 ⟨vs, H1, I1, r1, q1⟩ => hc pins s1 σ H1 vs us Q I1 r1 q1) he hpl
/-- T(e, ..), T a built-in type -/
theorem pe_callTy (hc : CallR X (.type T) r) (hg : Gl X x) (hm : X.mg x = none) (hv : bootBuiltins x = some (.type T)) (ha : PA X (e :: es) t) (hn : x ≠ "__name__" := by decide) (hdb : (x == ("__debug__" : Str)) = false := by decide)
    (he : starEach (e :: es) X.env = (false, eval e X.env) :: starEach es X.env := by rfl) (hpl : (backTo pos (starEach es X.env)).any (·.1) = false := by rfl) : PE X (.Call (.Name x p) (e :: es) [] pos) (tCB r t) := by
  intro pins s σ H Q I h
  refine wpAny_Call_Name_kw (ld_blt I hg hm hv ?_ hn hdb)
  exact PyProof.Rows.callWith_type1 (thn (ha pos pins s σ H _ I h) fun us s1 ⟨vs, H1, I1, r1, q1⟩ => hc pins s1 σ H1 vs us Q I1 r1 q1) he hpl
end
end L2

namespace HT
open PySem PyProof.Rows

section
open PySem.SeqAt
open PySem.AutoSeq1 (wpAny_loadPart')
open PySem.MeetsSeq PySem.MeetsSeq2 PySem.MeetsSeq3

end

section
variable {prog : Program} {w : World} {A : Around} {E : Value → Shared → Prop} {s : Shared}

/-- t + u, t not empty -/
theorem cat_tup {t b : Addr} {vs ws : List Value} {Q : Value → Shared → Prop} (ht : IsTup s.heap t vs.toArray) (hb : IsTup s.heap b ws.toArray) (hv : vs ≠ [])
    (h1 : ws = [] → Q (.ref t) s) (h2 : ws ≠ [] → Q (.ref s.heap.objs.size) { s with heap := s.heap.push { cls := .type "tuple", data := .seq (vs ++ ws).toArray } })
    (hsz : vs.length + ws.length ≤ sizeLine) : wpAny (model prog w) A (binaryOp .Add (.ref t) (.ref b)) Q E s := by
  obtain ⟨⟨cls, dd, data, sl⟩, ho, hc, n, hd⟩ := id ht
  obtain ⟨⟨cls2, dd2, data2, sl2⟩, ho2, hc2, n2, hd2⟩ := id hb
  simp only at hc hd hc2 hd2
  subst hc hd hc2 hd2
  have e : vs.toArray ++ ws.toArray = (vs ++ ws).toArray := by simp
  by_cases hw : ws = []
  · exact concat_meets ⟨_, ho, rfl⟩ ⟨_, ho2, rfl⟩ noFill_tuple_add seq_tuple_add PySem.F.slot_tuple_add PySem.F.entry_tuple_add (PySem.F.args_tuple_add_2 _ _)
      (tuple_addW1 t b vs.toArray ws.toArray n n2 dd dd2 sl sl2 (by simpa using hv) (by simp [hw])) ⟨ho, ho2, h1 hw⟩
  · refine concat_meets ⟨_, ho, rfl⟩ ⟨_, ho2, rfl⟩ noFill_tuple_add seq_tuple_add PySem.F.slot_tuple_add PySem.F.entry_tuple_add (PySem.F.args_tuple_add_2 _ _)
      (tuple_addW2 t b vs.toArray ws.toArray n n2 dd dd2 sl sl2 (by simpa using hv) (by simpa using hw) (by rw [List.size_toArray, List.size_toArray]; exact hsz)) ⟨ho, ho2, ?_⟩
    rw [e]
    exact h2 hw

/-! ### t[a:b], not the whole -/
/-- a slice's bound as a place among n (d where it is left out) -/
def sIx (n d : Nat) : Option Int → Nat
  | none => d
  | some v => if v < 0 then (v + (n : Int)).toNat else min v.toNat n
theorem sIx_none (n d : Nat) : sIx n d none = d := rfl
theorem sIx_nat (n d k : Nat) : sIx n d (some (k : Int)) = min k n := by
  show (if (k : Int) < 0 then ((k : Int) + (n : Int)).toNat else min (k : Int).toNat n) = min k n
  rw [if_neg (by omega), Int.toNat_natCast]
theorem sIx_le (n d : Nat) (hd : d ≤ n) (o : Option Int) : sIx n d o ≤ n := by
  cases o with
  | none => exact hd
  | some v =>
    show (if v < 0 then (v + (n : Int)).toNat else min v.toNat n) ≤ n
    by_cases hv : v < 0
    · rw [if_pos hv]; omega
    · rw [if_neg hv]; exact Nat.min_le_right _ _
theorem clip_eq (v : Int) (n d : Nat) : (if v < 0 then max (v + (n : Int)) 0 else min v (n : Int)) = ((sIx n d (some v) : Nat) : Int) := by
  show (if v < 0 then max (v + (n : Int)) 0 else min v (n : Int)) = (((if v < 0 then (v + (n : Int)).toNat else min v.toNat n) : Nat) : Int)
  by_cases hv : v < 0
  · simp only [if_pos hv]; omega
  · simp only [if_neg hv]; omega
theorem adjust_gen (lo hi : Option Int) (n : Nat) : Builtin.Slice.sliceAdjust lo hi 1 (n : Int) = (((sIx n 0 lo : Nat) : Int), ((sIx n n hi : Nat) : Int)) := by
  have h1 : ¬ ((1 : Int) < 0) := by omega
  unfold Builtin.Slice.sliceAdjust
  simp only [h1, if_false]
  refine Prod.ext ?_ ?_
  · cases lo with
    | none => rfl
    | some v => exact clip_eq v n 0
  · cases hi with
    | none => rfl
    | some v => exact clip_eq v n n
theorem places_gen (i j : Nat) : Builtin.Slice.slicePlaces (i : Int) (j : Int) 1 = j - i := by
  unfold Builtin.Slice.slicePlaces
  have h1 : (1 : Int) > 0 := by omega
  simp only [h1, if_true, Int.ediv_one]
  split <;> omega
theorem slicePart_ {v : Value} {o : Option Int} {Q : Option Int → Shared → Prop} (p : IsPart v o) (h : Q o s) : wpAny (model prog w) A (Builtin.Slice.slicePartIndex v) Q E s := by
  cases p with
  | none => exact slicePart_none h
  | int i t => exact slicePart_int h
theorem sliceApplied_gen {sl : Addr} {vl vu : Value} {lo hi : Option Int} {n : Nat} {Q : Int × Int × Nat → Shared → Prop} (hs : s.heap.IsSliceOf sl vl vu .none) (pl : IsPart vl lo) (pu : IsPart vu hi)
    (h : Q (((sIx n 0 lo : Nat) : Int), 1, sIx n n hi - sIx n 0 lo) s) : wpAny (model prog w) A (Builtin.Slice.sliceApplied (.ref sl) (pure (n : Int))) Q E s := by
  obtain ⟨os, hos, hcs, hds⟩ := id hs
  unfold Builtin.Slice.sliceApplied Builtin.Slice.sliceFields
  refine wpAny_bind (wpAny_bind (wpAny_field hos hds (x := vl) rfl (wpAny_bind (wpAny_field hos hds (x := vu) rfl (wpAny_bind (wpAny_field hos hds (x := .none) rfl (wpAny_pure ?_)))))))
  refine wpAny_bind (slicePart_none ?_)
  show wpAny _ _ (if ((1 : Int) == 0) = true then _ else _) _ _ s
  rw [if_neg (by decide)]
  refine wpAny_bind (slicePart_ pl (wpAny_bind (slicePart_ pu (wpAny_bind (wpAny_pure ?_)))))
  show wpAny _ _ (match Builtin.Slice.sliceAdjust lo hi 1 (n : Int) with | (lo, hi) => pure (lo, (1 : Int), Builtin.Slice.slicePlaces lo hi 1)) _ _ s
  rw [adjust_gen lo hi n]
  show wpAny _ _ (pure (((sIx n 0 lo : Nat) : Int), (1 : Int), Builtin.Slice.slicePlaces ((sIx n 0 lo : Nat) : Int) ((sIx n n hi : Nat) : Int) 1)) _ _ s
  rw [places_gen]
  exact wpAny_pure h
theorem pick_gen (xs : Array Value) (i k : Nat) : ((List.range k).filterMap fun (m : Nat) => xs[((i : Int) + (m : Int) * 1).toNat]?).toArray = ((xs.toList.drop i).take k).toArray := by
  have e : (fun (m : Nat) => xs[((i : Int) + (m : Int) * 1).toNat]?) = fun m => xs[i + m]? := by
    funext m
    have : ((i : Int) + (m : Int) * 1).toNat = i + m := by omega
    rw [this]
  rw [e]
  have := pick_run xs i k
  rw [List.filterMap_map] at this
  have e2 : ((fun x => xs[x]?) ∘ fun x => i + x) = fun m => xs[i + m]? := rfl
  rw [e2] at this
  rw [this]

theorem getItem_tuple_cut {t sl : Addr} {items : Array Value} {vl vu : Value} {lo hi : Option Int} {Q : Value → Shared → Prop} (ht : IsTup s.heap t items) (hs : s.heap.IsSliceOf sl vl vu .none) (pl : IsPart vl lo) (pu : IsPart vu hi)
    (hw : ¬ (sIx items.size 0 lo = 0 ∧ sIx items.size items.size hi = items.size))
    (h : Q (.ref s.heap.objs.size) { s with heap := s.heap.push { cls := .type "tuple", data := .seq ((items.toList.drop (sIx items.size 0 lo)).take (sIx items.size items.size hi - sIx items.size 0 lo)).toArray } })
    (hsz : items.size ≤ sizeLine) : wpAny (model prog w) A (getItem (.ref t) (.ref sl)) Q E s := by
  have htake : sizeOk (.seq ((items.toList.drop (sIx items.size 0 lo)).take (sIx items.size items.size hi - sIx items.size 0 lo)).toArray) := by
    show ((items.toList.drop (sIx items.size 0 lo)).take (sIx items.size items.size hi - sIx items.size 0 lo)).toArray.size ≤ sizeLine
    rw [List.size_toArray, List.length_take, List.length_drop, Array.length_toList]
    omega
  have hj : sIx items.size items.size hi ≤ items.size := sIx_le _ _ (Nat.le_refl _) hi
  obtain ⟨os, hos, hcs, hds⟩ := id hs
  have hTs : s.TypeIs (.ref sl) "slice" := ⟨os, hos, hcs⟩
  unfold getItem
  try with_reducible refine wpAny_holding ?_
  first | refine wpAny_bind (wpAny_pure ?_) | skip
  refine wpAny_bind (wpAny_sequenceKey ht.typeIs (by decide) ?_)
  refine wpAny_bind (wpAny_callSpecial?_slot (name := Str.ofString "__getitem__") ht.typeIs PyProof.Rows.slot_tuple_getitem
    (wpAny_call_entry PyProof.Rows.slot_tuple_getitem ht.typeIs entry_tuple_getitem ?_ (args_tuple_getitem _ _)))
  show wpAny _ _ (Builtin.Tuple.tupleItemsOf (.ref t) >>= _) _ _ s
  refine wpAny_bind (tupleItemsOf_ ht ?_)
  refine wpAny_bind (wpAny_typeOf hTs ?_)
  rw [if_pos (by decide)]
  refine wpAny_bind (sliceApplied_gen hs pl pu ?_)
  have hno : ¬ ((((sIx items.size 0 lo : Nat) : Int) == 0 && (1 : Int) == 1 && (sIx items.size items.size hi - sIx items.size 0 lo) == items.size) = true) := by
    intro q
    rw [Bool.and_eq_true, Bool.and_eq_true] at q
    have q1 : ((sIx items.size 0 lo : Nat) : Int) = 0 := eq_of_beq q.1.1
    have q2 : sIx items.size items.size hi - sIx items.size 0 lo = items.size := eq_of_beq q.2
    exact hw ⟨by omega, by omega⟩
  show wpAny _ _ (if (((sIx items.size 0 lo : Nat) : Int) == 0 && (1 : Int) == 1 && (sIx items.size items.size hi - sIx items.size 0 lo) == items.size) = true then _ else _) _ _ s
  rw [if_neg hno, pick_gen]
  first
    | exact wpAny_bind (m := Builtin.Tuple.tupleExact _) (wpAny_newObj_type (wpAny_pure ⟨_, rfl, wpAny_pure h⟩) htake)
    | exact wpAny_bind (m := Builtin.Tuple.tupleExact _) (wpAny_newObj_type (wpAny_bind (wpAny_pure (wpAny_pure ⟨_, rfl, wpAny_pure h⟩))) htake)
    | exact wpAny_bind (wpAny_bind (m := Builtin.Tuple.tupleExact _) (wpAny_newObj_type (wpAny_pure (wpAny_pure ⟨_, rfl, wpAny_pure h⟩)) htake))
    | exact wpAny_bind (wpAny_bind (m := Builtin.Tuple.tupleExact _) (wpAny_newObj_type (wpAny_pure ⟨_, rfl, wpAny_pure h⟩) htake))
end
end HT

namespace L2
open PySem PySem.Spec PyProof.Rows

/-! ### the parts of a slice -/
abbrev TO := St → Hp → (Option Int → Hp → Prop) → Prop
/-- a slice's part (left out, or an int) -/
def PO (X : Cx) (e : Option Expr) (t : TO) : Prop :=
  ∀ (pins : List (Addr × Obj)) (s : Shared) (σ : St) (H : Hp) (Q : Option Int → Hp → Prop), Inv X pins σ H s → t σ H Q →
    wpAny (model X.prog X.w) X.A (evalPart e X.env) (fun u s' => ∃ o H', Inv X pins σ H' s' ∧ IsPart u o ∧ Q o H') X.xe s
def tNoPart : TO := fun _ H Q => Q none H
def tPart (t : TE) : TO := fun σ H Q => t σ H fun x H1 => ∃ i, x = .int i ∧ Q (some i) H1

theorem intsAre_of {ns : List Int} : ∀ {us : List Value}, Vals (ns.map V.int) us → IntsAre us ns := by
  induction ns with
  | nil => intro us r; rw [List.map_nil] at r; cases r; exact .nil
  | cons n ns ih =>
    intro us r
    rw [List.map_cons] at r
    cases r with
    | cons r1 r2 =>
      obtain ⟨t, e⟩ := r1
      subst e
      exact .cons n t (ih r2)

section
variable {X : Cx} {e : Expr} {te : TE} {lo hi : Option Expr} {tl th : TO} {pos p2 : Pos}

theorem po_none : PO X none tNoPart := by
  intro pins s σ H Q I h
  rw [evalPart_none]
  exact wpAny_pure ⟨none, H, I, .none, h⟩
theorem po_some (h : PE X e te) : PO X (some e) (tPart te) := by
  intro pins s σ H Q I hw
  rw [evalPart_some]
  refine thn (h pins s σ H _ I hw) fun u s1 ⟨x, H1, I1, r1, q1⟩ => ?_
  obtain ⟨i, rfl, q⟩ := q1
  obtain ⟨t, rfl⟩ := r1
  exact ⟨some i, H1, I1, .int i t, q⟩

/-- what a slice of a value is, by values: the slice object stands at sl -/
def SlR (X : Cx) (r : V → Option Int → Option Int → Hp → VK → Prop) : Prop :=
  ∀ (pins : List (Addr × Obj)) (s : Shared) (σ : St) (H : Hp) (x : V) (v vl vu : Value) (lo hi : Option Int) (sl : Addr) (Q : VK), Inv X pins σ H s → RelV x v → s.heap.IsSliceOf sl vl vu .none → IsPart vl lo → IsPart vu hi → r x lo hi H Q →
    ∃ T id, typeLookup (.type T) "__getitem__" = pure (some (.builtin id)) ∧ s.TypeIs v T ∧ wpAny (model X.prog X.w) X.A (getItem v (.ref sl)) (EP X pins σ Q) X.xe s
def tSl (r : V → Option Int → Option Int → Hp → VK → Prop) (te : TE) (tl th : TO) : TE := fun σ H Q => te σ H fun x H1 => tl σ H1 fun l H2 => th σ H2 fun u H3 => r x l u H3 Q
/-- a[lo:hi], any a -/
theorem pe_slice {r : V → Option Int → Option Int → Hp → VK → Prop} (hr : SlR X r) (he : PE X e te) (hl : PO X lo tl) (hu : PO X hi th) : PE X (.Subscript e (.Slice lo hi none p2) pos) (tSl r te tl th) := by
  intro pins s σ H Q I h
  refine Subscript_ (thn (he pins s σ H _ I h) fun v s1 ⟨x, H1, I1, r1, q1⟩ => ?_)
  refine wpAny_Slice (thn (hl pins s1 σ H1 _ I1 q1) fun vl s2 ⟨l, H2, I2, pl, q2⟩ => thn (hu pins s2 σ H2 _ I2 q2) fun vu s3 ⟨u, H3, I3, pu, q3⟩ => ?_)
  rw [evalPart_none]
  refine wpAny_pure ?_
  have I4 : Inv X pins σ H3 { s3 with heap := s3.heap.push { cls := .type "slice", data := .fields #[vl, vu, .none] } } := I3.kept (t' := s3.toks) fun b ob q => Heap.get?_push_of_some _ q
  obtain ⟨T, id, hT, ht, hg⟩ := hr pins { s3 with heap := s3.heap.push { cls := .type "slice", data := .fields #[vl, vu, .none] } } σ H3 x v vl vu l u s3.heap.objs.size Q I4 r1 (Heap.IsSliceOf.new ..) pl pu q3
  show wpAny (model X.prog X.w) X.A (subscriptTail e (.Slice lo hi none p2) v (.ref s3.heap.objs.size)) (EP X pins σ Q) X.xe { s3 with heap := s3.heap.push { cls := .type "slice", data := .fields #[vl, vu, .none] } }
  exact tail_any (ops := [.ref s3.heap.objs.size, v]) ht hT hg (by with_unfolding_all rfl)

/-- the items of xs[lo:hi] -/
def cutV (xs : List V) (lo hi : Option Int) : List V := (xs.drop (HT.sIx xs.length 0 lo)).take (HT.sIx xs.length xs.length hi - HT.sIx xs.length 0 lo)
theorem cutV_length (xs : List V) (lo hi : Option Int) : (cutV xs lo hi).length ≤ xs.length := by
  unfold cutV
  rw [List.length_take, List.length_drop]
  omega
/-- t[lo:hi], not the whole of it (the whole would be t itself) -/
def rSlT (K : PySem.W.Frag) : V → Option Int → Option Int → Hp → VK → Prop := fun x lo hi H Q => ∃ a xs, x = .ref a ∧ SqT K H a xs ∧
  ¬ (HT.sIx xs.length 0 lo = 0 ∧ HT.sIx xs.length xs.length hi = xs.length) ∧ ∀ p, H p = none → Q (.ref p) (upd H p (.tup (cutV xs lo hi)))
theorem sl_tup : SlR X (rSlT X.K) := by
  intro pins s σ H x v vl vu lo hi sl Q I rx hs pl pu h
  obtain ⟨a, xs, rfl, hx, hw, q⟩ := h
  cases rx
  obtain ⟨its, r, ht, hz⟩ := I.tuple hx
  have hlen : its.toArray.size = xs.length := by rw [List.size_toArray]; exact r.length.symm
  refine ⟨"tuple", _, PyProof.Rows.slot_tuple_getitem.lookup, ht.typeIs, ?_⟩
  refine HT.getItem_tuple_cut ht hs pl pu (by rw [hlen]; exact hw) ?_ (by rw [hlen]; exact hz)
  rw [hlen]
  refine ⟨.ref s.heap.objs.size, _, I.laid (t' := s.toks) (o := .tup (cutV xs lo hi)) (fun b ob q => Heap.get?_push_of_some _ q) (Nat.le_refl _) ?_, rfl, q _ (I.hok.fresh (Nat.le_refl _))⟩
  exact ⟨Nat.le_trans (cutV_length xs lo hi) hz, _, (r.drop (HT.sIx xs.length 0 lo)).take (HT.sIx xs.length xs.length hi - HT.sIx xs.length 0 lo), IsTup.new _ _⟩

/-! ### t < u, t + u -/
/-- t + u, t not empty: u empty gives t itself -/
def rCatT (K : PySem.W.Frag) : R2 := fun x y H Q => ∃ a b xs ys, x = .ref a ∧ y = .ref b ∧ SqT K H a xs ∧ SqT K H b ys ∧ xs ≠ [] ∧ xs.length + ys.length ≤ sizeLine ∧
  (ys = [] → Q (.ref a) H) ∧ (ys ≠ [] → ∀ p, H p = none → Q (.ref p) (upd H p (.tup (xs ++ ys))))
theorem Vals.nil_iff {xs : List V} {us : List Value} (r : Vals xs us) : us = [] ↔ xs = [] := by
  cases r with
  | nil => simp
  | cons _ _ => simp
theorem op_catT : OpR X (binaryOp .Add) (rCatT X.K) := by
  intro pins s σ H x y v u Q I rx ry h
  obtain ⟨a, b, xs, ys, rfl, rfl, ha, hb, hx, hz, q1, q2⟩ := h
  cases rx
  cases ry
  obtain ⟨its, r1, p1, _⟩ := I.tuple ha
  obtain ⟨its2, r2, p2, _⟩ := I.tuple hb
  refine HT.cat_tup p1 p2 (fun z => hx (r1.nil_iff.mp z)) (fun z => ⟨.ref a, H, I, rfl, q1 (r2.nil_iff.mp z)⟩) (fun z => ?_) (by rw [← r1.length, ← r2.length]; exact hz)
  refine ⟨.ref s.heap.objs.size, _, I.laid (t' := s.toks) (o := .tup (xs ++ ys)) (fun b ob q => Heap.get?_push_of_some _ q) (Nat.le_refl _) ?_, rfl, q2 (fun w => z (r2.nil_iff.mpr w)) _ (I.hok.fresh (Nat.le_refl _))⟩
  exact ⟨by rw [List.length_append]; exact hz, _, r1.append r2, IsTup.new _ _⟩
end
end L2

namespace L2
open PySem PySem.Spec PyProof.Rows

/-! ### places -/
/-- the place that an index of any sign means -/
def ixN (n : Nat) (i : Int) : Option Nat := if 0 ≤ i then (if i < n then some i.toNat else none) else if -(n : Int) ≤ i then some (i + n).toNat else none
def atI {α : Type} (xs : List α) (i : Int) : Option α := (ixN xs.length i).bind fun j => xs[j]?
theorem ixN_seq {n : Nat} {i : Int} {j : Nat} (h : ixN n i = some j) : seqIndex? i n = some j ∧ j < n ∧ -(n : Int) ≤ i ∧ i < n := by
  unfold ixN at h
  by_cases h0 : 0 ≤ i
  · rw [if_pos h0] at h
    by_cases h1 : i < n
    · rw [if_pos h1] at h
      have e : i.toNat = j := Option.some.inj h
      exact ⟨by rw [seqIndex_of h0 h1, e], by omega, by omega, h1⟩
    · rw [if_neg h1] at h; cases h
  · rw [if_neg h0] at h
    by_cases h1 : -(n : Int) ≤ i
    · rw [if_pos h1] at h
      have e : (i + n).toNat = j := Option.some.inj h
      exact ⟨by rw [seqIndex_neg (by omega) h1, e], by omega, h1, by omega⟩
    · rw [if_neg h1] at h; cases h
theorem atI_get {α : Type} {xs : List α} {i : Int} {v : α} (h : atI xs i = some v) : ∃ j, seqIndex? i xs.length = some j ∧ xs[j]? = some v ∧ j < xs.length ∧ -(xs.length : Int) ≤ i ∧ i < xs.length := by
  unfold atI at h
  cases e : ixN xs.length i with
  | none => rw [e] at h; cases h
  | some j =>
    rw [e] at h
    obtain ⟨h1, h2, h3, h4⟩ := ixN_seq e
    exact ⟨j, h1, h, h2, h3, h4⟩
theorem atI_nat {α : Type} {xs : List α} {j : Nat} {v : α} (h : xs[j]? = some v) : atI xs (j : Int) = some v := by
  have hj : j < xs.length := (List.getElem?_eq_some_iff.mp h).1
  have e : ixN xs.length (j : Int) = some j := by
    unfold ixN
    rw [if_pos (by omega), if_pos (by omega)]; simp
  unfold atI; rw [e]; exact h
/-! ### what may be subscripted -/
/-- what stands as an index of a plain subscript -/
def PlainIx (b : Expr) : Prop := ∀ o i, subscripted b false o i = operate [o, i] (getItem o i)
/-- a subscript by values -/
def IxR (X : Cx) (r : R2) : Prop :=
  ∀ (value slice : Expr) (pins : List (Addr × Obj)) (s : Shared) (σ : St) (H : Hp) (x y : V) (v u : Value) (Q : VK), Inv X pins σ H s → RelV x v → RelV y u → r x y H Q →
    subscripted slice false v u = operate [v, u] (getItem v u) → wpAny (model X.prog X.w) X.A (subscriptTail value slice v u) (EP X pins σ Q) X.xe s
/-- a call of a builtin's method by values: the receiver, the arguments -/
def MtR (X : Cx) (id : String) (r : V → List V → Hp → VK → Prop) : Prop :=
  ∀ (pins : List (Addr × Obj)) (s : Shared) (σ : St) (H : Hp) (x : V) (xs : List V) (v : Value) (us : List Value) (Q : VK), Inv X pins σ H s → RelV x v → Vals xs us → r x xs H Q →
    wpAny (model X.prog X.w) X.A (call (.builtin id) (v :: us)) (EP X pins σ Q) X.xe s
section
variable {X : Cx} {a b : Expr} {ta tb : TE} {pos : Pos}
/-- a[b] -/
theorem pe_ix {r : R2} (hr : IxR X r) (ha : PE X a ta) (hb : PE X b tb) (hs : PlainIx b) : PE X (.Subscript a b pos) (tOp r ta tb) := by
  intro pins s σ H Q I h
  exact Subscript_ (binT ha hb I h fun v u s2 x y H2 I2 rx ry q => hr a b pins s2 σ H2 x y v u Q I2 rx ry q (hs _ _))

def rIxL (K : PySem.W.Frag) : R2 := fun x y H Q => ∃ p xs i v, x = .ref p ∧ y = .int i ∧ SqL K H p xs ∧ atI xs i = some v ∧ Q v H
def rIxT (K : PySem.W.Frag) : R2 := fun x y H Q => ∃ p xs i v, x = .ref p ∧ y = .int i ∧ SqT K H p xs ∧ atI xs i = some v ∧ Q v H
theorem ix_list : IxR X (rIxL X.K) := by
  intro value slice pins s σ H x y v u Q I rx ry h hs
  obtain ⟨p, xs, i, z, rfl, rfl, hq, he, q⟩ := h
  cases rx
  obtain ⟨t, rfl⟩ := ry
  obtain ⟨its, r, pl, hz⟩ := I.list hq
  obtain ⟨j, h1, h2, h3, h4, h5⟩ := atI_get he
  obtain ⟨w, ew, rw'⟩ := r.get h2
  have hl := r.length
  have hn := line63
  have fin : EP X pins σ Q w s := ⟨z, H, I, rw', q⟩
  by_cases h0 : 0 ≤ i
  · have hj : i.toNat = j := by
      rw [seqIndex_of h0 h5] at h1
      exact Option.some.inj h1
    exact item_listR pl.isList h0 (by omega) (by rw [hj]; simpa using ew) fin hs
  · have hj : (i + (its.toArray.size : Int)).toNat = j := by
      rw [seqIndex_neg (by omega) h4] at h1
      rw [List.size_toArray, ← hl]
      exact Option.some.inj h1
    exact subscriptTail_builtinR (x := w) pl.isList.typeIs slot_list_getitem.lookup
      (wpAny_getItem_list_neg (Q := fun r s' => r = w ∧ EP X pins σ Q r s') pl.isList (by omega) (by rw [List.size_toArray] <;> omega) (by omega) (by rw [hj]; simpa using ew) ⟨rfl, fin⟩) hs
theorem ix_tup : IxR X (rIxT X.K) := by
  intro value slice pins s σ H x y v u Q I rx ry h hs
  obtain ⟨p, xs, i, z, rfl, rfl, hq, he, q⟩ := h
  cases rx
  obtain ⟨t, rfl⟩ := ry
  obtain ⟨its, r, pl, hz⟩ := I.tuple hq
  obtain ⟨j, h1, h2, h3, h4, h5⟩ := atI_get he
  obtain ⟨w, ew, rw'⟩ := r.get h2
  have hl := r.length
  have hn := line63
  have fin : EP X pins σ Q w s := ⟨z, H, I, rw', q⟩
  exact subscriptTail_builtinR (x := w) pl.typeIs slot_tuple_getitem.lookup
    (getItem_tuple (j := j) (Q := fun r s' => r = w ∧ EP X pins σ Q r s') pl (by omega) (by omega) (by rw [List.size_toArray, ← hl]; exact h1) (by simpa using ew) ⟨rfl, fin⟩) hs
/-! ### xs[i] = v, any sign -/
/-- the list's object behind a store -/
theorem mapSeq_set (its : List Value) (n j : Nat) (u : Value) : Obj.mapSeq (·.setIfInBounds j u) { cls := .type "list", data := .seq its.toArray n } = { cls := .type "list", data := .seq (its.set j u).toArray n } := by
  simp [Obj.mapSeq]
theorem Inv.lst {pins : List (Addr × Obj)} {σ : St} {H : Hp} {s : Shared} {p : Addr} {xs : List V} (I : Inv X pins σ H s) (h : H p = some (.lst xs)) :
    ∃ (its : List Value) (n : Nat), Vals xs its ∧ s.heap.get? p = some { cls := .type "list", data := .seq its.toArray n } ∧ xs.length ≤ sizeLine := by
  obtain ⟨z, its, n, r, e⟩ := I.hok p _ h
  exact ⟨its, n, r, e, z⟩
/-- the list at p is written by an update of its object -/
theorem Inv.lstUpd {pins : List (Addr × Obj)} {σ : St} {H : Hp} {s : Shared} {p : Addr} {xs ys : List V} {its its' : List Value} {n n' : Nat} {f : Obj → Obj} (I : Inv X pins σ H s) (h : H p = some (.lst xs))
    (ho : s.heap.get? p = some { cls := .type "list", data := .seq its.toArray n }) (hf : f { cls := .type "list", data := .seq its.toArray n } = { cls := .type "list", data := .seq its'.toArray n' }) (r : Vals ys its') (hz : ys.length ≤ sizeLine) (t : Nat) :
    Inv X pins σ (upd H p (.lst ys)) { s with heap := s.heap.update p f, toks := t } := by
  have e : (s.heap.update p f).get? p = some { cls := .type "list", data := .seq its'.toArray n' } := by
    rw [Heap.get?_update_self f ho (by rw [hf] <;> rfl), hf]
  refine I.write (x := p) (e := p) (by rw [h]; trivial) (.inl rfl) (fun b u hb q => (Heap.get?_update_other _ _ (Ne.symm hb)).trans q) ⟨_, e⟩ ?_
  exact ⟨hz, its', n', r, e⟩
def rSetL : V → V → V → Hp → (Hp → Prop) → Prop := fun o i v H Q => ∃ p xs k j, o = .ref p ∧ i = .int k ∧ H p = some (.lst xs) ∧ ixN xs.length k = some j ∧ Q (upd H p (.lst (xs.set j v)))
theorem set_list : PSet X rSetL := by
  intro pins s σ H o i v ov iv u Q I ro ri rv h
  obtain ⟨p, xs, k, j, rfl, rfl, hp, hj, q⟩ := h
  cases ro
  obtain ⟨t, rfl⟩ := ri
  obtain ⟨its, n, r, ho, hz⟩ := I.lst hp
  obtain ⟨h1, h2, h3, h4⟩ := ixN_seq hj
  have hl := r.length
  have hn := line63
  have I' : Inv X pins σ (upd H p (.lst (xs.set j v))) { s with heap := s.heap.update p (Obj.mapSeq (·.setIfInBounds j u)) } :=
    I.lstUpd hp ho (mapSeq_set its n j u) (r.set rv j) (by rw [List.length_set]; exact hz) s.toks
  by_cases h0 : 0 ≤ k
  · have hk : k.toNat = j := by
      rw [seqIndex_of h0 h4] at h1
      exact Option.some.inj h1
    exact PySem.W.ki_setAt ho h0 (by omega) (by rw [List.size_toArray, ← hl]; exact h4) (by rw [hk]; exact ⟨_, I', q⟩)
  · have hk : (k + (its.toArray.size : Int)).toNat = j := by
      rw [seqIndex_neg (by omega) h3] at h1
      rw [List.size_toArray, ← hl]
      exact Option.some.inj h1
    exact PySem.W.ki_setBack ho (by omega) (by rw [List.size_toArray, ← hl]; exact h3) (by omega) (by rw [hk]; exact ⟨_, I', q⟩)

/-! ### slices -/
theorem slice_bounds (lo hi : Option Int) (n : Nat) : (sliceBounds lo hi none n).1 = ((HT.sIx n 0 lo : Nat) : Int) ∧ (sliceBounds lo hi none n).2.1 = ((HT.sIx n n hi : Nat) : Int) ∧ (sliceBounds lo hi none n).2.2 = 1 := by
  refine ⟨?_, ?_, rfl⟩
  · cases lo with
    | none => simp [sliceBounds, HT.sIx]
    | some i =>
      simp only [sliceBounds, HT.sIx, Option.getD_none, show (1 : Int) > 0 by decide, if_true]
      by_cases h : i < 0
      · simp only [h, if_true] <;> omega
      · simp only [h, if_false] <;> omega
  · cases hi with
    | none => simp [sliceBounds, HT.sIx]
    | some i =>
      simp only [sliceBounds, HT.sIx, Option.getD_none, show (1 : Int) > 0 by decide, if_true]
      by_cases h : i < 0
      · simp only [h, if_true] <;> omega
      · simp only [h, if_false] <;> omega
theorem slicePick_cut (its : List Value) (lo hi : Option Int) : slicePick its.toArray lo hi none = ((its.drop (HT.sIx its.length 0 lo)).take (HT.sIx its.length its.length hi - HT.sIx its.length 0 lo)).toArray := by
  obtain ⟨h1, h2, h3⟩ := slice_bounds lo hi its.toArray.size
  unfold slicePick
  rw [h1, h2, h3]
  simp only [sliceRange_one, pick_run, List.size_toArray] <;> rfl
/-- xs[lo:hi] of a list: a new list -/
def rSlL (K : PySem.W.Frag) : V → Option Int → Option Int → Hp → VK → Prop := fun x lo hi H Q => ∃ a xs, x = .ref a ∧ SqL K H a xs ∧ ∀ p, H p = none → Q (.ref p) (upd H p (.lst (cutV xs lo hi)))
theorem sl_list : SlR X (rSlL X.K) := by
  intro pins s σ H x v vl vu lo hi sl Q I rx hs pl pu h
  obtain ⟨a, xs, rfl, hx, q⟩ := h
  cases rx
  obtain ⟨its, r, ht, hz⟩ := I.list hx
  have hlen := r.length
  refine ⟨"list", _, slot_list_getitem.lookup, ht.isList.typeIs, ?_⟩
  refine wpAny_getItem_list_slice ht.isList hs pl pu .none (by simp) ?_ (by rw [List.size_toArray] <;> omega)
  rw [slicePick_cut, ← hlen]
  refine ⟨.ref s.heap.objs.size, _, I.laid (t' := s.toks) (o := .lst (cutV xs lo hi)) (fun b ob q => Heap.get?_push_of_some _ q) (Nat.le_refl _) ?_, rfl, q _ (I.hok.fresh (Nat.le_refl _))⟩
  exact ⟨Nat.le_trans (cutV_length xs lo hi) hz, _, 0, (r.drop (HT.sIx xs.length 0 lo)).take (HT.sIx xs.length xs.length hi - HT.sIx xs.length 0 lo), Heap.get?_push_size _ rfl⟩

/-! ### in, not in: flat items -/
def flatV : V → Bool
  | .non => true
  | .bl _ => true
  | .int _ => true
  | .str _ => true
  | _ => false
/-- == of flat values -/
def eqV : V → V → Bool
  | .non, .non => true
  | .bl a, .bl b => a == b
  | .bl a, .int b => (if a then 1 else 0) == b
  | .int a, .bl b => a == (if b then 1 else 0)
  | .int a, .int b => a == b
  | .str a, .str b => a == b
  | _, _ => false
theorem eqAt_V {A : Around} {s : Shared} {y x : V} {u v : Value} (ry : RelV y u) (rx : RelV x v) (fy : flatV y = true) (fx : flatV x = true) : SeqAt.EqAt A s u v (eqV y x) := by
  cases y with
  | non =>
    cases ry
    cases x with
    | non => cases rx; exact SeqAt.EqAt.same _
    | bl b => cases rx; exact SeqAt.EqAt.none_bool b
    | int b => obtain ⟨t, rfl⟩ := rx; exact SeqAt.EqAt.none_int b t
    | str b => obtain ⟨t, rfl⟩ := rx; exact SeqAt.EqAt.none_str b t
    | _ => exact absurd (show false = true from fx) Bool.false_ne_true
  | bl a =>
    cases ry
    cases x with
    | non => cases rx; exact SeqAt.EqAt.bool_none a
    | bl b => cases rx; exact SeqAt.EqAt.bool_bool a b
    | int b => obtain ⟨t, rfl⟩ := rx; exact SeqAt.EqAt.bool_int a b t
    | str b => obtain ⟨t, rfl⟩ := rx; exact SeqAt.EqAt.bool_str a b t
    | _ => exact absurd (show false = true from fx) Bool.false_ne_true
  | int a =>
    obtain ⟨t', rfl⟩ := ry
    cases x with
    | non => cases rx; exact SeqAt.EqAt.int_none a t'
    | bl b => cases rx; exact SeqAt.EqAt.int_bool a t' b
    | int b => obtain ⟨t, rfl⟩ := rx; exact SeqAt.EqAt.int_int a t' b t
    | str b => obtain ⟨t, rfl⟩ := rx; exact SeqAt.EqAt.int_str a t' b t
    | _ => exact absurd (show false = true from fx) Bool.false_ne_true
  | str a =>
    obtain ⟨t', rfl⟩ := ry
    cases x with
    | non => cases rx; exact SeqAt.EqAt.str_none a t'
    | bl b => cases rx; exact SeqAt.EqAt.str_bool a t' b
    | int b => obtain ⟨t, rfl⟩ := rx; exact SeqAt.EqAt.str_int a t' b t
    | str b => obtain ⟨t, rfl⟩ := rx; exact SeqAt.EqAt.str_str a t' b t
    | _ => exact absurd (show false = true from fx) Bool.false_ne_true
  | _ => exact absurd (show false = true from fy) Bool.false_ne_true
/-- the items' answers, read off the values (a value's own answer does not lean on its token) -/
def eqU (x : V) (u : Value) : Bool := match u with
  | .none => eqV .non x
  | .bool b => eqV (.bl b) x
  | .int i _ => eqV (.int i) x
  | .str z _ => eqV (.str z) x
  | _ => false
theorem eqU_of {x y : V} {u : Value} (r : RelV y u) (f : flatV y = true) : eqU x u = eqV y x := by
  cases y with
  | non => cases r; rfl
  | bl b => cases r; rfl
  | int i => obtain ⟨t, rfl⟩ := r; rfl
  | str z => obtain ⟨t, rfl⟩ := r; rfl
  | _ => exact absurd (show false = true from f) Bool.false_ne_true
theorem any_eqU {x : V} : ∀ {xs : List V} {us : List Value}, Vals xs us → xs.all flatV = true → us.any (eqU x) = xs.any fun y => eqV y x
  | _, _, .nil, _ => rfl
  | y :: xs, u :: us, .cons r t, f => by
    rw [List.all_cons, Bool.and_eq_true] at f
    rw [List.any_cons, List.any_cons, eqU_of r f.1, any_eqU t f.2]
theorem mem_eqAt {A : Around} {s : Shared} {x : V} {v : Value} (rx : RelV x v) (fx : flatV x = true) : ∀ {xs : List V} {us : List Value}, Vals xs us → xs.all flatV = true → ∀ u ∈ us, SeqAt.EqAt A s u v (eqU x u)
  | _, _, .nil, _ => fun u hu => by cases hu
  | y :: xs, u :: us, .cons r t, f => fun u' hu => by
    rw [List.all_cons, Bool.and_eq_true] at f
    rcases List.mem_cons.mp hu with rfl | hu
    · rw [eqU_of r f.1]; exact eqAt_V r rx f.1 fx
    · exact mem_eqAt rx fx t f.2 u' hu
def inV (x : V) (xs : List V) : Bool := xs.any fun y => eqV y x
/-- x in a list or tuple of flat items -/
def rIn (K : PySem.W.Frag) (neg : Bool) : R2 := fun x y H Q => ∃ p xs, y = .ref p ∧ (SqL K H p xs ∨ SqT K H p xs) ∧ flatV x = true ∧ xs.all flatV = true ∧ Q (.bl (if neg then !inV x xs else inV x xs)) H
theorem op_in_seq : OpR X (compareOp .In) (rIn X.K false) := by
  intro pins s σ H x y v u Q I rx ry h
  obtain ⟨p, xs, rfl, hq, fx, fs, q⟩ := h
  cases ry
  rcases hq with hq | hq
  · obtain ⟨its, r, pl, hz⟩ := I.list hq
    refine SeqAt.in_listAt (eqU x) pl.isList (fun w hw => mem_eqAt rx fx r fs w (by simpa using hw)) ⟨.bl _, H, I, rfl, ?_⟩
    rw [show its.toArray.any (eqU x) = its.any (eqU x) by simp, any_eqU r fs]
    exact q
  · obtain ⟨its, r, pl, hz⟩ := I.tuple hq
    refine SeqAt.in_tupleAt (eqU x) pl (fun w hw => mem_eqAt rx fx r fs w (by simpa using hw)) ⟨.bl _, H, I, rfl, ?_⟩
    rw [show its.toArray.any (eqU x) = its.any (eqU x) by simp, any_eqU r fs]
    exact q
theorem op_notIn_seq : OpR X (compareOp .NotIn) (rIn X.K true) := by
  intro pins s σ H x y v u Q I rx ry h
  obtain ⟨p, xs, rfl, hq, fx, fs, q⟩ := h
  cases ry
  rcases hq with hq | hq
  · obtain ⟨its, r, pl, hz⟩ := I.list hq
    refine SeqAt.notIn_listAt (eqU x) pl.isList (fun w hw => mem_eqAt rx fx r fs w (by simpa using hw)) ⟨.bl _, H, I, rfl, ?_⟩
    rw [show its.toArray.any (eqU x) = its.any (eqU x) by simp, any_eqU r fs]
    exact q
  · obtain ⟨its, r, pl, hz⟩ := I.tuple hq
    refine SeqAt.notIn_tupleAt (eqU x) pl (fun w hw => mem_eqAt rx fx r fs w (by simpa using hw)) ⟨.bl _, H, I, rfl, ?_⟩
    rw [show its.toArray.any (eqU x) = its.any (eqU x) by simp, any_eqU r fs]
    exact q
/-! ### len, list(x), tuple(x) of any list or tuple that is read -/
theorem call_len_seq : CallR X (.builtin "len") (fun xs H Q => ∃ p ys, xs = [.ref p] ∧ (SqL X.K H p ys ∨ SqT X.K H p ys) ∧ Q (.int ys.length) H) := by
  intro pins s σ H xs us Q I r h
  obtain ⟨p, ys, rfl, hq, q⟩ := h
  obtain ⟨u, rfl, rx⟩ := vals1 r
  cases rx
  have hn := line63
  rcases hq with hq | hq
  · obtain ⟨its, r', pl, hz⟩ := I.list hq
    have hlen := r'.length
    exact Calls.call_len_list pl.isList (by simp only [List.size_toArray] <;> omega) ⟨.int ys.length, H, I.tok _, ⟨s.toks + 1, by rw [List.size_toArray, hlen]⟩, q⟩
  · obtain ⟨its, r', pl, hz⟩ := I.tuple hq
    have hlen := r'.length
    exact len_tuple pl (by simp only [List.size_toArray] <;> omega) ⟨.int ys.length, H, I.tok _, ⟨s.toks + 1, by rw [List.size_toArray, hlen]⟩, q⟩
theorem call_list_of : CallR X (.type "list") (fun xs H Q => ∃ p ys, xs = [.ref p] ∧ (SqL X.K H p ys ∨ SqT X.K H p ys) ∧ ∀ l, H l = none → Q (.ref l) (upd H l (.lst ys))) := by
  intro pins s σ H xs us Q I r h
  obtain ⟨p, ys, rfl, hq, q⟩ := h
  obtain ⟨u, rfl, rx⟩ := vals1 r
  cases rx
  have fin : ∀ (its : List Value), Vals ys its → ys.length ≤ sizeLine → ∀ (h' : Heap) (c' : Nat), (∀ b o', s.heap.get? b = some o' → h'.get? b = some o') →
      h'.get? s.heap.objs.size = some { cls := .type "list", dict := none, data := .seq its.toArray c', slots := #[] } → EP X pins σ Q (.ref s.heap.objs.size) { s with heap := h' } := fun its r' hz h' c' kp e =>
    ⟨.ref s.heap.objs.size, _, I.laid (t' := s.toks) kp (Nat.le_refl _) (show ObjOk X.prog X.w _ h' _ (.lst ys) from ⟨hz, its, c', r', e⟩), rfl, q _ (I.hok.fresh (Nat.le_refl _))⟩
  rcases hq with hq | hq
  · obtain ⟨its, r', pl, hz⟩ := I.list hq
    have hlen := r'.length
    obtain ⟨o, ho, hc, n, hd⟩ := pl.isList
    exact call_list_seq p (.inl rfl) ho hc hd (fun h' c' kp e => fin its r' hz h' c' kp e) (by simp only [List.size_toArray] <;> omega)
  · obtain ⟨its, r', pl, hz⟩ := I.tuple hq
    have hlen := r'.length
    obtain ⟨o, ho, hc, n, hd⟩ := pl
    exact call_list_seq p (.inr rfl) ho hc hd (fun h' c' kp e => fin its r' hz h' c' kp e) (by simp only [List.size_toArray] <;> omega)
theorem call_tuple_of : CallR X (.type "tuple") (fun xs H Q => ∃ p ys, xs = [.ref p] ∧ ((SqL X.K H p ys ∧ ∀ l, H l = none → Q (.ref l) (upd H l (.tup ys))) ∨ (SqT X.K H p ys ∧ Q (.ref p) H))) := by
  intro pins s σ H xs us Q I r h
  obtain ⟨p, ys, rfl, h⟩ := h
  obtain ⟨u, rfl, rx⟩ := vals1 r
  cases rx
  rcases h with ⟨hq, q⟩ | ⟨hq, q⟩
  · obtain ⟨its, r', pl, hz⟩ := I.list hq
    have hlen := r'.length
    refine call_tuple_list pl.isList (fun h' kp => ?_) (by simp only [List.size_toArray] <;> omega)
    have I1 : Inv X pins σ H { s with heap := h' } := I.kept (t' := s.toks) kp
    have I2 : Inv X pins σ (upd H h'.objs.size (.tup ys)) { s with heap := h'.push { cls := .type "tuple", data := .seq its.toArray } } :=
      I1.laid (t' := s.toks) (fun b o e => Heap.get?_push_of_some _ e) (Nat.le_refl _) (show ObjOk X.prog X.w _ _ _ (.tup ys) from ⟨hz, its, r', IsTup.new _ _⟩)
    exact ⟨.ref h'.objs.size, _, I2, rfl, q _ (I1.hok.fresh (Nat.le_refl _))⟩
  · obtain ⟨its, r', pl, hz⟩ := I.tuple hq
    exact call_tuple_same pl ⟨.ref p, H, I, rfl, q⟩

/-! ### the call of a builtin's method: o.m(..) -/
/-- the value is of that builtin type -/
def tyV (K : PySem.W.Frag) (T : String) (x : V) (H : Hp) : Prop := match x with
  | .str _ => T = "str"
  | .int _ => T = "int"
  | .ref p => (T = "list" ∧ ∃ xs, SqL K H p xs) ∨ (T = "tuple" ∧ ∃ o, K.lookup p = some o ∧ o.cls = .type "tuple" ∧ o.dict = none) ∨
      (T = "dict" ∧ ((∃ kvs, H p = some (.dK kvs)) ∨ ∃ kvs, H p = some (.dT kvs))) ∨ (T = "set" ∧ ∃ S n, H p = some (.set S n))
  | _ => False
theorem tyV_is {pins : List (Addr × Obj)} {σ : St} {H : Hp} {s : Shared} {T : String} {x : V} {v : Value} (I : Inv X pins σ H s) (r : RelV x v) (ty : tyV X.K T x H) :
    s.TypeIs v T ∧ ∀ a, v = .ref a → ∃ ob, s.heap.get? a = some ob ∧ ob.dict = none := by
  cases x with
  | str z =>
    obtain ⟨t, rfl⟩ := r
    cases (show T = "str" from ty)
    exact ⟨typeIs_str s z t, fun _ e => nomatch e⟩
  | int i =>
    obtain ⟨t, rfl⟩ := r
    cases (show T = "int" from ty)
    exact ⟨typeIs_int s i t, fun _ e => nomatch e⟩
  | ref p =>
    cases r
    rcases ty with ⟨rfl, xs, hq⟩ | ⟨rfl, o, hk, hc, hd⟩ | ⟨rfl, hk⟩ | ⟨rfl, S, n, hk⟩
    · obtain ⟨its, _, pl, _⟩ := I.list hq
      refine ⟨pl.isList.typeIs, fun a e => ?_⟩
      cases e
      obtain ⟨o, n, e, c, hd, _⟩ := pl
      exact ⟨o, e, hd⟩
    · refine ⟨⟨o, I.kIn p o hk, hc⟩, fun a e => ?_⟩
      cases e
      exact ⟨o, I.kIn _ o hk, hd⟩
    · have z : ∃ o, s.heap.get? p = some o ∧ o.ExactDict := by
        rcases hk with ⟨kvs, hk⟩ | ⟨kvs, hk⟩
        · obtain ⟨_, _, _, _, o, _, _, e, ex, _⟩ := I.hok p _ hk
          exact ⟨o, e, ex⟩
        · obtain ⟨_, _, _, _, o, _, _, e, ex, _⟩ := I.hok p _ hk
          exact ⟨o, e, ex⟩
      obtain ⟨o, e, ex⟩ := z
      refine ⟨⟨o, e, ex.1⟩, fun a e2 => ?_⟩
      cases e2
      exact ⟨o, e, ex.2.1⟩
    · obtain ⟨o, _, _, _, e, ex, _⟩ := I.hok p _ hk
      refine ⟨⟨o, e, ex.1⟩, fun a e2 => ?_⟩
      cases e2
      exact ⟨o, e, ex.2.1⟩
  | _ => exact False.elim ty
def tBM0 (K : PySem.W.Frag) (T : String) (r : V → List V → Hp → VK → Prop) (to : TE) : TE := fun σ H Q => to σ H fun x H1 => tyV K T x H1 ∧ r x [] H1 Q
def tBM (K : PySem.W.Frag) (T : String) (r : V → List V → Hp → VK → Prop) (to : TE) (t : TA) : TE := fun σ H Q => to σ H fun x H1 => tyV K T x H1 ∧ t σ H1 fun xs H2 => r x xs H2 Q
variable {o e : Expr} {es : List Expr} {to : TE} {t : TA} {name : Str} {apos cpos : Pos} {T id : String} {r : V → List V → Hp → VK → Prop}
theorem pe_bm0 (pa : PlainAttrs T) (slot : Slot T name id) (hty : typeOf (.builtin id) = pure (.type "method_descriptor")) (hm : MtR X id r) (ho : PE X o to)
    (hbase : attributeBase o name X.env (eval o X.env) = eval o X.env := by rfl) (hline : (apos.endLine == cpos.line) = true := by rfl) : PE X (.Call (.Attribute o name apos) [] [] cpos) (tBM0 X.K T r to) := by
  intro pins s σ H Q I h
  refine wpAny_Call_method0_late hbase hline (thn (ho pins s σ H _ I h) fun v s1 ⟨x, H1, I1, r1, ty, q1⟩ => ?_)
  obtain ⟨h1, h2⟩ := tyV_is I1 r1 ty
  exact ⟨T, id, pa, slot, hty, h1, h2, Calls.callWith_builtin rfl (PySem.evalArgs_none (hm pins s1 σ H1 x [] v [] Q I1 r1 .nil q1))⟩
theorem pe_bm (pa : PlainAttrs T) (slot : Slot T name id) (hty : typeOf (.builtin id) = pure (.type "method_descriptor")) (hm : MtR X id r) (ho : PE X o to) (ha : PA X (e :: es) t)
    (hbase : attributeBase o name X.env (eval o X.env) = eval o X.env := by rfl)
    (hfew : ((backTo cpos (starEach (e :: es) X.env)).all (fun x => !x.1) && (backToKw cpos (keywordEach [] X.env)).all (fun x => x.1.isSome)
      && decide ((e :: es).length + ([] : List Keyword).length + (if ([] : List Keyword).isEmpty then 0 else 1) < 30)) = true := by rfl)
    (hline : (apos.endLine == cpos.line) = true := by rfl) (hs : starEach (e :: es) X.env = (false, eval e X.env) :: starEach es X.env := by rfl) (hplain : (backTo cpos (starEach es X.env)).any (·.1) = false := by rfl) :
    PE X (.Call (.Attribute o name apos) (e :: es) [] cpos) (tBM X.K T r to t) := by
  intro pins s σ H Q I h
  refine wpAny_Call_method_late hbase hfew hline rfl (thn (ho pins s σ H _ I h) fun v s1 ⟨x, H1, I1, r1, ty, q1⟩ => ?_)
  obtain ⟨h1, h2⟩ := tyV_is I1 r1 ty
  refine ⟨T, id, pa, slot, hty, h1, h2, ?_⟩
  have hA := ha cpos pins s1 σ H1 _ I1 q1
  rw [hs] at hA ⊢
  refine Calls.callWith_builtin (by show (false || (backTo cpos (starEach es X.env)).any (·.1)) = false; rw [hplain] <;> rfl) (Calls.evalArgs_plain ?_)
  exact thn hA fun us s2 ⟨vs, H2, I2, r2, q2⟩ => hm pins s2 σ H2 x vs v us Q I2 r1 r2 q2
/- xs.append(e), list.index on a module's tuple .. are MtR facts of 06m -/
end
end L2

namespace L2
open PySem PySem.Spec PyProof.Rows

def MtM (X : Cx) (id : String) (r : V → List V → Hp → VK → Prop) : Prop :=
  ∀ (pins : List (Addr × Obj)) (s : Shared) (σ : St) (H : Hp) (x : V) (xs : List V) (v : Value) (us : List Value) (Q : VK), Inv X pins σ H s → RelV x v → Vals xs us → r x xs H Q →
    wpAny (model X.prog X.w) X.A (call (.builtin id) (v :: us)) (EP X pins σ Q) X.xe s

/-! ### lists of values -/
theorem Vals.one : ∀ {x : V} {us : List Value}, Vals [x] us → ∃ u, us = [u] ∧ RelV x u
  | _, _, .cons r .nil => ⟨_, rfl, r⟩
theorem Vals.two : ∀ {x y : V} {us : List Value}, Vals [x, y] us → ∃ u v, us = [u, v] ∧ RelV x u ∧ RelV y v
  | _, _, _, .cons r (.cons q .nil) => ⟨_, _, rfl, r, q⟩
theorem Vals.zero : ∀ {us : List Value}, Vals [] us → us = []
  | _, .nil => rfl
theorem Vals.dropLast {xs : List V} {us : List Value} (h : Vals xs us) : Vals xs.dropLast us.dropLast := by
  induction h with
  | nil => exact .nil
  | cons r t ih =>
    cases t with
    | nil => exact .nil
    | cons q t' => exact .cons r ih
theorem erase_last {α : Type} (l : List α) : l.eraseIdx (l.length - 1) = l.dropLast := by
  induction l with
  | nil => rfl
  | cons a r ih =>
    cases r with
    | nil => rfl
    | cons b r =>
      have e : (a :: b :: r).length - 1 = ((b :: r).length - 1) + 1 := by
        have h1 : (a :: b :: r).length = r.length + 2 := rfl
        have h2 : (b :: r).length = r.length + 1 := rfl
        omega
      rw [e, List.eraseIdx_cons_succ, ih]
      all_goals rfl
section
variable {X : Cx} {pins : List (Addr × Obj)} {σ : St} {H : Hp} {s : Shared} {l b : Addr} {xs ys zs : List V}

/-! ### the two steps: a tracked list is rewritten, a new list is laid -/
theorem Inv.lset {its its' : List Value} {n : Nat} {f : Array Value → Array Value} {t' : Nat} (I : Inv X pins σ H s) (hH : H l = some (.lst xs))
    (e : s.heap.get? l = some { cls := .type "list", data := .seq its.toArray n }) (hf : f its.toArray = its'.toArray) (hv : Vals ys its') (hz : ys.length ≤ sizeLine) :
    Inv X pins σ (upd H l (.lst ys)) { s with heap := s.heap.update l (Obj.mapSeq f), toks := t' } := by
  have q := PySem.IsL.update e f
  rw [hf] at q
  refine I.write (x := l) (e := l) (by rw [hH]; exact trivial) (.inl rfl) (fun b' u hb hu => (Heap.get?_update_other s.heap (Obj.mapSeq f) (Ne.symm hb)).trans hu) ⟨_, q⟩ ?_
  exact ⟨hz, its', _, hv, q⟩
theorem Inv.lnew {its : List Value} {t' : Nat} (I : Inv X pins σ H s) (hv : Vals ys its) (hz : ys.length ≤ sizeLine) :
    Inv X pins σ (upd H s.heap.objs.size (.lst ys)) { s with heap := s.heap.push { cls := .type "list", data := .seq its.toArray }, toks := t' } :=
  I.laid (fun _ _ q => Heap.get?_push_of_some _ q) (Nat.le_refl _) ⟨hz, its, 0, hv, Heap.get?_push_size _ rfl⟩
theorem Inv.fresh (I : Inv X pins σ H s) : H s.heap.objs.size = none := I.hok.fresh (Nat.le_refl _)
theorem Inv.lstM (I : Inv X pins σ H s) (hH : H l = some (.lst xs)) : xs.length ≤ sizeLine ∧ ∃ (its : List Value) (n : Nat), Vals xs its ∧ xs.length = its.length ∧ s.heap.get? l = some { cls := .type "list", data := .seq its.toArray n } := by
  obtain ⟨z, its, n, r, e⟩ := I.hok l _ hH
  exact ⟨z, its, n, r, r.length, e⟩

end

section
variable {X : Cx}

/-! ### methods -/
def rAppend : V → List V → Hp → VK → Prop := fun x vs H Q => ∃ l xs y, x = .ref l ∧ vs = [y] ∧ H l = some (.lst xs) ∧ xs.length < sizeLine ∧ Q .non (upd H l (.lst (xs ++ [y])))
theorem mt_append : MtM X "list.append" rAppend := by
  intro pins s σ H x vs v us Q I rx rv h
  obtain ⟨l, xs, y, rfl, rfl, hH, hz, q⟩ := h
  cases rx
  obtain ⟨u, rfl, ru⟩ := rv.one
  obtain ⟨z, its, n, r, hl, e⟩ := I.lstM hH
  refine call_meets F.slot_list_append ⟨_, e, rfl⟩ F.entry_list_append (F.args_list_append_2 _ _) (PySem.list_append l its.toArray n u (by rw [List.size_toArray]; omega)) ⟨e, ?_⟩
  refine ⟨.non, _, I.lset (its' := its ++ [u]) hH e (by simp) (r.append (.cons ru .nil)) ?_, rfl, q⟩
  rw [List.length_append, List.length_singleton]
  omega

def rPop : V → List V → Hp → VK → Prop := fun x vs H Q => ∃ l xs y, x = .ref l ∧ vs = [] ∧ H l = some (.lst xs) ∧ xs[xs.length - 1]? = some y ∧ Q y (upd H l (.lst xs.dropLast))
theorem mt_pop : MtM X "list.pop" rPop := by
  intro pins s σ H x vs v us Q I rx rv h
  obtain ⟨l, xs, y, rfl, rfl, hH, hy, q⟩ := h
  cases rx
  have hus := rv.zero
  subst hus
  obtain ⟨z, its, n, r, hl, e⟩ := I.lstM hH
  obtain ⟨u, hu, ru⟩ := r.get hy
  have hy' : its.toArray[its.toArray.size - 1]? = some u := by
    show its.toArray[its.length - 1]? = some u
    rw [← Array.getElem?_toList, ← hl]
    exact hu
  refine call_meets F.slot_list_pop ⟨_, e, rfl⟩ F.entry_list_pop (F.args_list_pop_1 _) (MeetsSeq.list_pop_last l its.toArray n u hy' (by rw [List.size_toArray]; omega)) ⟨e, ?_⟩
  refine ⟨y, _, I.lset (its' := its.dropLast) hH e ?_ r.dropLast ?_, ru, q⟩
  · show its.toArray.eraseIdxIfInBounds (its.toArray.size - 1) = its.dropLast.toArray
    rw [List.size_toArray, List.eraseIdxIfInBounds_toArray, erase_last]
  · rw [List.length_dropLast]
    omega

/-! ### list + list, list += list, list * int -/
def rCat : R2 := fun x y H Q => ∃ l b xs zs, x = .ref l ∧ y = .ref b ∧ H l = some (.lst xs) ∧ H b = some (.lst zs) ∧ xs.length + zs.length ≤ sizeLine ∧ ∀ p, H p = none → Q (.ref p) (upd H p (.lst (xs ++ zs)))
theorem op_cat : OpR X (binaryOp .Add) rCat := by
  intro pins s σ H x y v u Q I rx ry h
  obtain ⟨l, b, xs, zs, rfl, rfl, hH, hB, hz, q⟩ := h
  cases rx
  cases ry
  obtain ⟨z, its, n, r, hl, e⟩ := I.lstM hH
  obtain ⟨z2, its2, n2, r2, hl2, e2⟩ := I.lstM hB
  refine PySem.P.add_list e e2 ?_ (by rw [List.size_toArray, List.size_toArray]; omega)
  have ea : its.toArray ++ its2.toArray = (its ++ its2).toArray := by simp
  rw [ea]
  exact ⟨.ref _, _, I.lnew (t' := s.toks) (r.append r2) (by rw [List.length_append]; omega), rfl, q _ I.fresh⟩
/-! ### del xs[i] -/
end

/-! ### xs[a:b] = ys -/
section
variable {prog : Program} {w : World} {A : Around} {E : Value → Shared → Prop} {s : Shared}
end

section
variable {X : Cx}
end
end L2

namespace Att
open PySem PySem.W PySem.Calls PyProof.Rows

/-! ### the script -/
theorem ints_of_wellAll {P : Params} {h : Heap} : ∀ (ns : List Int) (vs : List Value), WellAll P h vs (ns.map WData.int) → IntsAre vs ns := by
  intro ns
  induction ns with
  | nil =>
    intro vs w
    rw [List.map_nil] at w
    cases w
    exact .nil
  | cons n ns ih =>
    intro vs w
    rw [List.map_cons] at w
    cases w with
    | cons a b =>
      cases a
      exact .cons _ _ (ih _ b)

theorem script_of {l : OpenLaw} {n : Nat} (hn : l.most = some n) {P : Params} {h : Heap} {args : List WData} {vals : List Value}
    (hpre : l.row.toRowW.claim.pre args = true) (hwl : WellAll P h vals args) :
    ∃ a vs ns, vals = [Value.ref a] ∧ args = [WData.list (ns.map WData.int)] ∧ h.get? a = some { cls := .type "list", data := .seq vs.toArray } ∧ IntsAre vs ns ∧ ns.length ≤ n := by
  have hsh : WShape.hasAll [] args [.list .int] = true := (pre_splitW hpre).1
  have hc : l.pre.holds [] { args := args } = true := (pre_splitW hpre).2
  obtain ⟨d, r, rfl, h1, h2⟩ := hasAllW_cons hsh
  obtain rfl := hasAllW_nil h2
  obtain ⟨xs, rfl, h3⟩ := hasW_list h1
  obtain ⟨ns, rfl⟩ := items_int h3
  have hlen : ns.length ≤ n := by
    unfold OpenLaw.pre at hc
    have h4 : (WTm.not (.lt (.lit (.int (n : Int))) (.len (.arg 0)))).holds [] { args := [.list (ns.map .int)] } = true := by
      have h4 := (holds_andW hc).1
      rw [hn] at h4
      exact h4
    have h5 := condW_of h4 (w_not (w_lt w_lit (w_len_list (w_arg rfl))))
    rw [List.length_map] at h5
    refine Nat.le_of_not_lt fun q => ?_
    have q' : (n : Int) < ((ns.length : Nat) : Int) := by omega
    first
      | (rw [decide_eq_true q'] at h5; exact absurd h5 (by decide))
      | (simp at h5; omega)
  cases hwl with
  | cons w1 w2 =>
    cases w2
    cases w1 with
    | list ho hall => exact ⟨_, _, ns, rfl, rfl, ho, ints_of_wellAll ns _ hall, hlen⟩

theorem post_true (l : OpenLaw) (args : List WData) : l.row.toRowW.claim.post args (.bool true) args = true :=
  postW_of (r := l.row.toRowW) (X := (true == true))
    (show WShape.has [] (.bool true) .bool = true by first | rfl | decide | simp [WShape.has, WShape.arms, WShape.armsAll])
    (show (WTm.eq .res (.lit (.bool true))).value [] { args := args, res := some (.bool true), after := args } = some (.bool (true == true)) from w_eq_bool (w_res rfl) w_lit) rfl

/-! ### the attachment: holds_open's last premise (the goal 'hc' behind k_head) from a wpAny of the law's body -/
/-- the same from a codeAny of the CALL (for a layer whose function contracts speak of calls) -/
theorem attach_call {l : OpenLaw} {n : Nat} {q : Program} {loose : List Str} {XP : (Str → Option Value) → Heap → Prop} {YP : World → Heap → Prop} {d : DefRec}
    (hn : l.most = some n) (hdf : d.params.defaults = [])
    (call : ∀ (w : World) (s₀ s₁ : Shared) (mg mb : Str → Option Value) (fa : Addr) (o : Obj) (pm cd doc : Value) (a : Addr) (vs : List Value) (ns : List Int),
      Ground q loose [] XP w s₀ mg mb s₁.heap → YP w s₁.heap →
      s₁.heap.get? fa = some o → o.data = .func (docDef d.name d.params d.body d.scope pm cd doc) → s₁.heap.CodeRec cd d.name → mg d.name = some (.ref fa) →
      s₁.heap.get? a = some { cls := .type "list", data := .seq vs.toArray } → IntsAre vs ns → ns.length ≤ n → s₁.gens = #[] →
      codeAny (model l.prog w) callerA (.call (.ref fa) ⟨[.ref a], []⟩) (fun r s' => r = .ok (.ret (.bool true)) ∧ OldK s₁.heap s'.heap ∧ s'.os = s₁.os ∧ AllBare s'.gens) s₁) :
    WalkO q loose XP YP l.row.toRowW d [] (fun f vs => PySem.call f vs) := by
  intro w s₀ s₁ mg mb G Y fa o pm cd doc dV kV ho hd hcd hD hmg hg args vals as hpre hlay hrd hwl hlo
  obtain rfl : dV = .none := Dflts.none hD hdf
  obtain rfl : kV = .none := Dflts.noKw hD
  obtain ⟨a, vs, ns, rfl, rfl, hobj, hints, hlen⟩ := script_of hn hpre hwl
  refine enter_call (codeAny_mono (call w s₀ s₁ mg mb fa o pm cd doc a vs ns G Y ho (fd_plain hd) hcd hmg hobj hints hlen hg) fun r s' hq => ?_)
  obtain ⟨rfl, h2, h3, h4⟩ := hq
  exact ⟨.inl ⟨.bool true, .bool true, [], rfl, fun _ => rfl, .bool true, post_true l _, fun _ => ⟨List.Pairwise.nil, fun _ hm => (nomatch hm)⟩⟩, h2, h3, h4⟩

/-! ### rules over ANY heap (no ledger) from facts about the written part K: the library's own take a ledger (News) for what they write -/
section
variable {prog : Program} {w : World} {A : Around} {E : Value → Shared → Prop} {s : Shared} {K : Frag}

/-! the whole heap as the ledger: makes every rule that writes through a ledger a rule over any heap -/
def ledger (h : Heap) (L d : Addr) : List (Addr × Obj) := (List.range h.objs.size).filterMap fun a => if a = L ∨ a = d then none else (h.get? a).map fun o => (a, o)
end
end Att

namespace L2
open PySem PySem.Spec PyProof.Rows

theorem vals_ints : ∀ {vs : List Value} {ns : List Int}, IntsAre vs ns → Vals (ns.map V.int) vs
  | _, _, .nil => .nil
  | _, _, .cons n t h => .cons ⟨t, rfl⟩ (vals_ints h)

/-- nothing is tracked but the script, known to the object (or it is an object of the module) -/
def Only (H : Hp) : Prop := ∀ b, H b = none ∨ ∃ o xs, H b = some (.frz o (.lst xs))

/-- THE HEAD: the law's promise, at the heap behind the top. F, the promise of the law's def, may use that base is part of the heap (so K.In base, base.Ns mainGlobals mg stand in Mod) -/
theorem law_call {P : Program} {w : World} {K : PySem.W.Frag} {mg mb : Str → Option Value} {CX : CXT} {k : Nat} {fa a : Addr} {fd : FuncData} {x : Str} {sp : Sp} {s₁ : Shared} {vs : List Value} {ns : List Int}
    (KX : K.In s₁.heap) (hns : s₁.heap.Ns mainGlobals mg) (hb : s₁.heap.Ns builtinsNs mb) (hbb : ∀ x : Str, x ≠ "__name__" → mb x = bootBuiltins x) (hlim : s₁.heap.NoLimit) (hg : s₁.gens = #[])
    (ha : s₁.heap.get? a = some { cls := .type "list", data := .seq vs.toArray }) (hi : IntsAre vs ns) (hl : ns.length ≤ sizeLine) (hr : Room k callerA)
    (F : ∀ base : Heap, K.In base → base.Ns mainGlobals mg → FnOk P w K mg base CX k fa fd [x] sp) (hbind : ∀ (s : Shared) (u : Value), BindsTo s fd ⟨[u], []⟩ [(x, u)])
    (hsp : ∀ H : Hp, Only H → SqL K H a (ns.map V.int) → sp [.ref a] H (fun v _ => v = .bl true) fun _ _ _ => False)
    (hCX : ∀ H e s', CX [] H s₁ (fun _ _ _ => False) e s' → False) :
    codeAny (model P w) callerA (.call (.ref fa) ⟨[.ref a], []⟩) (fun r s' => r = .ok (.ret (.bool true)) ∧ OldK s₁.heap s'.heap ∧ s'.os = s₁.os ∧ AllBare s'.gens) s₁ := by
  have rv := vals_ints hi
  have lenV := hi.length
  -- from an abstract heap in which nothing but the script may be tracked
  have core : ∀ H : Hp, Only H → SqL K H a (ns.map V.int) → HOk P w H s₁.heap → (∀ b, H b ≠ none → b = a) → (H a ≠ none → K.lookup a = none) →
      codeAny (model P w) callerA (.call (.ref fa) ⟨[.ref a], []⟩) (fun r s' => r = .ok (.ret (.bool true)) ∧ OldK s₁.heap s'.heap ∧ s'.os = s₁.os ∧ AllBare s'.gens) s₁ := by
    intro H hO hS hok hA hK
    have base_of : ∀ {b : Addr} {o : Obj}, s₁.heap.get? b = some o → H b = none → (hidT s₁.heap H).get? b = some o := fun e n => hidT_get e n
    have noA : ∀ {b : Addr} {o : Obj} {es : Array DictEntry} {ep : Nat}, s₁.heap.get? b = some o → o.data = .dict es ep → H b = none := fun {b o es ep} e d => by
      cases q : H b with
      | none => rfl
      | some u =>
        have e' : b = a := hA b (by rw [q]; simp)
        subst e'
        rw [ha] at e; cases e
        have d' : Data.seq vs.toArray _ = Data.dict es ep := d
        cases d'
    have nsK : ∀ {b : Addr} {m : Str → Option Value}, s₁.heap.Ns b m → (hidT s₁.heap H).Ns b m := fun {b m} ⟨o, es, ep, e, d, r⟩ => ⟨o, es, ep, base_of e (noA e d), d, r⟩
    have hKb : K.In (hidT s₁.heap H) := fun b o e => base_of (KX b o e) (by
      cases q : H b with
      | none => rfl
      | some u =>
        have e' : b = a := hA b (by rw [q]; simp)
        subst e'
        rw [hK (by rw [q]; simp)] at e; cases e)
    have hM : Mod K mg (hidT s₁.heap H) := ⟨hKb, nsK hns, ⟨mb, nsK hb, hbb⟩, let ⟨mc, h1, h2⟩ := hlim; ⟨mc, nsK h1, h2⟩⟩
    have e0 : Env0 P w K mg (hidT s₁.heap H) callerA [] s₁ H := ⟨rfl, hM, fun b o e => of_hidT e, Nat.le_of_eq (hidT_size _ _), trivial, fun b hb => absurd (show b ∈ ([] : List Addr) from hb) (by simp), hok, .of_eq hg⟩
    refine codeAny_mono ((F _ hKb (nsK hns)).run callerA [] s₁ H ⟨[.ref a], []⟩ [.ref a] [.ref a] _ _ hr e0 (hbind s₁ (.ref a)) (.cons rfl .nil) (hsp H hO hS)) fun r s' h => ?_
    cases r with
    | error e => exact (hCX H e s' h).elim
    | ok fl =>
      cases fl with
      | next => exact False.elim h
      | brk => exact False.elim h
      | cont => exact False.elim h
      | ret u =>
        obtain ⟨v, H', os, bare, un, hok', r', q⟩ := h
        have q' : v = .bl true := q
        subst q'
        obtain rfl : u = Value.bool true := r'
        refine ⟨rfl, OldK.of_keep fun b o e => ?_, os, bare⟩
        cases q : H b with
        | none => exact un.keep b o e q (by intro z; exact absurd (show b ∈ ([] : List Addr) from z) (by simp)) (by simp)
        | some u =>
          rcases hO b with z | ⟨ob, xs, z⟩
          · rw [q] at z; cases z
          · have z2 := un.frzs b ob _ z
            obtain ⟨e1, _⟩ := hok b _ z
            obtain ⟨e2, _⟩ := hok' b _ z2
            rw [e] at e1; cases e1
            exact e2
  cases hk : K.lookup a with
  | some o =>
    -- the script is one of the module's own objects
    have e := KX a o hk
    rw [ha] at e
    cases e
    refine core (fun _ => none) (fun _ => .inl rfl) (.inr ⟨_, vs.toArray, _, hk, rfl, rfl, rfl, by rw [List.size_toArray, lenV]; exact hl, by simpa using rv⟩) (fun b u z => by have z' : (none : Option HO) = some u := z; cases z') (fun b z => absurd rfl z) fun z => absurd rfl z
  | none =>
    refine core (fun b => if b = a then some (.frz { cls := .type "list", data := .seq vs.toArray } (.lst (ns.map V.int))) else none) (fun b => ?_) (.inl (.inr ⟨{ cls := .type "list", data := .seq vs.toArray }, if_pos rfl⟩)) (fun b u z => ?_) (fun b z => ?_) fun _ => hk
    · by_cases hb : b = a
      · exact .inr ⟨_, _, if_pos hb⟩
      · exact .inl (if_neg hb)
    · by_cases hb : b = a
      · have z' := (if_pos hb).symm.trans z
        cases z'
        subst hb
        exact ⟨ha, by rw [List.length_map]; exact hl, vs, _, rv, ha⟩
      · have z' := (if_neg hb).symm.trans z
        cases z'
    · by_cases hb : b = a
      · exact hb
      · exact absurd (if_neg hb) z
end L2

namespace L2
open PySem PySem.Spec PyProof.Rows

abbrev KOf {K : PySem.W.Frag} {h : Heap} (_ : K.In h) : PySem.W.Frag := K

/-- the goal that k_head leaves (case hc), from the law's promise. F gives the function object fd (K's own) once, then the promise over every base -/
theorem walk_of {l : PySem.W.OpenLaw} {n k : Nat} {q : Program} {loose : List Str} {XP : (Str → Option Value) → Heap → Prop} {YP : World → Heap → Prop} {d : DefRec} {K : Params → PySem.W.Frag} {CX : World → CXT} {sp : World → Sp} {x : Str}
    (hn : l.most = some n) (hn2 : n ≤ sizeLine) (hdf : d.params.defaults = []) (hr : Room k callerA)
    (hY : ∀ (w : World) (h : Heap), YP w h → (K w.params).In h)
    (F : ∀ (w : World) (mg : Str → Option Value) (fa : Addr) (h : Heap), (K w.params).In h → h.Ns mainGlobals mg → mg d.name = some (.ref fa) →
      ∃ fd : FuncData, (∀ (s : Shared) (u : Value), BindsTo s fd ⟨[u], []⟩ [(x, u)]) ∧
        ∀ base : Heap, (K w.params).In base → base.Ns mainGlobals mg → FnOk l.prog w (K w.params) mg base (CX w) k fa fd [x] (sp w))
    (hsp : ∀ (w : World) (H : Hp) (a : Addr) (ns : List Int), ns.length ≤ n → Only H → SqL (K w.params) H a (ns.map V.int) → sp w [.ref a] H (fun v _ => v = .bl true) fun _ _ _ => False)
    (hCX : ∀ (w : World) (H : Hp) (s : Shared) (e : Value) (s' : Shared), CX w [] H s (fun _ _ _ => False) e s' → False) :
    PySem.W.WalkO q loose XP YP l.row.toRowW d [] (fun f vs => PySem.call f vs) := by
  refine Att.attach_call hn hdf fun w s₀ s₁ mg mb fa o pm cd doc a vs ns G Y ho hd hcd hmg hobj hints hlen hg => ?_
  have KX := hY w _ Y
  obtain ⟨fd, hb, hF⟩ := F w mg fa _ KX G.T.g hmg
  exact law_call KX G.T.g G.T.b G.T.builtins G.T.nolimit hg hobj hints (Nat.le_trans hlen hn2) hr hF hb (fun H hO hS => hsp w H a ns hlen hO hS) fun H e s' => hCX w H s₁ e s'
end L2

/- THE LAST THEOREM (shape; LID, My.* are yours):
   My.Adr: a structure of the addresses that your layer names (classes, functions); My.Txt K t: a structure (Prop) of the equations over K;
   My.txt_mk : {K} {implicit addresses ..} (e1 : nsIn K mainGlobals "law" = some (some (.ref f))) (e2 : K.lookup f = some ⟨oc, od, .func (fnOf "law" "law" params body scope dV kV doc pm an cdv ct), sl⟩) (e3 : codeIn K cdv "law" = true) .. : ∃ t, My.Txt K t

set_option maxRecDepth 100000 in
set_option maxHeartbeats 0 in
theorem PySem.Challenge.cw_LID_holds : PySem.Challenge.rw_LID.Holds := by
  w_on; o_law; k_head; (case hw => w_witness2)
  k_fill
  refine L2.walk_of (l := PySem.Challenge.rw_LID) (n := 63) (k := 40) (x := "script") (CX := fun w => ..) (sp := fun _ => My.sp_law) rfl (by decide) rfl ⟨rfl, by decide, by decide⟩ (fun w h Y => PySem.W.kIn_of Y) ?F ?S ?C
  case F =>
    intro w mg fa h KX G hmg
    have T : ∃ t, My.Txt (L2.KOf KX) t := by
      dsimp only [L2.KOf]                          -- K must stand as «<heap const> w.params» for k_is
      refine' My.txt_mk ?e1 ?e2 ?e3 ..
      (case e1 => PySem.W.k_is)                    -- in the order: a name -> its address -> its object -> its parts
      (case e2 => PySem.W.k_is)
      ..
    obtain ⟨t, T⟩ := T
    have e0 := hmg.symm.trans (PySem.W.mg_of KX G T.law)
    cases e0                                       -- fa is the law's own address
    exact ⟨_, fun s u => .of_eq rfl, fun base kb nb => My.law_fn T kb nb⟩     -- if «.of_eq rfl» comes too early: refine' ⟨_, ?b, fun base kb nb => My.law_fn T kb nb⟩; exact fun s u => .of_eq rfl
  case S => exact fun w H a ns hl hO hS => ..
  case C => exact ..
(the tactic k_is has no namespace: write k_is) -/

/-! SHORT WORDS over the layer: a def of the text, its body, what a loop and a test want. -/
namespace L2
open PySem PySem.Spec PyProof.Rows

/-! ### the text by places -/
/-- the j-th statement of a class's body -/
def inClass (s : Stmt) (j : Nat) : Stmt := match s with
  | .ClassDef _ _ _ body _ _ _ _ _ _ _ => body.getD j (.Pass ⟨0, 0, 0, 0⟩)
  | _ => .Pass ⟨0, 0, 0, 0⟩
def defArgs (s : Stmt) : Arguments := match s with
  | .FunctionDef _ a _ _ _ _ _ _ _ _ => a
  | _ => { posonlyargs := [], args := [], vararg := none, kwonlyargs := [], kw_defaults := [], kwarg := none, defaults := [] }
def defBody (s : Stmt) : List Stmt := match s with
  | .FunctionDef _ _ b _ _ _ _ _ _ _ => b
  | _ => []
def defScope (s : Stmt) : Scope := match s with
  | .FunctionDef _ _ _ _ _ _ sc _ _ _ => sc
  | _ => { kind := .function, names := [], isGenerator := false, isCoroutine := false }

/-! ### no exception leaves a def -/
abbrev CX0 : CXT := fun _ _ _ _ _ _ => False
abbrev E0 : XK := fun _ _ _ => False
theorem pass0 {X : Cx} : Passes CX0 X E0 := fun _ _ _ _ _ _ _ h => h.elim

/-! ### a def (or method) of the text as it stands behind the top -/
structure Fun (K : PySem.W.Frag) (x qual : Str) (st : Stmt) (f : Addr) (fd : FuncData) : Prop where
  ex : ∃ (oc : Value) (od : Option Addr) (kV doc pm : Value) (an : Option Addr) (cdv ct : Value) (osl : Array (Option Value)),
    fd = PySem.W.fnOf x qual (defArgs st) (defBody st) (defScope st) .none kV doc pm an cdv ct ∧ K.lookup f = some ⟨oc, od, .func fd, osl⟩ ∧ PySem.W.codeIn K cdv qual = true
  kp : PySem.W.keepIn K (.ref f) = true
section
variable {P : Program} {w : World} {K : PySem.W.Frag} {mg : Str → Option Value} {base : Heap}
/-- THE RULE for a def: its body as a term of rules, and the reading of that term -/
theorem Fun.ok {x qual : Str} {st : Stmt} {f : Addr} {fd : FuncData} {N ps : List Str} {k : Nat} {sp : Sp} (F : Fun K x qual st f fd) (S : FnScope N ps (defScope st)) (len : ∀ vs H Q E, sp vs H Q E → vs.length = ps.length)
    (hbody : ∀ (cdv : Value) (A : Around) (outer : List Env) (s : Shared) (H : Hp) (vs : List V) (Q : VK) (E : XK), Room k (A.deeper (envOfC qual (defScope st) s.heap.objs.size f cdv)) → sp vs H Q E →
      ∃ t, PSs (cxOf CX0 P w K mg base N qual (defScope st) f cdv A outer s H E).nox (defBody st) t ∧ t { nx := fun _ H' => Q .non H', rt := Q } (start N vs) H) : FnOk P w K mg base CX0 (k + 1) f fd ps sp := by
  obtain ⟨oc, od, kV, doc, pm, an, cdv, ct, osl, rfl, lk, hcd⟩ := F.ex
  refine fn_of lk hcd S len fun A outer s H vs Q E hr hsp => ?_
  obtain ⟨t, h, q⟩ := hbody cdv A outer s H vs Q E hr hsp
  exact ⟨t, h.nox, q⟩
/-- how its arguments bind (no defaults): h is «fun _ _ _ _ _ _ us hl => len_2 (Q := fun us => bindArgs _ ⟨us, []⟩ = pure (List.zip _ us)) (fun _ _ => rfl) us hl», one _ a parameter -/
theorem Fun.binds {x qual : Str} {st : Stmt} {f : Addr} {fd : FuncData} {ps : List Str} (F : Fun K x qual st f fd)
    (h : ∀ (kV doc pm : Value) (an : Option Addr) (cdv ct : Value) (us : List Value), us.length = ps.length → bindArgs (PySem.W.fnOf x qual (defArgs st) (defBody st) (defScope st) .none kV doc pm an cdv ct) ⟨us, []⟩ = pure (ps.zip us)) : Binds K fd ps [] := by
  obtain ⟨oc, od, kV, doc, pm, an, cdv, ct, osl, rfl, lk, hcd⟩ := F.ex
  exact .all (h kV doc pm an cdv ct)
theorem fun_mk {x qual : Str} {st : Stmt} {f : Addr} {oc : Value} {od an : Option Addr} {osl : Array (Option Value)} {kV doc pm cdv ct : Value} (l : K.lookup f = some ⟨oc, od, .func (PySem.W.fnOf x qual (defArgs st) (defBody st) (defScope st) .none kV doc pm an cdv ct), osl⟩)
    (c : PySem.W.codeIn K cdv qual = true) (k : PySem.W.keepIn K (.ref f) = true) : Fun K x qual st f (PySem.W.fnOf x qual (defArgs st) (defBody st) (defScope st) .none kV doc pm an cdv ct) := ⟨⟨oc, od, kV, doc, pm, an, cdv, ct, osl, rfl, l, c⟩, k⟩
end
theorem small1000 {n : Nat} (h : n ≤ 1000) : n < sizeLine := Nat.lt_of_le_of_lt h (by decide)

/-! ### expressions in short: the name that stands in the i-th slot -/
section
variable {X : Cx}
theorem pv (i : Nat) {x : Str} {pos : Pos} (hN : X.N[i]? = some x := by rfl) (hv : Vis X.env.scope x := by first | exact Or.inl rfl | exact Or.inr (Or.inl rfl) | exact Or.inr (Or.inr rfl)) (hd : (x == ("__debug__" : Str)) = false := by decide)
    (hcd : (x == ("__classdict__" : Str)) = false := by decide) : PE X (.Name x pos) (tVar i) := pe_var hN hv hd hcd
end

/-! ### tests -/
theorem iteF {A B : Prop} (h : B) : if false = true then A else B := by
  rw [if_neg Bool.false_ne_true]
  exact h
theorem iteT {A B : Prop} (h : A) : if true = true then A else B := by
  rw [if_pos rfl]
  exact h
theorem ite2 {c A B : Prop} [Decidable c] (h1 : c → A) (h2 : ¬ c → B) : if c then A else B := by
  by_cases h : c
  · rw [if_pos h]
    exact h1 h
  · rw [if_neg h]
    exact h2 h
/-! ### heaps -/
/-- all that was tracked is as it was -/
def Same (H H' : Hp) : Prop := ∀ b o, H b = some o → H' b = some o
theorem Same.refl (H : Hp) : Same H H := fun _ _ h => h
theorem Same.trans {H H1 H2 : Hp} (a : Same H H1) (b : Same H1 H2) : Same H H2 := fun c o h => b c o (a c o h)
theorem Same.free {H H' : Hp} (e : Same H H') {l : Addr} (h : H' l = Option.none) : H l = Option.none := by
  cases q : H l with
  | none => rfl
  | some o =>
    rw [e l o q] at h
    cases h
theorem Same.seq {K : PySem.W.Frag} {H H' : Hp} {a : Addr} {xs : List V} (e : Same H H') (h : SqL K H a xs) : SqL K H' a xs := by
  rcases h with (h | ⟨o, h⟩) | h
  · exact .inl (.inl (e _ _ h))
  · exact .inl (.inr ⟨o, e _ _ h⟩)
  · exact .inr h

end L2

section
set_option Elab.async false
set_option linter.all false
set_option maxRecDepth 100000
set_option maxHeartbeats 4000000
namespace L2
open PySem PySem.Spec PyProof.Rows

/-! ### list comprehensions -/
theorem compLoopG {prog : Program} {w : World} {A : Around} {R : Result → Shared → Prop} {s : Shared} {elt target iter : Expr} {ifs : List Expr} {scope : Scope} {pos : Pos} {it acc : Value} {env : Env} (I : Nat → Shared → Prop)
    (turn : ∀ n s, I n s → wpAny (model prog w) A (pyNext it) (fun r s₁ => match r with
      | none => R (.ok .next) s₁
      | some v => wpAny (model prog w) A (letOwnedTupleGo target it v) (fun _ s₀ => wpAny (model prog w) A (assign target env v) (fun _ s₂ =>
          wpAny (model prog w) A (forIn ifs true fun c r => if r = true then do let ok ← isTrue c env (eval c env); pure (ForInStep.yield ok) else pure (ForInStep.yield r)) (fun ok s₃ =>
            if ok = true then wpAny (model prog w) A (eval elt env) (fun x s₄ =>
              wpAny (model prog w) A (call (.builtin "list.append") [acc, x]) (fun _ s₅ => ∃ m, m < n ∧ I m s₅) (fun _ _ => False) s₄) (fun _ _ => False) s₃
            else ∃ m, m < n ∧ I m s₃) (fun _ _ => False) s₂) (fun _ _ => False) s₀) (fun _ _ => False) s₁) (fun _ _ => False) s)
    (n : Nat) (h : I n s) :
    codeAny (model prog w) A (.compLoop (.ListComp elt [⟨target, iter, ifs, 0⟩] scope pos) 0 it acc env) R s := by
  refine codeAny_loop rfl I (fun n s hI => ?_) n h
  show wpAny _ A ((compTurn (.ListComp elt [⟨target, iter, ifs, 0⟩] scope pos) 0 it acc env).onRaise (fun x => do noteFrame x env; theTreesLotGoes x)) _ _ s
  refine wpAny_noted ?_
  rw [compTurn_list]
  refine wpAny_bind (wpAny_standAt (wpAny_bind (wpAny_mono (turn n s hI) (fun r s₁ h₁ => ?_) fun _ _ h' => h'.elim)))
  cases r with
  | none => exact wpAny_pure h₁
  | some v =>
    refine wpAny_bind (wpAny_mono h₁ (fun _ s₀ h₀ => ?_) fun _ _ h' => h'.elim)
    refine wpAny_bind (wpAny_mono h₀ (fun _ s₂ h₂ => wpAny_bind (wpAny_mono h₂ (fun ok s₃ h₃ => ?_) fun _ _ h' => h'.elim)) fun _ _ h' => h'.elim)
    cases ok with
    | false => exact wpAny_pure ⟨rfl, h₃⟩
    | true =>
      exact wpAny_bind (wpAny_bind (wpAny_mono h₃ (fun x s₄ h₄ => wpAny_bind (wpAny_mono h₄ (fun _ s₅ h₅ => wpAny_pure (wpAny_pure ⟨rfl, h₅⟩)) fun _ _ h' => h'.elim)) fun _ _ h' => h'.elim))

/-- the cells that a block's free names take along -/
theorem closure_ex {scope : Scope} {env : Env} (hf : ∀ y ∈ scope.names, y.2 = .free → ∃ c, env.cells.lookup y.1 = some c) :
    ∃ cl, closureFor scope env = pure cl ∧ (∀ x c, cl.lookup x = some c → env.cells.lookup x = some c) ∧ ∀ x, (x, NameKind.free) ∈ scope.names → ∃ c, cl.lookup x = some c := by
  have go : ∀ (l : List (Str × NameKind)) (acc : List (Str × Addr)), (∀ y ∈ l, y.2 = .free → ∃ c, env.cells.lookup y.1 = some c) → (∀ x c, acc.lookup x = some c → env.cells.lookup x = some c) →
      ∃ cl : List (Str × Addr), (forIn l acc (fun x (r : List (Str × Addr)) => match x with | (name, kind) => if (kind == NameKind.free) = true then do let a ← cellOf env name; pure (ForInStep.yield ((name, a) :: r)) else pure (ForInStep.yield r)) : Sem (List (Str × Addr))) = pure cl ∧
        (∀ x c, cl.lookup x = some c → env.cells.lookup x = some c) ∧ (∀ x, (x, NameKind.free) ∈ l → ∃ c, cl.lookup x = some c) ∧ ∀ x c, acc.lookup x = some c → ∃ c', cl.lookup x = some c' := by
    intro l
    induction l with
    | nil => intro acc _ ha; exact ⟨acc, rfl, ha, fun x h => absurd h (by simp), fun x c h => ⟨c, h⟩⟩
    | cons y r ih =>
      intro acc hl ha
      obtain ⟨name, kind⟩ := y
      by_cases hk : kind = .free
      · subst hk
        obtain ⟨c, hc⟩ := hl (name, .free) List.mem_cons_self rfl
        have ha' : ∀ x c', ((name, c) :: acc).lookup x = some c' → env.cells.lookup x = some c' := fun x c' h => by
          rw [List.lookup_cons] at h
          cases e : x == name with
          | true => rw [e] at h; cases h; rw [eq_of_beq e]; exact hc
          | false => rw [e] at h; exact ha x c' h
        obtain ⟨cl, e, h1, h2, h3⟩ := ih ((name, c) :: acc) (fun y hy => hl y (List.mem_cons_of_mem _ hy)) ha'
        refine ⟨cl, ?_, h1, fun x hx => ?_, fun x c' h => ?_⟩
        · rw [List.forIn_cons, ← e]
          have ec : cellOf env name = pure c := by unfold cellOf; rw [hc]
          show (if (NameKind.free == NameKind.free) = true then _ else _) >>= _ = _
          rw [if_pos (by rfl), ec]
          rfl
        · rcases List.mem_cons.mp hx with z | z
          · cases z
            exact h3 name c (by rw [List.lookup_cons]; simp)
          · exact h2 x z
        · cases e : x == name with
          | true => exact h3 x c (by rw [List.lookup_cons, e])
          | false => exact h3 x c' (by rw [List.lookup_cons, e]; exact h)
      · have hb : (kind == NameKind.free) = false := by simpa using hk
        obtain ⟨cl, e, h1, h2, h3⟩ := ih acc (fun y hy => hl y (List.mem_cons_of_mem _ hy)) ha
        refine ⟨cl, ?_, h1, fun x hx => ?_, h3⟩
        · rw [List.forIn_cons, ← e]
          show (if (kind == NameKind.free) = true then _ else _) >>= _ = _
          rw [if_neg (by rw [hb]; decide)]
          rfl
        · rcases List.mem_cons.mp hx with z | z
          · cases z; exact absurd rfl hk
          · exact h2 x z
  obtain ⟨cl, e, h1, h2, _⟩ := go scope.names [] hf (fun x c h => by simp at h)
  refine ⟨cl, ?_, h1, h2⟩
  unfold closureFor
  show (forIn scope.names [] _ >>= fun cs => pure cs) = _
  refine Eq.trans (congrArg (fun t => t >>= fun cs => pure cs) e) ?_
  rfl

theorem relabel_lookup {env : Env} : ∀ {names : List (Str × NameKind)} {x : Str} {k' : NameKind},
    (names.map fun (n, k) => if (k == NameKind.free && env.scope.kind == .function && env.kindOf n == some .cell) then (n, NameKind.cell) else (n, k)).lookup x = some k' →
    ∃ k, names.lookup x = some k ∧ (k' = k ∨ (k = .free ∧ k' = .cell))
  | [], _, _, h => by simp at h
  | (n, k) :: r, x, k', h => by
    have ih := @relabel_lookup env r x k'
    have h : List.lookup x ((if (k == NameKind.free && env.scope.kind == .function && env.kindOf n == some .cell) = true then (n, NameKind.cell) else (n, k)) :: r.map fun (n, k) => if (k == NameKind.free && env.scope.kind == .function && env.kindOf n == some .cell) then (n, NameKind.cell) else (n, k)) = some k' := h
    by_cases hc : (k == NameKind.free && env.scope.kind == .function && env.kindOf n == some .cell) = true
    · rw [if_pos hc, List.lookup_cons] at h
      rw [List.lookup_cons]
      cases e : x == n with
      | true =>
        rw [e] at h
        cases h
        refine ⟨k, rfl, .inr ⟨?_, rfl⟩⟩
        simp only [Bool.and_eq_true, beq_iff_eq] at hc
        exact hc.1.1
      | false => rw [e] at h; exact ih h
    · rw [if_neg hc, List.lookup_cons] at h
      rw [List.lookup_cons]
      cases e : x == n with
      | true => rw [e] at h; cases h; exact ⟨k, rfl, .inl rfl⟩
      | false => rw [e] at h; exact ih h

/-- a comprehension's block: its own frame of names at C, the names of the function round it by their cells -/
def cxComp (X : Cx) (s2 : Shared) (H2 : Hp) (fp : List Addr) (N : List Str) (scope : Scope) (cl : List (Str × Addr)) (C : Addr) : Cx where
  prog := X.prog
  w := X.w
  K := X.K
  mg := X.mg
  base := X.base
  A := X.A
  N := N
  s₀ := s2
  H₀ := H2
  env := compEnvC scope cl C X.env
  outer := X.stack
  stack := X.stack
  ex := fp
  fn := fun _ => false
  calm := X.calm
  pn := []
  xe := fun _ _ => False

/-- a target that stores into the first k names alone -/
def GKeep (k : Nat) (g : TG) : Prop := ∀ x σ H Q, g x σ H Q → g x σ H fun σ2 H2 => (∀ i, k ≤ i → σ2[i]? = σ[i]?) ∧ Q σ2 H2
theorem gkeep_name {k i : Nat} (h : i < k) : GKeep k (gName i) := fun x σ H Q q => ⟨fun j hj => by rw [List.getElem?_set_ne (by omega)], q⟩
theorem gkeep_pair {K : PySem.W.Frag} {k i j n : Nat} (hi : i < k) (hj : j < k) : GKeep k (gTup K n (gCons (gName i) (gCons (gName j) gNil))) := by
  rintro x σ H Q ⟨a, xs, e1, hq, hl, v, r, e2, v', r', e3, e4, q⟩
  exact ⟨a, xs, e1, hq, hl, v, r, e2, v', r', e3, e4, fun l hl => by rw [List.getElem?_set_ne (by omega), List.getElem?_set_ne (by omega)], q⟩
/-- the tests of a clause -/
def PIfs (X : Cx) (ifs : List Expr) (t : TT) : Prop :=
  ∀ (pins : List (Addr × Obj)) (s : Shared) (σ : St) (H : Hp) (Q : Bool → Hp → Prop), Inv X pins σ H s → t σ H Q →
    wpAny (model X.prog X.w) X.A (forIn ifs true fun c r => if r = true then do let ok ← isTrue c X.env (eval c X.env); pure (ForInStep.yield ok) else pure (ForInStep.yield r)) (TP X pins σ Q) X.xe s
def tAlways : TT := fun _ H Q => Q true H
theorem pif_nil {X : Cx} : PIfs X [] tAlways := fun pins s σ H Q I h => wpAny_tests_nil ⟨H, I, h⟩
theorem pif_one {X : Cx} {c : Expr} {t : TT} (h : PT X c t) : PIfs X [c] t := fun pins s σ H Q I q => wpAny_tests_one (h pins s σ H Q I q)

/-- the names' values in a comprehension's block: its own none, then those of the function's names at js -/
def compSt (k : Nat) (js : List Nat) (σ : St) : St := List.replicate k none ++ js.map fun j => (σ[j]?).join
def tComp (k : Nat) (js : List Nat) (wi : TI) (g : TG) (tc : TT) (te : TE) : TE := fun σ H Q => wi σ H fun J H1 => ∃ W : Nat → Nat → List V → Hp → Prop, (∃ m, W 0 m [] H1) ∧ ∀ i m ys H, W i m ys H →
  (J.stop i H ∧ ∀ D, H D = none → Q (.ref D) (upd H D (.lst ys))) ∨
  (J.go i H ∧ ys.length < sizeLine ∧ ∀ x H', J.yld i H x H' → g x (compSt k js σ) H' fun σ2 H2 => tc σ2 H2 fun b H3 => if b = true then te σ2 H3 fun y H4 => ∃ m', m' < m ∧ W (i + 1) m' (ys ++ [y]) H4 else ∃ m', m' < m ∧ W (i + 1) m' ys H3)

theorem Un.later {P : Program} {w : World} {fs ex : List Addr} {H H1 H2 : Hp} {h h1 h2 : Heap} (u : Un fs ex H H1 h h1) (ok : HOk P w H h) (ag : ∀ b, b < h.objs.size → H2 b = H1 b) (k : ∀ b o, b < h.objs.size → h1.get? b = some o → h2.get? b = some o) : Un fs ex H H2 h h2 where
  keep := fun b o e n hb hx => k b o (Heap.lt_size e) (u.keep b o e n hb hx)
  slot := fun b o e n hb hx => let ⟨sl, q⟩ := u.slot b o e n hb hx; ⟨sl, k b _ (Heap.lt_size e) q⟩
  free := fun b o e n hx => by rw [ag b (Heap.lt_size e)]; exact u.free b o e n hx
  there := fun b o e hx => let ⟨o', q⟩ := u.there b o e hx; ⟨o', k b _ (Heap.lt_size e) q⟩
  tups := fun b xs e => by rw [ag b (ok.lt e)]; exact u.tups b xs e
  frzs := fun b o x e => by rw [ag b (ok.lt e)]; exact u.frzs b o x e
  tbls := fun b ps e => by rw [ag b (ok.lt e)]; exact u.tbls b ps e

section
variable {X : Cx} {elt tg iter : Expr} {ifs : List Expr} {scope : Scope} {pos : Pos} {wi : TI} {g : TG} {tc : TT} {te : TE}

/-- what a comprehension asks of its scope. own: its own names that are read; fr: the names of the function round it, with their slots there -/
structure CompOk (X : Cx) (scope : Scope) (own : List Str) (fr : List (Str × Nat)) : Prop where
  kind : scope.kind = .function
  cell : ∀ y ∈ scope.names, y.2 ≠ .cell
  loc : ∀ y ∈ scope.names, y.2 = .local → scope.names.lookup y.1 = some .local
  free : ∀ y ∈ scope.names, y.2 = .free → X.env.kindOf y.1 = some .cell
  fr : ∀ p ∈ fr, scope.names.lookup p.1 = some .free ∧ X.N[p.2]? = some p.1

def compChk (sc scope : Scope) (N : List Str) (fr : List (Str × Nat)) : Bool :=
  (decide (scope.kind = .function) && scope.names.all (fun y => decide (y.2 ≠ .cell)) && scope.names.all (fun y => decide (y.2 = .local → scope.names.lookup y.1 = some .local)) &&
    scope.names.all (fun y => decide (y.2 = .free → sc.names.lookup y.1 = some .cell)) && fr.all fun p => decide (scope.names.lookup p.1 = some .free) && decide (N[p.2]? = some p.1))
theorem compOk {own : List Str} {fr : List (Str × Nat)} (sc : Scope) (N : List Str) (h : compChk sc scope N fr = true) (hs : X.env.scope = sc := by rfl) (hN : X.N = N := by rfl) : CompOk X scope own fr := by
  subst hs hN
  unfold compChk at h
  simp only [Bool.and_eq_true, List.all_eq_true, decide_eq_true_eq] at h
  obtain ⟨⟨⟨⟨h1, h2⟩, h3⟩, h4⟩, h5⟩ := h
  exact ⟨h1, h2, h3, h4, h5⟩
theorem comp_core {own : List Str} {fr : List (Str × Nat)} {pins : List (Addr × Obj)} {s2 : Shared} {σ : St} {H2 : Hp} {it : Addr} {fp : List Addr} {tn : Nat → Heap → Prop} {J : It} {cl : List (Str × Addr)} {E : Value → Shared → Prop}
    {W : Nat → Nat → List V → Hp → Prop} {m0 : Nat} {RR : Value → Addr → Result → Shared → Prop} {Fin : Addr → List V → Hp → Prop}
    (hc : X.calm = true) (S : CompOk X scope own fr) (cl1 : ∀ x c, cl.lookup x = some c → X.env.cells.lookup x = some c) (cl2 : ∀ x, (x, NameKind.free) ∈ scope.names → ∃ c, cl.lookup x = some c)
    (hg : ∀ s2 H2 fp cl C, PG (cxComp X s2 H2 fp (own ++ fr.map (·.1)) scope cl C) tg g) (hk : GKeep own.length g)
    (hi : ∀ s2 H2 fp cl C, PIfs (cxComp X s2 H2 fp (own ++ fr.map (·.1)) scope cl C) ifs tc) (he : ∀ s2 H2 fp cl C, PE (cxComp X s2 H2 fp (own ++ fr.map (·.1)) scope cl C) elt te)
    (I2 : Inv X pins σ H2 s2) (T : Turn X.prog X.w X.K tg J fp it tn) (st2 : tn 0 s2.heap) (f2 : ∀ b ∈ fp, FpOk X pins H2 b) (w0 : W 0 m0 [] H2)
    (turn : ∀ i m ys H, W i m ys H →
      (J.stop i H ∧ ∀ D, H D = none → Fin D ys H) ∨
      (J.go i H ∧ ys.length < sizeLine ∧ ∀ x H', J.yld i H x H' → g x (compSt own.length (fr.map (·.2)) σ) H' fun σ2 H2 => tc σ2 H2 fun b H3 => if b = true then te σ2 H3 fun y H4 => ∃ m', m' < m ∧ W (i + 1) m' (ys ++ [y]) H4 else ∃ m', m' < m ∧ W (i + 1) m' ys H3))
    (hRR : ∀ D C oC mC s4 H4 ys, Fin D ys H4 → Inv X (pins ++ [(C, oC)]) σ (upd H4 D (.lst ys)) s4 → s4.heap.Ns C mC → FpOk X pins (upd H4 D (.lst ys)) C → RR (.ref D) C (.ok .next) s4) :
    wpAny (model X.prog X.w) X.A (newList []) (fun acc s₃ => wpAny (model X.prog X.w) X.A (newFunctionEnv scope X.env.globals cl [] X.env.qual none .none (some X.env)) (fun cenv s₄ =>
      codeAny (model X.prog X.w) X.A (.compStart (.ListComp elt [⟨tg, iter, ifs, 0⟩] scope pos) 0 (.ref it) acc { cenv with scope := relabel scope X.env }) (RR acc cenv.locals) s₄) E s₃) E s2 := by
  refine wpAny_newObj_type (wpAny_newFunctionEnv S.cell (by intro y hy; simp at hy) (fun h₁ hns₁ hsb₁ => ?_) S.kind)
  dsimp only at hns₁ hsb₁ ⊢
  generalize hH2 : s2.heap.push { cls := .type "list", dict := none, data := .seq ([] : List Value).toArray } = Hh at hns₁ hsb₁ ⊢
  have hC : Hh.objs.size = s2.heap.objs.size + 1 := by rw [← hH2, Heap.size_push]
  have hDC : s2.heap.objs.size ≠ Hh.objs.size := by rw [hC]; exact Nat.ne_of_lt (Nat.lt_succ_self _)
  have hCle : s2.heap.objs.size ≤ Hh.objs.size := by rw [hC]; exact Nat.le_succ _
  have old : ∀ b o, s2.heap.get? b = some o → h₁.get? b = some o := fun b o e => hsb₁.extBut b o (Nat.ne_of_lt (Nat.lt_of_lt_of_le (Heap.lt_size e) hCle)) (Heap.get?_push_of_some _ (hH2 ▸ Heap.get?_push_of_some _ e))
  have hacc : h₁.get? s2.heap.objs.size = some (LCg.lst []) := hsb₁.extBut _ _ hDC (Heap.get?_push_of_some _ (hH2 ▸ Heap.get?_push_size _ rfl))
  -- the block's context
  let Y : Cx := cxComp X s2 H2 fp (own ++ fr.map (·.1)) scope cl Hh.objs.size
  let D := s2.heap.objs.size
  let σY : St := compSt own.length (fr.map (·.2)) σ
  have fpl : ∀ b ∈ fp, b < s2.heap.objs.size := fun b hb => let ⟨o, e, _⟩ := T.obj 0 _ st2 b hb; Heap.lt_size e
  have nfs : ∀ b, s2.heap.objs.size ≤ b → b ∉ Y.fs := fun b hb z => by
    rcases List.mem_cons.mp (I2.stkSub b z) with e | e
    · rw [e] at hb; exact absurd I2.lt (Nat.not_lt.mpr hb)
    · exact I2.nofs hb e
  have hkY : ∀ x, (Y.env.kindOf x = some .cell ∨ Y.env.kindOf x = some .free) → scope.names.lookup x = some .free := fun x hx => by
    have q : ∃ k', (relabel scope X.env).names.lookup x = some k' ∧ (k' = .cell ∨ k' = .free) := by
      rcases hx with z | z
      · exact ⟨_, z, .inl rfl⟩
      · exact ⟨_, z, .inr rfl⟩
    obtain ⟨k', e, hk'⟩ := q
    obtain ⟨k, e', h'⟩ := relabel_lookup e
    have nc : k ≠ .cell := S.cell (x, k) (PySem.mem_of_lookup e')
    rcases h' with z | ⟨z, _⟩
    · subst z
      rcases hk' with z | z
      · exact absurd z nc
      · rw [z] at e'; exact e'
    · rw [z] at e'; exact e'
  have okY : Y.Ok := by
    refine ⟨I2.ok.mod, S.kind, I2.ok.glob, I2.ok.blt, hCle, fun x y c h1 h2 => I2.ok.inj x y c (cl1 x c h1) (cl1 y c h2), fun x hx => cl2 x (PySem.mem_of_lookup (hkY x hx)), (fun x c z _ => nomatch z), I2.ok.hd, I2.ok.frames, .inl rfl, fun b hb => ⟨?_, fun x c e => (f2 b hb).2.2.2.2.1 x c (cl1 x c e)⟩,
      fun b o e => I2.bs b o e, Nat.le_trans I2.ok.bsz I2.sz, fun b o e hb => ?_, fun b hb z => ?_, I2.stack, I2.stkFree⟩
    · exact Nat.ne_of_lt (Nat.lt_of_lt_of_le (fpl b hb) hCle)
    · rcases (f2 b hb).2.2.2.1 with z | z
      · exact I2.ok.noex b o e z
      · exact absurd (Nat.lt_of_lt_of_le (Heap.lt_size e) (Nat.le_trans I2.ok.bsz z)) (Nat.lt_irrefl _)
    · rcases List.mem_cons.mp (I2.stkSub b z) with e | e
      · exact (f2 b hb).2.1 e
      · exact (f2 b hb).2.2.1 e
  have σYl : σY.length = Y.N.length := by
    show (compSt own.length (fr.map (·.2)) σ).length = (own ++ fr.map (·.1)).length
    unfold compSt
    rw [List.length_append, List.length_append, List.length_replicate, List.length_map, List.length_map, List.length_map]
  have lookY : ∀ (h : Heap) (m : Str → Option Value), (∀ c v, (∃ x, X.env.cells.lookup x = some c) → s2.heap.IsCell c v → h.IsCell c v) → ∀ (i : Nat) (x : Str) (v : V), Y.N[i]? = some x → σY[i]? = some (some v) → Vis Y.env.scope x → ∃ u, RelV v u ∧ Look Y.env h m x u := by
    intro h m hcells i x v hN hσ hv
    have hN : (own ++ fr.map (·.1))[i]? = some x := hN
    have hσ : (List.replicate own.length none ++ (fr.map (·.2)).map fun j => (σ[j]?).join)[i]? = some (some v) := hσ
    by_cases hio : i < own.length
    · rw [List.getElem?_append_left (by simpa using hio), List.getElem?_replicate, if_pos hio] at hσ
      cases hσ
    · rw [List.getElem?_append_right (by simpa using hio)] at hσ
      rw [List.getElem?_append_right (by simpa using hio)] at hN
      rw [List.length_replicate] at hσ
      rw [List.getElem?_map] at hN
      rw [List.getElem?_map, List.getElem?_map] at hσ
      cases ep : fr[i - own.length]? with
      | none => rw [ep] at hN; cases hN
      | some p =>
        rw [ep] at hN hσ
        cases hN
        have hσ : (σ[p.2]?).join = some v := Option.some.inj hσ
        obtain ⟨hfree, hXN⟩ := S.fr p (List.mem_of_getElem? ep)
        have hXk : X.env.kindOf p.1 = some .cell := S.free (p.1, .free) (PySem.mem_of_lookup hfree) rfl
        obtain ⟨m', hn', hl'⟩ := I2.loc
        have hσ' : σ[p.2]? = some (some v) := by
          cases e : σ[p.2]? with
          | none => rw [e] at hσ; cases hσ
          | some o => rw [e] at hσ; cases o with
            | none => cases hσ
            | some v' => cases hσ; rfl
        obtain ⟨u, r, l⟩ := hl' p.2 p.1 v hXN hσ' (.inr (.inl hXk))
        refine ⟨u, r, ?_⟩
        rcases l with ⟨l, _⟩ | ⟨_, c, hcl, hcell⟩
        · rw [hXk] at l; cases l
        · obtain ⟨c', hc'⟩ := cl2 p.1 (PySem.mem_of_lookup hfree)
          have e2 := cl1 _ _ hc'
          rw [hcl] at e2
          cases e2
          refine .inr ⟨?_, c, hc', hcells c _ ⟨_, hcl⟩ hcell⟩
          rcases hv with z | z | z
          · obtain ⟨k, e1, e3⟩ := relabel_lookup z
            rw [hfree] at e1
            cases e1
            rcases e3 with e3 | ⟨_, e3⟩
            · exact .inr (by cases e3)
            · exact .inr (by cases e3)
          · exact .inl z
          · exact .inr z
  have IY : Inv Y [(D, LCg.lst [])] σY H2 { s2 with heap := h₁, toks := s2.toks + ([] : List (Str × Value)).length } := by
    refine ⟨okY, rfl, I2.bare, Un.kept old, ⟨_, hns₁, lookY _ _ fun c v _ ⟨o, e, d⟩ => ⟨o, old c o e, d⟩⟩, fun x c e => ?_, I2.hok.fresh hCle, fun x c e => I2.freeC x c (cl1 x c e), fun p hp => ?_, I2.hok.kept old, σYl⟩
    · obtain ⟨v, o, e1, d⟩ := I2.cell x c (cl1 x c e)
      exact ⟨v, o, old c o e1, d⟩
    · have hp : p ∈ [(D, LCg.lst [])] := by simpa [Y, cxComp] using hp
      rw [List.mem_singleton.mp hp]
      exact ⟨hacc, I2.hok.fresh (Nat.le_refl _), hDC, nfs _ (Nat.le_refl _), fun v z => nomatch z⟩
  have stat : ∀ {us : List Value} {H' : Hp}, (∀ b ∈ fp, H' b = none) → ∀ b ∈ fp, FpOk Y [(D, LCg.lst us)] H' b := fun {us H'} hn b hb => by
    refine ⟨hn b hb, Nat.ne_of_lt (Nat.lt_of_lt_of_le (fpl b hb) hCle), fun z => ?_, .inl hb, fun x c e => (f2 b hb).2.2.2.2.1 x c (cl1 x c e), fun p hp => ?_⟩
    · exact okY.exfs b hb z
    · have hp : p ∈ [(D, LCg.lst us)] := by simpa [Y, cxComp] using hp
      rw [List.mem_singleton.mp hp]
      exact fun z => absurd (fpl b hb) (by rw [← z]; exact Nat.lt_irrefl _)
  have loop : ∀ s₃ : Shared, s₃ = { s2 with heap := h₁, toks := s2.toks + ([] : List (Str × Value)).length } →
      codeAny (model X.prog X.w) X.A (.compLoop (.ListComp elt [⟨tg, iter, ifs, 0⟩] scope pos) 0 (.ref it) (.ref s2.heap.objs.size) (compEnvC scope cl Hh.objs.size X.env))
        (RR (.ref s2.heap.objs.size) Hh.objs.size) s₃ := by
    rintro s₃ rfl
    refine compLoopG (fun n s' => ∃ i ys us H', Inv Y [(D, LCg.lst us)] σY H' s' ∧ Vals ys us ∧ ys.length ≤ sizeLine ∧ tn i s'.heap ∧ (∀ b ∈ fp, H' b = none) ∧ W i n ys H') ?_ m0
      ⟨0, [], [], H2, IY, .nil, Nat.zero_le _, T.keep _ _ _ st2 fun b _ o e => old b o e, fun b hb => (f2 b hb).1, w0⟩
    rintro n s3 ⟨i, ys, us, H3, I3, rv, hsz, st3, fr3, w3⟩
    rcases turn i n ys H3 w3 with ⟨stop, qn⟩ | ⟨go, hlt, step⟩
    · refine thn (T.done Y rfl rfl rfl hc i _ s3 σY H3 _ I3 (stat fr3) st3 stop) fun r s4 ⟨hr, I4⟩ => ?_
      subst hr
      have pinD := I4.pin (D, LCg.lst us) (List.mem_append_right _ (List.mem_singleton.mpr rfl))
      obtain ⟨mC, hnC, _⟩ := I4.loc
      obtain ⟨oC, esC, epC, hoC, hdC, hxC⟩ := id hnC
      have hDn : H3 D = none := pinD.2.1
      have ag : ∀ b, b < s2.heap.objs.size → (upd H3 D (.lst ys)) b = H3 b := fun b hb => upd_ne (Nat.ne_of_lt hb)
      have hokU : HOk X.prog X.w (upd H3 D (.lst ys)) s4.heap := fun a o e => by
        by_cases ha : a = D
        · subst ha
          rw [upd_same] at e
          cases e
          exact ⟨hsz, us, _, rv, pinD.1⟩
        · rw [upd_ne ha] at e
          refine (I4.hok a o e).stay (fun _ _ _ q => q) (fun b q => ?_) (fun b xs q => ?_)
          · rw [upd_ne (ne_of_none q hDn)]; exact q
          · rw [upd_ne (ne_of_none q hDn)]; exact q
      have IX : Inv X pins σ (upd H3 D (.lst ys)) s4 := I2.call' (ch := fp) I4.os (I4.base.later I2.hok ag fun b o _ e => e) hokU I4.bare fun b hb => ⟨(f2 b hb).2.2.2.1, (f2 b hb).2.1, (f2 b hb).2.2.2.2.1, (f2 b hb).2.2.2.2.2⟩
      have hCn : (upd H3 D (.lst ys)) Hh.objs.size = none := by rw [upd_ne (Ne.symm hDC)]; exact I4.free
      have fC : FpOk X pins (upd H3 D (.lst ys)) Hh.objs.size := I2.fpOk hCle hCn
      refine hRR D Hh.objs.size oC mC s4 H3 ys (qn D hDn) (IX.pins_of fun p hp => ?_) hnC fC
      rcases List.mem_append.mp hp with z | z
      · exact IX.pin p (List.mem_append_right _ z)
      · rw [List.mem_singleton.mp z]
        exact ⟨hoC, hCn, fC.2.1, fC.2.2.1, fun v z => by rw [hdC] at z; cases z⟩
    · refine thn (T.item Y rfl rfl rfl hc i _ s3 σY H3 _ I3 (stat fr3) st3 go) fun r s4 ⟨u, hr, h4⟩ => ?_
      subst hr
      refine thn h4 fun _ s5 ⟨x, H5, I5, r5, y5, st5, fr5⟩ => ?_
      have I5' := I5.pinned (stat fr5) (T.obj _ _ st5)
      refine thn (hg _ _ _ _ _ _ s5 σY H5 x u _ I5' r5 (hk _ _ _ _ (step x H5 y5))) fun _ s6 ⟨σ6, H6, I6, hext, q6⟩ => ?_
      refine thn (hi _ _ _ _ _ _ s6 σ6 H6 _ I6 q6) fun b s7 ⟨H7, I7, q7⟩ => ?_
      have back : ∀ {s8 : Shared} {H8 : Hp} {us8 : List Value}, Inv Y ([(D, LCg.lst us8)] ++ pinsAt fp s5.heap) σ6 H8 s8 → Inv Y [(D, LCg.lst us8)] σY H8 s8 ∧ tn (i + 1) s8.heap ∧ ∀ b ∈ fp, H8 b = none := fun {s8 H8 us8} I8 => by
        refine ⟨I8.unpinned.weak (σYl.trans I8.len.symm) fun j v hj => ?_, T.keep _ _ _ st5 fun b hb o e => (I8.pin (b, o) (List.mem_append_right _ (List.mem_append_right _ (mem_pinsAt hb e)))).1, fun b hb => ?_⟩
        · have hjo : own.length ≤ j := by
            rcases Nat.lt_or_ge j own.length with z | z
            · have hj : (List.replicate own.length none ++ (fr.map (·.2)).map fun j => (σ[j]?).join)[j]? = some (some v) := hj
              rw [List.getElem?_append_left (by simpa using z), List.getElem?_replicate, if_pos z] at hj
              cases hj
            · exact z
          rw [hext j hjo]
          exact hj
        · obtain ⟨o, e, d⟩ := T.obj _ _ st5 b hb
          exact (I8.pin (b, o) (List.mem_append_right _ (List.mem_append_right _ (mem_pinsAt hb e)))).2.1
      cases b with
      | false =>
        rw [if_neg Bool.false_ne_true] at q7 ⊢
        obtain ⟨m', hm, w7⟩ := q7
        obtain ⟨I8, t8, f8⟩ := back I7
        exact ⟨m', hm, i + 1, ys, us, H7, I8, rv, hsz, t8, f8, w7⟩
      | true =>
        rw [if_pos rfl] at q7 ⊢
        refine thn (he _ _ _ _ _ _ s7 σ6 H7 _ I7 q7) fun vy s8 ⟨y, H8, I8, ry, m', hm, w8⟩ => ?_
        have pinD := I8.pin (D, LCg.lst us) (List.mem_append_right _ (List.mem_append_left _ (List.mem_singleton.mpr rfl)))
        refine append_at (hsz := by rw [List.size_toArray, ← rv.length]; exact hsz) pinD.1 fun h₅ hs₅ hD₅ => ?_
        have hD₅' : h₅.get? D = some (LCg.lst (us ++ [vy])) := hD₅.trans (congrArg some (LCg.lst_snoc us vy))
        have Ia : Inv Y (pinsAt fp s5.heap) σ6 H8 s8 := I8.pins_of fun p hp => I8.pin p (List.mem_append_right _ (List.mem_append_right _ hp))
        have Ib : Inv Y (pinsAt fp s5.heap) σ6 H8 { s8 with heap := h₅ } := Ia.turned (it := D) (t' := s8.toks) (fun b o hb e => hs₅.extBut b o hb e) pinD.2.1 hDC (.inr (Nat.le_refl _))
          (fun x c e z => by
            obtain ⟨v, q⟩ := I2.cell x c (cl1 x c e)
            exact absurd q.lt (by rw [z]; exact Nat.lt_irrefl _))
          (fun p hp => by
            have hp : p ∈ pinsAt fp s5.heap := by simpa [Y, cxComp] using hp
            exact fun z => absurd (fpl p.1 (of_pinsAt hp).1) (by rw [z]; exact Nat.lt_irrefl _))
        have Ic : Inv Y ([(D, LCg.lst (us ++ [vy]))] ++ pinsAt fp s5.heap) σ6 H8 { s8 with heap := h₅ } := Ib.pins_of fun p hp => by
          rcases List.mem_append.mp hp with z | z
          · rw [List.mem_singleton.mp z]
            exact ⟨hD₅', pinD.2.1, hDC, nfs _ (Nat.le_refl _), fun v z => nomatch z⟩
          · exact Ib.pin p (List.mem_append_right _ z)
        obtain ⟨I9, t9, f9⟩ := back Ic
        exact ⟨m', hm, i + 1, ys ++ [y], us ++ [vy], H8, I9, rv.append (.cons ry .nil), by rw [List.length_append, List.length_singleton]; omega, t9, f9, w8⟩
  exact codeAny_compStart_list (loop _ rfl) (T.self X.A 0 _ _ _ (T.keep _ _ _ st2 fun b _ o e => old b o e) (loop _ rfl))

theorem comp_cells {own : List Str} {fr : List (Str × Nat)} {pins : List (Addr × Obj)} {s : Shared} {σ : St} {H : Hp} (S : CompOk X scope own fr) (I : Inv X pins σ H s) : ∀ y ∈ scope.names, y.2 = .free → ∃ c, X.env.cells.lookup y.1 = some c :=
  fun y hy e => I.ok.has y.1 (.inl (S.free y hy e))

/-- [e for x in it if c]: as a value -/
theorem pe_comp (own : List Str) (fr : List (Str × Nat)) (hc : X.calm = true) (S : CompOk X scope own fr) (hit : PI X tg iter wi)
    (hg : ∀ s2 H2 fp cl C, PG (cxComp X s2 H2 fp (own ++ fr.map (·.1)) scope cl C) tg g) (hk : GKeep own.length g)
    (hi : ∀ s2 H2 fp cl C, PIfs (cxComp X s2 H2 fp (own ++ fr.map (·.1)) scope cl C) ifs tc) (he : ∀ s2 H2 fp cl C, PE (cxComp X s2 H2 fp (own ++ fr.map (·.1)) scope cl C) elt te)
    (hs : ∀ x, foldedSetIterable iter X.env x = pure x := by intro _; rfl) :
    PE X (.ListComp elt [⟨tg, iter, ifs, 0⟩] scope pos) (tComp own.length (fr.map (·.2)) wi g tc te) := by
  intro pins s σ H Q I h
  obtain ⟨cl, hclos, cl1, cl2⟩ := closure_ex (comp_cells S I)
  rw [eval_ListComp]
  refine wpAny_comprehension_free (use := none) rfl hs hclos S.kind S.loc (thn (hit pins s σ H _ I h) fun v s1 h1 => thn h1 fun itv s2 h2 => ?_)
  obtain ⟨it, fp, tn, J, H2, e, I2, T, st2, f2, W, ⟨m0, w0⟩, turn⟩ := h2
  subst e
  refine comp_core (RR := fun acc C => compPost (model X.prog X.w) X.A X.xe none (EP X pins σ Q) acc C) (Fin := fun D ys H => Q (.ref D) (upd H D (.lst ys))) hc S cl1 cl2 hg hk hi he I2 T st2 f2 w0 turn ?_
  intro D C oC mC s4 H4 ys fin IC hn fC
  refine ⟨mC, hn, fun h' hs' => ⟨.ref D, _, ?_, rfl, fin⟩⟩
  exact IC.unpinned.turned (t' := s4.toks) (fun b o hb e => hs'.extBut b o hb e) fC.1 fC.2.1 fC.2.2.2.1 fC.2.2.2.2.1 fC.2.2.2.2.2

/-- x = [e for .. in it if c] -/
def tSetComp (j k : Nat) (js : List Nat) (wi : TI) (g : TG) (tc : TT) (te : TE) : TS := fun D σ H => tComp k js wi g tc te σ H fun v H' => D.nx (σ.set j (some v)) H'
theorem ps_setComp {j : Nat} {y : Str} {py spos : Pos} (own : List Str) (fr : List (Str × Nat)) (hN : X.N.Nodup) (hj : X.N[j]? = some y) (hy : Loc X.env.scope y) (hc : X.calm = true) (S : CompOk X scope own fr) (hit : PI X tg iter wi)
    (hg : ∀ s2 H2 fp cl C, PG (cxComp X s2 H2 fp (own ++ fr.map (·.1)) scope cl C) tg g) (hk : GKeep own.length g)
    (hi : ∀ s2 H2 fp cl C, PIfs (cxComp X s2 H2 fp (own ++ fr.map (·.1)) scope cl C) ifs tc) (he : ∀ s2 H2 fp cl C, PE (cxComp X s2 H2 fp (own ++ fr.map (·.1)) scope cl C) elt te)
    (hsw : swapsWith (.ListComp elt [⟨tg, iter, ifs, 0⟩] scope pos) (some (.Name y py)) spos.line X.env = pure true := by rfl)
    (hs : ∀ x, foldedSetIterable iter X.env x = pure x := by intro _; rfl)
    (hf : X.fn y = true ∨ X.env.scope.names.lookup y = some .local := by first | exact .inl rfl | exact .inr rfl | assumption) :
    PS X (.Assign [.Name y py] (.ListComp elt [⟨tg, iter, ifs, 0⟩] scope pos) spos) (tSetComp j own.length (fr.map (·.2)) wi g tc te) := by
  intro pins s σ H Dn I h
  obtain ⟨cl, hclos, cl1, cl2⟩ := closure_ex (comp_cells S I)
  rw [exec_Assign_Name_used _ _ _ _ hsw]
  refine wpAny_bind (wpAny_standAt (wpAny_bind ?_))
  show wpAny _ X.A (do let _ ← comprehension (.ListComp elt [⟨tg, iter, ifs, 0⟩] scope pos) scope X.env _ (newList []) false (eval iter X.env) (some (assign (.Name y py) X.env))) _ _ s
  refine wpAny_bind (wpAny_mono (wpAny_comprehension_free (use := some (assign (.Name y py) X.env)) (Q := fun _ s' => SP X pins Dn .next s') rfl hs hclos S.kind S.loc
    (thn (hit pins s σ H _ I h) fun v s1 h1 => thn h1 fun itv s2 h2 => ?_)) (fun _ s' hq => wpAny_pure (wpAny_pure hq)) fun _ _ e => e)
  obtain ⟨it, fp, tn, J, H2, e, I2, T, st2, f2, W, ⟨m0, w0⟩, turn⟩ := h2
  subst e
  refine comp_core (RR := fun acc C => compPost (model X.prog X.w) X.A X.xe (some (assign (.Name y py) X.env)) (fun _ s' => SP X pins Dn .next s') acc C) (Fin := fun D ys H => Dn.nx (σ.set j (some (.ref D))) (upd H D (.lst ys))) hc S cl1 cl2 hg hk hi he I2 T st2 f2 w0 turn ?_
  intro D C oC mC s4 H4 ys fin IC hn fC
  show wpAny _ X.A (assign (.Name y py) X.env (.ref D)) _ _ _
  refine wpAny_assign_Name (store_ok (v := .ref D) IC hN hj hy rfl (fun s5 I5 => ?_) hf)
  have pC := I5.pin (C, oC) (List.mem_append_right _ (List.mem_append_right _ (List.mem_singleton.mpr rfl)))
  have pC4 := IC.pin (C, oC) (List.mem_append_right _ (List.mem_append_right _ (List.mem_singleton.mpr rfl)))
  refine ⟨mC, hn.at' fun o e => ?_, fun h' hs' => ⟨_, _, ?_, fin⟩⟩
  · have e' := pC4.1
    rw [e] at e'
    cases e'
    exact pC.1
  · exact I5.unpinned.turned (t' := s5.toks) (fun b o hb e => hs'.extBut b o hb e) fC.1 fC.2.1 fC.2.2.2.1 fC.2.2.2.2.1 fC.2.2.2.2.2
end

end L2
end

section
set_option Elab.async false
set_option linter.all false
set_option maxRecDepth 100000
set_option maxHeartbeats 4000000
namespace L2
open PySem PySem.Spec PyProof.Rows
section
variable {X : Cx} {pins : List (Addr × Obj)} {σ : St} {H H' : Hp} {s : Shared} {h' : Heap}
/-- several untracked records of ours have turned, new objects may have come and be tracked -/
theorem Inv.turnedL {its : List Addr} {t' : Nat} (I : Inv X pins σ H s) (hf : ∀ b ∈ its, FpOk X pins H b) (k : ∀ b o, b ∉ its → s.heap.get? b = some o → h'.get? b = some o)
    (ag : ∀ b, b < s.heap.objs.size → H' b = H b) (hok : HOk X.prog X.w H' h') : Inv X pins σ H' { s with heap := h', toks := t' } := by
  refine I.step (g' := s.gens) (d' := s.drawn) (ch := its) (fun b hb => ⟨(hf b hb).2.2.2.1, (hf b hb).2.1, (hf b hb).2.2.2.2.1, (hf b hb).2.2.2.2.2⟩) (fun b o _ _ hc e _ => k b o hc e) (fun b o _ _ hc e _ => ⟨o.slots, k b o hc e⟩)
    (fun b o _ e n => by rw [ag b (Heap.lt_size e)]; exact n) (fun b o hc e => ⟨o, k b o hc e⟩) (fun b xs e => by rw [ag b (I.hok.lt e)]; exact e) (fun b o u e => by rw [ag b (I.hok.lt e)]; exact e)
    (fun b ps e => ⟨#[], by rw [ag b (I.hok.lt e), e]; simp⟩) (fun m hm => ?_) hok I.bare
  obtain ⟨o, es, ep, ho, r⟩ := hm
  exact ⟨o, es, ep, k _ o (fun z => (hf _ z).2.1 rfl) ho, r⟩
theorem HOk.turned {its : List Addr} (ok : HOk X.prog X.w H s.heap) (hf : ∀ b ∈ its, H b = none) (k : ∀ b o, b ∉ its → s.heap.get? b = some o → h'.get? b = some o) : HOk X.prog X.w H h' := fun b u e => by
  refine (ok b u e).stay (fun c v hc q => k c v (fun z => ?_) q) (fun _ q => q) fun _ _ q => q
  rcases hc with y | y
  · rw [← y, hf c z] at e; cases e
  · rw [hf c z] at y; cases y
theorem HOk.turnedNew {its : List Addr} {T : Addr} {o : HO} (ok : HOk X.prog X.w H s.heap) (hf : ∀ b ∈ its, H b = none) (k : ∀ b o, b ∉ its → s.heap.get? b = some o → h'.get? b = some o) (hT : s.heap.objs.size ≤ T)
    (new : ObjOk X.prog X.w (upd H T o) h' T o) : HOk X.prog X.w (upd H T o) h' := fun b u e => by
  by_cases hb : b = T
  · subst hb
    rw [upd_same] at e
    cases e
    exact new
  · rw [upd_ne hb] at e
    have hn : H T = none := ok.fresh hT
    refine (HOk.turned (s := s) ok hf k b u e).stay (fun _ _ _ q => q) (fun c q => ?_) fun c xs q => ?_
    · rw [upd_ne (ne_of_none q hn)]; exact q
    · rw [upd_ne (ne_of_none q hn)]; exact q
end

/-! ### zip of two lists, enumerate of a list, into two names -/
def Ite (K : PySem.W.Frag) (l : Addr) : It :=
  ⟨fun i H => ∃ xs x, SqL K H l xs ∧ xs[i]? = some x,
   fun i H v H' => ∃ T x, v = .ref T ∧ H T = none ∧ H' = upd H T (.tup [.int i, x]) ∧ ∀ xs, SqL K H l xs → xs[i]? = some x,
   fun i H => ∃ xs, SqL K H l xs ∧ xs.length ≤ i⟩
theorem turn_enum {P : Program} {w : World} {K : PySem.W.Frag} {elts : List Expr} {x1} {tp : Pos} {e it l : Addr} (hei : e ≠ it) :
    Turn P w K (.Tuple elts x1 tp) (Ite K l) [e, it] e (fun i h => (∃ old, IsEnum h e it i old) ∧ h.IsListIter it l i) where
  mem := by simp
  obj := fun i h ⟨⟨old, h1⟩, h4⟩ c hc => by
    simp only [List.mem_cons, List.mem_nil_iff, or_false] at hc
    rcases hc with rfl | rfl
    · exact ⟨_, h1, fun v z => nomatch z⟩
    · obtain ⟨o, e, c, d⟩ := h4
      exact ⟨o, e, fun v z => by rw [d] at z; cases z⟩
  keep := fun i h h' ⟨⟨old, h1⟩, h4⟩ k => ⟨⟨old, k _ (by simp) _ h1⟩, h4.at fun o e => k _ (by simp) o e⟩
  item := by
    intro X hP hw hK hc i pins s σ H E I hf st hg
    subst hP hw hK
    obtain ⟨⟨old, h1⟩, h4⟩ := st
    obtain ⟨xs, x, q1, e1⟩ := hg
    obtain ⟨its1, rv1, p1, hz1⟩ := I.list q1
    obtain ⟨u, hu, ru⟩ := rv1.get e1
    refine wpAny_pyNext_enum_item h1 h4 p1.isList (x := u) (by simpa using hu) hei fun h' a1 a3 a5 a6 a7 => ?_
    refine ⟨_, rfl, wpAny_letOwnedTupleGo_enum (s := { s with heap := h', toks := s.toks + 1 }) a1 fun h'' b1 b2 => ?_⟩
    have b2 : Heap.SameBut e h' h'' := b2
    have zl : e < s.heap.objs.size := Heap.lt_size h1
    have Tz : s.heap.objs.size ≠ e := Nat.ne_of_gt zl
    have k : ∀ b o, b ∉ [e, it] → s.heap.get? b = some o → h''.get? b = some o := fun b o hb q => by
      simp only [List.mem_cons, List.mem_nil_iff, or_false, not_or] at hb
      exact b2.extBut b o hb.1 (a7 b o hb.1 hb.2 q)
    have pT : h''.get? s.heap.objs.size = some { cls := .type "tuple", data := .seq #[.int i s.toks, u] } := b2.extBut _ _ Tz a5
    have hn : H s.heap.objs.size = none := I.hok.fresh (Nat.le_refl _)
    have fpl : ∀ b ∈ [e, it], s.heap.objs.size ≠ b := fun b hb => by
      simp only [List.mem_cons, List.mem_nil_iff, or_false] at hb
      rcases hb with rfl | rfl
      · exact Tz
      · obtain ⟨o, q, _⟩ := h4; exact Nat.ne_of_gt (Heap.lt_size q)
    have hok : HOk X.prog X.w (upd H s.heap.objs.size (.tup [.int i, x])) h'' := HOk.turnedNew (s := s) I.hok (fun b hb => (hf b hb).1) k (Nat.le_refl _) ⟨(by show 2 ≤ sizeLine; decide), [.int i s.toks, u], .cons ⟨_, rfl⟩ (.cons ru .nil), _, pT, rfl, _, rfl⟩
    have I1 : Inv X pins σ (upd H s.heap.objs.size (.tup [.int i, x])) { s with heap := h'', toks := s.toks + 1 } := I.turnedL (t' := s.toks + 1) hf k (fun b hb => upd_ne (Nat.ne_of_lt hb)) hok
    refine ⟨.ref s.heap.objs.size, _, I1, rfl, ⟨_, x, rfl, hn, rfl, fun zs hz => by rw [I.list_inj hz q1]; exact e1⟩, ?_, fun b hb => by rw [upd_ne (Ne.symm (fpl b hb))]; exact (hf b hb).1⟩
    exact ⟨⟨_, b1⟩, a3.extBut b2.extBut hei.symm⟩
  done := by
    intro X hP hw hK hc i pins s σ H E I hf st hg
    subst hP hw hK
    obtain ⟨⟨old, h1⟩, h4⟩ := st
    obtain ⟨xs, q1, hx⟩ := hg
    obtain ⟨its1, rv1, p1, hz1⟩ := I.list q1
    have l1 := rv1.length
    refine wpAny_pyNext_enum_end (I.ok.hd hc) h1 h4 p1.isList (by simp; omega) fun h' a7 => ?_
    have k : ∀ b o, b ∉ [e, it] → s.heap.get? b = some o → h'.get? b = some o := fun b o hb q => by
      simp only [List.mem_cons, List.mem_nil_iff, or_false, not_or] at hb
      exact a7 b o hb.2 q
    exact ⟨rfl, I.turnedL (t' := s.toks) hf k (fun _ _ => rfl) (HOk.turned (s := s) I.hok (fun b hb => (hf b hb).1) k)⟩
  self := fun _ _ _ _ _ st h => by
    obtain ⟨⟨old, h1⟩, _⟩ := st
    refine wpAny_pyIter_slot (T := "enumerate") ⟨_, h1, rfl⟩ F.slot_enumerate_iter (wpAny_call_entry F.slot_enumerate_iter ⟨_, h1, rfl⟩ F.entry_enumerate_iter ?_ (F.args_enumerate_iter_1 _))
    show wpAny _ _ (ret (.ref _)) _ _ _
    exact wpAny_pure ⟨_, rfl, "enumerate", _, ⟨_, h1, rfl⟩, F.slot_enumerate_next.lookup, h⟩
section
variable {X : Cx}
def iEnum (K : PySem.W.Frag) (ta : TA) : TI := fun σ H R => ta σ H fun vs H1 => ∃ l, vs = [.ref l] ∧ (∃ xs, SqL K H1 l xs) ∧ R (Ite K l) H1
theorem pi_enum {elts : List Expr} {x1} {tp : Pos} {a : Expr} {ta : TA} {p pos : Pos} (hg : Gl X "enumerate") (hm : X.mg "enumerate" = none) (ha : PA X [a] ta) (hs : starEach [a] X.env = [(false, eval a X.env)] := by rfl) :
    PI X (.Tuple elts x1 tp) (.Call (.Name "enumerate" p) [a] [] pos) (iEnum X.K ta) := by
  intro pins s σ H R I h
  refine Call_ (ld_blt I hg hm boot_enumerate (PyProof.Rows.callWith_type1 (thn (ha pos pins s σ H _ I h) fun us s1 ⟨vs, H1, I1, r1, q1⟩ => ?_) hs rfl))
  obtain ⟨l, e, ⟨xs, hx⟩, q⟩ := q1
  subst e
  obtain ⟨u, rfl, ru⟩ := r1.one
  cases ru
  obtain ⟨its1, rv1, p1, hz1⟩ := I1.list hx
  refine call_enumerate_list p1.isList fun h' a1 a4 a6 a7 => ?_
  have I2 : Inv X pins σ H1 { s1 with heap := h' } := I1.kept (t' := s1.toks) a7
  have T := turn_enum (P := X.prog) (w := X.w) (K := X.K) (elts := elts) (x1 := x1) (tp := tp) (e := s1.heap.objs.size + 1) (it := s1.heap.objs.size) (l := l) (Nat.ne_of_gt (Nat.lt_succ_self _))
  refine T.self X.A 0 { s1 with heap := h' } _ _ ⟨⟨_, a1⟩, a4⟩ ?_
  refine ⟨_, _, _, _, H1, rfl, I2, T, ⟨⟨_, a1⟩, a4⟩, fun b hb => ?_, q⟩
  have hb : s1.heap.objs.size ≤ b := by
    simp only [List.mem_cons, List.mem_nil_iff, or_false] at hb
    rcases hb with rfl | rfl
    · exact Nat.le_add_right _ 1
    · exact Nat.le_refl _
  exact I1.fpOk hb (I1.hok.fresh hb)
end
end L2
end

section
set_option Elab.async false
set_option linter.all false
set_option maxRecDepth 100000
set_option maxHeartbeats 4000000
namespace L2
open PySem PySem.Spec PyProof.Rows
/-! ### data of texts, ints and tuples, and how an abstract heap bears it -/
inductive Nd where
  | s (x : Str)
  | i (n : Int)
  | t (xs : List Nd)
mutual
def At (H : Hp) : Nd → V → Prop
  | .s x, v => v = .str x
  | .i n, v => v = .int n
  | .t xs, v => ∃ a vs, v = .ref a ∧ H a = some (.tup vs) ∧ AtL H xs vs
def AtL (H : Hp) : List Nd → List V → Prop
  | [], vs => vs = []
  | x :: xs, vs => ∃ v r, vs = v :: r ∧ At H x v ∧ AtL H xs r
end
/-- tuples stay -/
def Tp (H H' : Hp) : Prop := ∀ b xs, H b = some (.tup xs) → H' b = some (.tup xs)
theorem Tp.trans {H H1 H2 : Hp} (a : Tp H H1) (b : Tp H1 H2) : Tp H H2 := fun c xs h => b c xs (a c xs h)
theorem Same.tp {H H' : Hp} (h : Same H H') : Tp H H' := fun b xs e => h b _ e
theorem Tp.lst {H : Hp} {a : Addr} {o : HO} {ys : List V} (h : H a = some (.lst ys)) : Tp H (upd H a o) := fun b xs e => by rw [upd_ne (ne_of e h (by intro z; cases z))]; exact e
theorem same_new {H : Hp} {p : Addr} (h : H p = none) (o : HO) : Same H (upd H p o) := fun b u q => by rw [upd_ne (ne_of_none q h)]; exact q
/-- what stood ahead stays, though a younger one is rewritten -/
theorem Same.young {H H1 : Hp} {p : Addr} (g : Same H H1) (h : H p = none) (o : HO) : Same H (upd H1 p o) := fun b u q => by rw [upd_ne (ne_of_none q h)]; exact g b u q
mutual
theorem At.mono {H H' : Hp} (T : Tp H H') : ∀ {n : Nd} {v : V}, At H n v → At H' n v
  | .s x, v, h => h
  | .i n, v, h => h
  | .t xs, v, h => by
    obtain ⟨a, vs, e, q, r⟩ := h
    exact ⟨a, vs, e, T a vs q, AtL.mono T r⟩
theorem AtL.mono {H H' : Hp} (T : Tp H H') : ∀ {xs : List Nd} {vs : List V}, AtL H xs vs → AtL H' xs vs
  | [], vs, h => h
  | x :: xs, vs, h => by
    obtain ⟨v, r, e, q, l⟩ := h
    exact ⟨v, r, e, At.mono T q, AtL.mono T l⟩
end
/-! ### the tuples of a datum -/
def isT : Nd → Bool
  | .t _ => true
  | _ => false
mutual
/-- its tuples as every_part tells them: itself, then those of its last item, .. -/
def pre : Nd → List Nd
  | .t xs => .t xs :: preL xs
  | .s _ => []
  | .i _ => []
def preL : List Nd → List Nd
  | [] => []
  | x :: r => preL r ++ pre x
end
def inner (xs : List Nd) : List Nd := xs.filter isT
theorem small {n : Nat} (h : n ≤ 1000) : n ≤ sizeLine := Nat.le_of_lt (small1000 h)
/-- an index from the end -/
theorem atI_neg1 {α : Type} {xs : List α} {v : α} (h : xs[xs.length - 1]? = some v) : atI xs (-1) = some v := by
  have hl : 0 < xs.length := by
    rcases Nat.eq_zero_or_pos xs.length with z | z
    · rw [List.length_eq_zero_iff.mp z] at h; simp at h
    · exact z
  unfold atI ixN
  rw [if_neg (by omega), if_pos (by omega)]
  show xs[((-1 : Int) + xs.length).toNat]? = some v
  rw [show ((-1 : Int) + (xs.length : Int)).toNat = xs.length - 1 by omega]
  exact h
theorem atI_neg2 {α : Type} {xs : List α} {v : α} (h1 : 2 ≤ xs.length) (h : xs[xs.length - 2]? = some v) : atI xs (-2) = some v := by
  unfold atI ixN
  rw [if_neg (by omega), if_pos (by omega)]
  show xs[((-2 : Int) + xs.length).toNat]? = some v
  rw [show ((-2 : Int) + (xs.length : Int)).toNat = xs.length - 2 by omega]
  exact h
/-! ### items of written tables, chains of new objects -/
theorem new2 {H : Hp} {p q : Addr} {a b : HO} (h : H p = none) (h2 : (upd H p a) q = none) : Same H (upd (upd H p a) q b) ∧ (upd (upd H p a) q b) p = some a ∧ (upd (upd H p a) q b) q = some b :=
  ⟨(same_new h a).trans (same_new h2 b), same_new h2 b _ _ upd_same, upd_same⟩
theorem new3 {H : Hp} {p q r : Addr} {a b c : HO} (h : H p = none) (h2 : (upd H p a) q = none) (h3 : (upd (upd H p a) q b) r = none) :
    Same H (upd (upd (upd H p a) q b) r c) ∧ (upd (upd (upd H p a) q b) r c) p = some a ∧ (upd (upd (upd H p a) q b) r c) q = some b ∧ (upd (upd (upd H p a) q b) r c) r = some c :=
  ⟨((same_new h a).trans (same_new h2 b)).trans (same_new h3 c), same_new h3 c _ _ (same_new h2 b _ _ upd_same), same_new h3 c _ _ upd_same, upd_same⟩
end L2
end

section
set_option Elab.async false
set_option linter.all false
set_option maxRecDepth 100000
set_option maxHeartbeats 4000000
namespace L2
open PySem PySem.Spec PyProof.Rows
/-! ### defs of the text by name -/
def FunM (K : PySem.W.Frag) (mg : Str → Option Value) (x : Str) (ps : List Str) (st : Stmt) : Prop := ∃ f fd, Fun K x x st f fd ∧ mg x = some (.ref f) ∧ Binds K fd ps []
def Callee (P : Program) (w : World) (K : PySem.W.Frag) (mg : Str → Option Value) (base : Heap) (k : Nat) (x : Str) (ps : List Str) (sp : Sp) : Prop :=
  ∃ f fd, FnOk P w K mg base CX0 k f fd ps sp ∧ Binds K fd ps [] ∧ PySem.W.keepIn K (.ref f) = true ∧ mg x = some (.ref f)
section
variable {P : Program} {w : World} {K : PySem.W.Frag} {mg : Str → Option Value} {base : Heap}
theorem Callee.mono {j k : Nat} {x : Str} {ps : List Str} {sp : Sp} (C : Callee P w K mg base j x ps sp) (h : j ≤ k) : Callee P w K mg base k x ps sp := by
  obtain ⟨f, fd, F, b, kp, m⟩ := C
  exact ⟨f, fd, F.mono h, b, kp, m⟩
theorem Callee.imp {k : Nat} {x : Str} {ps : List Str} {sp sp' : Sp} (C : Callee P w K mg base k x ps sp) (h : ∀ vs H Q E, sp' vs H Q E → sp vs H Q E) : Callee P w K mg base k x ps sp' := by
  obtain ⟨f, fd, F, b, kp, m⟩ := C
  exact ⟨f, fd, F.imp h, b, kp, m⟩
theorem FunM.ok {x : Str} {st : Stmt} {N ps : List Str} {k : Nat} {sp : Sp} (F : FunM K mg x ps st) (S : FnScope N ps (defScope st)) (len : ∀ vs H Q E, sp vs H Q E → vs.length = ps.length)
    (hbody : ∀ (f : Addr) (cdv : Value) (A : Around) (outer : List Env) (s : Shared) (H : Hp) (vs : List V) (Q : VK) (E : XK), Room k (A.deeper (envOfC x (defScope st) s.heap.objs.size f cdv)) → sp vs H Q E →
      ∃ t, PSs (cxOf CX0 P w K mg base N x (defScope st) f cdv A outer s H E).nox (defBody st) t ∧ t { nx := fun _ H' => Q .non H', rt := Q } (start N vs) H) : Callee P w K mg base (k + 1) x ps sp := by
  obtain ⟨f, fd, F, m, b⟩ := F
  exact ⟨f, fd, F.ok S len (hbody f), b, F.kp, m⟩
/-- a recursion: nothing is asked with no calls left -/
theorem FunM.zero {x : Str} {st : Stmt} {ps : List Str} {sp : Sp} (F : FunM K mg x ps st) (no : ∀ vs H Q E, ¬ sp vs H Q E) : Callee P w K mg base 0 x ps sp := by
  obtain ⟨f, fd, F, m, b⟩ := F
  exact ⟨f, fd, ⟨fun vs H Q E h => absurd h (no vs H Q E), fun A outer s H args us vs Q E _ _ _ _ h => absurd h (no vs H Q E)⟩, b, F.kp, m⟩
end
section
variable {X : Cx} {x : Str} {p pos : Pos} {e : Expr} {es : List Expr} {t : TA} {k j : Nat} {ps : List Str} {sp : Sp} {E : XK}
theorem pe_callC (C : Callee X.prog X.w X.K X.mg X.base j x ps sp) (hr : Room k X.A) (hg : Gl X x) (hx : Passes CX0 X E) (ha : PA X (e :: es) t) (hj : j ≤ k := by first | decide | omega)
    (hdb : (x == ("__debug__" : Str)) = false := by decide) (he : starEach (e :: es) X.env = (false, eval e X.env) :: starEach es X.env := by rfl) (hpl : (backTo pos (starEach es X.env)).any (·.1) = false := by rfl) :
    PE X (.Call (.Name x p) (e :: es) [] pos) (tCall sp [] E t) := by
  obtain ⟨f, fd, F, b, kp, m⟩ := C
  exact pe_call (F.mono hj) hr hg m kp b .nil hx ha hdb he hpl
end
end L2
end

section
set_option Elab.async false
set_option linter.all false
set_option maxRecDepth 100000
set_option maxHeartbeats 4000000
namespace L2
open PySem PySem.Spec PyProof.Rows
section
variable {X : Cx}
def rLen (K : PySem.W.Frag) : List V → Hp → VK → Prop := fun xs H Q => ∃ p ys, xs = [.ref p] ∧ (SqL K H p ys ∨ SqT K H p ys) ∧ Q (.int ys.length) H
theorem call_lenK : CallR X (.builtin "len") (rLen X.K) := call_len_seq
def rInt1 : List V → Hp → VK → Prop := fun xs H Q => (∃ i, xs = [.int i] ∧ Q (.int i) H) ∨ ∃ k, xs = [.bl k] ∧ Q (.int (if k then 1 else 0)) H
theorem call_intK : CallR X (.type "int") rInt1 := call_int1
/-! ### sorted, any, all; lists of ints compared -/
theorem call_sorted : CallR X (.builtin "sorted") (fun xs H Q => ∃ p ns, xs = [.ref p] ∧ SqL X.K H p ((ns : List Int).map V.int) ∧ ns.length < 64 ∧
    ∀ r (ms : List Int), H r = none → ms.Perm ns → ms.Pairwise (· ≤ ·) → Q (.ref r) (upd H r (.lst (ms.map V.int)))) := by
  intro pins s σ H xs us Q I r h
  obtain ⟨p, ns, rfl, hS, hl, q⟩ := h
  obtain ⟨u, rfl, ru⟩ := r.one
  cases ru
  obtain ⟨its, rv, pl, hz⟩ := I.list hS
  have hI := intsAre_of rv
  have el := rv.length
  rw [List.length_map] at el
  refine sorted_ints pl.isList hI (by omega) fun out ns' a1 a2 a3 => ?_
  obtain ⟨e, he⟩ := sortedAll_at s.heap its out
  have hlen := a2.length_eq
  have hn : H (s.heap.objs.size + 1) = none := I.hok.fresh (Nat.le_succ _)
  refine ⟨.ref (s.heap.objs.size + 1), _, I.laid (t' := s.toks) (o := .lst (ns'.map V.int)) (fun b o e => sortedAll_old e) (Nat.le_succ _) ?_, rfl, q _ ns' hn a2 a3⟩
  refine ⟨by rw [List.length_map]; exact small (by omega), out.toList, e, vals_ints a1, ?_⟩
  rw [he]
theorem inV_ints {n : Int} {ns : List Int} : inV (.int n) (ns.map V.int) = decide (n ∈ ns) := by
  unfold inV
  rw [List.any_map]
  by_cases e : n ∈ ns
  · rw [decide_eq_true e, List.any_eq_true]
    exact ⟨n, e, by show (n == n) = true; simp⟩
  · rw [decide_eq_false e]
    refine Bool.eq_false_iff.mpr fun z => e ?_
    rw [List.any_eq_true] at z
    obtain ⟨m, hm, h⟩ := z
    have : (m == n) = true := h
    rw [← eq_of_beq this]
    exact hm
theorem flat_ints (ns : List Int) : (ns.map V.int).all flatV = true := by
  rw [List.all_eq_true]
  intro x hx
  obtain ⟨n, _, rfl⟩ := List.mem_map.mp hx
  rfl
end

/-! ### comprehensions, in the forms one uses -/
/-- what a comprehension's loop asks (J the iterator, k the items' number) -/
abbrev CompW (J : It) (g : TG) (tc : TT) (te : TE) (σY : St) (F : Addr → List V → Hp → Prop) (H : Hp) : Prop :=
  ∃ W : Nat → Nat → List V → Hp → Prop, (∃ m, W 0 m [] H) ∧ ∀ i m ys H, W i m ys H →
      (J.stop i H ∧ ∀ D, H D = none → F D ys H) ∨
      (J.go i H ∧ ys.length < sizeLine ∧ ∀ x H', J.yld i H x H' → g x σY H' fun σ2 H2 => tc σ2 H2 fun b H3 => if b = true then te σ2 H3 fun y H4 => ∃ m', m' < m ∧ W (i + 1) m' (ys ++ [y]) H4 else ∃ m', m' < m ∧ W (i + 1) m' ys H3)
theorem comp_gen {J : It} {k : Nat} {g : TG} {tc : TT} {te : TE} {σY : St} {H : Hp} {F : Addr → List V → Hp → Prop} (Pv : Nat → List V → Hp → Prop) (h0 : Pv 0 [] H) (hz : k ≤ sizeLine)
    (hgo : ∀ i ys H, i < k → Pv i ys H → J.go i H) (hst : ∀ ys H, Pv k ys H → J.stop k H)
    (hs : ∀ i x ys H H' (N : List V → Hp → Prop), i < k → Pv i ys H → J.yld i H x H' → ys.length ≤ i → (∀ ys' H', ys'.length ≤ i + 1 → Pv (i + 1) ys' H' → N ys' H') → g x σY H' fun σ2 H2 => tc σ2 H2 fun b H3 => if b = true then te σ2 H3 fun y H4 => N (ys ++ [y]) H4 else N ys H3)
    (hd : ∀ ys H, ys.length ≤ k → Pv k ys H → ∀ D, H D = none → F D ys H) : CompW J g tc te σY F H := by
  refine ⟨fun i m ys H => m = k - i ∧ i ≤ k ∧ ys.length ≤ i ∧ Pv i ys H, ⟨k, by simp, Nat.zero_le _, Nat.le_refl _, h0⟩, ?_⟩
  rintro i m ys H ⟨rfl, hi, hyl, p⟩
  by_cases hlt : i < k
  · refine .inr ⟨hgo i ys H hlt p, by omega, fun x H' y => ?_⟩
    exact hs i x ys H H' (fun ys' H4 => ∃ m', m' < k - i ∧ m' = k - (i + 1) ∧ i + 1 ≤ k ∧ ys'.length ≤ i + 1 ∧ Pv (i + 1) ys' H4) hlt p y hyl fun ys' H4 l q => ⟨k - (i + 1), by omega, rfl, hlt, l, q⟩
  · have e : i = k := by omega
    subst e
    exact .inl ⟨hst ys H p, hd ys H hyl p⟩
theorem comp_list {K : PySem.W.Frag} {a : Addr} {xs : List V} {g : TG} {tc : TT} {te : TE} {σY : St} {H : Hp} {F : Addr → List V → Hp → Prop} (Pv : Nat → List V → Hp → Prop) (h0 : Pv 0 [] H) (hz : xs.length ≤ sizeLine) (hl : ∀ i ys H, Pv i ys H → SqL K H a xs)
    (hs : ∀ i x ys H (N : List V → Hp → Prop), xs[i]? = some x → Pv i ys H → (∀ ys' H', ys'.length ≤ i + 1 → Pv (i + 1) ys' H' → N ys' H') → ys.length ≤ i → g x σY H fun σ2 H2 => tc σ2 H2 fun b H3 => if b = true then te σ2 H3 fun y H4 => N (ys ++ [y]) H4 else N ys H3)
    (hd : ∀ ys H, ys.length ≤ xs.length → Pv xs.length ys H → ∀ D, H D = none → F D ys H) : CompW (Itl K a) g tc te σY F H :=
  comp_gen Pv h0 hz (fun i ys H hi p => ⟨xs, xs[i], hl i ys H p, by simp [hi]⟩) (fun ys H p => ⟨xs, hl _ ys H p, Nat.le_refl _⟩)
    (fun i x ys H H' N hi p ⟨e, y⟩ hyl k => by subst e; exact hs i x ys _ N (y xs (hl i ys _ p)) p k hyl) hd
theorem comp_tup {K : PySem.W.Frag} {a : Addr} {xs : List V} {g : TG} {tc : TT} {te : TE} {σY : St} {H : Hp} {F : Addr → List V → Hp → Prop} (Pv : Nat → List V → Hp → Prop) (h0 : Pv 0 [] H) (hz : xs.length ≤ sizeLine) (hl : ∀ i ys H, Pv i ys H → SqT K H a xs)
    (hs : ∀ i x ys H (N : List V → Hp → Prop), xs[i]? = some x → Pv i ys H → (∀ ys' H', ys'.length ≤ i + 1 → Pv (i + 1) ys' H' → N ys' H') → ys.length ≤ i → g x σY H fun σ2 H2 => tc σ2 H2 fun b H3 => if b = true then te σ2 H3 fun y H4 => N (ys ++ [y]) H4 else N ys H3)
    (hd : ∀ ys H, ys.length ≤ xs.length → Pv xs.length ys H → ∀ D, H D = none → F D ys H) : CompW (Itt K a) g tc te σY F H :=
  comp_gen Pv h0 hz (fun i ys H hi p => ⟨xs, xs[i], hl i ys H p, by simp [hi]⟩) (fun ys H p => ⟨xs, hl _ ys H p, Nat.le_refl _⟩)
    (fun i x ys H H' N hi p ⟨e, y⟩ hyl k => by subst e; exact hs i x ys _ N (y xs (hl i ys _ p)) p k hyl) hd
theorem comp_range {lo : Int} {n : Nat} {g : TG} {tc : TT} {te : TE} {σY : St} {H : Hp} {F : Addr → List V → Hp → Prop} (Pv : Nat → List V → Hp → Prop) (h0 : Pv 0 [] H) (hz : n ≤ sizeLine)
    (hs : ∀ i ys H (N : List V → Hp → Prop), i < n → Pv i ys H → (∀ ys' H', ys'.length ≤ i + 1 → Pv (i + 1) ys' H' → N ys' H') → ys.length ≤ i → g (.int (lo + i)) σY H fun σ2 H2 => tc σ2 H2 fun b H3 => if b = true then te σ2 H3 fun y H4 => N (ys ++ [y]) H4 else N ys H3)
    (hd : ∀ ys H, ys.length ≤ n → Pv n ys H → ∀ D, H D = none → F D ys H) : CompW (Itr lo n) g tc te σY F H :=
  comp_gen Pv h0 hz (fun i ys H hi p => hi) (fun ys H p => Nat.le_refl _)
    (fun i x ys H H' N hi p ⟨e, y⟩ hyl k => by subst e y; exact hs i ys _ N hi p k hyl) hd
theorem comp_enum {K : PySem.W.Frag} {a : Addr} {xs : List V} {g : TG} {tc : TT} {te : TE} {σY : St} {H : Hp} {F : Addr → List V → Hp → Prop} (Pv : Nat → List V → Hp → Prop) (h0 : Pv 0 [] H) (hz : xs.length ≤ sizeLine) (hl : ∀ i ys H, Pv i ys H → SqL K H a xs)
    (hs : ∀ i x T ys H (N : List V → Hp → Prop), xs[i]? = some x → Pv i ys H → H T = none → (∀ ys' H', ys'.length ≤ i + 1 → Pv (i + 1) ys' H' → N ys' H') → ys.length ≤ i → g (.ref T) σY (upd H T (.tup [.int i, x])) fun σ2 H2 => tc σ2 H2 fun b H3 => if b = true then te σ2 H3 fun y H4 => N (ys ++ [y]) H4 else N ys H3)
    (hd : ∀ ys H, ys.length ≤ xs.length → Pv xs.length ys H → ∀ D, H D = none → F D ys H) : CompW (Ite K a) g tc te σY F H :=
  comp_gen Pv h0 hz (fun i ys H hi p => ⟨xs, xs[i], hl i ys H p, by simp [hi]⟩) (fun ys H p => ⟨xs, hl _ ys H p, Nat.le_refl _⟩)
    (fun i x ys H H' N hi p ⟨T, z, e1, hT, e2, y⟩ hyl k => by subst e1 e2; exact hs i z T ys _ N (y xs (hl i ys _ p)) p hT k hyl) hd
end L2
end

section
set_option Elab.async false
set_option linter.all false
set_option maxRecDepth 100000
namespace L2
open PySem PySem.Spec PyProof.Rows

/-! ### lists of pairs as tables -/
section
variable {κ : Type} [DecidableEq κ]
end


/-! ### a tracked dict, its keys ints and texts or tuples of these -/
section
variable {P : Program} {w : World} {H : Hp} {h : Heap} {a : Addr}
end

section
variable {X : Cx} {pins : List (Addr × Obj)} {σ : St} {H : Hp} {s : Shared} {a : Addr} {y v : V} {u r : Value} {o : Option V} {A : Around} {E : Value → Shared → Prop}

end

section
variable {X : Cx} {pins : List (Addr × Obj)} {σ : St} {H : Hp} {s : Shared} {a : Addr} {kvs : List (Key × V)} {k : Key} {u : Value} {A : Around} {E : Value → Shared → Prop}
end


/-! ### readings and rules -/
section
variable {X : Cx} {o i e value : Expr} {pos pos' tpos : Pos} {td ty tv : TE}
end


/-! ### displays -/
section
variable {X : Cx} {pos : Pos}
end

/-! ### methods -/
/-- a method call o.m(e) of a built-in, with one argument: what must be seen of the text -/
structure M1 (X : Cx) (o : Expr) (m : Str) (apos : Pos) (e : Expr) (cpos : Pos) : Prop where
  base : attributeBase o m X.env (eval o X.env) = eval o X.env
  few : ((backTo cpos (starEach [e] X.env)).all (fun x => !x.1) && (backToKw cpos (keywordEach [] X.env)).all (fun x => x.1.isSome)
    && decide (([e] : List Expr).length + ([] : List Keyword).length + (if ([] : List Keyword).isEmpty then 0 else 1) < 30)) = true
  line : (apos.endLine == cpos.line) = true
  trees : backTo cpos (starEach [e] X.env) = [(false, eval e X.env)]
structure M2 (X : Cx) (o : Expr) (m : Str) (apos : Pos) (e f : Expr) (cpos : Pos) : Prop where
  base : attributeBase o m X.env (eval o X.env) = eval o X.env
  few : ((backTo cpos (starEach [e, f] X.env)).all (fun x => !x.1) && (backToKw cpos (keywordEach [] X.env)).all (fun x => x.1.isSome)
    && decide (([e, f] : List Expr).length + ([] : List Keyword).length + (if ([] : List Keyword).isEmpty then 0 else 1) < 30)) = true
  line : (apos.endLine == cpos.line) = true
  trees : backTo cpos (starEach [e, f] X.env) = [(false, eval e X.env), (false, eval f X.env)]

section
variable {X : Cx} {pins : List (Addr × Obj)} {σ : St} {H : Hp} {s : Shared} {a : Addr} {y d : V} {u r : Value} {o : Option V} {A : Around} {E : Value → Shared → Prop}
end

section
variable {X : Cx} {o e f : Expr} {apos cpos : Pos} {td ty tx : TE}
end

/-! ### dict(d): a copy -/
section
variable {X : Cx} {pins : List (Addr × Obj)} {σ : St} {H : Hp} {s : Shared} {a : Addr} {kvs : List (Key × V)} {A : Around} {E : Value → Shared → Prop}
end


section
variable {X : Cx} {pins : List (Addr × Obj)} {σ : St} {H : Hp} {s : Shared} {a : Addr} {y : V} {u : Value} {A : Around} {E : Value → Shared → Prop}
end
end L2

namespace L2
open PySem PySem.Spec PyProof.Rows
section
variable {X : Cx}
end
end L2

namespace L2
open PySem PySem.Spec PyProof.Rows
/-! ### a dict's pairs: keys that differ -/
section
variable {κ : Type} [DecidableEq κ]
end
end L2

end

section
set_option Elab.async false
set_option linter.all false
set_option maxRecDepth 100000
set_option maxHeartbeats 4000000
namespace L2
open PySem PySem.Spec PyProof.Rows
/-! ### data, where tuples of the module may be parts too -/
def ModT (K : PySem.W.Frag) (a : Addr) (vs : List V) : Prop := ∃ (o : Obj) (its : Array Value) (n : Nat), K.lookup a = some o ∧ o.cls = .type "tuple" ∧ o.data = .seq its n ∧ its.size ≤ sizeLine ∧ Vals vs its.toList
def TupAt (K : PySem.W.Frag) (H : Hp) (a : Addr) (vs : List V) : Prop := H a = some (.tup vs) ∨ ModT K a vs
theorem TupAt.mono {K : PySem.W.Frag} {H H' : Hp} (T : Tp H H') {a : Addr} {vs : List V} (h : TupAt K H a vs) : TupAt K H' a vs := h.elim (fun z => .inl (T a vs z)) .inr
theorem TupAt.sq {K : PySem.W.Frag} {H : Hp} {a : Addr} {vs : List V} (h : TupAt K H a vs) : SqT K H a vs := h.elim SqT.of .inr
mutual
def PAt (K : PySem.W.Frag) (H : Hp) : Nd → V → Prop
  | .s x, v => v = .str x
  | .i n, v => v = .int n
  | .t xs, v => ∃ a vs, v = .ref a ∧ TupAt K H a vs ∧ PAtL K H xs vs
def PAtL (K : PySem.W.Frag) (H : Hp) : List Nd → List V → Prop
  | [], vs => vs = []
  | x :: xs, vs => ∃ v r, vs = v :: r ∧ PAt K H x v ∧ PAtL K H xs r
end
mutual
theorem PAt.mono {K : PySem.W.Frag} {H H' : Hp} (T : Tp H H') : ∀ {n : Nd} {v : V}, PAt K H n v → PAt K H' n v
  | .s x, v, h => h
  | .i n, v, h => h
  | .t xs, v, h => by
    obtain ⟨a, vs, e, q, r⟩ := h
    exact ⟨a, vs, e, q.mono T, PAtL.mono T r⟩
theorem PAtL.mono {K : PySem.W.Frag} {H H' : Hp} (T : Tp H H') : ∀ {xs : List Nd} {vs : List V}, PAtL K H xs vs → PAtL K H' xs vs
  | [], vs, h => h
  | x :: xs, vs, h => by
    obtain ⟨v, r, e, q, l⟩ := h
    exact ⟨v, r, e, PAt.mono T q, PAtL.mono T l⟩
end
theorem PAtL.nil {K : PySem.W.Frag} {H : Hp} : PAtL K H [] [] := by unfold PAtL; rfl
theorem PAtL.cons {K : PySem.W.Frag} {H : Hp} {x : Nd} {xs : List Nd} {v : V} {r : List V} (a : PAt K H x v) (l : PAtL K H xs r) : PAtL K H (x :: xs) (v :: r) := by unfold PAtL; exact ⟨v, r, rfl, a, l⟩
theorem PAt.s {K : PySem.W.Frag} {H : Hp} {x : Str} : PAt K H (.s x) (.str x) := by unfold PAt; rfl
theorem PAt.i {K : PySem.W.Frag} {H : Hp} {x : Int} : PAt K H (.i x) (.int x) := by unfold PAt; rfl
theorem PAt.t {K : PySem.W.Frag} {H : Hp} {a : Addr} {xs : List Nd} {vs : List V} (h : TupAt K H a vs) (l : PAtL K H xs vs) : PAt K H (.t xs) (.ref a) := by unfold PAt; exact ⟨a, vs, rfl, h, l⟩
theorem PAt.get {K : PySem.W.Frag} {H : Hp} {xs : List Nd} {v : V} (h : PAt K H (.t xs) v) : ∃ a vs, v = .ref a ∧ TupAt K H a vs ∧ PAtL K H xs vs := by unfold PAt at h; exact h
theorem PAt.str {K : PySem.W.Frag} {H : Hp} {x : Str} {v : V} (h : PAt K H (.s x) v) : v = .str x := by unfold PAt at h; exact h
theorem PAt.int {K : PySem.W.Frag} {H : Hp} {x : Int} {v : V} (h : PAt K H (.i x) v) : v = .int x := by unfold PAt at h; exact h
theorem PAtL.len {K : PySem.W.Frag} {H : Hp} : ∀ {xs : List Nd} {vs : List V}, PAtL K H xs vs → xs.length = vs.length
  | [], vs, h => by unfold PAtL at h; subst h; rfl
  | x :: xs, vs, h => by
    unfold PAtL at h
    obtain ⟨v, r, rfl, q, l⟩ := h
    simp [PAtL.len l]
theorem PAtL.at {K : PySem.W.Frag} {H : Hp} : ∀ {xs : List Nd} {vs : List V} {i : Nat} {v : V}, PAtL K H xs vs → vs[i]? = some v → ∃ x, xs[i]? = some x ∧ PAt K H x v
  | [], vs, i, v, h, e => by unfold PAtL at h; subst h; simp at e
  | x :: xs, vs, i, v, h, e => by
    unfold PAtL at h
    obtain ⟨w, r, rfl, q, l⟩ := h
    cases i with
    | zero => simp at e; subst e; exact ⟨x, rfl, q⟩
    | succ i =>
      obtain ⟨y, e', q'⟩ := PAtL.at (i := i) l (by simpa using e)
      exact ⟨y, by simpa using e', q'⟩
theorem PAtL.one {K : PySem.W.Frag} {H : Hp} {x : Nd} {vs : List V} (h : PAtL K H [x] vs) : ∃ v, vs = [v] ∧ PAt K H x v := by
  unfold PAtL at h
  obtain ⟨v, r, rfl, q, l⟩ := h
  unfold PAtL at l
  subst l
  exact ⟨v, rfl, q⟩
theorem PAtL.two {K : PySem.W.Frag} {H : Hp} {x y : Nd} {vs : List V} (h : PAtL K H [x, y] vs) : ∃ v w, vs = [v, w] ∧ PAt K H x v ∧ PAt K H y w := by
  unfold PAtL at h
  obtain ⟨v, r, rfl, q, l⟩ := h
  obtain ⟨w, rfl, q'⟩ := l.one
  exact ⟨v, w, rfl, q, q'⟩


def TyK (K : PySem.W.Frag) (H : Hp) (x : V) (t : Value) : Prop := TyOf K H x t ∨ ∃ a vs, x = .ref a ∧ ModT K a vs ∧ t = .type "tuple"
theorem tyk_of {K : PySem.W.Frag} {H : Hp} {n : Nd} {v : V} (h : PAt K H n v) : ∃ t, TyK K H v t ∧ PySem.W.kitOne K t (.type "tuple") = some (isT n) := by
  cases n with
  | s x => cases h.str; exact ⟨_, .inl (.str x), rfl⟩
  | i x => cases h.int; exact ⟨_, .inl (.int x), rfl⟩
  | t xs =>
    obtain ⟨a, vs, rfl, q, _⟩ := h.get
    rcases q with q | q
    · exact ⟨_, .inl (.tup q), rfl⟩
    · exact ⟨_, .inr ⟨a, vs, rfl, q, rfl⟩, rfl⟩
def rIsiK (K : PySem.W.Frag) : List V → Hp → VK → Prop := fun xs H Q => ∃ x T t b, xs = [x, .ty T] ∧ TyK K H x t ∧ PySem.W.kitOne K t (.type T) = some b ∧ Q (.bl b) H
section
variable {X : Cx}
theorem call_isinstK : CallR X (.builtin "isinstance") (rIsiK X.K) := by
  intro pins s σ H xs us Q I r h
  obtain ⟨x, T, t, b, rfl, ty, e, q⟩ := h
  obtain ⟨u, v, rfl, ru, rv⟩ := r.two
  cases rv
  rcases ty with ty | ⟨a, vs, rfl, ⟨o, its, n, lk, hc, hd, hz, rr⟩, rfl⟩
  · exact isinst_ok I ru ty e fun tk => ⟨.bl b, H, I.tok _, rfl, q⟩
  · cases ru
    exact PySem.W.kia_one PySem.W.kitx_tuple I.kIn ⟨o, I.kIn _ _ lk, hc⟩ e (fun z => nomatch z) fun tk => ⟨.bl b, H, I.tok _, rfl, q⟩
end
/-! ### methods of a class of the text -/
def MethM (P : Program) (w : World) (K : PySem.W.Frag) (mg : Str → Option Value) (base : Heap) (k : Nat) (C : Addr) (m : Str) (ps : List Str) (sp : Sp) : Prop :=
  ∃ f fd, FnOk P w K mg base CX0 k f fd ps sp ∧ Binds K fd ps [] ∧ Meth K C m f ∧ Cls K C
section
variable {X : Cx} {o e : Expr} {es : List Expr} {m : Str} {apos pos : Pos} {k j : Nat} {ps : List Str} {sp : Sp} {E : XK} {C : Addr} {ta : TE} {t : TA}
theorem pe_methC0 {pl : Sem Bool} (M : MethM X.prog X.w X.K X.mg X.base j C m ps sp) (hr : Room k X.A) (hx : Passes CX0 X E) (he : PE X o ta) (hj : j ≤ k := by first | decide | omega)
    (ht : eval (.Call (.Attribute o m apos) [] [] pos) X.env = (do
      let ov ← eval o X.env
      standAt apos.atName
      let (f, first) ← holding [ov] (getMethod ov m pl)
      callWith pos f first (backTo pos (starEach [] X.env)) (backToKw pos (keywordEach [] X.env))) := by rfl) : PE X (.Call (.Attribute o m apos) [] [] pos) (tMeth C m sp [] E ta tNil) := by
  obtain ⟨f, fd, F, b, me, c⟩ := M
  exact pe_meth0 he c me (F.mono hj) hr b .nil hx ht
end
/-! ### one object changes -/
/-- all but the object at r stay -/
def Kp (r : Addr) (H H' : Hp) : Prop := ∀ b o, b ≠ r → H b = some o → H' b = some o
theorem Kp.trans {r : Addr} {H H1 H2 : Hp} (a : Kp r H H1) (b : Kp r H1 H2) : Kp r H H2 := fun c o h e => b c o h (a c o h e)
theorem Same.kp {r : Addr} {H H' : Hp} (g : Same H H') : Kp r H H' := fun b o _ e => g b o e
theorem Kp.upd {r : Addr} {H : Hp} {o : HO} : Kp r H (L2.upd H r o) := fun b u h e => by rw [upd_ne h]; exact e
/-- what a block does to an object that is younger than H -/
theorem Same.byKp {r : Addr} {H H1 H2 : Hp} (g : Same H H1) (h : H r = none) (k : Kp r H1 H2) : Same H H2 := fun b o e => k b o (ne_of_none e h) (g b o e)
theorem iteNe {x y : Str} {A B : Prop} (h : ¬ x = y) (hB : B) : if decide (V.str x = V.str y) = true then A else B := by
  rw [decide_eq_false fun z => h (V.str.inj z), if_neg Bool.false_ne_true]; exact hB
theorem iteEq {x : Str} {A B : Prop} (hA : A) : if decide (V.str x = V.str x) = true then A else B := by
  rw [decide_eq_true rfl, if_pos rfl]; exact hA
theorem PAtL.three {K : PySem.W.Frag} {H : Hp} {x y z : Nd} {vs : List V} (h : PAtL K H [x, y, z] vs) : ∃ v w u, vs = [v, w, u] ∧ PAt K H x v ∧ PAt K H y w ∧ PAt K H z u := by
  unfold PAtL at h
  obtain ⟨v, r, rfl, q, l⟩ := h
  obtain ⟨w, u, rfl, q', q''⟩ := l.two
  exact ⟨v, w, u, rfl, q, q', q''⟩
theorem PAtL.four {K : PySem.W.Frag} {H : Hp} {x y z z' : Nd} {vs : List V} (h : PAtL K H [x, y, z, z'] vs) : ∃ v w u u', vs = [v, w, u, u'] ∧ PAt K H x v ∧ PAt K H y w ∧ PAt K H z u ∧ PAt K H z' u' := by
  unfold PAtL at h
  obtain ⟨v, r, rfl, q, l⟩ := h
  obtain ⟨w, u, u', rfl, q', q'', q3⟩ := l.three
  exact ⟨v, w, u, u', rfl, q, q', q'', q3⟩
end L2
end

section
set_option Elab.async false
set_option linter.all false
set_option maxRecDepth 100000
set_option maxHeartbeats 4000000
namespace L2
open PySem PySem.Spec PyProof.Rows
section
variable {X : Cx}
end
end L2
end

section
set_option Elab.async false
set_option linter.all false
set_option maxRecDepth 100000
set_option maxHeartbeats 4000000
namespace L2
open PySem PySem.Spec PyProof.Rows
section
variable {X : Cx}
/-! ### data that are equal, at a depth -/
inductive EqD (K : PySem.W.Frag) (H : Hp) : Nat → V → V → Prop where
  | flat {d : Nat} {x y : V} : flatV x = true → flatV y = true → eqV x y = true → EqD K H d x y
  | same {d : Nat} {a : Addr} : EqD K H d (.ref a) (.ref a)
  | lst {d : Nat} {a b : Addr} {xs ys : List V} : SqL K H a xs → SqL K H b ys → xs.length = ys.length → (∀ (i : Nat) (x y : V), xs[i]? = some x → ys[i]? = some y → EqD K H d x y) → EqD K H (d + 1) (.ref a) (.ref b)
  | tup {d : Nat} {a b : Addr} {xs ys : List V} : SqT K H a xs → SqT K H b ys → xs.length = ys.length → (∀ (i : Nat) (x y : V), xs[i]? = some x → ys[i]? = some y → EqD K H d x y) → EqD K H (d + 1) (.ref a) (.ref b)
theorem all_true (n : Nat) : ((List.range n).all fun _ => true) = true := by simp
theorem items_at {xs ys : List V} {us ws : List Value} {pins : List (Addr × Obj)} {σ : St} {H : Hp} {s : Shared} {A : Around} {K : PySem.W.Frag} {d : Nat} (r1 : Vals xs us) (r2 : Vals ys ws) (hl : xs.length = ys.length)
    (h : ∀ (i : Nat) (x y : V), xs[i]? = some x → ys[i]? = some y → ∀ u v, RelV x u → RelV y v → SeqAt.EqAt A s u v true) :
    ∀ j (h1 : j < us.toArray.size) (h2 : j < ws.toArray.size), SeqAt.EqAt A s us.toArray[j] ws.toArray[j] true := by
  intro j h1 h2
  have l1 := r1.length
  have l2 := r2.length
  have h1' : j < xs.length := by simpa [l1] using h1
  have h2' : j < ys.length := by simpa [l2] using h2
  obtain ⟨u, eu, ru⟩ := r1.get (i := j) (x := xs[j]) (List.getElem?_eq_getElem h1')
  obtain ⟨v, ev, rv⟩ := r2.get (i := j) (x := ys[j]) (List.getElem?_eq_getElem h2')
  have e1 : us.toArray[j] = u := by
    have : us[j]? = some us.toArray[j] := by simp
    rw [eu] at this
    exact (Option.some.inj this).symm
  have e2 : ws.toArray[j] = v := by
    have : ws[j]? = some ws.toArray[j] := by simp
    rw [ev] at this
    exact (Option.some.inj this).symm
  rw [e1, e2]
  exact h j _ _ (List.getElem?_eq_getElem h1') (List.getElem?_eq_getElem h2') u v ru rv
theorem eqd_at {pins : List (Addr × Obj)} {σ : St} {H : Hp} {s : Shared} (I : Inv X pins σ H s) : ∀ {d : Nat} {x y : V}, EqD X.K H d x y → ∀ (A : Around), A.units + d < cLine → ∀ u v, RelV x u → RelV y v → SeqAt.EqAt A s u v true := by
  intro d x y h
  induction h with
  | flat f1 f2 e =>
    intro A hA u v ru rv
    have z := eqAt_V (A := A) (s := s) ru rv f1 f2
    rw [e] at z
    exact z
  | same =>
    intro A hA u v ru rv
    cases ru
    cases rv
    exact SeqAt.EqAt.same _
  | @lst d a b xs ys h1 h2 hl hi ih =>
    intro A hA u v ru rv
    cases ru
    cases rv
    by_cases hab : a = b
    · subst hab; exact SeqAt.EqAt.same _
    obtain ⟨us, r1, p1, z1⟩ := I.list h1
    obtain ⟨ws, r2, p2, z2⟩ := I.list h2
    have l1 := r1.length
    have l2 := r2.length
    refine SeqAt.EqAt.of_refs hab ?_
    have q := SeqAt.RcAt.lists (A := A) (e := fun _ => true) p1.isList p2.isList (by simp; omega) (by omega) (items_at (pins := pins) (σ := σ) (H := H) (K := X.K) (d := d) r1 r2 hl fun i x y hx hy u v ru rv => ih i x y hx hy A.in1 (by show A.units + 1 + d < cLine; omega) u v ru rv)
    rw [all_true] at q
    exact q
  | @tup d a b xs ys h1 h2 hl hi ih =>
    intro A hA u v ru rv
    cases ru
    cases rv
    by_cases hab : a = b
    · subst hab; exact SeqAt.EqAt.same _
    obtain ⟨us, r1, p1, z1⟩ := I.tuple h1
    obtain ⟨ws, r2, p2, z2⟩ := I.tuple h2
    have l1 := r1.length
    have l2 := r2.length
    refine SeqAt.EqAt.of_refs hab ?_
    have q := SeqAt.RcAt.tuples (A := A) (e := fun _ => true) (show s.heap.IsTuple a us.toArray from p1) (show s.heap.IsTuple b ws.toArray from p2) (by omega) (items_at (pins := pins) (σ := σ) (H := H) (K := X.K) (d := d) r1 r2 hl fun i x y hx hy u v ru rv => ih i x y hx hy A.in1 (by show A.units + 1 + d < cLine; omega) u v ru rv)
    rw [all_true, show (us.toArray.size == ws.toArray.size) = true by simp; omega] at q
    exact q
/-- == and != of two tuples that are equal -/
def rEqT (K : PySem.W.Frag) (b : Bool) : R2 := fun x y H Q => ∃ d p q xs ys, d ≤ 60 ∧ x = .ref p ∧ y = .ref q ∧ SqT K H p xs ∧ SqT K H q ys ∧ xs.length = ys.length ∧ (∀ (i : Nat) (x y : V), xs[i]? = some x → ys[i]? = some y → EqD K H d x y) ∧ Q (.bl b) H
theorem op_neT (hu : X.A.units + 64 < cLine) : OpR X (compareOp .NotEq) (rEqT X.K false) := by
  intro pins s σ H x y v u Q I rx ry h
  obtain ⟨d, p, q, xs, ys, hd, rfl, rfl, h1, h2, hl, hi, hq⟩ := h
  cases rx
  cases ry
  obtain ⟨us, r1, p1, z1⟩ := I.tuple h1
  obtain ⟨ws, r2, p2, z2⟩ := I.tuple h2
  have l1 := r1.length
  have l2 := r2.length
  refine SeqAt.RcNeAt.tuples (e := fun _ => true) (show s.heap.IsTuple p us.toArray from p1) (show s.heap.IsTuple q ws.toArray from p2) (by omega) (items_at (pins := pins) (σ := σ) (H := H) (K := X.K) (d := d) r1 r2 hl fun i x y hx hy u v ru rv => eqd_at I (hi i x y hx hy) X.A.in1 (by show X.A.units + 1 + d < cLine; omega) u v ru rv) X.prog X.w X.xe _ ?_
  rw [all_true, show (us.toArray.size == ws.toArray.size) = true by simp; omega]
  exact ⟨.bl false, H, I, rfl, hq⟩
end
end L2
end

section
set_option Elab.async false
set_option linter.all false
set_option maxRecDepth 100000
set_option maxHeartbeats 4000000
namespace L2
open PySem PySem.Spec PyProof.Rows
/-! ### tables of sets: places rise, none was given up -/
def Rise (xs : Array Nat) : Prop := xs.toList.Pairwise (· < ·)
structure TabOk (led : Bool) (t : SetTable) : Prop where
  led : t.led = led
  dum : t.dummies = #[]
  rise : Rise t.place
theorem Rise.lt {xs : Array Nat} (h : Rise xs) {i j : Nat} (hj : j < xs.size) (hij : i < j) : xs[i]'(by omega) < xs[j] := by
  have z := List.pairwise_iff_getElem.mp h i j (by simp; omega) (by simpa using hj) hij
  simpa using z
theorem below_go {xs : Array Nat} {j : Nat} (h : Rise xs) : ∀ (fuel lo hi : Nat), lo ≤ hi → hi ≤ xs.size → hi - lo ≤ fuel → (∀ i (q : i < xs.size), i < lo → xs[i] < j) → (∀ i (q : i < xs.size), hi ≤ i → j ≤ xs[i]) →
    SetTable.below.go xs j fuel lo hi ≤ xs.size ∧ (∀ i (q : i < xs.size), i < SetTable.below.go xs j fuel lo hi → xs[i] < j) ∧ (∀ i (q : i < xs.size), SetTable.below.go xs j fuel lo hi ≤ i → j ≤ xs[i]) := by
  intro fuel
  induction fuel with
  | zero =>
    intro lo hi h1 h2 h3 h4 h5
    have e : lo = hi := by omega
    subst e
    unfold SetTable.below.go
    exact ⟨h2, h4, h5⟩
  | succ fuel ih =>
    intro lo hi h1 h2 h3 h4 h5
    unfold SetTable.below.go
    by_cases c : lo < hi
    · rw [if_pos c]
      dsimp only
      have hm : (lo + hi) / 2 < xs.size := by omega
      have eg : xs.getD ((lo + hi) / 2) j = xs[(lo + hi) / 2] := by simp [Array.getD, hm]
      by_cases d : xs.getD ((lo + hi) / 2) j < j
      · rw [if_pos d]
        rw [eg] at d
        refine ih _ _ (by omega) h2 (by omega) (fun i hi' hl => ?_) h5
        rcases Nat.lt_or_ge i ((lo + hi) / 2) with z | z
        · exact Nat.lt_trans (h.lt hm z) d
        · have : i = (lo + hi) / 2 := by omega
          subst this
          exact d
      · rw [if_neg d]
        rw [eg] at d
        refine ih _ _ (by omega) (by omega) (by omega) h4 (fun i hi' hl => ?_)
        rcases Nat.lt_or_ge ((lo + hi) / 2) i with z | z
        · have := h.lt hi' z; omega
        · have : i = (lo + hi) / 2 := by omega
          subst this
          omega
    · rw [if_neg c]
      have e : lo = hi := by omega
      subst e
      exact ⟨h2, h4, h5⟩
theorem below_ok {xs : Array Nat} (h : Rise xs) (j : Nat) : SetTable.below xs j ≤ xs.size ∧ (∀ i (hi : i < xs.size), i < SetTable.below xs j → xs[i] < j) ∧ (∀ i (hi' : i < xs.size), SetTable.below xs j ≤ i → j ≤ xs[i]) :=
  below_go h xs.size 0 xs.size (Nat.zero_le _) (Nat.le_refl _) (by omega) (fun _ _ z => by omega) (fun i hi z => by omega)
/-- the place behind the i-th -/
theorem below_next {xs : Array Nat} (h : Rise xs) {i : Nat} (hi : i < xs.size) : SetTable.below xs (xs[i] + 1) = i + 1 := by
  obtain ⟨h1, h2, h3⟩ := below_ok h (xs[i] + 1)
  rcases Nat.lt_trichotomy (SetTable.below xs (xs[i] + 1)) (i + 1) with z | z | z
  · have := h3 i hi (by omega); omega
  · exact z
  · have a := h2 (i + 1) (by omega) (by omega)
    have b := h.lt (i := i) (j := i + 1) (by omega) (by omega)
    omega
theorem below_zero {xs : Array Nat} (h : Rise xs) : SetTable.below xs 0 = 0 := by
  obtain ⟨h1, h2, h3⟩ := below_ok h 0
  rcases Nat.eq_zero_or_pos (SetTable.below xs 0) with z | z
  · exact z
  · have := h2 0 (by omega) z; omega
theorem rise_range (n : Nat) : Rise (Array.range n) := by
  unfold Rise
  rw [Array.toList_range]
  exact List.pairwise_lt_range
theorem rise_put {xs : Array Nat} {j : Nat} (h : Rise xs) (hn : xs[SetTable.below xs j]? ≠ some j) : Rise (SetTable.insertAt xs (SetTable.below xs j) j) := by
  obtain ⟨h1, h2, h3⟩ := below_ok h j
  unfold Rise
  rw [SetTable.toList_insertAt, List.pairwise_append]
  refine ⟨List.Pairwise.sublist (List.take_sublist _ _) h, ?_, ?_⟩
  · rw [List.pairwise_cons]
    refine ⟨fun y hy => ?_, List.Pairwise.sublist (List.drop_sublist _ _) h⟩
    obtain ⟨i, hi, rfl⟩ := List.mem_iff_getElem.mp hy
    rw [List.length_drop, Array.length_toList] at hi
    rw [List.getElem_drop, Array.getElem_toList]
    have a := h3 (SetTable.below xs j + i) (by omega) (by omega)
    rcases Nat.eq_zero_or_pos i with z | z
    · subst z
      rcases Nat.lt_or_ge j (xs[SetTable.below xs j + 0]'(by omega)) with y | y
      · exact y
      · exact absurd (by rw [Array.getElem?_eq_getElem (by omega)]; congr 1; simp at a y ⊢; omega) hn
    · have b := h3 (SetTable.below xs j) (by omega) (Nat.le_refl _)
      have c := h.lt (i := SetTable.below xs j) (j := SetTable.below xs j + i) (by omega) (by omega)
      omega
  · intro a ha b hb
    obtain ⟨i, hi, rfl⟩ := List.mem_iff_getElem.mp ha
    rw [List.length_take, Array.length_toList] at hi
    rw [List.getElem_take, Array.getElem_toList]
    have q := h2 i (by omega) (by omega)
    rcases List.mem_cons.mp hb with z | z
    · omega
    · obtain ⟨l, hl, rfl⟩ := List.mem_iff_getElem.mp z
      rw [List.length_drop, Array.length_toList] at hl
      rw [List.getElem_drop, Array.getElem_toList]
      have := h3 (SetTable.below xs j + l) (by omega) (by omega)
      omega
theorem has_empty (j : Nat) : SetTable.has #[] j = false := by
  unfold SetTable.has
  simp
theorem probe_ok {t : SetTable} {f : Nat → Int} {h : Int} (hd : t.dummies = #[]) : ∀ (fuel : Nat) (p : SetTable.Probe) (j : Nat) (d : Option Nat), p.dummy = none → SetTable.probe.go t f h fuel p = some (.empty j d) → d = none ∧ t.place[SetTable.below t.place j]? ≠ some j := by
  intro fuel
  induction fuel with
  | zero => intro p j d _ e; unfold SetTable.probe.go at e; cases e
  | succ fuel ih =>
    intro p j d hp e
    unfold SetTable.probe.go at e
    have hs : t.slot p.j = (if t.place[SetTable.below t.place p.j]? == some p.j then SetTable.Slot.live (SetTable.below t.place p.j) else SetTable.Slot.empty) := by
      unfold SetTable.slot
      dsimp only
      rw [hd, has_empty]
      rfl
    rw [hs] at e
    have adv : (t.advance p).dummy = none := by
      unfold SetTable.advance
      split
      · exact hp
      · exact hp
    by_cases c : (t.place[SetTable.below t.place p.j]? == some p.j) = true
    · rw [if_pos c] at e
      dsimp only at e
      split at e
      · cases e
      · exact ih _ _ _ adv e
    · rw [if_neg c] at e
      dsimp only at e
      cases e
      exact ⟨hp, fun z => c (by rw [z]; simp)⟩
theorem free_ok {t : SetTable} {h : Int} {j : Nat} {b : Bool} (hd : t.dummies = #[]) (e : t.freeSlot h = some (j, b)) : t.place[SetTable.below t.place j]? ≠ some j := by
  unfold SetTable.freeSlot SetTable.probe at e
  split at e
  · rename_i j' d hq
    obtain ⟨rfl, z⟩ := probe_ok hd _ _ _ _ rfl hq
    cases e
    exact z
  · cases e
theorem TabOk.standIn {led : Bool} {t : SetTable} (h : TabOk led t) (n : Nat) : TabOk led (t.standIn n) := ⟨h.led, rfl, rise_range n⟩
theorem TabOk.plainOff {led : Bool} {t : SetTable} (h : TabOk led t) : TabOk led { t with plain := false } := ⟨h.led, h.dum, h.rise⟩
theorem TabOk.layNew {led : Bool} {t : SetTable} (h : TabOk led t) (es : Array (Int × Value)) (k : Int) (x : Value) : TabOk led (layNew t es k x).2.1 := by
  unfold PySem.layNew
  split
  · rename_i j b e
    dsimp only
    have z := free_ok h.dum e
    have q : TabOk led (t.put j).1 := by
      unfold SetTable.put
      refine ⟨h.led, ?_, rise_put h.rise z⟩
      dsimp only
      rw [h.dum, has_empty]
      rfl
    unfold SetTable.orStandIn
    split
    · exact q
    · exact q.standIn _
  · exact h.standIn _
theorem rise_live (owner : Array (Option Nat)) (m : Nat) : Rise (((List.range m).filterMap fun j => (owner.getD j none).map (j, ·)).map (·.1)).toArray := by
  unfold Rise
  have e : ((List.range m).filterMap fun j => (owner.getD j none).map (j, ·)).map (·.1) = (List.range m).filter fun j => (owner.getD j none).isSome := by
    induction List.range m with
    | nil => rfl
    | cons a l ih =>
      rw [List.filterMap_cons, List.filter_cons]
      cases q : owner.getD a none with
      | none => simpa [q] using ih
      | some y => simpa [q] using ih
  simp only [e]
  exact List.Pairwise.sublist List.filter_sublist List.pairwise_lt_range
theorem TabOk.relay {led : Bool} {t : SetTable} (h : TabOk led t) (es : Array (Int × Value)) (n : Nat) : TabOk led (relayAll t es n).2.1 := by
  unfold relayAll
  split
  · rename_i t' order e
    dsimp only
    split
    · unfold SetTable.relaid SetTable.laid at e
      simp only [Option.bind_eq_bind, Option.bind_eq_some_iff] at e
      obtain ⟨owner, _, e2⟩ := e
      cases e2
      exact ⟨h.led, rfl, rise_live owner _⟩
    · exact h.standIn _
  · exact h.standIn _
/-! ### orders -/
theorem erase_perm {α : Type} : ∀ (l : List α) (i : Nat) (h : i < l.length), (l[i] :: l.eraseIdx i).Perm l
  | [], i, h => by simp at h
  | a :: l, 0, h => by simp
  | a :: l, i + 1, h => by
    have hi : i < l.length := by simpa using h
    have := erase_perm l i hi
    simp only [List.getElem_cons_succ, List.eraseIdx_cons_succ]
    exact (List.Perm.swap _ _ _).trans (this.cons a)
theorem pick_go {α : Type} (next : Nat → Nat) : ∀ (fuel k : Nat) (left : List α) (out : Array α), left.length = fuel → (pickOrder.go next fuel k left out).toList.Perm (out.toList ++ left) := by
  intro fuel
  induction fuel with
  | zero =>
    intro k left out hl
    rw [List.length_eq_zero_iff.mp hl]
    unfold pickOrder.go
    simp
  | succ fuel ih =>
    intro k left out hl
    have hi : next k % left.length < left.length := Nat.mod_lt _ (by omega)
    unfold pickOrder.go
    rw [List.getElem?_eq_getElem hi]
    dsimp only
    refine (ih _ _ _ (by rw [List.length_eraseIdx_of_lt hi]; omega)).trans ?_
    rw [Array.toList_push, List.append_assoc]
    refine List.Perm.append_left _ ?_
    exact erase_perm _ _ hi
theorem pick_perm {α : Type} (next : Nat → Nat) (xs : Array α) : (pickOrder next xs).toList.Perm xs.toList := by
  have := pick_go next xs.size 0 xs.toList #[] (by simp)
  unfold pickOrder
  simpa using this
theorem draw_ok {M : Model} {A : Around} {E : Value → Shared → Prop} {α : Type} : ∀ (n : Nat) (xs : List α) (s : Shared) (Q : List α → Shared → Prop), xs.length = n →
    (∀ ys d, List.Perm ys xs → Q ys { s with drawn := d }) → wpAny M A (drawOrder n xs) Q E s := by
  intro n
  induction n with
  | zero =>
    intro xs s Q hl h
    unfold drawOrder
    have e : xs = [] := List.length_eq_zero_iff.mp hl
    subst e
    exact wpAny_pure (h [] s.drawn .nil)
  | succ n ih =>
    intro xs s Q hl h
    cases xs with
    | nil => cases hl
    | cons x r =>
      unfold drawOrder
      refine wpAny_bind (m := choose .order (x :: r).length) ?_
      intro Γ p hΓ
      show Sem.wp M Γ (.choose .order (x :: r).length .pure) _ _ p s
      rw [Sem.wp_choose]
      refine ⟨by simp, ?_⟩
      generalize hg : M.w.draws .order (s.drawn.get .order) % (x :: r).length = i
      have hi : i < (x :: r).length := by rw [← hg]; exact Nat.mod_lt _ (by simp)
      have g : wpAny M A (do
          match (x :: r)[i]? with
          | some y => return y :: (← drawOrder n ((x :: r).eraseIdx i))
          | none => unsupported "internal:drawOrder") Q E { s with drawn := s.drawn.bump .order } := by
        rw [List.getElem?_eq_getElem hi]
        dsimp only
        refine wpAny_bind (ih _ _ _ (by rw [List.length_eraseIdx_of_lt hi]; simp at hl ⊢; omega) fun ys d hp => wpAny_pure ?_)
        exact h _ d ((List.Perm.cons _ hp).trans (erase_perm _ _ hi))
      trace_state
      exact g
end L2
end

section
set_option Elab.async false
set_option linter.all false
set_option maxRecDepth 100000
set_option maxHeartbeats 4000000
namespace L2
open PySem PySem.Spec PyProof.Rows
theorem paired_perm {α β : Type} {F : α → β → Prop} {l l' : List α} (p : List.Perm l' l) : ∀ {ms : List β}, PySem.Paired F l ms → ∃ ms', List.Perm ms' ms ∧ PySem.Paired F l' ms' := by
  replace p := p.symm
  induction p with
  | nil => intro ms h; exact ⟨ms, .refl _, h⟩
  | cons x _ ih =>
    intro ms h
    cases h with
    | cons f t =>
      obtain ⟨ms', q, r⟩ := ih t
      exact ⟨_ :: ms', q.cons _, .cons f r⟩
  | swap x y l =>
    intro ms h
    cases h with
    | cons f t =>
      cases t with
      | cons g u => exact ⟨_, List.Perm.swap _ _ _, .cons g (.cons f u)⟩
  | trans _ _ ih1 ih2 =>
    intro ms h
    obtain ⟨m1, p1, r1⟩ := ih1 h
    obtain ⟨m2, p2, r2⟩ := ih2 r1
    exact ⟨m2, p2.trans p1, r2⟩
theorem nodup_len {κ : Type} [DecidableEq κ] : ∀ {l l' : List κ}, l.Nodup → (∀ x ∈ l, x ∈ l') → l.length ≤ l'.length
  | [], _, _, _ => Nat.zero_le _
  | a :: t, l', n, h => by
    have n := List.nodup_cons.mp n
    have ha := h a List.mem_cons_self
    have := nodup_len (l := t) (l' := l'.erase a) n.2 fun x hx => (List.mem_erase_of_ne (show x ≠ a from fun e => n.1 (e ▸ hx))).mpr (h x (List.mem_cons_of_mem _ hx))
    rw [List.length_erase_of_mem ha] at this
    have hp : 0 < l'.length := List.length_pos_of_mem ha
    rw [List.length_cons]
    omega
section
variable {prog : Program} {w : World} {κ : Type} [DecidableEq κ] (knd : PySem.KeyKind prog w κ)
/-- a set of the kinds of ks, with a table that is known -/
structure SetD (h : Heap) (a : Addr) (ks : List κ) (o : Obj) (es : Array (Int × Value)) (ep : Nat) (t : SetTable) (ms : List κ) : Prop where
  at' : h.get? a = some o
  ex : o.ExactSet
  dat : o.data = .set es ep t
  el : ElemsOf knd es.toList
  pr : PySem.Paired (fun e k => knd.is k e.2 = true) es.toList ms
  nd : ms.Nodup
  mem : ∀ k, k ∈ ms ↔ k ∈ ks
  sm : es.size < scanBound
  fit : t.fits es.size = true
  tab : TabOk (!w.params.followText "set-order") t
def SetT (h : Heap) (a : Addr) (ks : List κ) : Prop := ∃ o es ep t ms, SetD knd h a ks o es ep t ms
variable {knd}
variable {A : Around} {E : Value → Shared → Prop} {s : Shared} {a : Addr} {ks : List κ} {k : κ} {x : Value}
theorem SetD.keep {h h' : Heap} {o es ep t ms} (S : SetD knd h a ks o es ep t ms) (k : h'.get? a = some o) : SetD knd h' a ks o es ep t ms := ⟨k, S.ex, S.dat, S.el, S.pr, S.nd, S.mem, S.sm, S.fit, S.tab⟩
theorem SetT.keep {h h' : Heap} (S : SetT knd h a ks) (k : ∀ o, h.get? a = some o → h'.get? a = some o) : SetT knd h' a ks := by
  obtain ⟨o, es, ep, t, ms, D⟩ := S
  exact ⟨o, es, ep, t, ms, D.keep (k o D.at')⟩
theorem SetT.congr {h : Heap} {ks' : List κ} (S : SetT knd h a ks) (e : ∀ k, k ∈ ks ↔ k ∈ ks') : SetT knd h a ks' := by
  obtain ⟨o, es, ep, t, ms, D⟩ := S
  exact ⟨o, es, ep, t, ms, ⟨D.at', D.ex, D.dat, D.el, D.pr, D.nd, fun k => (D.mem k).trans (e k), D.sm, D.fit, D.tab⟩⟩
theorem SetD.size {h : Heap} {o es ep t ms} (S : SetD knd h a ks o es ep t ms) : es.size = ms.length := by rw [← PySem.Paired.length S.pr]; simp
theorem SetD.put {h : Heap} {o es ep t ms} (S : SetD knd h a ks o es ep t ms) {es' : Array (Int × Value)} {t' : SetTable} {ms' ks' : List κ} (e1 : ElemsOf knd es'.toList) (e2 : PySem.Paired (fun e k => knd.is k e.2 = true) es'.toList ms') (e3 : ms'.Nodup)
    (e4 : ∀ k, k ∈ ms' ↔ k ∈ ks') (e5 : es'.size < scanBound) (e6 : t'.fits es'.size = true) (e7 : TabOk (!w.params.followText "set-order") t') :
    ∃ o', SetD knd (h.update a (Obj.putSet es' t')) a ks' o' es' (ep + 1) t' ms' := by
  have hg := Heap.get?_update_self (Obj.putSet es' t') S.at' (by rw [putSet_of es' t' S.dat]; rfl)
  rw [putSet_of es' t' S.dat] at hg
  exact ⟨_, hg, S.ex, rfl, e1, e2, e3, e4, e5, e6, e7⟩
theorem is_in {l : List (Int × Value)} {ms : List κ} (p : PySem.Paired (fun e k => knd.is k e.2 = true) l ms) : k ∈ ms ↔ ∃ e ∈ l, knd.is k e.2 = true := by
  induction p with
  | nil => simp
  | cons f _ ih =>
    rename_i e m l ms _
    rw [List.mem_cons, ih]
    constructor
    · rintro (rfl | ⟨e', h1, h2⟩)
      · exact ⟨e, List.mem_cons_self, f⟩
      · exact ⟨e', List.mem_cons_of_mem _ h1, h2⟩
    · rintro ⟨e', h1, h2⟩
      rcases List.mem_cons.mp h1 with rfl | h1
      · exact .inl (knd.inj _ _ _ h2 f)
      · exact .inr ⟨e', h1, h2⟩
/-- the end of an add: stored, and laid anew where the table is too full -/
theorem add_tail {g : Bool → Sem Unit} (hg : ∀ (b : Bool) (s₁ : Shared) (Q' : Unit → Shared → Prop), Q' () s₁ → wpAny (model prog w) A (g b) Q' E s₁) {o es ep t ms} (S : SetD knd s.heap a ks o es ep t ms)
    {es1 : Array (Int × Value)} {t1 : SetTable} {ms1 ks1 : List κ} (e1 : ElemsOf knd es1.toList) (e2 : PySem.Paired (fun e k => knd.is k e.2 = true) es1.toList ms1) (e3 : ms1.Nodup)
    (e4 : ∀ k, k ∈ ms1 ↔ k ∈ ks1) (e5 : es1.size < scanBound) (e6 : t1.fits es1.size = true) (e7 : TabOk (!w.params.followText "set-order") t1) {dm : Bool} {R : Option Bool → Shared → Prop}
    (h : ∀ h', Heap.SameBut a s.heap h' → SetT knd h' a ks1 → R (some true) { s with heap := h' }) :
    wpAny (model prog w) A (do
      storeSet a es1 t1
      if (!dm && t1.tooFull) = true then do
        g (relayAll t1 es1 (SetTable.grown es1.size)).2.2
        storeSet a (relayAll t1 es1 (SetTable.grown es1.size)).1 (relayAll t1 es1 (SetTable.grown es1.size)).2.1
        pure (some true)
      else pure (some true)) R E s := by
  refine wpAny_bind (wpAny_storeSet_of S.at' S.dat ?_ (fits_of_scanBound e5))
  obtain ⟨o1, S1⟩ := S.put e1 e2 e3 e4 e5 e6 e7
  have b1 := Heap.SameBut.update s.heap a (Obj.putSet es1 t1)
  by_cases c : (!dm && t1.tooFull) = true
  · rw [if_pos c]
    have p2 := relayAll_perm t1 es1 (SetTable.grown es1.size)
    have f2 := relayAll_fits t1 es1 (SetTable.grown es1.size)
    have q2 := e7.relay es1 (SetTable.grown es1.size)
    generalize relayAll t1 es1 (SetTable.grown es1.size) = Rl at p2 f2 q2 ⊢
    obtain ⟨es2, t2, gv⟩ := Rl
    dsimp only at p2 f2 q2 ⊢
    obtain ⟨ms2, pm, r2⟩ := paired_perm p2 e2
    have hz : es2.size = es1.size := by have := p2.length_eq; simpa using this
    refine wpAny_bind (hg _ _ _ ?_)
    refine wpAny_bind (wpAny_storeSet_of S1.at' S1.dat ?_ (fits_of_scanBound (by omega)))
    obtain ⟨o2, S2⟩ := S1.put (e1.perm p2) r2 (pm.nodup_iff.mpr e3) (fun k => pm.mem_iff.trans (e4 k)) (by omega) f2 q2
    exact wpAny_pure (h _ (b1.trans (Heap.SameBut.update _ a _)) ⟨_, _, _, _, _, S2⟩)
  · rw [if_neg c]
    exact wpAny_pure (h _ b1 ⟨_, _, _, _, _, S1⟩)
theorem add_hashed {Q : Bool → Shared → Prop} (hk : knd.is k x = true) (hx : x.scannable = true) (S : SetT knd s.heap a ks) (hr : ks.length + 1 < scanBound)
    (h : ∀ b h', Heap.SameBut a s.heap h' → SetT knd h' a (ks ++ [k]) → Q b { s with heap := h' }) : wpAny (model prog w) A (setAddHashed a x (knd.hash k)) Q E s := by
  obtain ⟨o, es, ep, t, ms, D⟩ := S
  have hz := D.size
  have hml : ms.length ≤ ks.length := nodup_len D.nd fun k hk => (D.mem k).mp hk
  unfold setAddHashed setAddHashedIn
  refine wpAny_holding (wpAny_bind (wpAny_setState_of D.at' D.dat D.fit ?_))
  dsimp only
  rw [byScan_of hx D.sm D.el, if_pos rfl]
  unfold setAddByScan
  refine wpAny_bind (wpAny_bind (wpAny_rule (wpAny_bind (wpAny_setScan_of hk D.at' D.dat D.fit D.el ?_))))
  cases hf : List.findIdx? (fun e => knd.is k e.2) es.toList with
  | some j =>
    dsimp only
    obtain ⟨hj, pj, _⟩ := List.findIdx?_eq_some_iff_getElem.mp hf
    have hin : k ∈ ms := (is_in D.pr).mpr ⟨_, List.getElem_mem hj, pj⟩
    refine wpAny_pure (wpAny_pure ?_)
    have q := h false s.heap (Heap.SameBut.refl a s.heap) (SetT.congr ⟨o, es, ep, t, ms, D⟩ fun k' => ?_)
    · cases s; exact q
    · rw [List.mem_append, List.mem_singleton]
      exact ⟨.inl, fun z => z.elim id fun z => by subst z; exact (D.mem _).mp hin⟩
  | none =>
    dsimp only
    have hout : ¬ k ∈ ms := fun z => by
      obtain ⟨e, he, q⟩ := (is_in D.pr).mp z
      have := List.findIdx?_eq_none_iff.mp hf e he
      rw [q] at this; cases this
    have p1 := layNew_perm t es (knd.hash k) x
    have f1 := layNew_fits t es (knd.hash k) x
    have q1 := D.tab.layNew es (knd.hash k) x
    generalize layNew t es (knd.hash k) x = L at p1 f1 q1 ⊢
    obtain ⟨es1, t1, dm, gv⟩ := L
    dsimp only at p1 f1 q1 ⊢
    rw [Array.toList_push] at p1
    have e1 := (D.el.push hk hx).perm p1
    obtain ⟨ms1, pm, r1⟩ := paired_perm p1 (D.pr.snoc (F := fun (e : Int × Value) k => knd.is k e.2 = true) hk)
    have z1 : es1.size = es.size + 1 := by have := p1.length_eq; simpa using this
    have e3 : ms1.Nodup := pm.nodup_iff.mpr (List.nodup_append.mpr ⟨D.nd, by simp, fun y hy z hz => by rw [List.mem_singleton] at hz; subst hz; exact fun e => hout (e ▸ hy)⟩)
    have e4 : ∀ k', k' ∈ ms1 ↔ k' ∈ ks ++ [k] := fun k' => by rw [pm.mem_iff, List.mem_append, List.mem_append, D.mem]
    have gw : ∀ (b : Bool) (s₁ : Shared) (Q' : Unit → Shared → Prop), Q' () s₁ → wpAny (model prog w) A (match b with | true => rule "set.scan.the-table-gave-way" | false => pure ()) Q' E s₁ := fun b s₁ Q' q => by
      cases b
      · exact wpAny_pure q
      · exact wpAny_rule q
    refine wpAny_bind (gw _ _ _ ?_)
    have fin : ∀ h', Heap.SameBut a s.heap h' → SetT knd h' a (ks ++ [k]) → wpAny (model prog w) A (pure true) Q E { s with heap := h' } := fun h' b S' => wpAny_pure (h true h' b S')
    split
    · refine wpAny_bind ?_
      rw [hashByValue_scannable 8 hx]
      refine wpAny_pure ?_
      refine add_tail gw D e1 r1 e3 e4 (by omega) (by split; exact f1; exact SetTable.fits_plain_off f1) (by split; exact q1; exact q1.plainOff) ?_
      intro h' b S'
      exact fin h' b S'
    · refine wpAny_bind (wpAny_pure ?_)
      rw [if_pos rfl]
      refine add_tail gw D e1 r1 e3 e4 (by omega) f1 q1 ?_
      intro h' b S'
      exact fin h' b S'
end
end L2
end

section
set_option Elab.async false
set_option linter.all false
set_option maxRecDepth 100000
set_option maxHeartbeats 4000000
namespace L2
open PySem PySem.Spec PyProof.Rows
section
variable {prog : Program} {w : World} {κ : Type} [DecidableEq κ] {knd : PySem.KeyKind prog w κ}
theorem set_loop {A : Around} {R : Result → Shared → Prop} {I : Addr} {fp wr : List Addr} {G : Array GenState → Array GenState → Prop} {n : Nat} {P : Nat → Value → Prop} {St : Nat → Shared → Prop} (W : WalksS prog w A.in1 I fp wr G n P St) (S : Addr) (hSf : S ∉ fp)
    (ks : List κ) (hn : ks.length = n) (hv : ∀ i v, P i v → ∃ k, ks[i]? = some k ∧ knd.is k v = true ∧ v.scannable = true) (hb : n + 1 < scanBound) :
    ∀ (j i : Nat) (s : Shared), n - i = j → i ≤ n → St i s → SetT knd s.heap S (ks.take i) → (∀ s', Moved (S :: wr) G s s' → SetT knd s'.heap S ks → R (.ok (.ret .none)) s') →
      codeAny (model prog w) A (.builtin "set.update.loop" ⟨[.ref S, .ref I], []⟩) R s := by
  have hSw : S ∉ wr := fun h => hSf (W.sub _ h)
  have sub : ∀ b ∈ wr, b ∈ S :: wr := fun b hb => List.mem_cons_of_mem _ hb
  intro j
  induction j with
  | zero =>
    intro i s hj hi st hS hR
    have e : i = n := by omega
    subst e
    refine codeAny_builtin PyProof.Rows.F.entry_set_update_loop ?_
    rw [Around.under_plainId PyProof.Rows.F.plain_set_update_loop _]
    refine wpAny_bind (m := pyNext (.ref I)) (W.done s _ _ st fun s' mv => ?_)
    refine wpAny_pure (hR s' (mv.mono sub) ?_)
    rw [List.take_of_length_le (by omega)] at hS
    exact hS.keep fun o q => mv.heap S o hSw q
  | succ j ih =>
    intro i s hj hi st hS hR
    have hlt : i < n := by omega
    refine codeAny_builtin PyProof.Rows.F.entry_set_update_loop ?_
    rw [Around.under_plainId PyProof.Rows.F.plain_set_update_loop _]
    refine wpAny_bind (m := pyNext (.ref I)) (W.item i s _ _ hlt st fun v s' hP st' mv => ?_)
    obtain ⟨k, ek, hk, hx⟩ := hv i v hP
    have hS' : SetT knd s'.heap S (ks.take i) := hS.keep fun o q => mv.heap S o hSw q
    show wpAny _ A.in1 (holding [v] (setAdd S v) >>= _) _ _ s'
    refine wpAny_bind (wpAny_holding ?_)
    unfold setAdd
    refine wpAny_holding (wpAny_bind (knd.pyHash (k := k) hk ?_))
    refine add_hashed (s := { s' with toks := s'.toks + 1 }) hk hx hS' (by rw [List.length_take]; omega) fun b h' sb S2 => ?_
    have et : ks.take (i + 1) = ks.take i ++ [k] := by rw [List.take_add_one, ek]; rfl
    refine wpAny_pure ⟨plainId_quiet PyProof.Rows.F.plain_set_update_loop _, ih (i + 1) _ (by omega) hlt (W.frame _ s' _ _ st' (Nat.le_succ _) fun b hb o q => ?_) (by rw [et]; exact S2) fun s'' mv'' S'' => ?_⟩
    · exact (sb.2 b (fun z : b = S => hSf (z ▸ hb))).trans q
    · refine hR s'' (Moved.trans W.gtrans ((mv.mono sub).then_heap (Nat.le_succ _) fun b o hb q => ?_) mv'') S''
      exact (sb.2 b (fun z : b = S => hb (by rw [z]; exact List.mem_cons_self))).trans q
variable {A : Around} {E : Value → Shared → Prop} {s : Shared}
abbrev setNew (w : World) : Obj := { cls := .type "set", dict := none, data := .set #[] 0 (.fresh 0 0 (!w.params.followText "set-order")) }
theorem code_setNew (a : Value) {Q : Value → Shared → Prop} (h : Q (.ref s.heap.objs.size) { s with heap := s.heap.push (setNew w) }) :
    codeAny (model prog w) A (.call (.builtin "set.__new__") ⟨[.type "set", a], []⟩) (wants Q E) s := by
  refine codeAny_of_tree ?_
  refine wpAny_bind (m := checkBuiltinCall "set.__new__" ⟨[.type "set", a], []⟩) (wpAny_of_eq (PySem.F.newCall_set_1 a) (wpAny_pure ⟨plainId_quiet PySem.F.plain_set_new _, codeAny_builtin PySem.F.entry_set_new ?_⟩))
  rw [Around.under_plainId PySem.F.plain_set_new _]
  unfold Builtin.«set.__new__» Builtin.Frozenset.newClass
  have hsub := sub_set_self
  obtain ⟨hp, g, d, tk, os⟩ := s
  dsimp only
  wp_walk
  refine wpAny_askSetting (wpAny_pure ?_)
  dsimp only
  simp only [newObj]
  refine wpAny_bind (wpAny_alloc (wpAny_pure ?_))
  exact wpAny_pure h
theorem setNew_ok {h : Heap} {a : Addr} (e : h.get? a = some (setNew w)) : SetT knd h a [] :=
  ⟨_, #[], 0, _, [], e, ⟨rfl, rfl, rfl⟩, rfl, fun e he => by simp at he, .nil, by simp, fun k => Iff.rfl, by decide, rfl, ⟨rfl, rfl, by unfold Rise; exact .nil⟩⟩
end
end L2
end

section
set_option Elab.async false
set_option linter.all false
set_option maxRecDepth 100000
set_option maxHeartbeats 4000000
namespace L2
open PySem PySem.Spec PyProof.Rows
section
variable {prog : Program} {w : World} {κ : Type} [DecidableEq κ] {knd : PySem.KeyKind prog w κ} {A : Around} {E : Value → Shared → Prop} {s : Shared}
/-- what set(l) leaves -/
def MadeSet (knd : PySem.KeyKind prog w κ) (s : Shared) (ks : List κ) (s2 : Shared) : Prop := ∃ h' tk, s2 = { s with heap := h', toks := tk } ∧ SetT knd h' s.heap.objs.size ks ∧ ∀ b o, b < s.heap.objs.size → s.heap.get? b = some o → h'.get? b = some o
theorem init_set {l : Addr} {items : Array Value} {ks : List κ} (hh : A.handled = none) (hl : s.heap.IsList l items) (hn : ks.length = items.size) (hv : ∀ (i : Nat) (v : Value), items[i]? = some v → ∃ k, ks[i]? = some k ∧ knd.is k v = true ∧ v.scannable = true) (hb : items.size + 1 < scanBound)
    {Q : Unit → Shared → Prop} (h : ∀ s2, MadeSet knd s ks s2 → Q () s2) :
    wpAny (model prog w) A (Builtin.Frozenset.updateFrom "set.__init__" s.heap.objs.size (.ref l)) Q E { s with heap := s.heap.push (setNew w) } := by
  obtain ⟨ol, hol, hcl, nl, hdl⟩ := id hl
  have hol' := Heap.get?_push_of_some (setNew w) hol
  have ty : Shared.TypeIs { s with heap := s.heap.push (setNew w) } (.ref l) "list" := ⟨ol, hol', hcl⟩
  have hll : l < s.heap.objs.size := Heap.lt_size hol
  have hl1 : (s.heap.push (setNew w)).IsList l items := ⟨_, hol', hcl, nl, hdl⟩
  have f1 := PySem.F.sub_list_set
  have f2 := PySem.F.sub_list_frozenset
  unfold Builtin.Frozenset.updateFrom
  refine wpAny_bind (m := Builtin.Frozenset.isAnySet (.ref l)) ?_
  have e0 : Builtin.Frozenset.isAnySet (.ref l) = (isInstance (.ref l) (.type "set") >>= fun b => if b = true then pure true else isInstance (.ref l) (.type "frozenset")) := by
    unfold Builtin.Frozenset.isAnySet orM toBool
    congr 1
    funext b
    cases b <;> rfl
  rw [e0]
  refine wpAny_bind (wpAny_isInstance ty f1 ?_)
  rw [if_neg Bool.false_ne_true]
  refine wpAny_isInstance ty f2 ?_
  rw [if_neg Bool.false_ne_true]
  refine wpAny_bind (wpAny_typeOf ty ?_)
  rw [if_neg (by decide)]
  refine wpAny_bind (wpAny_pyIter_list hl1 ?_)
  refine wpAny_bind (wpAny_runValue ?_)
  have hh3 : A.in1.handled = none := hh
  have hne : l ≠ (s.heap.push (setNew w)).objs.size := by rw [Heap.size_push]; exact Nat.ne_of_lt (Nat.lt_succ_of_lt hll)
  have hSf : s.heap.objs.size ∉ [(s.heap.push (setNew w)).objs.size, l] := by
    rw [Heap.size_push]
    simp only [List.mem_cons, List.not_mem_nil, or_false, not_or]
    exact ⟨Nat.ne_of_lt (Nat.lt_succ_self _), Nat.ne_of_gt hll⟩
  refine set_loop (knd := knd) ((Walks.list hh3 _ l hne items).toS) s.heap.objs.size hSf ks hn hv hb (items.size - 0) 0 _ (by omega) (Nat.zero_le _) ⟨⟨_, Heap.get?_push_size _ rfl, rfl, rfl⟩, hl1.push _⟩ ?_ ?_
  · exact setNew_ok (Heap.get?_push_of_some _ (Heap.get?_push_size _ rfl))
  · intro s' mv S'
    refine wpAny_pure (h _ ⟨s'.heap, s'.toks, ?_, S', fun b o hb e => ?_⟩)
    · obtain ⟨h', g', d', tk', os'⟩ := s'
      have eg : g' = s.gens := mv.gens
      have ed : d' = s.drawn := mv.drawn
      have eo : os' = s.os := mv.os
      subst eg ed eo
      rfl
    · refine mv.heap b o ?_ (Heap.get?_push_of_some _ (Heap.get?_push_of_some _ e))
      rw [Heap.size_push]
      simp only [List.mem_cons, List.not_mem_nil, or_false, not_or]
      exact ⟨Nat.ne_of_lt hb, Nat.ne_of_lt (Nat.lt_succ_of_lt hb)⟩
theorem call_setT {l : Addr} {items : Array Value} {ks : List κ} {Q : Value → Shared → Prop} (hh : A.handled = none) (hl : s.heap.IsList l items) (hn : ks.length = items.size) (hv : ∀ (i : Nat) (v : Value), items[i]? = some v → ∃ k, ks[i]? = some k ∧ knd.is k v = true ∧ v.scannable = true)
    (hb : items.size + 1 < scanBound) (h : ∀ s2, MadeSet knd s ks s2 → Q (.ref s.heap.objs.size) s2) : wpAny (model prog w) A (call (.type "set") [.ref l]) Q E s := by
  obtain ⟨c, tl, hm⟩ := PySem.F.called_set.mro
  have q1 := PySem.F.called_set.made
  have q2 := PySem.F.called_set.sub
  refine wpAny_call (codeAny_of_tree ?_)
  refine wpAny_pure ⟨Code.quiet_builtin _ (by decide +kernel), codeAny_builtin PySem.F.entry_type_call ?_⟩
  rw [Around.under_plain (weight_type_call_type "set" [.ref l] []) rfl]
  have q3 := PySem.F.called_set.notType
  have q4 := PySem.F.called_set.canCreate
  have q5 := PySem.F.typeCall_set_1 (.ref l)
  repeat any_goals (first | wp_step | assumption)
  refine codeAny_mono (code_setNew (w := w) (.ref l) (E := E) (Q := fun obj s₁ => obj = .ref s.heap.objs.size ∧ s₁ = { s with heap := s.heap.push (setNew w) }) ⟨rfl, rfl⟩) fun r s₁ hr => ?_
  cases r with
  | error e => exact hr
  | ok fl =>
    cases fl with
    | ret obj =>
      obtain ⟨rfl, rfl⟩ := hr
      have hS : (s.heap.push (setNew w)).get? s.heap.objs.size = some (setNew w) := Heap.get?_push_size _ rfl
      have ty : Shared.TypeIs { s with heap := s.heap.push (setNew w) } (.ref s.heap.objs.size) "set" := ⟨_, hS, rfl⟩
      have q6 := PySem.F.called_set.init.lookup
      have q7 := PySem.F.called_set.init.bind (.ref s.heap.objs.size)
      repeat any_goals (first | wp_step | assumption)
      refine codeAny_mono (codeAny_call_builtin (R := wants (fun r s₂ => r = .none ∧ MadeSet knd s ks s₂) E) PySem.F.called_set.init.plain PySem.F.entry_set_init (check_set_init_1 ty ?_)) fun r₂ s₂ hr₂ => ?_
      · unfold Builtin.«set.__init__» noKeywords
        generalize hU : Builtin.Frozenset.updateFrom = U
        have ready : wpAny (model prog w) A.in1.in1 (U "set.__init__" s.heap.objs.size (.ref l)) (fun _ s2 => MadeSet knd s ks s2) (fun e s' => wants (fun r s₂ => r = .none ∧ MadeSet knd s ks s₂) E (.error e) s') { s with heap := s.heap.push (setNew w) } := by
          rw [← hU]
          exact init_set (A := A.in1.in1) hh hl hn hv hb fun s2 m => m
        wp_walk
        refine wpAny_mono ready (fun _ s2 m => ?_) fun _ _ q => q
        exact wpAny_pure ⟨rfl, m⟩
      · cases r₂ with
        | error e => exact hr₂
        | ok fl₂ =>
          cases fl₂ with
          | ret r =>
            obtain ⟨rfl, m⟩ := hr₂
            have z := h _ m
            repeat any_goals (first | wp_step | assumption)
          | _ => exact hr₂.elim
    | _ => exact hr.elim
end
end L2
end

section
set_option Elab.async false
set_option linter.all false
set_option maxRecDepth 100000
set_option maxHeartbeats 4000000
namespace L2
open PySem PySem.Spec PyProof.Rows
theorem slot_seti_next : Slot "set_iterator" "__next__" "set_iterator.__next__" :=
  .of (owner := "set_iterator") (n := "__next__") (by rw [typeLookup_type, builtinLookup_eq_fast]; kernel_rfl) (by decide +kernel) (by decide +kernel) (by decide +kernel)
    (by first | exact .inl (by decide +kernel) | exact .inr (by decide +kernel)) (by rw [isSubtype_type]; kernel_rfl)
theorem entry_seti_next : entryFor table "set_iterator.__next__" = some Builtin.«set_iterator.__next__» := entryFor_of_tree (by kernel_rfl)
theorem owner_seti : Manifest.owners.lookup (String.ofList ['r', 'o', 't', 'a', 'r', 'e', 't', 'i', '_', 't', 'e', 's'].reverse) = some Manifest.sig_set_iterator := by kernel_rfl
theorem args_seti_next (a : Value) : argsOk "set_iterator.__next__" ⟨[a], []⟩ := by
  unfold argsOk
  rw [signature?_of (id := "set_iterator.__next__") (n := ['_', '_', 't', 'x', 'e', 'n', '_', '_']) (o := ['r', 'o', 't', 'a', 'r', 'e', 't', 'i', '_', 't', 'e', 's']) (by kernel_rfl) owner_seti]
  kernel_rfl
theorem entry_set_iter : entryFor table "set.__iter__" = some Builtin.«frozenset.__iter__» :=
  entryFor_alias (id' := "frozenset.__iter__") (by kernel_rfl) rfl (by decide +kernel) (by kernel_rfl)
abbrev itObj (first : Value) (i : Nat) (a : Addr) (n ep : Nat) : Obj := { cls := .type "set_iterator", dict := none, data := .fields #[first, .int i 0, .ref a, .int n 0, .int ep 0], slots := #[] }
section
variable {prog : Program} {w : World} {A : Around} {E : Value → Shared → Prop} {s : Shared} {I a : Addr} {i n ep : Nat} {Q : Option Value → Shared → Prop}
theorem stop_now {o : Obj} {vs : Array Value} {m : Nat} (hh : A.handled = none) (ho : s.heap.get? I = some o) (hd : o.data = .fields vs) (hm : m < vs.size) {R : PySem.Fin → Shared → Prop} {E' : Value → Shared → Prop}
    (h : ∀ x h', (⟨h', s.gens, s.drawn, s.toks, s.os⟩ : Shared).TypeIs x "StopIteration" → Heap.ExtBut I s.heap h' → E' x { s with heap := h' }) :
    wpAny (model prog w) A (do setField (.ref I) m .none; raiseNew (← newExc (.type "StopIteration") [])) R E' s := by
  refine wpAny_bind (wpAny_setField ho hd hm ?_)
  refine wpAny_bind (m := newExc (.type "StopIteration") []) ?_
  simp only [newExc, newTuple]
  refine wpAny_bind (wpAny_newObj_type ?_ (by size_fits))
  refine wpAny_bind (m := firstArgMember _ _) (wpAny_of_eq (a := Value.none) (by first | rfl | (simp only [firstArgMember]; rfl)) ?_)
  refine wpAny_newObj_type ?_ (by size_fits)
  simp only [raiseNew]
  refine wpAny_bind (wpAny_handled ?_)
  rw [hh]
  refine wpAny_bind (wpAny_pure (wpAny_throw ?_))
  exact h _ _ ⟨_, Heap.get?_push_size _ rfl, rfl⟩ (((Heap.SameBut.update ..).extBut.push _).push _)
theorem next_int {slot nx : Nat} {x : Value} (ho : s.heap.get? I = some (itObj (.int slot 0) i a n ep)) (hz : ∀ (A : Around) (E : Value → Shared → Prop) (Q : Array (Int × Value) → Shared → Prop), (∀ es, es.size = n → Q es s) → wpAny (model prog w) A (setEntries a) Q E s)
    (hN : ∀ (A : Around) (E : Value → Shared → Prop) (Q : Option (Value × Nat) → Shared → Prop), Q (some (x, nx)) s → wpAny (model prog w) A (setNext a slot i ep) Q E s)
    (hQ : ∀ h', h'.get? I = some (itObj (.int nx 0) (i + 1) a n ep) → Heap.SameBut I s.heap h' → Q (some x) { s with heap := h' }) : wpAny (model prog w) A (pyNext (.ref I)) Q E s := by
  have ty : s.TypeIs (.ref I) "set_iterator" := ⟨_, ho, rfl⟩
  unfold pyNext
  refine wpAny_bind (wpAny_attempt (wpAny_callSpecial?_slot (name := Str.ofString "__next__") ty slot_seti_next (wpAny_call_entry slot_seti_next ty entry_seti_next ?_ (args_seti_next _))))
  unfold Builtin.«set_iterator.__next__»
  refine wpAny_bind (m := slotArgs "__next__" 0 _) (wpAny_pure ?_)
  refine wpAny_bind (wpAny_fieldsOf ho rfl ?_)
  show wpAny _ _ (setEntries a >>= _) _ _ s
  refine wpAny_bind (hz _ _ _ fun es e => ?_)
  rw [if_neg (by rw [e]; simp)]
  show wpAny _ _ (setNext a (slot : Int).toNat (i : Int).toNat (ep : Int).toNat >>= _) _ _ s
  simp only [Int.toNat_natCast]
  refine wpAny_bind (hN _ _ _ ?_)
  dsimp only
  refine wpAny_bind (wpAny_setField_rec ho (by simp) fun h1 e1 b1 => ?_)
  refine wpAny_bind (wpAny_setField_rec (s := { s with heap := h1 }) e1 (by simp) fun h2 e2 b2 => ?_)
  refine wpAny_pure ⟨_, rfl, wpAny_pure (hQ h2 ?_ (b1.trans b2))⟩
  rw [e2]
  simp [rawInt]
theorem done_int {slot : Nat} (hh : A.handled = none) (ho : s.heap.get? I = some (itObj (.int slot 0) i a n ep)) (hz : ∀ (A : Around) (E : Value → Shared → Prop) (Q : Array (Int × Value) → Shared → Prop), (∀ es, es.size = n → Q es s) → wpAny (model prog w) A (setEntries a) Q E s)
    (hN : ∀ (A : Around) (E : Value → Shared → Prop) (Q : Option (Value × Nat) → Shared → Prop), Q none s → wpAny (model prog w) A (setNext a slot i ep) Q E s)
    (hQ : ∀ h', Heap.ExtBut I s.heap h' → Q none { s with heap := h' }) : wpAny (model prog w) A (pyNext (.ref I)) Q E s := by
  have ty : s.TypeIs (.ref I) "set_iterator" := ⟨_, ho, rfl⟩
  unfold pyNext
  refine wpAny_bind (wpAny_attempt (wpAny_callSpecial?_slot (name := Str.ofString "__next__") ty slot_seti_next (wpAny_call_entry slot_seti_next ty entry_seti_next ?_ (args_seti_next _))))
  unfold Builtin.«set_iterator.__next__»
  refine wpAny_bind (m := slotArgs "__next__" 0 _) (wpAny_pure ?_)
  refine wpAny_bind (wpAny_fieldsOf ho rfl ?_)
  show wpAny _ _ (setEntries a >>= _) _ _ s
  refine wpAny_bind (hz _ _ _ fun es e => ?_)
  rw [if_neg (by rw [e]; simp)]
  show wpAny _ _ (setNext a (slot : Int).toNat (i : Int).toNat (ep : Int).toNat >>= _) _ _ s
  simp only [Int.toNat_natCast]
  refine wpAny_bind (hN _ _ _ ?_)
  dsimp only
  refine stop_now (A := A.in1) hh ho rfl (by simp) fun x h' ty' b => ?_
  refine wpAny_bind (wpAny_isInstance (T := "StopIteration") (b := true) ty' isSubtype_stop ?_)
  exact wpAny_pure (hQ h' b)
theorem next_tup {tp : Addr} {pl : List Nat} {q : Nat} {x : Value} {h0 : Int} {es0 : Array (Int × Value)} {t : SetTable} (ho : s.heap.get? I = some (itObj (.ref tp) i a n ep)) (htp : s.heap.get? tp = some { cls := .type "tuple", data := .seq (pl.map fun (p : Nat) => rawInt p).toArray }) (hz : ∀ (A : Around) (E : Value → Shared → Prop) (Q : Array (Int × Value) → Shared → Prop), (∀ es, es.size = n → Q es s) → wpAny (model prog w) A (setEntries a) Q E s)
    (hS : ∀ (A : Around) (E : Value → Shared → Prop) (Q : Array (Int × Value) × Nat × SetTable → Shared → Prop), Q (es0, ep, t) s → wpAny (model prog w) A (setState a) Q E s)
    (hp : pl[i]? = some q) (hx : es0[q]? = some (h0, x)) (hQ : ∀ h', h'.get? I = some (itObj (.ref tp) (i + 1) a n ep) → Heap.SameBut I s.heap h' → Q (some x) { s with heap := h' }) : wpAny (model prog w) A (pyNext (.ref I)) Q E s := by
  have ty : s.TypeIs (.ref I) "set_iterator" := ⟨_, ho, rfl⟩
  unfold pyNext
  refine wpAny_bind (wpAny_attempt (wpAny_callSpecial?_slot (name := Str.ofString "__next__") ty slot_seti_next (wpAny_call_entry slot_seti_next ty entry_seti_next ?_ (args_seti_next _))))
  unfold Builtin.«set_iterator.__next__»
  refine wpAny_bind (m := slotArgs "__next__" 0 _) (wpAny_pure ?_)
  refine wpAny_bind (wpAny_fieldsOf ho rfl ?_)
  show wpAny _ _ (setEntries a >>= _) _ _ s
  refine wpAny_bind (hz _ _ _ fun es e => ?_)
  rw [if_neg (by rw [e]; simp)]
  show wpAny _ _ (seqItems? (.ref tp) >>= _) _ _ s
  refine wpAny_bind (wpAny_seqItems htp rfl ?_)
  dsimp only
  have hq : (pl.map fun (p : Nat) => rawInt p).toArray[(i : Int).toNat]? = some (rawInt q) := by simp [hp]
  rw [hq]
  show wpAny _ _ (setNextDrawn a (q : Int).toNat (ep : Int).toNat >>= _) _ _ s
  simp only [Int.toNat_natCast]
  unfold setNextDrawn
  refine wpAny_bind (wpAny_bind (hS _ _ _ ?_))
  dsimp only
  rw [if_neg (by simp), hx]
  refine wpAny_pure ?_
  refine wpAny_bind (wpAny_setField_rec ho (by simp) fun h1 e1 b1 => ?_)
  refine wpAny_pure ⟨_, rfl, wpAny_pure (hQ h1 ?_ b1)⟩
  rw [e1]
  simp [rawInt]
theorem done_tup {tp : Addr} {pl : List Nat} (hh : A.handled = none) (ho : s.heap.get? I = some (itObj (.ref tp) i a n ep)) (htp : s.heap.get? tp = some { cls := .type "tuple", data := .seq (pl.map fun (p : Nat) => rawInt p).toArray }) (hz : ∀ (A : Around) (E : Value → Shared → Prop) (Q : Array (Int × Value) → Shared → Prop), (∀ es, es.size = n → Q es s) → wpAny (model prog w) A (setEntries a) Q E s)
    (hp : pl[i]? = none) (hQ : ∀ h', Heap.ExtBut I s.heap h' → Q none { s with heap := h' }) : wpAny (model prog w) A (pyNext (.ref I)) Q E s := by
  have ty : s.TypeIs (.ref I) "set_iterator" := ⟨_, ho, rfl⟩
  unfold pyNext
  refine wpAny_bind (wpAny_attempt (wpAny_callSpecial?_slot (name := Str.ofString "__next__") ty slot_seti_next (wpAny_call_entry slot_seti_next ty entry_seti_next ?_ (args_seti_next _))))
  unfold Builtin.«set_iterator.__next__»
  refine wpAny_bind (m := slotArgs "__next__" 0 _) (wpAny_pure ?_)
  refine wpAny_bind (wpAny_fieldsOf ho rfl ?_)
  show wpAny _ _ (setEntries a >>= _) _ _ s
  refine wpAny_bind (hz _ _ _ fun es e => ?_)
  rw [if_neg (by rw [e]; simp)]
  show wpAny _ _ (seqItems? (.ref tp) >>= _) _ _ s
  refine wpAny_bind (wpAny_seqItems htp rfl ?_)
  dsimp only
  have hq : (pl.map fun (p : Nat) => rawInt p).toArray[(i : Int).toNat]? = none := by simpa using hp
  rw [hq]
  dsimp only
  refine wpAny_bind (wpAny_setField_rec ho (by simp) fun h1 e1 b1 => ?_)
  refine stop_now (s := { s with heap := h1 }) (A := A.in1) hh e1 rfl (by simp) fun x h' ty' b => ?_
  refine wpAny_bind (wpAny_isInstance (T := "StopIteration") (b := true) ty' isSubtype_stop ?_)
  exact wpAny_pure (hQ h' fun b' o' hb e => b b' o' hb (b1.extBut b' o' hb e))
end
end L2
end

section
set_option Elab.async false
set_option linter.all false
set_option maxRecDepth 100000
set_option maxHeartbeats 4000000
namespace L2
open PySem PySem.Spec PyProof.Rows
theorem slot_seti_iter : Slot "set_iterator" "__iter__" "set_iterator.__iter__" :=
  .of (owner := "set_iterator") (n := "__iter__") (by rw [typeLookup_type, builtinLookup_eq_fast]; kernel_rfl) (by decide +kernel) (by decide +kernel) (by decide +kernel)
    (by first | exact .inl (by decide +kernel) | exact .inr (by decide +kernel)) (by rw [isSubtype_type]; kernel_rfl)
theorem entry_seti_iter : entryFor table "set_iterator.__iter__" = some Builtin.«dict_keyiterator.__iter__» :=
  entryFor_alias (id' := "dict_keyiterator.__iter__") (by kernel_rfl) rfl (by decide +kernel) (by kernel_rfl)
theorem args_seti_iter (a : Value) : argsOk "set_iterator.__iter__" ⟨[a], []⟩ := by
  unfold argsOk
  rw [signature?_of (id := "set_iterator.__iter__") (n := ['_', '_', 'r', 'e', 't', 'i', '_', '_']) (o := ['r', 'o', 't', 'a', 'r', 'e', 't', 'i', '_', 't', 'e', 's']) (by kernel_rfl) owner_seti]
  kernel_rfl
section
variable {prog : Program} {w : World} {κ : Type} [DecidableEq κ] {knd : PySem.KeyKind prog w κ} {A : Around} {E : Value → Shared → Prop} {s : Shared} {a I : Addr} {ks : List κ} {o : Obj} {es : Array (Int × Value)} {ep : Nat} {t : SetTable} {ms : List κ}
theorem self_seti {Q : Value → Shared → Prop} (ty : s.TypeIs (.ref I) "set_iterator") (h : Q (.ref I) s) : wpAny (model prog w) A (pyIter (.ref I)) Q E s := by
  refine wpAny_pyIter_slot ty slot_seti_iter (wpAny_call_entry slot_seti_iter ty entry_seti_iter ?_ (args_seti_iter _))
  show wpAny _ _ (ret (.ref I)) _ _ s
  exact wpAny_pure ⟨_, rfl, "set_iterator", _, ty, slot_seti_next.lookup, h⟩
theorem by_text {Q : Bool → Shared → Prop} (h : Q (w.params.followText "set-order") s) : wpAny (model prog w) A setsByText Q E s := by
  unfold setsByText
  exact wpAny_bind (wpAny_askSetting (wpAny_pure h))
theorem SetD.state (D : SetD knd s.heap a ks o es ep t ms) {Q : Array (Int × Value) × Nat × SetTable → Shared → Prop} (h : Q (es, ep, t) s) : wpAny (model prog w) A (setState a) Q E s := wpAny_setState_of D.at' D.dat D.fit h
theorem SetD.entries (D : SetD knd s.heap a ks o es ep t ms) {Q : Array (Int × Value) → Shared → Prop} (h : Q es s) : wpAny (model prog w) A (setEntries a) Q E s := by
  unfold setEntries
  exact wpAny_bind (D.state (wpAny_pure h))
theorem next_text (D : SetD knd s.heap a ks o es ep t ms) (ft : w.params.followText "set-order" = true) {slot given : Nat} {Q : Option (Value × Nat) → Shared → Prop} (h : Q (((pickOrder (w.params.setOrder a ep) es)[given]?).map fun e => (e.2, slot)) s) :
    wpAny (model prog w) A (setNext a slot given ep) Q E s := by
  unfold setNext
  refine wpAny_bind (D.state ?_)
  dsimp only
  refine wpAny_bind (by_text ?_)
  rw [if_pos ft, if_neg (by simp)]
  refine wpAny_bind ?_
  unfold setWalk
  refine wpAny_bind (D.state ?_)
  dsimp only
  refine wpAny_bind (by_text ?_)
  rw [if_pos ft]
  refine wpAny_bind (wpAny_askSetting (wpAny_pure ?_))
  exact wpAny_pure h
theorem next_plain (D : SetD knd s.heap a ks o es ep t ms) (ft : w.params.followText "set-order" = false) (hd : (!t.plain && decide (es.size > 1)) = false) {slot given : Nat} {Q : Option (Value × Nat) → Shared → Prop}
    (h : Q (match es[SetTable.below t.place slot]?, t.place[SetTable.below t.place slot]? with | some (_, x), some j => some (x, j + 1) | _, _ => none) s) :
    wpAny (model prog w) A (setNext a slot given ep) Q E s := by
  have hl : t.led = true := by rw [D.tab.led, ft]; rfl
  unfold setNext
  refine wpAny_bind (D.state ?_)
  dsimp only
  refine wpAny_bind (by_text ?_)
  rw [if_neg (by rw [ft]; exact Bool.false_ne_true)]
  show wpAny _ _ (if (!t.plain && decide (es.size > 1)) = true then _ else _) _ _ s
  rw [hd, if_neg Bool.false_ne_true]
  refine wpAny_bind ?_
  show wpAny _ _ (if (!t.led && !es.isEmpty) = true then _ else _) _ _ s
  rw [hl]
  exact wpAny_pure (wpAny_pure h)
end
end L2
end

section
set_option Elab.async false
set_option linter.all false
set_option maxRecDepth 100000
set_option maxHeartbeats 4000000
namespace L2
open PySem PySem.Spec PyProof.Rows
def slotAt (pl : Array Nat) : Nat → Nat
  | 0 => 0
  | i + 1 => pl.getD i 0 + 1
theorem below_slot {pl : Array Nat} (h : Rise pl) {i : Nat} (hi : i ≤ pl.size) : SetTable.below pl (slotAt pl i) = i := by
  cases i with
  | zero => exact below_zero h
  | succ i =>
    have e : pl.getD i 0 = pl[i] := by simp [Array.getD, show i < pl.size by omega]
    show SetTable.below pl (pl.getD i 0 + 1) = i + 1
    rw [e]
    exact below_next h (by omega)
section
variable {prog : Program} {w : World} {κ : Type} [DecidableEq κ] {knd : PySem.KeyKind prog w κ} {A : Around} {E : Value → Shared → Prop} {s : Shared} {a I : Addr} {ks : List κ} {o : Obj} {es : Array (Int × Value)} {ep : Nat} {t : SetTable} {ms : List κ}
theorem size_of (D : SetD knd s.heap a ks o es ep t ms) : ∀ (A : Around) (E : Value → Shared → Prop) (Q : Array (Int × Value) → Shared → Prop), (∀ es', es'.size = es.size → Q es' s) → wpAny (model prog w) A (setEntries a) Q E s := fun _ _ _ q => D.entries (q es rfl)
theorem walk_text {h0 : Heap} (D : SetD knd h0 a ks o es ep t ms) (ft : w.params.followText "set-order" = true) (hh : A.handled = none) (hne : a ≠ I) :
    Walks prog w A I [I, a] [I] es.size (fun i v => ((pickOrder (w.params.setOrder a ep) es).toList.map (·.2))[i]? = some v) (fun i h => h.get? I = some (itObj (.int (0 : Nat) 0) i a es.size ep) ∧ h.get? a = some o) where
  sub := fun b hb => by simp at hb; simp [hb]
  frame := fun _ _ _ st hk => ⟨hk I (by simp) _ st.1, hk a (by simp) _ st.2⟩
  item := fun i s Q E hi st hQ => by
    have D' := D.keep st.2
    have hp := (pick_perm (w.params.setOrder a ep) es).length_eq
    have hl : i < (pickOrder (w.params.setOrder a ep) es).size := by simp at hp; omega
    refine next_int (x := ((pickOrder (w.params.setOrder a ep) es)[i]).2) (nx := 0) st.1 (size_of D') (fun _ _ _ q => next_text D' ft (by rw [Array.getElem?_eq_getElem hl]; exact q)) fun h' e1 b1 => ?_
    exact hQ _ h' s.toks (by simp [hl]) ⟨e1, (b1.2 a hne).trans st.2⟩ fun b u hb e => b1.extBut b u (fun z => hb (by simp [z])) e
  done := fun s Q E st hQ => by
    have D' := D.keep st.2
    have hp := (pick_perm (w.params.setOrder a ep) es).length_eq
    have hl : ¬ es.size < (pickOrder (w.params.setOrder a ep) es).size := by simp at hp; omega
    refine done_int hh st.1 (size_of D') (fun _ _ _ q => next_text D' ft (by rw [Array.getElem?_eq_none (by omega)]; exact q)) fun h' b1 => ?_
    exact hQ h' s.toks fun b u hb e => b1 b u (fun z => hb (by simp [z])) e
  self := fun _ s _ _ st hQ => self_seti ⟨_, st.1, rfl⟩ hQ
theorem walk_plain {h0 : Heap} (D : SetD knd h0 a ks o es ep t ms) (ft : w.params.followText "set-order" = false) (hd : (!t.plain && decide (es.size > 1)) = false) (hh : A.handled = none) (hne : a ≠ I) :
    Walks prog w A I [I, a] [I] es.size (fun i v => (es.toList.map (·.2))[i]? = some v) (fun i h => i ≤ es.size ∧ h.get? I = some (itObj (.int (slotAt t.place i) 0) i a es.size ep) ∧ h.get? a = some o) where
  sub := fun b hb => by simp at hb; simp [hb]
  frame := fun _ _ _ st hk => ⟨st.1, hk I (by simp) _ st.2.1, hk a (by simp) _ st.2.2⟩
  item := fun i s Q E hi st hQ => by
    have D' := D.keep st.2.2
    have hz : t.place.size = es.size := by have := D.fit; simp only [SetTable.fits, Bool.and_eq_true, beq_iff_eq] at this; exact this.1
    refine next_int (x := es[i].2) (nx := slotAt t.place (i + 1)) st.2.1 (size_of D') (fun _ _ _ q => next_plain D' ft hd (by
      rw [below_slot D.tab.rise (by omega), Array.getElem?_eq_getElem hi, Array.getElem?_eq_getElem (by omega)]
      have e : slotAt t.place (i + 1) = t.place[i]'(by omega) + 1 := by simp [slotAt, Array.getD, show i < t.place.size by omega]
      rw [e] at q
      exact q)) fun h' e1 b1 => ?_
    exact hQ _ h' s.toks (by simp [hi]) ⟨hi, e1, (b1.2 a hne).trans st.2.2⟩ fun b u hb e => b1.extBut b u (fun z => hb (by simp [z])) e
  done := fun s Q E st hQ => by
    have D' := D.keep st.2.2
    have hz : t.place.size = es.size := by have := D.fit; simp only [SetTable.fits, Bool.and_eq_true, beq_iff_eq] at this; exact this.1
    refine done_int hh st.2.1 (size_of D') (fun _ _ _ q => next_plain D' ft hd (by
      rw [below_slot D.tab.rise (by omega), Array.getElem?_eq_none (by omega)]
      exact q)) fun h' b1 => ?_
    exact hQ h' s.toks fun b u hb e => b1 b u (fun z => hb (by simp [z])) e
  self := fun _ s _ _ st hQ => self_seti ⟨_, st.2.1, rfl⟩ hQ
abbrev tupObj (pl : List Nat) : Obj := { cls := .type "tuple", data := .seq (pl.map fun (p : Nat) => rawInt p).toArray }
theorem walk_drawn {h0 : Heap} {tp : Addr} {pl : List Nat} (D : SetD knd h0 a ks o es ep t ms) (hp : pl.Perm (List.range es.size)) (hh : A.handled = none) (hne : a ≠ I) (hnt : tp ≠ I) :
    Walks prog w A I [I, a, tp] [I] es.size (fun i v => (pl.map fun p => ((es[p]?).map (·.2)).getD .none)[i]? = some v) (fun i h => h.get? I = some (itObj (.ref tp) i a es.size ep) ∧ h.get? a = some o ∧ h.get? tp = some (tupObj pl)) where
  sub := fun b hb => by simp at hb; simp [hb]
  frame := fun _ _ _ st hk => ⟨hk I (by simp) _ st.1, hk a (by simp) _ st.2.1, hk tp (by simp) _ st.2.2⟩
  item := fun i s Q E hi st hQ => by
    have D' := D.keep st.2.1
    have hl : i < pl.length := by rw [hp.length_eq, List.length_range]; exact hi
    have hm : pl[i] < es.size := by have := hp.mem_iff.mp (List.getElem_mem hl); simpa using this
    refine next_tup (q := pl[i]) (h0 := (es[pl[i]]).1) (x := (es[pl[i]]).2) st.1 st.2.2 (size_of D') (fun _ _ _ q => D'.state q) (List.getElem?_eq_getElem hl) (by rw [Array.getElem?_eq_getElem hm]) fun h' e1 b1 => ?_
    refine hQ _ h' s.toks ?_ ⟨e1, (b1.2 a hne).trans st.2.1, (b1.2 tp hnt).trans st.2.2⟩ fun b u hb e => b1.extBut b u (fun z => hb (by simp [z])) e
    rw [List.getElem?_map, List.getElem?_eq_getElem hl, Option.map_some, Array.getElem?_eq_getElem hm]
    rfl
  done := fun s Q E st hQ => by
    have D' := D.keep st.2.1
    refine done_tup hh st.1 st.2.2 (size_of D') (List.getElem?_eq_none (by rw [hp.length_eq, List.length_range]; exact Nat.le_refl _)) fun h' b1 => ?_
    exact hQ h' s.toks fun b u hb e => b1 b u (fun z => hb (by simp [z])) e
  self := fun _ s _ _ st hQ => self_seti ⟨_, st.1, rfl⟩ hQ
theorem drawn_perm {pl : List Nat} (hp : pl.Perm (List.range es.size)) : (pl.map fun p => ((es[p]?).map (·.2)).getD .none).Perm (es.toList.map (·.2)) := by
  refine (hp.map _).trans ?_
  rw [show (List.range es.size).map (fun p => ((es[p]?).map (·.2)).getD Value.none) = es.toList.map (·.2) from ?_]
  refine List.ext_getElem (by simp) fun i h1 h2 => ?_
  simp at h1
  simp [h1]
/-- iter(set) -/
theorem iter_set {Q : Value → Shared → Prop} (D : SetD knd s.heap a ks o es ep t ms)
    (h : ∀ (h' : Heap) (d : Drawn) (I : Addr) (fp : List Addr) (vs : List Value) (St : Nat → Heap → Prop), (∀ b u, s.heap.get? b = some u → h'.get? b = some u) → vs.Perm (es.toList.map (·.2)) → s.heap.objs.size ≤ I → (∀ b ∈ fp, b = a ∨ s.heap.objs.size ≤ b) →
      (∀ A' : Around, A'.handled = none → Walks prog w A' I fp [I] es.size (fun i v => vs[i]? = some v) St) → St 0 h' → Q (.ref I) { s with heap := h', drawn := d }) : wpAny (model prog w) A (pyIter (.ref a)) Q E s := by
  have ty : s.TypeIs (.ref a) "set" := ⟨o, D.at', D.ex.1⟩
  have hal : a < s.heap.objs.size := Heap.lt_size D.at'
  have hal1 : a ≠ s.heap.objs.size := Nat.ne_of_lt hal
  refine wpAny_pyIter_slot ty PySem.F.slot_set_iter (wpAny_call_entry PySem.F.slot_set_iter ty entry_set_iter ?_ (PySem.F.args_set_iter_1 _))
  unfold Builtin.«frozenset.__iter__» Builtin.Frozenset.slot0
  refine wpAny_bind (wpAny_bind (m := slotArgs "__iter__" 0 _) (wpAny_pure ?_))
  refine wpAny_of_eq (a := a) rfl ?_
  refine wpAny_bind (m := Builtin.Frozenset.sizeOf a) ?_
  unfold Builtin.Frozenset.sizeOf
  refine wpAny_bind (D.entries (wpAny_pure ?_))
  refine wpAny_bind (m := setDrawn a) ?_
  unfold setDrawn
  refine wpAny_bind (D.state ?_)
  dsimp only
  refine wpAny_bind (by_text (wpAny_pure ?_))
  have fin : ∀ (first : Value) (s1 : Shared) (D1 : SetD knd s1.heap a ks o es ep t ms) (hk : Q (.ref s1.heap.objs.size) { s1 with heap := s1.heap.push (itObj first 0 a es.size ep) }), wpAny (model prog w) A.in1 (do
      ret (← newFields "set_iterator" [first, rawInt 0, .ref a, rawInt es.size, rawInt (← setEpoch a)])) (fun fin s' => ∃ v, fin = .done (.ret v) ∧ ∃ T' r, s'.TypeIs v T' ∧ typeLookup (.type T') "__next__" = pure (some r) ∧ Q v s') E s1 := by
    intro first s1 D1 hk
    refine wpAny_bind (wpAny_setEpoch_of D1.at' D1.dat D1.fit ?_)
    refine wpAny_bind (wpAny_newObj_type ?_ (by size_fits))
    exact wpAny_pure ⟨_, rfl, "set_iterator", _, ⟨_, Heap.get?_push_size _ rfl, rfl⟩, slot_seti_next.lookup, hk⟩
  cases ft : w.params.followText "set-order" with
  | true =>
    rw [show (!true && _) = false from rfl, if_neg Bool.false_ne_true]
    refine wpAny_bind (wpAny_pure ?_)
    refine fin _ s D ?_
    exact h _ s.drawn s.heap.objs.size _ _ _ (fun b u e => Heap.get?_push_of_some _ e) ((pick_perm (w.params.setOrder a ep) es).map _) (Nat.le_refl _) (fun b hb => by simp at hb; rcases hb with z | z; exact .inr (Nat.le_of_eq z.symm); exact .inl z)
      (fun A' hA => walk_text D ft hA hal1) ⟨Heap.get?_push_size _ rfl, Heap.get?_push_of_some _ D.at'⟩
  | false =>
    cases hd : (!t.plain && decide (es.size > 1)) with
    | false =>
      show wpAny _ _ (if (!false && (!t.plain && decide (es.size > 1))) = true then _ else _) _ _ s
      rw [hd, show (!false && false) = false from rfl, if_neg Bool.false_ne_true]
      refine wpAny_bind (wpAny_pure ?_)
      refine fin _ s D ?_
      exact h _ s.drawn s.heap.objs.size _ _ _ (fun b u e => Heap.get?_push_of_some _ e) (.refl _) (Nat.le_refl _) (fun b hb => by simp at hb; rcases hb with z | z; exact .inr (Nat.le_of_eq z.symm); exact .inl z)
        (fun A' hA => walk_plain D ft hd hA hal1) ⟨Nat.zero_le _, Heap.get?_push_size _ rfl, Heap.get?_push_of_some _ D.at'⟩
    | true =>
      show wpAny _ _ (if (!false && (!t.plain && decide (es.size > 1))) = true then _ else _) _ _ s
      rw [hd, show (!false && true) = true from rfl, if_pos rfl]
      refine wpAny_bind (draw_ok es.size (List.range es.size) s _ (by simp) fun pl d hp => ?_)
      have hpl : pl.length = es.size := by rw [hp.length_eq, List.length_range]
      refine wpAny_bind (wpAny_newTuple ?_ (by rw [List.length_map, hpl]; exact fits_of_scanBound D.sm))
      refine fin _ ⟨s.heap.push (tupObj pl), s.gens, d, s.toks, s.os⟩ (D.keep (Heap.get?_push_of_some _ D.at')) ?_
      have hI : (s.heap.push (tupObj pl)).objs.size = s.heap.objs.size + 1 := Heap.size_push _ _
      refine h _ d (s.heap.push (tupObj pl)).objs.size _ _ _ (fun b u e => Heap.get?_push_of_some _ (Heap.get?_push_of_some _ e)) (drawn_perm hp) (by rw [hI]; exact Nat.le_succ _) (fun b hb => ?_)
        (fun A' hA => walk_drawn (tp := s.heap.objs.size) D hp hA (by rw [hI]; exact Nat.ne_of_lt (Nat.lt_succ_of_lt hal)) (by rw [hI]; exact Nat.ne_of_lt (Nat.lt_succ_self _))) ⟨Heap.get?_push_size _ rfl, Heap.get?_push_of_some _ (Heap.get?_push_of_some _ D.at'), Heap.get?_push_of_some _ (Heap.get?_push_size _ rfl)⟩
      simp at hb
      rcases hb with z | z | z
      · exact .inr (by rw [z]; exact Nat.le_succ _)
      · exact .inl z
      · exact .inr (Nat.le_of_eq z.symm)
end
end L2
end

section
set_option Elab.async false
set_option linter.all false
set_option maxRecDepth 100000
set_option maxHeartbeats 4000000
namespace L2
open PySem PySem.Spec PyProof.Rows
section
variable {prog : Program} {w : World} {κ : Type} [DecidableEq κ] {knd : PySem.KeyKind prog w κ} {A : Around} {E : Value → Shared → Prop} {s : Shared} {a I : Addr} {ks : List κ} {o : Obj} {es : Array (Int × Value)} {ep : Nat} {t : SetTable} {ms : List κ}
theorem hint_set {Q : Bool → Shared → Prop} (ty : s.TypeIs (.ref a) "set") (h : Q false s) : wpAny (model prog w) A (Builtin.List.listLengthHint (.ref a)) Q E s := by
  unfold Builtin.List.listLengthHint
  refine wpAny_bind (wpAny_specialOf ty PySem.F.slot_set_len.lookup ?_)
  generalize e : ("set.__len__" : String) = nm
  wp_delta
  rw [show splitId nm = some ("set", "__len__") from by subst e; decide +kernel]
  subst e
  refine wpAny_bind (wpAny_isInstance (T := "set") (b := true) ty sub_set_self ?_)
  refine wpAny_ite_split (fun c => absurd c (by decide)) fun _ => ?_
  refine wpAny_ite_split (fun _ => ?_) fun c => absurd (by decide +kernel) c
  exact wpAny_bind (wpAny_typeOf ty (wpAny_pure h))
theorem items_eq {vs : List Value} {acc : Array Value} {n : Nat} (hn : vs.length = n) (h : ItemsOf (fun i v => vs[i]? = some v) acc n) : acc.toList = vs := by
  refine List.ext_getElem (by rw [Array.length_toList, h.1, hn]) fun i h1 h2 => ?_
  have q : vs[i]? = some (acc.toList[i]) := h.2 i (acc.toList[i]) (by simp at h1; simp [h1])
  rw [List.getElem?_eq_getElem h2] at q
  exact (Option.some.inj q).symm
theorem extend_set {R : Result → Shared → Prop} (D : SetD knd s.heap a ks o es ep t ms) (hh : A.handled = none) (S : Addr) (hSa : S ≠ a) (res : Value) (hS : s.heap.get? S = some { cls := .type "list", data := .seq #[] })
    (h : ∀ h' tk d acc' c', (∀ b u, b ≠ S → s.heap.get? b = some u → h'.get? b = some u) → h'.get? S = some { cls := .type "list", dict := none, data := .seq acc' c', slots := #[] } → acc'.toList.Perm (es.toList.map (·.2)) → R (.ok (.ret res)) { s with heap := h', drawn := d, toks := tk }) :
    wpAny (model prog w) A.in1 (Builtin.List.listExtendWith (.ref S) (.ref a) res)
      (fun fin s' => match fin with | .done f => R (.ok f) s' | .again c' => c'.quiet = true ∧ codeAny (model prog w) A c' R s') (fun e s' => R (.error e) s') s := by
  have ty : s.TypeIs (.ref a) "set" := ⟨o, D.at', D.ex.1⟩
  have hSl : S < s.heap.objs.size := Heap.lt_size hS
  unfold Builtin.List.listExtendWith
  refine wpAny_bind (wpAny_typeOf ty ?_)
  have e1 : Builtin.List.listSameRef (.ref S) (.ref a) = false := by simp [Builtin.List.listSameRef, hSa]
  rw [e1]
  rw [if_neg (by decide)]
  refine wpAny_bind (iter_set D fun h1 d I fp vs St k1 pv hI hfp W st => ?_)
  have hSf : S ∉ fp := fun z => by
    rcases hfp S z with q | q
    · exact hSa q
    · exact absurd q (Nat.not_le.mpr hSl)
  have hvl : vs.length = es.size := by rw [pv.length_eq]; simp
  have go : ∀ (h2 : Heap) (c tk : Nat), St 0 h2 → (∀ b u, b ≠ S → s.heap.get? b = some u → h2.get? b = some u) → h2.get? S = some { cls := .type "list", data := .seq #[] c } →
      codeAny (model prog w) A (.builtin "list.extend.loop" ⟨[.ref S, .ref I, res], []⟩) R { s with heap := h2, drawn := d, toks := tk } := by
    intro h2 c tk st2 k2 hS2
    refine codeAny_extend_loopS (W A.in1 hh).toS (fits_of_scanBound D.sm) S hSf res es.size 0 _ #[] c rfl (Nat.zero_le _) st2 hS2 (ItemsOf.nil _) fun s' acc' c' mv hS' hacc => ?_
    have ee := items_eq hvl hacc
    obtain ⟨h', g', d', tk', os'⟩ := s'
    have eg : g' = s.gens := mv.gens
    have ed : d' = d := mv.drawn
    have eo : os' = s.os := mv.os
    subst eg ed eo
    refine h h' tk' _ acc' c' (fun b u hb e => mv.heap b u (fun z => ?_) (k2 b u hb e)) hS' (by rw [ee]; exact pv)
    rcases List.mem_cons.mp z with z | z
    · exact hb z
    · rw [List.mem_singleton] at z
      exact absurd (Heap.lt_size e) (by rw [z]; exact Nat.not_lt.mpr hI)
  have hS1 := k1 _ _ hS
  refine wpAny_bind (wpAny_holding (hint_set ⟨o, k1 _ _ D.at', D.ex.1⟩ ?_))
  refine wpAny_ite_split (fun _ => ?_) fun _ => wpAny_pure ⟨plainId_quiet PySem.F.plain_extend_loop _, go _ _ _ st (fun b u _ e => k1 b u e) hS1⟩
  refine wpAny_bind (wpAny_rule ?_)
  refine wpAny_bind ?_
  show wpAny _ _ (updateSeq S (·.push .none) >>= fun _ => updateSeq S (·.pop)) _ _ _
  refine wpAny_bind (wpAny_updateSeq hS1 rfl ?_)
  have hS2 := Heap.get?_update_self (Obj.mapSeq (·.push Value.none)) hS1 rfl
  refine wpAny_updateSeq (hz := by seq_fits) hS2 rfl ?_
  have hS3 := Heap.get?_update_self (Obj.mapSeq (·.pop)) hS2 rfl
  have oth : ∀ b u, b ≠ S → h1.get? b = some u → ((h1.update S (Obj.mapSeq (·.push Value.none))).update S (Obj.mapSeq (·.pop))).get? b = some u := fun b u hb e =>
    (Heap.get?_update_other _ _ (Ne.symm hb)).trans ((Heap.get?_update_other _ _ (Ne.symm hb)).trans e)
  exact wpAny_pure ⟨plainId_quiet PySem.F.plain_extend_loop _, go _ _ _ ((W A.in1 hh).frame 0 _ _ st fun b hb u e => oth b u (fun z => hSf (z ▸ hb)) e) (fun b u hb e => oth b u hb (k1 b u e)) hS3⟩
theorem collect_set {R : List Value → Shared → Prop} (D : SetD knd s.heap a ks o es ep t ms) (hh : A.handled = none)
    (h : ∀ (h' : Heap) (tk : Nat) (d : Drawn) (vs : List Value), (∀ b u, s.heap.get? b = some u → h'.get? b = some u) → s.heap.objs.size ≤ h'.objs.size → vs.Perm (es.toList.map (·.2)) → R vs { s with heap := h', drawn := d, toks := tk }) :
    wpAny (model prog w) A (collect (.ref a)) R E s := by
  unfold collect
  refine wpAny_bind (wpAny_runValue (codeAny_builtin entry_proto_collect' ?_))
  rw [Around.under_plainId PySem.F.plain_proto_collect _]
  refine wpAny_bind (m := newList []) (wpAny_newObj_type ?_)
  refine wpAny_pure ⟨plainId_quiet PySem.F.plain_list_iadd _, codeAny_builtin entry_list_iadd' ?_⟩
  rw [Around.under_plainId PySem.F.plain_list_iadd _]
  have hS : (s.heap.push { cls := .type "list", data := .seq ([] : List Value).toArray }).get? s.heap.objs.size = some { cls := .type "list", data := .seq #[] } := Heap.get?_push_size _ rfl
  show wpAny _ A.in1 (Builtin.List.listExtendWith (.ref s.heap.objs.size) (.ref a) (.ref s.heap.objs.size)) _ _ _
  have key := extend_set (A := A) (s := { s with heap := s.heap.push { cls := .type "list", data := .seq ([] : List Value).toArray } })
    (R := fun (q : Result) (s' : Shared) => ∃ h' tk d acc' c', q = .ok (.ret (.ref s.heap.objs.size)) ∧ s' = { s with heap := h', drawn := d, toks := tk } ∧ (∀ b u, s.heap.get? b = some u → h'.get? b = some u) ∧
      h'.get? s.heap.objs.size = some { cls := .type "list", dict := none, data := .seq acc' c', slots := #[] } ∧ acc'.toList.Perm (es.toList.map (·.2)))
    (D.keep (Heap.get?_push_of_some _ D.at')) hh s.heap.objs.size (Nat.ne_of_gt (Heap.lt_size D.at')) (.ref s.heap.objs.size) hS
    (fun h' tk d acc' c' k1 e1 p1 => ⟨h', tk, d, acc', c', rfl, rfl, fun b u e => k1 b u (Nat.ne_of_lt (Heap.lt_size e)) (Heap.get?_push_of_some _ e), e1, p1⟩)
  refine wpAny_mono key (fun fin s' x => ?_) fun e s' x => ?_
  · cases fin with
    | done f =>
      obtain ⟨h', tk, d, acc', c', e, rfl, k1, e1, p1⟩ := x
      cases e
      exact wpAny_bind (m := load s.heap.objs.size) (wpAny_load e1 (wpAny_pure (h h' tk d acc'.toList k1 (Nat.le_of_lt (Heap.lt_size e1)) p1)))
    | again c₁ =>
      refine ⟨x.1, codeAny_mono x.2 fun q s₂ y => ?_⟩
      obtain ⟨h', tk, d, acc', c', rfl, rfl, k1, e1, p1⟩ := y
      exact wpAny_bind (m := load s.heap.objs.size) (wpAny_load e1 (wpAny_pure (h h' tk d acc'.toList k1 (Nat.le_of_lt (Heap.lt_size e1)) p1)))
  · obtain ⟨_, _, _, _, _, z, _⟩ := x
    cases z
end
section
variable {prog : Program} {w : World} {A : Around} {E : Value → Shared → Prop} {s : Shared} {a : Addr} {ks : List Int}
theorem ints_of {vs : List Value} {ns : List Int} (h : PySem.Paired (fun v n => ∃ t, v = Value.int n t) vs ns) : IntsAre vs ns := by
  induction h with
  | nil => exact .nil
  | cons f _ ih =>
    obtain ⟨t, rfl⟩ := f
    exact .cons _ t ih
theorem sorted_set {Q : Value → Shared → Prop} (S : SetT (intKind prog w) s.heap a ks) (hh : A.handled = none) (h64 : ks.length < 64)
    (h : ∀ (h' : Heap) (tk : Nat) (d : Drawn) (L : Addr) (out : Array Value) (c : Nat) (ns : List Int), (∀ b u, s.heap.get? b = some u → h'.get? b = some u) → s.heap.objs.size ≤ L → h'.get? L = some (seqObj "list" out c) → IntsAre out.toList ns → ns.Pairwise (· < ·) → (∀ k, k ∈ ns ↔ k ∈ ks) →
      Q (.ref L) { s with heap := h', drawn := d, toks := tk }) : wpAny (model prog w) A (call (.builtin "sorted") [.ref a]) Q E s := by
  obtain ⟨o, es, ep, t, ms, D⟩ := S
  refine Calls.call_function_entry kind_sorted plain_sorted entry_sorted (args_sorted1 _) ?_
  unfold Builtin.«sorted»
  refine wpAny_bind (m := checkCount "sorted" 1 1 _) (wpAny_pure ?_)
  refine wpAny_bind (collect_set (A := A.in1) D hh fun h1 tk d vs k1 hsz pv => ?_)
  have pr : PySem.Paired (fun v n => ∃ t, v = Value.int n t) (es.toList.map (·.2)) ms := by
    have := D.pr
    generalize es.toList = l at this
    clear pv D
    induction this with
    | nil => exact .nil
    | cons f _ ih => exact .cons (Value.isInt_shape f) ih
  obtain ⟨ns, pn, r1⟩ := paired_perm pv pr
  have hI := ints_of r1
  have hlen : vs.length < 64 := by
    have h1 : ms.length ≤ ks.length := nodup_len D.nd fun k hk => (D.mem k).mp hk
    have h2 := pv.length_eq
    have h3 := D.size
    simp at h2
    omega
  refine wpAny_bind (wpAny_newList ?_ (by rw [sizeLine_eq]; omega))
  have hL : (h1.push (seqObj "list" vs.toArray 0)).get? h1.objs.size = some (seqObj "list" vs.toArray 0) := Heap.get?_push_size _ rfl
  refine wpAny_bind (wpAny_holding (wpAny_call_entry slot_list_sort ⟨_, hL, rfl⟩ entry_list_sort (list_sort_tree hL hI hlen fun out ns' a1 a2 a3 => ⟨_, rfl, ?_⟩) (args_list_sort _)))
  have hlt : h1.objs.size < (h1.push (seqObj "list" vs.toArray 0)).objs.size := Heap.lt_size hL
  obtain ⟨c, hc⟩ : ∃ c, (sortedHeap (h1.push (seqObj "list" vs.toArray 0)) h1.objs.size vs out).get? h1.objs.size = some (seqObj "list" out c) := sortedHeap_at hL
  have p3 := a2.trans pn
  refine wpAny_pure ⟨_, rfl, h _ tk d h1.objs.size out c ns' (fun b u e => ?_) ?_ hc a1 ?_ fun k => p3.mem_iff.trans (D.mem k)⟩
  · have hb := Heap.lt_size (k1 b u e)
    rw [sortedHeap_old (Nat.ne_of_lt hb) (Nat.lt_trans hb hlt)]
    exact Heap.get?_push_of_some _ (k1 b u e)
  · exact hsz
  · have nd : ns'.Nodup := p3.nodup_iff.mpr D.nd
    exact (List.Pairwise.and a3 nd).imp fun {x y} z => by omega
end
end L2
end

section
set_option Elab.async false
set_option linter.all false
set_option maxRecDepth 100000
set_option maxHeartbeats 4000000
namespace L2
open PySem PySem.Spec PyProof.Rows
/-! ### the sorted members of a list of ints, each once -/
theorem rise_ext : ∀ {a b : List Int}, a.Pairwise (· < ·) → b.Pairwise (· < ·) → (∀ k, k ∈ a ↔ k ∈ b) → a = b
  | [], [], _, _, _ => rfl
  | [], y :: b, _, _, h => by simpa using (h y).mpr List.mem_cons_self
  | x :: a, [], _, _, h => by simpa using (h x).mp List.mem_cons_self
  | x :: a, y :: b, ha, hb, h => by
    have ha' := List.pairwise_cons.mp ha
    have hb' := List.pairwise_cons.mp hb
    have e : x = y := by
      rcases List.mem_cons.mp ((h x).mp List.mem_cons_self) with z | z
      · exact z
      · rcases List.mem_cons.mp ((h y).mpr List.mem_cons_self) with z' | z'
        · exact z'.symm
        · have := ha'.1 y z'; have := hb'.1 x z; omega
    subst e
    congr 1
    refine rise_ext ha'.2 hb'.2 fun k => ⟨fun z => ?_, fun z => ?_⟩
    · rcases List.mem_cons.mp ((h k).mp (List.mem_cons_of_mem _ z)) with q | q
      · have := ha'.1 k z; omega
      · exact q
    · rcases List.mem_cons.mp ((h k).mpr (List.mem_cons_of_mem _ z)) with q | q
      · have := hb'.1 k z; omega
      · exact q
def ins (k : Int) : List Int → List Int
  | [] => [k]
  | x :: r => if k < x then k :: x :: r else if k = x then x :: r else x :: ins k r
def nub : List Int → List Int
  | [] => []
  | x :: r => ins x (nub r)
theorem mem_ins {k j : Int} : ∀ {l : List Int}, j ∈ ins k l ↔ j = k ∨ j ∈ l
  | [] => by simp [ins]
  | x :: r => by
    unfold ins
    split
    · simp
    · split
      · rename_i h; subst h; simp
      · rw [List.mem_cons, mem_ins, List.mem_cons]
        constructor
        · rintro (z | z | z)
          · exact .inr (.inl z)
          · exact .inl z
          · exact .inr (.inr z)
        · rintro (z | z | z)
          · exact .inr (.inl z)
          · exact .inl z
          · exact .inr (.inr z)
theorem rise_ins {k : Int} : ∀ {l : List Int}, l.Pairwise (· < ·) → (ins k l).Pairwise (· < ·)
  | [], _ => by simp [ins]
  | x :: r, h => by
    have h' := List.pairwise_cons.mp h
    unfold ins
    split
    · rename_i c
      refine List.pairwise_cons.mpr ⟨fun y hy => ?_, h⟩
      rcases List.mem_cons.mp hy with z | z
      · omega
      · have := h'.1 y z; omega
    · split
      · exact h
      · refine List.pairwise_cons.mpr ⟨fun y hy => ?_, rise_ins h'.2⟩
        rcases mem_ins.mp hy with z | z
        · omega
        · exact h'.1 y z
theorem mem_nub {j : Int} : ∀ {l : List Int}, j ∈ nub l ↔ j ∈ l
  | [] => by simp [nub]
  | x :: r => by unfold nub; rw [mem_ins, mem_nub, List.mem_cons]
theorem rise_nub : ∀ (l : List Int), (nub l).Pairwise (· < ·)
  | [] => .nil
  | x :: r => rise_ins (rise_nub r)
theorem nub_eq {l ms : List Int} (h : ms.Pairwise (· < ·)) (m : ∀ k, k ∈ ms ↔ k ∈ l) : ms = nub l := rise_ext h (rise_nub l) fun k => (m k).trans mem_nub.symm
theorem nub_len : ∀ (l : List Int), (nub l).length ≤ l.length := fun l => nodup_len ((rise_nub l).imp fun {a b} h => by omega) fun x hx => mem_nub.mp hx
section
variable {X : Cx}
def tSS (K : PySem.W.Frag) (te : TE) : TE := fun σ H Q => te σ H fun x H1 => ∃ l ns, x = .ref l ∧ SqL K H1 l ((ns : List Int).map V.int) ∧ ns.length < 64 ∧ ∀ r, H1 r = none → Q (.ref r) (upd H1 r (.lst ((nub ns).map V.int)))
theorem boot_set' : bootBuiltins "set" = some (.type "set") := by decide +kernel
theorem pe_sset {e : Expr} {te : TE} {p p2 pos pos2 : Pos} (hc : X.calm = true) (hg : Gl X "sorted") (hm : X.mg "sorted" = none) (hg2 : Gl X "set") (hm2 : X.mg "set" = none) (he : PE X e te)
    (h1 : starEach [e] X.env = [(false, eval e X.env)] := by rfl) (h2 : starEach [.Call (.Name "set" p2) [e] [] pos2] X.env = [(false, eval (.Call (.Name "set" p2) [e] [] pos2) X.env)] := by rfl) :
    PE X (.Call (.Name "sorted" p) [.Call (.Name "set" p2) [e] [] pos2] [] pos) (tSS X.K te) := by
  intro pins s σ H Q I h
  refine wpAny_Call_Name_kw (ld_blt I hg hm boot_sorted ?_ (by decide) (by decide))
  refine PyProof.Rows.callWith_builtin1 ?_ h2 rfl
  rw [h2]
  refine Calls.spliced_cons ?_
  refine wpAny_Call_Name_kw (ld_blt I hg2 hm2 boot_set' ?_ (by decide) (by decide))
  refine PyProof.Rows.callWith_type1 ?_ h1 rfl
  rw [h1]
  refine Calls.spliced_cons (thn (he pins s σ H _ I h) fun u s1 ⟨x, H1, I1, r1, q1⟩ => Calls.spliced_nil ?_)
  obtain ⟨l, ns, rfl, hS, hl, q⟩ := q1
  cases r1
  obtain ⟨its, rv, pl, hz⟩ := I1.list hS
  have hlen := rv.length
  rw [List.length_map] at hlen
  have hi := intsAre_of rv
  have hsz : its.toArray.size = its.length := by simp
  refine call_setT (knd := intKind X.prog X.w) (ks := ns) (I1.ok.hd hc) pl.isList (by rw [hsz]; exact hlen) (fun i v hv => ?_) (by rw [hsz]; show its.length + 1 < 4096; omega) fun s2 m => Calls.spliced_nil ?_
  · obtain ⟨t, e⟩ := IntsAre.int_at hi i v (by simpa using hv)
    have hil : i < ns.length := by
      rw [hlen]
      have := Array.getElem?_eq_some_iff.mp hv
      obtain ⟨z, _⟩ := this
      simpa using z
    subst e
    refine ⟨ns.getD i 0, ?_, intKind_is _ _ _ _, rfl⟩
    rw [List.getD_eq_getElem?_getD, List.getElem?_eq_getElem hil]
    rfl
  obtain ⟨h', tk, rfl, S, k1⟩ := m
  have hsz2 : s1.heap.objs.size < h'.objs.size := by
    obtain ⟨o, es, ep, t, ms, D⟩ := S
    exact Heap.lt_size D.at'
  refine sorted_set (s := { s1 with heap := h', toks := tk }) S (I1.ok.hd hc) hl fun h2 tk2 d L out c ns' k2 hL eL aI aP aM => ?_
  have hLn : H1 L = none := I1.hok.fresh (Nat.le_trans (Nat.le_of_lt hsz2) hL)
  have en := nub_eq aP aM
  subst en
  have kp : ∀ b u, s1.heap.get? b = some u → h2.get? b = some u := fun b u e => k2 b u (k1 b u (Heap.lt_size e) e)
  have hLe : s1.heap.objs.size ≤ L := Nat.le_trans (Nat.le_of_lt hsz2) hL
  have nl := nub_len ns
  have I2 : Inv X pins σ (upd H1 L (.lst ((nub ns).map V.int))) { s1 with heap := h2, gens := s1.gens, drawn := d, toks := tk2 } :=
    I1.call (ch := []) (Un.laid kp hLe hLn) (I1.hok.laid kp hLe ⟨by rw [List.length_map]; exact small (by omega), out.toList, c, vals_ints aI, by rw [eL]⟩) I1.bare (fun _ z => nomatch z)
  exact ⟨.ref L, _, I2, rfl, q L hLn⟩
end
end L2
end

section
set_option Elab.async false
set_option linter.all false
set_option maxRecDepth 100000
set_option maxHeartbeats 4000000
namespace L2
open PySem PySem.Spec PyProof.Rows
theorem paired_at {α β : Type} {F : α → β → Prop} : ∀ {l : List α} {m : List β} {j : Nat} {x : α}, PySem.Paired F l m → l[j]? = some x → ∃ y, m[j]? = some y ∧ F x y
  | _, _, j, x, .nil, e => by simp at e
  | _, _, 0, x, .cons f t, e => by
    simp at e; subst e
    exact ⟨_, rfl, f⟩
  | _, _, j + 1, x, .cons f t, e => by
    obtain ⟨y, e1, e2⟩ := paired_at (j := j) t (by simpa using e)
    exact ⟨y, by simpa using e1, e2⟩
section
variable {X : Cx}
end
end L2
end

section
set_option Elab.async false
set_option linter.all false
set_option maxRecDepth 100000
set_option maxHeartbeats 4000000
namespace L2
open PySem PySem.Spec PyProof.Rows
section
variable {X : Cx}
end
end L2
end

section
set_option Elab.async false
set_option linter.all false
set_option maxRecDepth 100000
set_option maxHeartbeats 4000000
namespace L2
open PySem PySem.Spec PyProof.Rows
section
variable {X : Cx}
end
end L2
end

section
set_option Elab.async false
set_option linter.all false
set_option maxRecDepth 100000
set_option maxHeartbeats 4000000
namespace L2
open PySem PySem.Spec PyProof.Rows
section
variable {X : Cx}
theorem star_tup {es : List Expr} {k : Nat} {pos : Pos} {rest : List Expr} {env : Env} : starEach (.Tuple es k pos :: rest) env = (false, eval (.Tuple es k pos) env) :: starEach rest env := rfl
end
end L2
end

section
set_option Elab.async false
set_option linter.all false
set_option maxRecDepth 100000
set_option maxHeartbeats 4000000
namespace L2
open PySem PySem.Spec PyProof.Rows
section
variable {X : Cx}
end
end L2
end

section
set_option Elab.async false
set_option linter.all false
set_option maxRecDepth 100000
set_option maxHeartbeats 4000000
namespace L2
open PySem PySem.Spec PyProof.Rows
theorem ints_here {ns : List Int} {its : List Value} (r : Vals (ns.map V.int) its) {i : Nat} {v : Value} (h : its[i]? = some v) : ∃ t, v = .int (ns.getD i 0) t := by
  have hi : i < its.length := (List.getElem?_eq_some_iff.mp h).1
  have hl := r.length
  rw [List.length_map] at hl
  have hn : i < ns.length := by omega
  obtain ⟨u, hu, ru⟩ := r.get (i := i) (x := V.int ns[i]) (by rw [List.getElem?_map, List.getElem?_eq_getElem hn]; rfl)
  rw [h] at hu
  cases hu
  obtain ⟨t, e⟩ : ∃ t, v = .int ns[i] t := ru
  exact ⟨t, by rw [e, List.getD_eq_getElem?_getD, List.getElem?_eq_getElem hn]; rfl⟩
section
variable {X : Cx}
/-- min of a list of ints -/
theorem call_minL (hc : X.calm = true) : CallR X (.builtin "min") (fun xs H Q => ∃ p ns, xs = [.ref p] ∧ SqL X.K H p ((ns : List Int).map V.int) ∧ 0 < ns.length ∧ ∀ M, M ∈ ns → (∀ a ∈ ns, M ≤ a) → Q (.int M) H) := by
  intro pins s σ H xs us Q I r h
  obtain ⟨p, ns, rfl, hS, h0, q⟩ := h
  obtain ⟨u, rfl, ru⟩ := r.one
  cases ru
  obtain ⟨its, rv, pl, hz⟩ := I.list hS
  have hh : X.A.handled = none := I.ok.hd hc
  have hl := rv.length
  rw [List.length_map] at hl
  have hlt : p < s.heap.objs.size := by obtain ⟨_, e, _⟩ := pl.isList; exact Heap.lt_size e
  refine call_min_walk (wpAny_pyIter_list pl.isList ?_)
  refine ⟨s.heap.objs.size, [s.heap.objs.size, p], [s.heap.objs.size], its.toArray.size, _, _, _, rfl, Walks.list (A := X.A.in1) hh _ p (Nat.ne_of_lt hlt) its.toArray,
    ⟨⟨_, Heap.get?_push_size _ rfl, rfl, rfl⟩, pl.isList.push _⟩, fun b hb => ?_, by rw [List.size_toArray]; omega, CmpOf.ints_lt (fun i => ns.getD i 0) (fun i v hP => ints_here rv (by simpa using hP)), fun v h' tk hP hk => ?_⟩
  · rcases List.mem_cons.mp hb with rfl | hb
    · exact Heap.lt_size (Heap.get?_push_size _ rfl)
    · rcases List.mem_singleton.mp hb with rfl
      obtain ⟨_, e, _⟩ := pl.isList
      exact Heap.lt_size (Heap.get?_push_of_some _ e)
  · have hP' : its[argBest (fun i j => decide (ns.getD i 0 < ns.getD j 0)) (its.toArray.size - 1)]? = some v := by rw [← List.getElem?_toArray]; exact hP
    obtain ⟨h1, h2⟩ := argBest_lt (fun i => ns.getD i 0) (its.toArray.size - 1)
    generalize argBest (fun i j => decide (ns.getD i 0 < ns.getD j 0)) (its.toArray.size - 1) = b at hP' h1 h2
    rw [List.size_toArray] at h1 h2
    obtain ⟨t, rfl⟩ := ints_here rv hP'
    have hb : b < ns.length := by omega
    refine ⟨.int _, H, I.kept (t' := tk) (LSm.kept_iter hk), ⟨t, rfl⟩, q _ ?_ fun a ha => ?_⟩
    · rw [List.getD_eq_getElem?_getD, List.getElem?_eq_getElem hb]
      exact List.getElem_mem _
    · obtain ⟨j, hj, rfl⟩ := List.getElem_of_mem ha
      have := h2 j (by omega)
      simpa [List.getD_eq_getElem?_getD, List.getElem?_eq_getElem hj] using this
end
end L2
end
section
set_option Elab.async false
set_option linter.all false
set_option maxRecDepth 100000
namespace L2
open PySem PySem.Spec PyProof.Rows
/-- a def that stands under another name -/
def FunA (K : PySem.W.Frag) (mg : Str → Option Value) (x q : Str) (ps : List Str) (st : Stmt) : Prop := ∃ f fd, Fun K q q st f fd ∧ mg x = some (.ref f) ∧ Binds K fd ps []
section
variable {P : Program} {w : World} {K : PySem.W.Frag} {mg : Str → Option Value} {base : Heap}
theorem FunA.ok {x q : Str} {st : Stmt} {N ps : List Str} {k : Nat} {sp : Sp} (F : FunA K mg x q ps st) (S : FnScope N ps (defScope st)) (len : ∀ vs H Q E, sp vs H Q E → vs.length = ps.length)
    (hbody : ∀ (f : Addr) (cdv : Value) (A : Around) (outer : List Env) (s : Shared) (H : Hp) (vs : List V) (Q : VK) (E : XK), Room k (A.deeper (envOfC q (defScope st) s.heap.objs.size f cdv)) → sp vs H Q E →
      ∃ t, PSs (cxOf CX0 P w K mg base N q (defScope st) f cdv A outer s H E).nox (defBody st) t ∧ t { nx := fun _ H' => Q .non H', rt := Q } (start N vs) H) : Callee P w K mg base (k + 1) x ps sp := by
  obtain ⟨f, fd, F, m, b⟩ := F
  exact ⟨f, fd, F.ok S len (hbody f), b, F.kp, m⟩
theorem FunA.zero {x q : Str} {st : Stmt} {ps : List Str} {sp : Sp} (F : FunA K mg x q ps st) (no : ∀ vs H Q E, ¬ sp vs H Q E) : Callee P w K mg base 0 x ps sp := by
  obtain ⟨f, fd, F, m, b⟩ := F
  exact ⟨f, fd, ⟨fun vs H Q E h => absurd h (no vs H Q E), fun A outer s H args us vs Q E _ _ _ _ h => absurd h (no vs H Q E)⟩, b, F.kp, m⟩
end
end L2
end

section
set_option Elab.async false
set_option linter.all false
set_option maxRecDepth 100000
set_option maxHeartbeats 4000000
namespace L2
open PySem PySem.Spec PyProof.Rows
end L2
end

section
set_option Elab.async false
set_option linter.all false
set_option maxRecDepth 100000
set_option maxHeartbeats 4000000
namespace L2
open PySem PySem.Spec PyProof.Rows
end L2
end

section
set_option Elab.async false
set_option linter.all false
set_option maxRecDepth 100000
set_option maxHeartbeats 4000000
namespace L2
open PySem PySem.Spec PyProof.Rows
/-! ### refusals of the text's own classes: how they lie behind a call -/
/-- the exception at ea, of the class at C, has left the callee: what is tracked, and what stood ahead of the call, lies in B, which no further leaving touches -/
def CX1 (P : Program) (w : World) : CXT := fun outer H s E e s' => ∃ (ea C : Addr) (a0 : Value) (H' : Hp) (B : Heap),
  e = .ref ea ∧ E (.ref C) none H' ∧ s'.os = s.os ∧ AllBare s'.gens ∧ Un (frs outer) [] H H' s.heap s'.heap ∧ HOk P w H' s'.heap ∧ Heap.FlyingW B outer ea (.ref C) a0 s'.heap ∧
  (∀ b o, s.heap.get? b = some o → b ∉ frs outer → ∃ o', B.get? b = some o') ∧ (∀ b u, H' b = some u → ∃ o, B.get? b = some o) ∧ H' ea = none
theorem ObjOk.some' {P : Program} {w : World} {H : Hp} {h : Heap} {a : Addr} {o : HO} (x : ObjOk P w H h a o) : ∃ ob, h.get? a = some ob := by
  cases o with
  | lst xs => obtain ⟨_, _, _, _, e⟩ := x; exact ⟨_, e⟩
  | tup xs => obtain ⟨_, _, _, ob, e, _⟩ := x; exact ⟨ob, e⟩
  | dK kvs => obtain ⟨_, _, _, _, ob, _, _, e, _⟩ := x; exact ⟨ob, e⟩
  | dT kvs => obtain ⟨_, _, _, _, ob, _, _, e, _⟩ := x; exact ⟨ob, e⟩
  | set S n => obtain ⟨ob, _, _, _, e, _⟩ := x; exact ⟨ob, e⟩
  | ins C dx fs => obtain ⟨_, _, _, e, _⟩ := x; exact ⟨_, e⟩
  | own y => exact x
  | xd fs => obtain ⟨_, ⟨ob, _, _, e, _⟩, _⟩ := x; exact ⟨ob, e⟩
  | rng lo hi => obtain ⟨_, _, _, e⟩ := x; exact ⟨_, e⟩
  | frz ob u => exact ⟨ob, x.1⟩
  | tbl ps => exact ⟨_, x⟩
  | met f y => exact ⟨_, x⟩
  | ext φ => obtain ⟨_, ⟨ob, e⟩, _⟩ := x; exact ⟨ob, e⟩
theorem HOk.fly {P : Program} {w : World} {H : Hp} {h h' B : Heap} (ok : HOk P w H h) (tr : ∀ b u, H b = some u → ∃ o, B.get? b = some o) (s1 : B.StaysIn h) (s2 : B.StaysIn h') : HOk P w H h' := fun a o e =>
  (ok a o e).stay (fun b u hb q => by
    obtain ⟨v, hv⟩ : ∃ v, H b = some v := hb.elim (fun z => ⟨o, by rw [z]; exact e⟩) fun z => ⟨_, z⟩
    obtain ⟨o', ho'⟩ := tr b v hv
    have e1 := s1 b o' ho'
    rw [q] at e1
    cases e1
    exact s2 b _ ho') (fun _ q => q) fun _ _ q => q
theorem Un.fly {fs : List Addr} {H H' : Hp} {h₀ h h' B : Heap} (u : Un fs [] H H' h₀ h) (cov : ∀ b o, h₀.get? b = some o → b ∉ fs → ∃ o', B.get? b = some o') (s1 : B.StaysIn h) (s2 : B.StaysIn h')
    (sl : ∀ b ∈ fs, ∀ o, h.get? b = some o → ∃ z, h'.get? b = some { o with slots := z }) : Un fs [] H H' h₀ h' where
  keep := fun b ob q n hb hx => by
    have e := u.keep b ob q n hb hx
    obtain ⟨o', ho'⟩ := cov b ob q hb
    have e1 := s1 b o' ho'
    rw [e] at e1
    cases e1
    exact s2 b _ ho'
  slot := fun b ob q n hb hx => by
    obtain ⟨z, e⟩ := u.slot b ob q n hb hx
    obtain ⟨z', e'⟩ := sl b hb _ e
    exact ⟨z', e'⟩
  free := u.free
  there := fun b ob q hx => by
    by_cases hb : b ∈ fs
    · obtain ⟨o1, e⟩ := u.there b ob q hx
      obtain ⟨z, e'⟩ := sl b hb o1 e
      exact ⟨_, e'⟩
    · obtain ⟨o', ho'⟩ := cov b ob q hb
      exact ⟨o', s2 b o' ho'⟩
  tups := u.tups
  frzs := u.frzs
  tbls := u.tbls
section
variable {P : Program} {w : World} {K : PySem.W.Frag} {mg : Str → Option Value} {base : Heap} {N : List Str} {qual : Str} {scope : Scope} {f : Addr} {cd : Value} {A : Around} {outer : List Env} {s₀ : Shared} {H₀ : Hp} {E : XK}
/-- the body of a def that may refuse -/
abbrev cxX (P : Program) (w : World) (K : PySem.W.Frag) (mg : Str → Option Value) (base : Heap) (N : List Str) (qual : Str) (scope : Scope) (f : Addr) (cd : Value) (A : Around) (outer : List Env) (s₀ : Shared) (H₀ : Hp) (E : XK) : Cx := cxOf (CX1 P w) P w K mg base N qual scope f cd A outer s₀ H₀ E
theorem young_fr {pins : List (Addr × Obj)} {σ : St} {H : Hp} {s : Shared} (I : Inv (cxX P w K mg base N qual scope f cd A outer s₀ H₀ E) pins σ H s) {b : Addr} {o : Obj} (e : s₀.heap.get? b = some o) (hb : b ∉ frs outer) :
    b ∉ frs (cxX P w K mg base N qual scope f cd A outer s₀ H₀ E).stack := fun z => by
  rcases List.mem_cons.mp (I.stkSub b z) with q | q
  · exact absurd (Heap.lt_size e) (by rw [q]; exact Nat.lt_irrefl _)
  · exact hb q
/-- a callee's refusal passes this body -/
theorem passX : Passes (CX1 P w) (cxX P w K mg base N qual scope f cd A outer s₀ H₀ E) E := by
  intro pins σ H s e s' I h
  obtain ⟨ea, C, a0, H', B, rfl, hE, os, bare, un, hok, fl, cov, trb, hea⟩ := h
  have I0 : Inv (cxX P w K mg base N qual scope f cd A outer s₀ H₀ E) [] σ H s := I.pins_of fun p hp => absurd hp (by simp)
  have I1 : Inv (cxX P w K mg base N qual scope f cd A outer s₀ H₀ E) [] σ H' s' := I0.call' (ch := []) os un hok bare fun b hb => absurd hb (by simp)
  show wpAny _ _ (leaving _ (.ref ea)) _ _ s'
  refine wpAny_leaves_onW (base := B) (L := s₀.heap.objs.size) I.ok.frames rfl fl fun h' fl' up => ?_
  have cov' : ∀ b o, s₀.heap.get? b = some o → b ∉ frs outer → ∃ o', B.get? b = some o' := fun b o q hb => by
    obtain ⟨o1, e1⟩ := I.base.there b o q (fun z => absurd z (show b ∉ ([] : List Addr) by simp))
    exact cov b o1 e1 (young_fr I q hb)
  refine ⟨ea, C, a0, H', B, rfl, hE, I1.os, bare, ?_, hok.fly trb fl.1 fl'.1, fl', cov', trb, hea⟩
  refine Un.fly (B := B) I1.base cov' fl.1 fl'.1 fun b hb o q => ?_
  obtain ⟨_, o2, q2, nf⟩ := fl'.2.2.1.mem hb
  have nf' : ∀ vs, o.data ≠ .fields vs := fun vs z => by
    obtain ⟨_, o3, q3, n3⟩ := I1.funs.mem hb
    rw [q] at q3
    cases q3
    exact n3 vs z
  exact up b o q nf'
/-- an exception just made leaves this body -/
theorem raisedX {pins : List (Addr × Obj)} {σ : St} {H : Hp} {s : Shared} {h' : Heap} {ea C : Addr} {vs : List Value} (I : Inv (cxX P w K mg base N qual scope f cd A outer s₀ H₀ E) pins σ H s) (hx : Heap.MadeExcOf s.heap h' ea (.ref C) vs) (hE : E (.ref C) none H) :
    (cxX P w K mg base N qual scope f cd A outer s₀ H₀ E).xe (.ref ea) { s with heap := h' } := by
  show wpAny _ _ (leaving _ (.ref ea)) _ _ _
  have hin : ∀ env ∈ (cxX P w K mg base N qual scope f cd A outer s₀ H₀ E).stack, ∀ a, env.frame = some a → a ∈ frs (cxX P w K mg base N qual scope f cd A outer s₀ H₀ E).stack := fun env he a ha => List.mem_filterMap.mpr ⟨env, he, ha⟩
  refine wpAny_leaves_madeW (base := PySem.W.hideAll s.heap (frs (cxX P w K mg base N qual scope f cd A outer s₀ H₀ E).stack)) (L := s₀.heap.objs.size) I.ok.frames rfl (fun b o q => PySem.W.of_hideAll _ q) (PySem.W.funFrames_hide I.stack hin) hx fun h'' t fl tup tn up => ?_
  have st : (PySem.W.hideAll s.heap (frs (cxX P w K mg base N qual scope f cd A outer s₀ H₀ E).stack)).StaysIn s.heap := fun b o q => PySem.W.of_hideAll _ q
  have cov : ∀ b o, s₀.heap.get? b = some o → b ∉ frs outer → ∃ o', (PySem.W.hideAll s.heap (frs (cxX P w K mg base N qual scope f cd A outer s₀ H₀ E).stack)).get? b = some o' := fun b o q hb => by
    obtain ⟨o1, e1⟩ := I.base.there b o q (fun z => absurd z (show b ∉ ([] : List Addr) by simp))
    exact ⟨o1, PySem.W.hideAll_get _ e1 (young_fr I q hb)⟩
  have trb : ∀ b u, H b = some u → ∃ o, (PySem.W.hideAll s.heap (frs (cxX P w K mg base N qual scope f cd A outer s₀ H₀ E).stack)).get? b = some o := fun b u q => by
    obtain ⟨o, e⟩ := (I.hok b u q).some'
    exact ⟨o, PySem.W.hideAll_get _ e fun z => by rw [I.stkFree b z] at q; cases q⟩
  have hea : H ea = none := by
    cases z : H ea with
    | none => rfl
    | some u =>
      obtain ⟨o, e⟩ := (I.hok ea u z).some'
      rw [hx.new] at e
      cases e
  refine ⟨ea, C, .ref t, H, _, rfl, hE, I.os, I.bare, ?_, I.hok.fly trb st fl.1, fl, cov, trb, hea⟩
  refine Un.fly I.base cov st fl.1 fun b hb o q => ?_
  have nf' : ∀ vs, o.data ≠ .fields vs := fun vs z => by
    obtain ⟨_, o3, q3, n3⟩ := I.funs.mem hb
    rw [q] at q3
    cases q3
    exact n3 vs z
  exact up b o (hx.keeps b o q) nf'
end
end L2
end

section
set_option Elab.async false
set_option linter.all false
set_option maxRecDepth 100000
set_option maxHeartbeats 4000000
namespace L2
open PySem PySem.Spec PyProof.Rows
/-! ### own classes of errors -/
abbrev veM : List Value := [.type "ValueError", .type "Exception", .type "BaseException", .type "object"]
def ExcC (K : PySem.W.Frag) (C : Addr) : Prop := PySem.W.excIn K C veM "ValueError.__new__" = true
theorem ExcC.obj {K : PySem.W.Frag} {C : Addr} (q : ExcC K C) {h : Heap} (X : K.In h) : ∃ bm N nm qn bs hd sn sub ab col dd k0 k1 k2 k3 k5 mN, h.get? C = some (excClassObj nm qn C N bs bm hd sn sub ab col dd k0 k1 k2 k3 k5 "ValueError.__new__") ∧
    h.Ns N mN ∧ mN "__init__" = none ∧ OwnTail h veM bm := by
  unfold ExcC PySem.W.excIn at q
  split at q
  case h_2 => cases q
  rename_i d1 c1 l1 hl
  split at q
  case h_2 => cases q
  rename_i C2 b2 j0 j1 j2 j3 nn j5 hmr hli
  have q1 := Bool.and_eq_true_iff.mp q
  have q2 := Bool.and_eq_true_iff.mp q1.1
  have q3 := Bool.and_eq_true_iff.mp q2.1
  have q4 := Bool.and_eq_true_iff.mp q3.1
  have q5 := Bool.and_eq_true_iff.mp q4.1
  have ho := X _ _ hl
  have eC : C2 = C := eq_of_beq q5.1
  have en : nn = "ValueError.__new__" := eq_of_beq q5.2
  have T := PySem.W.tail_of_in (h := h) X q3.2
  have NS : h.Ns c1.ns (h.nsMap c1.ns) := .of_isNs (PySem.W.isNs_of_in X q2.2)
  have hi := PySem.W.nsMap_none_of_in X q2.2 (eq_of_beq q1.2)
  have ed : c1.hasDel = false := by
    cases z : c1.hasDel with
    | false => rfl
    | true => rw [z] at q4; exact absurd q4.2 (by decide)
  have es : l1 = #[j0, j1, j2, j3, some (.builtin "ValueError.__new__"), j5] := by rw [← en]; exact Array.toList_inj.mp hli
  rw [es] at ho
  rw [eC] at hmr
  obtain ⟨nm, bs, mr, ns, qn, hdi, sn, sub, ab, col, dl⟩ := c1
  have e1 : mr = Value.ref C :: b2 := hmr
  have e2 : dl = false := ed
  rw [e1, e2] at ho
  exact ⟨b2, ns, nm, qn, bs, hdi, sn, sub, ab, col, d1, j0, j1, j2, j3, j5, _, ho, NS, hi, T⟩
end L2
end

section
set_option Elab.async false
set_option linter.all false
set_option maxRecDepth 100000
set_option maxHeartbeats 4000000
namespace L2
open PySem PySem.Spec PyProof.Rows
/-! ### raise C(..), C a class of the text's own errors -/
def tRaise (C : Addr) (E : XK) (t : TA) : TS := fun _ σ H => t σ H fun vs H' => vs.length ≤ sizeLine ∧ E (.ref C) none H'
section
variable {P : Program} {w : World} {K : PySem.W.Frag} {mg : Str → Option Value} {base : Heap} {N : List Str} {qual : Str} {scope : Scope} {f : Addr} {cd : Value} {A : Around} {outer : List Env} {s₀ : Shared} {H₀ : Hp} {E : XK}
theorem ps_raise {x : Str} {C : Addr} {np cpos pos : Pos} {e : Expr} {es : List Expr} {t : TA} (hq : ExcC K C) (hm : mg x = some (.ref C)) (hg : Gl (cxX P w K mg base N qual scope f cd A outer s₀ H₀ E) x)
    (ha : PA (cxX P w K mg base N qual scope f cd A outer s₀ H₀ E) (e :: es) t)
    (hdb : (x == ("__debug__" : Str)) = false := by decide) (he : starEach (e :: es) (cxX P w K mg base N qual scope f cd A outer s₀ H₀ E).env = (false, eval e (cxX P w K mg base N qual scope f cd A outer s₀ H₀ E).env) :: starEach es (cxX P w K mg base N qual scope f cd A outer s₀ H₀ E).env := by rfl)
    (hpl : (backTo cpos (starEach es (cxX P w K mg base N qual scope f cd A outer s₀ H₀ E).env)).any (·.1) = false := by rfl) :
    PS (cxX P w K mg base N qual scope f cd A outer s₀ H₀ E) (.Raise (some (.Call (.Name x np) (e :: es) [] cpos)) none pos) (tRaise C E t) := by
  intro pins s σ H D I h
  obtain ⟨bm, Nn, nm, qn, bs, hd, sn, sub, ab, col, dd, k0, k1, k2, k3, k5, mN, hC, hN, hni, TL⟩ := hq.obj I.ok.mod.kin
  have ha' := ha cpos pins s σ H _ I h
  refine wpAny_Raise_call_subT (C := C) (N := Nn) (nm := nm) (q := qn) (bs := bs) (bm := bm) (hdct := hd) (sn := sn) (sub := sub) (ab := ab) (col := col) (dd := dd) (k0 := k0) (k1 := k1) (k2 := k2) (k3 := k3) (k5 := k5) (mN := mN) PySem.F.excBase_ValueError (TL.hasType (by decide)) (I.ok.hd rfl) ?_ hni (ld_glob I hg hm ⟨rfl, ?_⟩ hdb)
  · rw [he]
    show (false || (backTo cpos (starEach es (cxX P w K mg base N qual scope f cd A outer s₀ H₀ E).env)).any (·.1)) = false
    rw [hpl]; rfl
  · rw [he] at ha' ⊢
    refine Calls.evalArgs_plain (thn ha' fun us s1 ⟨vs, H1, I1, r, hl, q⟩ => ⟨rfl, ?_, I1.bk _ _ hC, hN.keeps I1.bk, TL.keeps I1.bk, fun h' ea hx => raisedX I1 hx q⟩)
    rw [← r.length]
    exact hl
end
/-! ### calls that may refuse, at names' values that stay -/
def PX (X : Cx) (e : Expr) (t : XK → TE) : Prop := ∀ (pins : List (Addr × Obj)) (s : Shared) (σ : St) (H : Hp) (Q : VK) (E : XK) (xe : Value → Shared → Prop), Inv X pins σ H s → t E σ H Q →
  (∀ H1 s1 e' s', Inv X pins σ H1 s1 → CX1 X.prog X.w X.stack H1 s1 E e' s' → xe e' s') → wpAny (model X.prog X.w) X.A (eval e X.env) (EP X pins σ Q) xe s
def PXs (X : Cx) (sts : List Stmt) (t : XK → TS) : Prop := ∀ (pins : List (Addr × Obj)) (s : Shared) (σ : St) (H : Hp) (D : Ends) (E : XK) (xe : Value → Shared → Prop), Inv X pins σ H s → t E D σ H →
  (∀ H1 s1 e' s', Inv X pins σ H1 s1 → CX1 X.prog X.w X.stack H1 s1 E e' s' → xe e' s') → wpAny (model X.prog X.w) X.A (execs sts X.env) (SP X pins D) xe s
def CalleeX (P : Program) (w : World) (K : PySem.W.Frag) (mg : Str → Option Value) (base : Heap) (k : Nat) (x : Str) (ps : List Str) (sp : Sp) : Prop :=
  ∃ f fd, FnOk P w K mg base (CX1 P w) k f fd ps sp ∧ Binds K fd ps [] ∧ PySem.W.keepIn K (.ref f) = true ∧ mg x = some (.ref f)
section
variable {X : Cx} {k j : Nat} {f : Addr} {fd : FuncData} {ps : List Str} {sp : Sp} {x : Str} {p pos : Pos} {e : Expr} {es : List Expr} {t : TA}
theorem run_fnX {pins : List (Addr × Obj)} {σ : St} {H : Hp} {s : Shared} {Q : VK} {E : XK} {xe : Value → Shared → Prop} {us : List Value} {vs : List V} (F : FnOk X.prog X.w X.K X.mg X.base (CX1 X.prog X.w) k f fd ps sp) (hr : Room k X.A) (hb : Binds X.K fd ps [])
    (I : Inv X pins σ H s) (r : Vals vs us) (h : sp vs H Q E) (hx : ∀ H1 s1 e' s', Inv X pins σ H1 s1 → CX1 X.prog X.w X.stack H1 s1 E e' s' → xe e' s') : wpAny (model X.prog X.w) X.A (call (.ref f) us) (EP X pins σ Q) xe s := by
  have hl : us.length = ps.length := by rw [← r.length]; exact F.len _ _ _ _ h
  have hb' := hb s us I.kIn (by rw [List.append_nil]; exact hl)
  rw [List.append_nil] at hb'
  refine wpAny_call (codeAny_mono (F.run X.A X.stack s H ⟨us, []⟩ us vs Q E hr I.env0 hb' r h) fun r s' hq => ?_)
  cases r with
  | error e => exact hx H s e s' I hq
  | ok fl =>
    cases fl with
    | ret u => exact I.after hq
    | next => exact False.elim hq
    | brk => exact False.elim hq
    | cont => exact False.elim hq
theorem pxs_set {i : Nat} {te : XK → TE} {pos' : Pos} (he : PX X e te) (hN : X.N.Nodup) (hi : X.N[i]? = some x) (hx : Loc X.env.scope x) (hs : swapsWith e (some (.Name x pos')) pos.line X.env = pure false := by rfl) (hf : X.fn x = true ∨ X.env.scope.names.lookup x = some .local := by first | exact .inl rfl | exact .inr rfl | assumption) :
    PXs X [.Assign [.Name x pos'] e pos] (fun E => tAsg (te E) (gName i)) := by
  intro pins s σ H D E xe I h hxx
  refine wpAny_execs_cons (wpAny_Assign_Name (thn (he pins s σ H _ E xe I h hxx) fun v s1 ⟨y, H1, I1, r1, q1⟩ => ?_) hs)
  exact store_ok I1 hN hi hx r1 (fun s2 I2 => wpAny_execs_nil ⟨_, H1, I2, q1⟩) hf
end
section
variable {P : Program} {w : World} {K : PySem.W.Frag} {mg : Str → Option Value} {base : Heap}
/-- a def that may refuse -/
theorem FunM.okX {x : Str} {st : Stmt} {N ps : List Str} {k : Nat} {sp : Sp} (F : FunM K mg x ps st) (S : FnScope N ps (defScope st)) (len : ∀ vs H Q E, sp vs H Q E → vs.length = ps.length)
    (hbody : ∀ (f : Addr) (cdv : Value) (A : Around) (outer : List Env) (s : Shared) (H : Hp) (vs : List V) (Q : VK) (E : XK), Room k (A.deeper (envOfC x (defScope st) s.heap.objs.size f cdv)) → sp vs H Q E →
      ∃ t, PSs (cxX P w K mg base N x (defScope st) f cdv A outer s H E) (defBody st) t ∧ t { nx := fun _ H' => Q .non H', rt := Q } (start N vs) H) : CalleeX P w K mg base (k + 1) x ps sp := by
  obtain ⟨f, fd, F, m, b⟩ := F
  have kp := F.kp
  obtain ⟨oc, od, kV, doc, pm, an, cdv, ct, osl, rfl, lk, hcd⟩ := F.ex
  exact ⟨f, _, fn_of lk hcd S len fun A outer s H vs Q E hr hsp => hbody f cdv A outer s H vs Q E hr hsp, b, kp, m⟩
end
section
variable {P : Program} {w : World} {K : PySem.W.Frag} {mg : Str → Option Value} {base : Heap} {N : List Str} {qual : Str} {scope : Scope} {f : Addr} {cd : Value} {A : Around} {outer : List Env} {s₀ : Shared} {H₀ : Hp} {E : XK}
theorem pe_callX {x : Str} {p pos : Pos} {e : Expr} {es : List Expr} {t : TA} {k j : Nat} {ps : List Str} {sp : Sp} (C : CalleeX P w K mg base j x ps sp) (hr : Room k (cxX P w K mg base N qual scope f cd A outer s₀ H₀ E).A) (hg : Gl (cxX P w K mg base N qual scope f cd A outer s₀ H₀ E) x)
    (ha : PA (cxX P w K mg base N qual scope f cd A outer s₀ H₀ E) (e :: es) t) (hj : j ≤ k := by first | decide | omega)
    (hdb : (x == ("__debug__" : Str)) = false := by decide) (he : starEach (e :: es) (cxX P w K mg base N qual scope f cd A outer s₀ H₀ E).env = (false, eval e (cxX P w K mg base N qual scope f cd A outer s₀ H₀ E).env) :: starEach es (cxX P w K mg base N qual scope f cd A outer s₀ H₀ E).env := by rfl)
    (hpl : (backTo pos (starEach es (cxX P w K mg base N qual scope f cd A outer s₀ H₀ E).env)).any (·.1) = false := by rfl) :
    PE (cxX P w K mg base N qual scope f cd A outer s₀ H₀ E) (.Call (.Name x p) (e :: es) [] pos) (tCall sp [] E t) := by
  obtain ⟨f, fd, F, b, kp, m⟩ := C
  exact pe_call (F.mono hj) hr hg m kp b .nil passX ha hdb he hpl
end
end L2
end

section
set_option Elab.async false
set_option linter.all false
set_option maxRecDepth 100000
set_option maxHeartbeats 4000000
namespace L2
open PySem PySem.Spec PyProof.Rows
/-! ### try: .. except C: .. -/
/-- while the exception u is handled -/
abbrev Cx.hold (X : Cx) (u : Value) : Cx := { X with A := X.A.mark (some u), calm := false, xe := fun _ _ => False }
section
variable {X : Cx} {pins : List (Addr × Obj)} {σ : St} {H : Hp} {s : Shared} {u : Value}
theorem Inv.hold (I : Inv X pins σ H s) (u : Value) : Inv (X.hold u) pins σ H s :=
  ⟨⟨I.ok.mod, I.ok.kind, I.ok.glob, I.ok.blt, I.ok.above, I.ok.inj, I.ok.has, I.ok.cab, fun z => (by cases z), I.ok.frames, I.ok.stk, I.ok.exf, I.ok.bs, I.ok.bsz, I.ok.noex, I.ok.exfs, I.ok.funs, I.ok.frf⟩,
    I.os, I.bare, I.base, I.loc, I.cell, I.free, I.freeC, I.pin, I.hok, I.len⟩
theorem Inv.unhold (ok : X.Ok) (I : Inv (X.hold u) pins σ H s) : Inv X pins σ H s := ⟨ok, I.os, I.bare, I.base, I.loc, I.cell, I.free, I.freeC, I.pin, I.hok, I.len⟩
theorem SP.unhold (ok : X.Ok) {D : Ends} {f : Flow} {s' : Shared} (h : SP (X.hold u) pins D f s') : SP X pins D f s' := by
  cases f with
  | next => obtain ⟨σ', H', I, q⟩ := h; exact ⟨σ', H', I.unhold ok, q⟩
  | brk => obtain ⟨σ', H', I, q⟩ := h; exact ⟨σ', H', I.unhold ok, q⟩
  | cont => obtain ⟨σ', H', I, q⟩ := h; exact ⟨σ', H', I.unhold ok, q⟩
  | ret v => obtain ⟨v', σ', H', I, r, q⟩ := h; exact ⟨v', σ', H', I.unhold ok, r, q⟩
end
/-- an exception that has come to this frame: what was ahead of the call, and what is tracked, lies as it lay -/
structure Land (X : Cx) (pins : List (Addr × Obj)) (σ : St) (H : Hp) (B : Heap) (ea C : Addr) (a0 : Value) (s : Shared) : Prop where
  inv : Inv X pins σ H s
  fly : Heap.FlyingW B X.stack ea (.ref C) a0 s.heap
  go : ∀ h', B.StaysIn h' → s.heap.UpToSlots h' → Inv X pins σ H { s with heap := h' }
section
variable {X : Cx} {pins : List (Addr × Obj)} {σ : St} {H H' : Hp} {s s' : Shared} {B : Heap} {ea C : Addr} {a0 : Value}
theorem land (I : Inv X pins σ H s) (os : s'.os = s.os) (bare : AllBare s'.gens) (un : Un (frs X.stack) [] H H' s.heap s'.heap) (hok : HOk X.prog X.w H' s'.heap) (fl : Heap.FlyingW B X.stack ea (.ref C) a0 s'.heap)
    (cov : ∀ b o, s.heap.get? b = some o → b ∉ frs X.stack → ∃ o', B.get? b = some o') (trb : ∀ b u, H' b = some u → ∃ o, B.get? b = some o) {h' : Heap} (st : B.StaysIn h') (up : s'.heap.UpToSlots h') : Inv X pins σ H' { s' with heap := h' } := by
  have nf : ∀ b ∈ frs X.stack, ∀ o, s'.heap.get? b = some o → ∃ z, h'.get? b = some { o with slots := z } := fun b hb o q => by
    refine up b o q fun vs z => ?_
    obtain ⟨_, o3, q3, n3⟩ := fl.2.2.1.mem hb
    rw [q] at q3
    cases q3
    exact n3 vs z
  exact I.call' (ch := []) (s' := { s' with heap := h' }) os (Un.fly un cov fl.1 st nf) (hok.fly trb fl.1 st) bare fun b hb => absurd hb (by simp)
end
/-- a row of handlers, by the class that comes: th C is its reading -/
def PH (X : Cx) (hs : List ExceptHandler) (th : Addr → TS) : Prop := ∀ (pins : List (Addr × Obj)) (s : Shared) (σ : St) (H : Hp) (D : Ends) (B : Heap) (ea C : Addr) (a0 : Value), Land X pins σ H B ea C a0 s → th C D σ H →
  wpAny (model X.prog X.w) X.A (handleBy (.ref ea) X.env hs) (SP X pins D) X.xe s
def tHand (K : PySem.W.Frag) (C0 : Addr) (t : TS) (r : Addr → TS) : Addr → TS := fun C D σ H => (PySem.W.exmOne K (.ref C) (.ref C0) = some true ∧ t D σ H) ∨ (PySem.W.exmOne K (.ref C) (.ref C0) = some false ∧ r C D σ H)
def tLost : Addr → TS := fun _ _ _ _ => False
section
variable {X : Cx} {x : Str} {np pos : Pos} {b0 : Stmt} {suite : List Stmt} {hs : List ExceptHandler} {C0 : Addr} {t : TS} {r : Addr → TS}
theorem ph_nil : PH X hs tLost := fun _ _ _ _ _ _ _ _ _ _ h => h.elim
theorem ph_cons (hm : X.mg x = some (.ref C0)) (hg : Gl X x) (ht : ∀ u, PSs (X.hold u) (b0 :: suite) t) (hr : PH X hs r) (hdb : (x == ("__debug__" : Str)) = false := by decide) :
    PH X (.ExceptHandler (some (.Name x np)) none (b0 :: suite) pos :: hs) (tHand X.K C0 t r) := by
  intro pins s σ H D B ea C a0 L h
  refine wpAny_handleBy_cons (codeAny_handlers_test (ld_glob (X := X.hold (.ref ea)) (L.inv.hold _) hg hm ?_ hdb)) (by intro q; cases q)
  have LT : PySem.W.Looks (model X.prog X.w) s.heap (typeOf (.ref ea)) (.ref C) := by
    obtain ⟨ob, hob, hoc⟩ := L.fly.there
    rw [← hoc]
    exact PySem.W.Looks.ld hob |>.andThen .now
  rcases h with ⟨hx, h⟩ | ⟨hx, h⟩
  · refine (PySem.W.exm_one L.inv.kIn LT hx).here ?_
    refine codeAny_handlers_suite ?_
    refine lands_againW L.fly fun h6 fl6 up6 => ?_
    have I6 := (L.go h6 fl6.1 up6).hold (.ref ea)
    exact wpAny_mono (ht (.ref ea) pins _ σ H D I6 h) (fun f s2 q => q.unhold L.inv.ok) fun _ _ z => False.elim z
  · refine (PySem.W.exm_one L.inv.kIn LT hx).here ?_
    exact hr pins s σ H D B ea C a0 L h
def tTry (th : Addr → TS) (tb : XK → TS) : TS := fun D σ H => tb (fun cv _ H' => ∃ C, cv = .ref C ∧ th C D σ H') D σ H
theorem ps_try {body : List Stmt} {h0 : ExceptHandler} {tb : XK → TS} {th : Addr → TS} (hb : PXs X body tb) (hh : PH X (h0 :: hs) th) (hst : X.stack = X.env :: X.outer) (hf : X.env.frame = some X.env.locals) : PS X (.Try body (h0 :: hs) [] [] pos) (tTry th tb) := by
  intro pins s σ H D I h
  refine wpAny_Try_except (wpAny_mono (hb pins s σ H D _ (fun e s₁ => wpAny (model X.prog X.w) X.A (noteFrame e X.env) (fun _ s₂ => wpAny (model X.prog X.w) X.A (setFlight e none) (fun _ s₃ => wpAny (model X.prog X.w) X.A (handleBy e X.env (h0 :: hs)) (SP X pins D) X.xe s₃) X.xe s₂) X.xe s₁) I h ?_) (fun f s1 q => ?_) fun _ _ z => z)
  · intro H1 s1 e' s' I1 hc
    obtain ⟨ea, C, a0, H', B, rfl, ⟨C', e1, hE⟩, os, bare, un, hok, fl, cov, trb, hea⟩ := hc
    cases e1
    have fl0 := fl
    rw [hst] at fl0
    refine wpAny_looks_onW (I1.ok.frames.trans (by rw [hst])) hf fl0 fun h4 held4 up4 => ?_
    refine wpAny_landsW held4 fun h5 fl5 up5 => ?_
    have fl5' : Heap.FlyingW B X.stack ea (.ref C) a0 h5 := by rw [hst]; exact fl5
    have up := up4.trans up5
    refine hh pins _ σ H' D B ea C a0 ⟨land I1 os bare un hok fl cov trb fl5.1 up, fl5', fun h' st' up' => ?_⟩ hE
    exact land I1 os bare un hok fl cov trb st' (up.trans up')
  · cases f with
    | next => exact wpAny_execs_nil q
    | brk => exact q
    | cont => exact q
    | ret v => exact q
end
end L2
end

section
set_option Elab.async false
set_option linter.all false
set_option maxRecDepth 100000
set_option maxHeartbeats 4000000
namespace L2
open PySem PySem.Spec PyProof.Rows
open PySem.Builtin.Str
/-! ### texts: methods -/
section
variable {X : Cx}
end
/-! ### f-strings -/
section
variable {X : Cx}
end
/-! ### for c in a text -/
def Its (x : Str) : It := ⟨fun i _ => i < x.cps.size, fun i H v H' => H' = H ∧ ∃ c, x.cps[i]? = some c ∧ v = .str ⟨#[c]⟩, fun i _ => x.cps.size ≤ i⟩
end L2
end

section
set_option Elab.async false
set_option linter.all false
set_option maxRecDepth 100000
set_option maxHeartbeats 4000000
namespace L2
open PySem PySem.Spec PyProof.Rows
open PySem.Builtin.Str
/-! ### a store with its value told -/
section
variable {X : Cx} {pins : List (Addr × Obj)} {σ : St} {H : Hp} {s : Shared}
end
/-! ### x = t; for c in z: x = x.replace(c, f"a{c}b") : the pieces' identities matter to replace -/
section
variable {X : Cx}
end
end L2
end

section
set_option Elab.async false
set_option linter.all false
set_option maxRecDepth 100000
set_option maxHeartbeats 4000000
namespace L2
open PySem PySem.Spec PyProof.Rows
open PySem.Builtin.Str PySem.StrLaws
/-! ### words of a text, sign by sign -/
def flush (cur : List Nat) : List (List Nat) := if cur = [] then [] else [cur]
/-! ### replace of one sign -/
/-! ### the words of a text whose marks were set apart -/
def isM (c : Nat) : Bool := c == 123 || c == 125 || c == 59 || c == 124
def tok : List Nat → List Nat → List (List Nat)
  | cur, [] => flush cur
  | cur, c :: l => if Unicode.isSpace c = true then flush cur ++ tok [] l else if isM c = true then flush cur ++ [c] :: tok [] l else tok (cur ++ [c]) l
end L2
end

section
set_option Elab.async false
set_option linter.all false
set_option maxRecDepth 100000
set_option maxHeartbeats 4000000
namespace L2
open PySem PySem.Spec PyProof.Rows
open PySem.Builtin.Str PySem.StrLaws
/-! ### is a sign in a text -/
end L2
end

section
set_option Elab.async false
set_option linter.all false
set_option maxRecDepth 100000
set_option maxHeartbeats 4000000
namespace L2
open PySem PySem.Spec PyProof.Rows
/-! ### methods that may refuse -/
def MethX (P : Program) (w : World) (K : PySem.W.Frag) (mg : Str → Option Value) (base : Heap) (k : Nat) (C : Addr) (m : Str) (ps : List Str) (sp : Sp) : Prop :=
  ∃ f fd, FnOk P w K mg base (CX1 P w) k f fd ps sp ∧ Binds K fd ps [] ∧ Meth K C m f ∧ Cls K C
theorem Fun.okX {P : Program} {w : World} {K : PySem.W.Frag} {mg : Str → Option Value} {base : Heap} {x qual : Str} {st : Stmt} {f : Addr} {fd : FuncData} {N ps : List Str} {k : Nat} {sp : Sp} (F : Fun K x qual st f fd) (S : FnScope N ps (defScope st)) (len : ∀ vs H Q E, sp vs H Q E → vs.length = ps.length)
    (hbody : ∀ (cdv : Value) (A : Around) (outer : List Env) (s : Shared) (H : Hp) (vs : List V) (Q : VK) (E : XK), Room k (A.deeper (envOfC qual (defScope st) s.heap.objs.size f cdv)) → sp vs H Q E →
      ∃ t, PSs (cxX P w K mg base N qual (defScope st) f cdv A outer s H E) (defBody st) t ∧ t { nx := fun _ H' => Q .non H', rt := Q } (start N vs) H) : FnOk P w K mg base (CX1 P w) (k + 1) f fd ps sp := by
  obtain ⟨oc, od, kV, doc, pm, an, cdv, ct, osl, rfl, lk, hcd⟩ := F.ex
  exact fn_of lk hcd S len fun A outer s H vs Q E hr hsp => hbody cdv A outer s H vs Q E hr hsp
section
variable {P : Program} {w : World} {K : PySem.W.Frag} {mg : Str → Option Value} {base : Heap} {N : List Str} {qual : Str} {scope : Scope} {f : Addr} {cd : Value} {A : Around} {outer : List Env} {s₀ : Shared} {H₀ : Hp} {E : XK}
theorem pe_methX {o e : Expr} {es : List Expr} {m : Str} {apos pos : Pos} {k j : Nat} {ps : List Str} {sp : Sp} {C : Addr} {ta : TE} {t : TA} {pl : Sem Bool} (M : MethX P w K mg base j C m ps sp) (hr : Room k (cxX P w K mg base N qual scope f cd A outer s₀ H₀ E).A) (he : PE (cxX P w K mg base N qual scope f cd A outer s₀ H₀ E) o ta) (ha : PA (cxX P w K mg base N qual scope f cd A outer s₀ H₀ E) (e :: es) t) (hj : j ≤ k := by first | decide | omega)
    (hst : starEach (e :: es) (cxX P w K mg base N qual scope f cd A outer s₀ H₀ E).env = (false, eval e (cxX P w K mg base N qual scope f cd A outer s₀ H₀ E).env) :: starEach es (cxX P w K mg base N qual scope f cd A outer s₀ H₀ E).env := by rfl) (hpl : (backTo pos (starEach es (cxX P w K mg base N qual scope f cd A outer s₀ H₀ E).env)).any (·.1) = false := by rfl)
    (ht : eval (.Call (.Attribute o m apos) (e :: es) [] pos) (cxX P w K mg base N qual scope f cd A outer s₀ H₀ E).env = (do
      let ov ← eval o (cxX P w K mg base N qual scope f cd A outer s₀ H₀ E).env
      standAt apos.atName
      let (f', first) ← holding [ov] (getMethod ov m pl)
      callWith pos f' first (backTo pos (starEach (e :: es) (cxX P w K mg base N qual scope f cd A outer s₀ H₀ E).env)) (backToKw pos (keywordEach [] (cxX P w K mg base N qual scope f cd A outer s₀ H₀ E).env))) := by rfl) : PE (cxX P w K mg base N qual scope f cd A outer s₀ H₀ E) (.Call (.Attribute o m apos) (e :: es) [] pos) (tMeth C m sp [] E ta t) := by
  obtain ⟨f, fd, F, b, me, c⟩ := M
  exact pe_meth he c me (F.mono hj) hr b .nil passX ha hst hpl ht
end
end L2
end

section
set_option Elab.async false
set_option linter.all false
set_option maxRecDepth 100000
set_option maxHeartbeats 4000000
namespace L2
open PySem PySem.Spec PyProof.Rows
/-! ### D.m(e, ..), D a class of the text: its function, with the written arguments alone -/
structure CMeth (K : PySem.W.Frag) (D : Addr) (m : Str) (f : Addr) : Prop where
  ga : PySem.W.specialIn K (.ref D) "__getattribute__" = some (some (.builtin "type.__getattribute__"))
  rd : PySem.W.readsIn K D (.type "type") = true
  fc : PySem.W.findCls K (.ref D) (.type "type") m = some (.val (.ref f))
  kp : PySem.W.keepIn K (.ref f) = true
def tCMeth (D : Addr) (sp : Sp) (E : XK) (ta : TE) (t : TA) : TE := fun σ H Q => ta σ H fun x H1 => x = .ref D ∧ t σ H1 fun vs H2 => sp (vs ++ []) H2 Q E
section
variable {X : Cx} {CX : CXT} {k : Nat} {f D : Addr} {fd : FuncData} {ps : List Str} {sp : Sp} {E : XK} {m : Str} {pos apos : Pos} {e o : Expr} {es : List Expr} {ta : TE} {t : TA}
theorem pe_cmeth {pl : Sem Bool} (he : PE X o ta) (hm : CMeth X.K D m f) (F : FnOk X.prog X.w X.K X.mg X.base CX k f fd ps sp) (hr : Room k X.A) (hb : Binds X.K fd ps []) (hx : Passes CX X E) (ha : PA X (e :: es) t)
    (hst : starEach (e :: es) X.env = (false, eval e X.env) :: starEach es X.env := by rfl) (hpl : (backTo pos (starEach es X.env)).any (·.1) = false := by rfl)
    (ht : eval (.Call (.Attribute o m apos) (e :: es) [] pos) X.env = (do
      let ov ← eval o X.env
      standAt apos.atName
      let (f, first) ← holding [ov] (getMethod ov m pl)
      callWith pos f first (backTo pos (starEach (e :: es) X.env)) (backToKw pos (keywordEach [] X.env))) := by rfl) :
    PE X (.Call (.Attribute o m apos) (e :: es) [] pos) (tCMeth D sp E ta t) := by
  intro pins s σ H Q I h
  refine PySem.W.methodCall_KW (pl := pl) (thn (he pins s σ H _ I h) fun u s1 ⟨x, H1, I1, rx, ex, q⟩ => ?_) ht
  subst ex
  obtain rfl : u = Value.ref D := rx
  refine PySem.W.method_cls I1.kIn hm.ga (PySem.W.cls_value I1.kIn hm.rd hm.fc rfl ?_)
  have I2 : Inv X pins σ H1 { s1 with toks := s1.toks + 1 } := I1.tok _
  refine PySem.W.callWith_K (first := []) (h₀ := X.base) I.ok.mod.kin hm.kp (thn (ha pos pins _ σ H1 _ I2 q) fun us s2 ⟨vs, H2, I3, r, q2⟩ => ⟨I3.kIn, ?_⟩) hst hpl
  exact run_fn (us := us) (vs := vs) F hr hb .nil hx I3 r q2
/-! ### a method that may refuse, within try -/
theorem px_meth {j : Nat} {C : Addr} {pl : Sem Bool} (M : MethX X.prog X.w X.K X.mg X.base j C m ps sp) (hr : Room k X.A) (he : PE X.nox o ta) (ha : PA X.nox (e :: es) t) (hj : j ≤ k := by first | decide | omega)
    (hst : starEach (e :: es) X.env = (false, eval e X.env) :: starEach es X.env := by rfl) (hpl : (backTo pos (starEach es X.env)).any (·.1) = false := by rfl)
    (ht : eval (.Call (.Attribute o m apos) (e :: es) [] pos) X.env = (do
      let ov ← eval o X.env
      standAt apos.atName
      let (f, first) ← holding [ov] (getMethod ov m pl)
      callWith pos f first (backTo pos (starEach (e :: es) X.env)) (backToKw pos (keywordEach [] X.env))) := by rfl) :
    PX X (.Call (.Attribute o m apos) (e :: es) [] pos) (fun E => tMeth C m sp [] E ta t) := by
  obtain ⟨f, fd, F, b, me, c⟩ := M
  intro pins s σ H Q E xe I h hx
  refine PySem.W.methodCall_KW (pl := pl) (wpAny_mono (he pins s σ H _ (I.wish _) h) (fun u s1 ⟨x, H1, I1, rx, a, dx, fs, ex, ea, l, q⟩ => ?_) fun _ _ z => False.elim z) ht
  subst ex
  obtain rfl : u = Value.ref a := rx
  refine getmeth_ok I1.unwish ea c me l ?_
  refine PySem.W.callWith_K (first := [.ref a]) (h₀ := X.base) I.ok.mod.kin me.kp (wpAny_mono (ha pos pins s1 σ H1 _ I1 q) (fun us s2 ⟨vs, H2, I2, r, q2⟩ => ⟨I2.unwish.kIn, ?_⟩) fun _ _ z => False.elim z) hst hpl
  have q3 : sp (.ref a :: (vs ++ [])) H2 Q E := q2
  rw [List.append_nil] at q3
  exact run_fnX (us := .ref a :: us) (vs := .ref a :: vs) (F.mono hj) hr b I2.unwish (.cons rfl r) q3 hx
end
end L2
end

section
set_option Elab.async false
set_option linter.all false
set_option maxRecDepth 100000
set_option maxHeartbeats 4000000
namespace L2
open PySem PySem.Spec PyProof.Rows
/-! ### drawing from an iterator, whatever it goes over; zip of two tuples -/
section
variable {prog : Program} {w : World} {A : Around} {s : Shared}
end
/-! the call zip(t, u) -/
section
variable {prog : Program} {w : World} {A : Around} {E : Value → Shared → Prop} {s : Shared}
end
section
variable {X : Cx}
end
end L2
end

section
set_option Elab.async false
set_option linter.all false
set_option maxRecDepth 100000
set_option maxHeartbeats 4000000
namespace L2
open PySem PySem.Spec PyProof.Rows
/-! ### max(list, default = ..) -/
section
variable {prog : Program} {w : World} {A : Around} {R : Result → Shared → Prop} {it S : Addr} {fp wr : List Addr} {n : Nat} {P : Nat → Value → Prop} {St : Nat → Heap → Prop} {kw : List (Str × Value)}
theorem mx_loop (W : Walks prog w A.in1 it fp wr n P St) (bt : Nat → Nat → Bool) (cm : CmpOf prog w A.in1 .Gt P bt) (nS : S ∉ fp) : ∀ (k j : Nat) (s : Shared) (vb : Value) (c : Nat), n - (j + 1) = k → j + 1 ≤ n → St (j + 1) s.heap → P (argBest bt j) vb →
    s.heap.get? S = some { cls := .type "list", dict := none, data := .seq #[vb, vb] c, slots := #[] } →
    (∀ v h' tk, P (argBest bt (n - 1)) v → (∀ b o, b ∉ S :: wr → s.heap.get? b = some o → h'.get? b = some o) → R (.ok (.ret v)) { s with heap := h', toks := tk }) → codeAny (model prog w) A (.builtin "max.loop" ⟨[.ref it, .none, .ref S], kw⟩) R s
  | 0, j, s, vb, c, hk, hj, st, hp, hS, hR => by
    have nw : S ∉ wr := fun z => nS (W.sub _ z)
    have ej : j + 1 = n := by omega
    refine codeAny_builtin F.entry_max_loop ?_
    rw [Around.under_plainId F.plain_max_loop _]
    show wpAny _ A.in1 (seqItems? (.ref S) >>= _) _ _ _
    refine wpAny_bind (wpAny_seqItems hS rfl ?_)
    show wpAny _ A.in1 (tryCatch (pyNext (.ref it)) _ >>= _) _ _ _
    refine wpAny_bind (wpAny_tryCatch (W.done s _ _ (ej ▸ st) fun h' tk m => ?_))
    have hS2 := m S _ nw hS
    show wpAny _ A.in1 (updateSeq S (fun _ => #[]) >>= _) _ _ _
    refine wpAny_bind (wpAny_updateSeq hS2 rfl (wpAny_bind (wpAny_letGo (wpAny_pure ?_))))
    exact hR vb _ tk (by rw [← ej]; exact hp) fun b o hb e => (Heap.get?_update_other _ _ (fun z : S = b => hb (z ▸ List.mem_cons_self))).trans (m b o (fun z => hb (List.mem_cons_of_mem _ z)) e)
  | k + 1, j, s, vb, c, hk, hj, st, hp, hS, hR => by
    have nw : S ∉ wr := fun z => nS (W.sub _ z)
    have lt : j + 1 < n := by omega
    refine codeAny_builtin F.entry_max_loop ?_
    rw [Around.under_plainId F.plain_max_loop _]
    show wpAny _ A.in1 (seqItems? (.ref S) >>= _) _ _ _
    refine wpAny_bind (wpAny_seqItems hS rfl ?_)
    show wpAny _ A.in1 (tryCatch (pyNext (.ref it)) _ >>= _) _ _ _
    refine wpAny_bind (wpAny_tryCatch (W.item (j + 1) s _ _ lt st fun v h' tk pv st' m => ?_))
    have hS2 := m S _ nw hS
    show wpAny _ A.in1 (tryCatch (holding [v, v] (richCompare .Gt v vb >>= _)) _ >>= _) _ _ _
    refine wpAny_bind (wpAny_tryCatch (wpAny_holding (wpAny_bind (cm (j + 1) (argBest bt j) v vb _ _ _ pv hp (wpAny_bind (wpAny_holding (wpAny_truthy_bool (wpAny_bind (wpAny_letGo (wpAny_pure ?_))))))))))
    have nm : (toString "max" ++ toString ".loop" : String) = "max.loop" := by decide
    cases hb : bt (j + 1) (argBest bt j) with
    | true =>
      simp only [if_true]
      refine wpAny_bind (wpAny_updateSeq hS2 rfl (wpAny_bind (wpAny_letGo ?_)))
      rw [nm]
      refine wpAny_pure ⟨plainId_quiet F.plain_max_loop _, mx_loop W bt cm nS k (j + 1) _ v _ (by omega) lt (W.frame _ _ _ st' fun b hbf o e => ?_) (by simp only [argBest, hb, if_true]; exact pv) (Heap.get?_update_self _ hS2 rfl) fun v' h'' tk' p' m'' => ?_⟩
      · exact (Heap.get?_update_other _ _ (fun z : S = b => nS (z ▸ hbf))).trans e
      · exact hR v' h'' tk' p' fun b o hb e => m'' b o hb ((Heap.get?_update_other _ _ (fun z : S = b => hb (z ▸ List.mem_cons_self))).trans (m b o (fun z => hb (List.mem_cons_of_mem _ z)) e))
    | false =>
      simp only [Bool.false_eq_true, if_false]
      refine wpAny_bind (wpAny_letGo ?_)
      rw [nm]
      refine wpAny_pure ⟨plainId_quiet F.plain_max_loop _, mx_loop W bt cm nS k (j + 1) _ vb c (by omega) lt st' (by simp only [argBest, hb, Bool.false_eq_true, if_false]; exact hp) hS2 fun v' h'' tk' p' m'' => ?_⟩
      exact hR v' h'' tk' p' fun b o hb e => m'' b o hb (m b o (fun z => hb (List.mem_cons_of_mem _ z)) e)
theorem mx_first (W : Walks prog w A.in1 it fp wr n P St) (bt : Nat → Nat → Bool) (cm : CmpOf prog w A.in1 .Gt P bt) (nS : S ∉ fp) {d : Value} {x : Str} {s : Shared} {c : Nat} (st : St 0 s.heap)
    (hS : s.heap.get? S = some { cls := .type "list", dict := none, data := .seq #[] c, slots := #[] })
    (hR : ∀ v h' tk, (n = 0 ∧ v = d ∨ 0 < n ∧ P (argBest bt (n - 1)) v) → (∀ b o, b ∉ S :: wr → s.heap.get? b = some o → h'.get? b = some o) → R (.ok (.ret v)) { s with heap := h', toks := tk }) : codeAny (model prog w) A (.builtin "max.loop" ⟨[.ref it, .none, .ref S], [(x, d)]⟩) R s := by
  have nw : S ∉ wr := fun z => nS (W.sub _ z)
  have nm : (toString "max" ++ toString ".loop" : String) = "max.loop" := by decide
  refine codeAny_builtin F.entry_max_loop ?_
  rw [Around.under_plainId F.plain_max_loop _]
  show wpAny _ A.in1 (seqItems? (.ref S) >>= _) _ _ _
  refine wpAny_bind (wpAny_seqItems hS rfl ?_)
  show wpAny _ A.in1 (tryCatch (pyNext (.ref it)) _ >>= _) _ _ _
  by_cases n0 : n = 0
  · refine wpAny_bind (wpAny_tryCatch (W.done s _ _ (n0 ▸ st) fun h' tk m => ?_))
    refine wpAny_bind (wpAny_rule (wpAny_pure ?_))
    exact hR d h' tk (.inl ⟨n0, rfl⟩) fun b o hb e => m b o (fun z => hb (List.mem_cons_of_mem _ z)) e
  · have lt : 0 < n := Nat.pos_of_ne_zero n0
    refine wpAny_bind (wpAny_tryCatch (W.item 0 s _ _ lt st fun v h' tk pv st' m => ?_))
    have hS2 := m S _ nw hS
    show wpAny _ A.in1 (updateSeq S (fun _ => #[v, v]) >>= _) _ _ _
    refine wpAny_bind (wpAny_updateSeq hS2 rfl ?_)
    rw [nm]
    refine wpAny_pure ⟨plainId_quiet F.plain_max_loop _, mx_loop W bt cm nS _ 0 _ v _ rfl lt (W.frame _ _ _ st' fun b hbf o e => ?_) pv (Heap.get?_update_self _ hS2 rfl) fun v' h'' tk' p' m'' => ?_⟩
    · exact (Heap.get?_update_other _ _ (fun z : S = b => nS (z ▸ hbf))).trans e
    · exact hR v' h'' tk' (.inr ⟨lt, p'⟩) fun b o hb e => m'' b o hb ((Heap.get?_update_other _ _ (fun z : S = b => hb (z ▸ List.mem_cons_self))).trans (m b o (fun z => hb (List.mem_cons_of_mem _ z)) e))
end
theorem args_maxD (a d : Value) : argsOk "max" ⟨[a], [("default", d)]⟩ := by unfold argsOk; kernel_rfl
section
variable {prog : Program} {w : World} {A : Around} {E : Value → Shared → Prop} {s : Shared}
theorem max_listD {l : Addr} {xs : Array (Int × Tok)} {d : Value} {Q : Value → Shared → Prop} (hh : A.handled = none) (hl : s.heap.IsList l (intItems xs))
    (h : ∀ v h' tk, (xs.size = 0 ∧ v = d ∨ 0 < xs.size ∧ ∃ t, v = .int (numAt xs (argBest (fun i j => decide (numAt xs i > numAt xs j)) (xs.size - 1))) t) → (∀ b o, s.heap.get? b = some o → h'.get? b = some o) → Q v { s with heap := h', toks := tk }) :
    wpAny (model prog w) A (call (.builtin "max") [.ref l] [("default", d)]) Q E s := by
  have nm : (toString "max" ++ toString ".loop" : String) = "max.loop" := by decide
  have sz : (intItems xs).size = xs.size := by simp [intItems]
  refine wpAny_call (codeAny_call_builtin F.plain_max F.entry_max ?_)
  have hk : builtinKind "max" = none := F.kind_max
  have ha := args_maxD (.ref l) d
  simp only [checkBuiltinCall, hk]
  have go : wpAny (model prog w) A.in1 (Builtin.«max» ⟨[.ref l], [("default", d)]⟩) (fun fin s' => match fin with
      | .done f => (match (Except.ok f : Result) with | .ok (.ret v) => Q v s' | .ok _ => False | .error e => E e s')
      | .again c' => c'.quiet = true ∧ codeAny (model prog w) A c' (fun r s' => match r with | .ok (.ret v) => Q v s' | .ok _ => False | .error e => E e s') s') E s := by
    show wpAny _ A.in1 (Builtin.Builtins.bindParams "max" ["key", "default"] 0 ⟨[], [("default", d)]⟩ >>= _) _ _ s
    refine wpAny_bind (wpAny_of_eq (show Builtin.Builtins.bindParams "max" ["key", "default"] 0 ⟨[], [("default", d)]⟩ = pure [none, some d] from rfl) ?_)
    refine wpAny_bind (wpAny_pure (wpAny_bind (wpAny_pyIter_list hl ?_)))
    refine wpAny_bind (wpAny_newObj_type ?_)
    rw [nm]
    have b1 : l < s.heap.objs.size := by obtain ⟨_, e, _⟩ := hl; exact Heap.lt_size e
    have hz : (s.heap.push { cls := .type "list_iterator", data := .fields #[.ref l, .int 0 0] }).objs.size = s.heap.objs.size + 1 := Heap.size_push ..
    have W := Walks.list (prog := prog) (w := w) (A := A.in1) hh s.heap.objs.size l (Nat.ne_of_lt b1) (intItems xs)
    refine wpAny_pure ⟨plainId_quiet F.plain_max_loop _, mx_first W _ (CmpOf.ints_gt (numAt xs) (fun _ _ => intItems_at)) (fun z => ?_) ⟨⟨_, Heap.get?_push_of_some _ (Heap.get?_push_size _ rfl), rfl, rfl⟩, (hl.push _).push _⟩ (Heap.get?_push_size _ rfl) fun v h' tk pv m => ?_⟩
    · simp only [List.mem_cons, List.not_mem_nil, or_false] at z
      rcases z with z | z
      · exact Nat.succ_ne_self _ (hz.symm.trans z)
      · exact Nat.ne_of_gt (Nat.lt_succ_of_lt b1) (hz.symm.trans z)
    · refine h v h' tk ?_ fun b o e => m b o (fun z => ?_) (Heap.get?_push_of_some _ (Heap.get?_push_of_some _ e))
      · rw [sz] at pv
        rcases pv with pv | ⟨q, pv⟩
        · exact .inl pv
        · exact .inr ⟨q, intItems_at pv⟩
      · have := Heap.lt_size e
        simp only [List.mem_cons, List.not_mem_nil, or_false] at z
        rcases z with z | z
        · rw [z, hz] at this; exact Nat.lt_irrefl _ (Nat.lt_of_succ_lt this)
        · rw [z] at this; exact Nat.lt_irrefl _ this
  cases hsig : Manifest.signature? "max" with
  | none => exact wpAny_pure go
  | some sig =>
    simp only [argsOk, hsig] at ha
    have h2 : Bind.checkArgs "max" sig ⟨[.ref l], [("default", d)]⟩ = pure () := ha
    show wpAny _ A.in1 (Bind.checkArgs "max" sig ⟨[.ref l], [("default", d)]⟩) _ _ s
    rw [h2]; exact wpAny_pure go
end
def maxD (d : Int) : List Int → Int
  | [] => d
  | x :: r => r.foldl max x
theorem maxD_is {d M : Int} {ns : List Int} (ne : ¬ ns = []) (m : M ∈ ns) (h : ∀ a ∈ ns, a ≤ M) : maxD d ns = M := by
  cases ns with
  | nil => exact absurd rfl ne
  | cons x r =>
    show r.foldl max x = M
    have key : ∀ (r : List Int) (x : Int), (x ≤ M) → (∀ a ∈ r, a ≤ M) → (x = M ∨ M ∈ r) → r.foldl max x = M := by
      intro r
      induction r with
      | nil => intro x _ _ hx; exact hx.resolve_right (by simp)
      | cons y r ih =>
        intro x hx hr hm
        rw [List.foldl_cons]
        have hy := hr y List.mem_cons_self
        refine ih (max x y) (by omega) (fun a ha => hr a (List.mem_cons_of_mem _ ha)) ?_
        rcases hm with rfl | hm
        · exact .inl (by omega)
        · rcases List.mem_cons.mp hm with rfl | hm
          · exact .inl (by omega)
          · exact .inr hm
    exact key r x (h x List.mem_cons_self) (fun a ha => h a (List.mem_cons_of_mem _ ha)) (by rcases List.mem_cons.mp m with rfl | m; exact .inl rfl; exact .inr m)
section
variable {X : Cx} {p pos kp : Pos} {e1 e2 : Expr} {t tk : TA}
/-- max(e1, default = e2) of a list of whole numbers -/
def tMaxD (K : PySem.W.Frag) (t tk : TA) : TE := fun σ H Q => t σ H fun vs H1 => tk σ H1 fun zs H2 => ∃ a ns d, vs = [.ref a] ∧ zs = [.int d] ∧ SqL K H2 a ((ns : List Int).map V.int) ∧ Q (.int (maxD d ns)) H2
theorem pe_maxD (hc : X.calm = true) (hg : Gl X "max") (hm : X.mg "max" = none) (ha : PA X [e1] t) (hkw : PK X [⟨some "default", e2, kp⟩] tk) (hs : starEach [e1] X.env = (false, eval e1 X.env) :: starEach [] X.env := by rfl)
    (hpl : ((backTo pos (starEach [e1] X.env)).any (·.1) || (backToKw pos (keywordEach [⟨some "default", e2, kp⟩] X.env)).any (·.1.isNone)) = false := by rfl) :
    PE X (.Call (.Name "max" p) [e1] [⟨some "default", e2, kp⟩] pos) (tMaxD X.K t tk) := by
  intro pins s σ H Q I h
  refine wpAny_Call_Name_kw (ld_blt (u := .builtin "max") I hg hm (by decide +kernel) ?_ (by decide) (by decide))
  refine PySem.W.callWith_of (P := fun _ => True) hpl (fun h _ => ⟨.machine, .inr (.inl rfl), PySem.W.Looks.of_pure rfl⟩) (PyProof.Rows.evalArgs_kw2 (by rfl) (thn (ha pos pins s σ H _ I h) fun us s1 ⟨vs, H1, I1, r1, q1⟩ => ?_) hs)
  refine thn (hkw pos pins s1 σ H1 _ I1 q1) fun ws s2 ⟨zs, H2, I2, rz, q2⟩ => ⟨trivial, ?_⟩
  obtain ⟨a, ns, d, rfl, rfl, hS, q⟩ := q2
  obtain ⟨u, rfl, ru⟩ := r1.one
  obtain ⟨u2, rfl, t, rfl⟩ := rz.one
  cases ru
  show wpAny _ _ (call (.builtin "max") [.ref a] [("default", .int d t)]) _ _ _
  obtain ⟨its, rv, pl, hz⟩ := I2.list hS
  have hi := intsAre_of rv
  obtain ⟨ys, hx⟩ := hi.allInts.items
  have hl' : s2.heap.IsList a (intItems ys) := hx ▸ pl.isList
  refine max_listD (I2.ok.hd hc) hl' fun v h' tk hv k => ?_
  have e1 : ns = ys.toList.map (·.1) := by
    rw [← nums_intItems, ← hx]
    exact (show numsOf its.toArray.toList = ns from hi.numsOf).symm
  have I3 : Inv X pins σ H2 { s2 with heap := h', toks := tk } := I2.kept k
  rcases hv with ⟨h0, rfl⟩ | ⟨h0, t', rfl⟩
  · have : ns = [] := by rw [e1]; exact List.length_eq_zero_iff.mp (by simpa using h0)
    subst this
    exact ⟨.int d, H2, I3, ⟨_, rfl⟩, q⟩
  · have hnum : ∀ i, i < ys.size → numAt ys i ∈ ns ∧ ∃ h : i < ns.length, ns[i] = numAt ys i := fun i hi => by
      have hl : i < ns.length := by rw [e1]; simpa using hi
      have : ns[i] = numAt ys i := by simp [e1, numAt, hi]
      exact ⟨this ▸ List.getElem_mem hl, hl, this⟩
    obtain ⟨b1, b2⟩ := argBest_gt (numAt ys) (ys.size - 1)
    have lns : ns.length = ys.size := by rw [e1]; simp
    have em : maxD d ns = numAt ys (argBest (fun i j => decide (numAt ys i > numAt ys j)) (ys.size - 1)) := by
      refine maxD_is (fun z => by rw [z] at lns; simp at lns; omega) (hnum _ (by omega)).1 fun x hx => ?_
      obtain ⟨i, hi, rfl⟩ := List.getElem_of_mem hx
      rw [(hnum i (by omega)).2.2]
      exact b2 i (by omega)
    rw [← em]
    exact ⟨.int (maxD d ns), H2, I3, ⟨_, rfl⟩, q⟩
end
end L2
end

section
set_option Elab.async false
set_option linter.all false
set_option maxRecDepth 100000
set_option maxHeartbeats 4000000
namespace L2
open PySem PySem.Spec PyProof.Rows
/-! ### an exception that is given a name -/
def ExO (C ea : Addr) : HO := .ext fun h => ∃ o, h.get? ea = some o ∧ o.cls = .ref C
theorem ExO.ok {P : Program} {w : World} {H : Hp} {h : Heap} {C ea : Addr} {o : Obj} (e : h.get? ea = some o) (c : o.cls = .ref C) : ObjOk P w H h ea (ExO C ea) :=
  ⟨⟨o, e, c⟩, ⟨o, e⟩, fun h1 h2 ⟨o, e, c⟩ k => ⟨o, k o e, c⟩⟩
section
variable {X : Cx} {pins : List (Addr × Obj)} {σ : St} {H : Hp} {s : Shared} {ea C : Addr} {o : Obj}
/-- an object that lies there and is not tracked yet is tracked -/
theorem Inv.track (I : Inv X pins σ H s) (hn : H ea = none) (e : s.heap.get? ea = some o) (c : o.cls = .ref C) (hd : ∀ v, o.data ≠ .cell v) (hl : ea ≠ X.env.locals) (old : X.s₀.heap.get? ea = none) (hp : ∀ p ∈ X.pn ++ pins, p.1 ≠ ea) : Inv X pins σ (upd H ea (ExO C ea)) s where
  ok := I.ok
  os := I.os
  bare := I.bare
  base :=
    { keep := I.base.keep
      slot := I.base.slot
      free := fun b ob q n x => by rw [upd_ne (fun z => by rw [z, old] at q; cases q)]; exact I.base.free b ob q n x
      there := I.base.there
      tups := fun b xs q => by have z := I.base.tups b xs q; rw [upd_ne (ne_of_none z hn)]; exact z
      frzs := fun b o u q => by have z := I.base.frzs b o u q; rw [upd_ne (ne_of_none z hn)]; exact z
      tbls := fun b ps q => by obtain ⟨m, z⟩ := I.base.tbls b ps q; exact ⟨m, by rw [upd_ne (ne_of_none z hn)]; exact z⟩ }
  loc := I.loc
  cell := I.cell
  free := by rw [upd_ne hl.symm]; exact I.free
  freeC := fun x c' q => by
    rw [upd_ne (fun z => ?_)]
    · exact I.freeC x c' q
    · obtain ⟨v, o', e', d⟩ := I.cell x c' q
      rw [z, e] at e'
      cases e'
      exact hd v d
  pin := fun p hp' => by
    obtain ⟨a1, a2, a3, a4, a5⟩ := I.pin p hp'
    exact ⟨a1, by rw [upd_ne (hp p hp')]; exact a2, a3, a4, a5⟩
  hok := fun b u q => by
    by_cases hb : b = ea
    · subst hb
      rw [upd_same] at q
      cases q
      exact ExO.ok e c
    · rw [upd_ne hb] at q
      exact (I.hok b u q).stay (fun _ _ _ z => z) (fun c q => by rw [upd_ne (ne_of_none q hn)]; exact q) fun c xs q => by rw [upd_ne (ne_of_none q hn)]; exact q
  len := I.len
end
/-! ### a name goes: the others stay -/
theorem find_eraseIdx {α : Type} {p : α → Bool} : ∀ {l : List α} {i : Nat} {a : α}, l[i]? = some a → p a = false → (l.eraseIdx i).find? p = l.find? p
  | [], _, _, h, _ => by cases h
  | x :: l, 0, a, h, hp => by
    cases h
    show l.find? p = _
    rw [List.find?_cons, hp]
  | x :: l, i + 1, a, h, hp => by
    show (x :: l.eraseIdx i).find? p = _
    rw [List.find?_cons, List.find?_cons, find_eraseIdx (l := l) (i := i) h hp]
section
variable {M : Model} {A : Around} {E : Value → Shared → Prop} {s : Shared}
theorem wpAny_nsDelX {a : Addr} {m} {name : Str} {Q : Bool → Shared → Prop} (hn : s.heap.Ns a m)
    (hQ : ∀ h' m', h'.Ns a m' → (∀ x, x ≠ name → m' x = m x) → Heap.SameBut a s.heap h' → Q (m name).isSome { s with heap := h' }) : wpAny M A (nsDel a name) Q E s := by
  obtain ⟨o, es, ep, ho, hd, hk, hm⟩ := id hn
  have hany : es.any (·.refKey) = false := by
    rw [Array.any_eq_false']; intro e he; obtain ⟨n, t, h⟩ := hk e he; simp [DictEntry.refKey, h]
  have hsome : (m name).isSome = es.any (·.key.isStr name) := by
    rw [← hm name]; simp only [nsFind, findBy, Option.isSome_map]
    rw [Bool.eq_iff_iff]; simp only [Array.find?_isSome, Array.any_eq_true]
    constructor
    · rintro ⟨x, hx, hp⟩; obtain ⟨i, hi, rfl⟩ := Array.mem_iff_getElem.mp hx; exact ⟨i, hi, hp⟩
    · rintro ⟨i, hi, hp⟩; exact ⟨_, Array.getElem_mem hi, hp⟩
  have hhas : nsHas name o = pure (es.any (·.key.isStr name)) := by
    rw [nsHas_eq]; unfold nsHasByArray; rw [hd]
    show (if (es.any fun x => x.key.isStr name) = true then _ else _) = _
    generalize (es.any fun x => x.key.isStr name) = b
    cases b <;> simp [hany]
  unfold nsDel
  refine wpAny_bind (wpAny_loadPart ho ?_)
  rw [hhas]
  refine wpAny_bind (wpAny_pure ?_)
  rw [← hsome]
  cases hmn : (m name).isSome
  · have := hQ s.heap m hn (fun _ _ => rfl) (.refl ..)
    rw [hmn] at this
    exact wpAny_pure this
  · refine wpAny_bind (wpAny_updatePart ho (wpAny_pure ?_))
    have key : ∃ m', (s.heap.update a (Obj.dropName name)).Ns a m' ∧ ∀ x, x ≠ name → m' x = m x := by
      obtain ⟨cl, d, dt, sl⟩ := o
      subst hd
      cases hi : es.findIdx? (·.key.isStr name) with
      | some i =>
        refine ⟨_, ⟨_, _, ep + 1, Heap.get?_update_self _ ho (by simp only [Obj.dropName_eq, Obj.dropNameByArray, hi] <;> rfl), (by simp only [Obj.dropName_eq, Obj.dropNameByArray, hi] <;> rfl), hk.erase i, fun _ => rfl⟩, fun x hx => ?_⟩
        obtain ⟨hlt, hp, _⟩ := Array.findIdx?_eq_some_iff_getElem.mp hi
        rw [← hm x]
        have np : (es[i].key.isStr x) = false := by
          obtain ⟨n, t, hkey⟩ := hk es[i] (Array.getElem_mem hlt)
          rw [hkey] at hp ⊢
          have hp : (n == name) = true := hp
          have e := eq_of_beq hp
          show (n == x) = false
          rw [e]
          exact beq_false_of_ne fun z => hx z.symm
        unfold nsFind findBy
        congr 1
        rw [← Array.find?_toList, ← Array.find?_toList, Array.toList_eraseIdxIfInBounds]
        exact find_eraseIdx (a := es[i]) (by simp [hlt]) np
      | none => exact ⟨_, ⟨_, _, ep, Heap.get?_update_self _ ho (by simp only [Obj.dropName_eq, Obj.dropNameByArray, hi] <;> rfl), (by simp only [Obj.dropName_eq, Obj.dropNameByArray, hi] <;> rfl), hk, fun _ => rfl⟩, fun x _ => hm x⟩
    obtain ⟨m', hm', hs'⟩ := key
    have := hQ _ m' hm' hs' (Heap.SameBut.update ..)
    rw [hmn] at this
    exact this
end
section
variable {X : Cx} {pins : List (Addr × Obj)} {σ : St} {H : Hp} {s : Shared}
/-- behind `except C as x`: the name goes -/
theorem goes_ok {M : Model} {A : Around} {E : Value → Shared → Prop} {i : Nat} {x : Str} {pos : Pos} {Q : Unit → Shared → Prop} (I : Inv X pins σ H s) (hN : X.N.Nodup) (hi : X.N[i]? = some x) (hk : X.env.kindOf x = some .local)
    (h : ∀ s', Inv X pins (σ.set i none) H s' → Q () s') : wpAny M A (do bindName X.env x .none; unbindBehindTheSuite X.env x pos) Q E s := by
  obtain ⟨m, hn, hl⟩ := id I.loc
  have hcls : (X.env.scope.kind == .class || (X.env.scope.kind == .module && X.env.locals != X.env.globals)) = false := by rw [I.ok.kind]; rfl
  have hiσ : i < σ.length := by rw [I.len]; exact (List.getElem?_eq_some_iff.mp hi).1
  have cne := I.cne
  refine wpAny_bind (wpAny_bindName (wpAny_storeName_local hk hn (fun h₁ hn₁ hs₁ => ?_) hcls))
  unfold unbindBehindTheSuite
  refine wpAny_onRaise ?_
  unfold unbindName
  refine wpAny_bind (wpAny_point (wpAny_bind ?_))
  unfold deleteName
  simp only [hk, hcls]
  rw [if_neg (by decide)]
  refine wpAny_bind (wpAny_nsDelX hn₁ fun h' m₂ hn' hm₂ hs₂ => ?_)
  simp only [if_true, Option.isSome_some, Bool.not_true, Bool.false_eq_true, if_false]
  have hs := hs₁.trans hs₂
  obtain ⟨oL, _, _, hoL, _⟩ := id hn
  have tracked : HOk X.prog X.w H h' := fun b ob e => by
    refine (I.hok b ob e).stay (fun c w' hc q => (hs.2 c ?_).trans q) (fun _ q => q) fun _ _ q => q
    rintro rfl
    rcases hc with rfl | hc
    · rw [I.free] at e; cases e
    · rw [I.free] at hc; cases hc
  refine wpAny_pure (wpAny_point (h _ ⟨I.ok, I.os, I.bare, ⟨fun b o e n hb hx => ?_, fun b o e n hb hx => ?_, I.base.free, fun b o e hx => ?_, I.base.tups, I.base.frzs, I.base.tbls⟩, ⟨m₂, hn', fun j y v' e1 e2 e3 => ?_⟩, fun y c e => ?_, I.free, I.freeC, fun p hp => ?_, tracked, by simpa using I.len⟩))
  · exact (hs.2 b (Nat.ne_of_lt (Nat.lt_of_lt_of_le (Heap.lt_size e) I.ok.above))).trans (I.base.keep b o e n hb hx)
  · obtain ⟨sl, e1⟩ := I.base.slot b o e n hb hx
    exact ⟨sl, (hs.2 b (Nat.ne_of_lt (Nat.lt_of_lt_of_le (Heap.lt_size e) I.ok.above))).trans e1⟩
  · obtain ⟨o', e1⟩ := I.base.there b o e hx
    exact ⟨o', (hs.2 b (Nat.ne_of_lt (Nat.lt_of_lt_of_le (Heap.lt_size e) I.ok.above))).trans e1⟩
  · by_cases hj : j = i
    · subst hj
      rw [List.getElem?_set_self hiσ] at e2
      cases e2
    · rw [List.getElem?_set_ne (Ne.symm hj)] at e2
      obtain ⟨u', r', q⟩ := hl j y v' e1 e2 e3
      refine ⟨u', r', ?_⟩
      rcases q with ⟨k, e⟩ | ⟨k, c, e, z⟩
      · refine .inl ⟨k, ?_⟩
        have ne : y ≠ x := fun e => hj (nodup_ix hN e1 (e ▸ hi))
        rw [hm₂ y ne]
        simp [ne, e]
      · exact .inr ⟨k, c, e, z.sameBut hs (cne y c e)⟩
  · obtain ⟨w', z⟩ := I.cell y c e
    exact ⟨w', z.sameBut hs (cne y c e)⟩
  · obtain ⟨e, n, ne, nf, d⟩ := I.pin p hp
    exact ⟨(hs.2 p.1 ne).trans e, n, ne, nf, d⟩
end
/-! ### except C as x -/
structure AsOk (X : Cx) (pins : List (Addr × Obj)) (H : Hp) (ea : Addr) : Prop where
  hn : H ea = none
  old : X.s₀.heap.get? ea = none
  loc : ea ≠ X.env.locals
  pn : ∀ p ∈ X.pn ++ pins, p.1 ≠ ea
/-- a row of handlers, by the class that comes, which may give it a name -/
def PHA (X : Cx) (hs : List ExceptHandler) (th : Addr → TS) : Prop := ∀ (pins : List (Addr × Obj)) (s : Shared) (σ : St) (H : Hp) (D : Ends) (B : Heap) (ea C : Addr) (a0 : Value), Land X pins σ H B ea C a0 s → AsOk X pins H ea → th C D σ H →
  wpAny (model X.prog X.w) X.A (handleBy (.ref ea) X.env hs) (SP X pins D) X.xe s
def tHandAs (K : PySem.W.Frag) (C0 : Addr) (i : Nat) (t : TS) (r : Addr → TS) : Addr → TS := fun C D σ H => (PySem.W.exmOne K (.ref C) (.ref C0) = some true ∧ ∀ ea, H ea = none → t { D with nx := fun σ' H' => D.nx (σ'.set i none) H', bk := fun σ' H' => D.bk (σ'.set i none) H', ct := fun σ' H' => D.ct (σ'.set i none) H' } (σ.set i (some (.ref ea))) (upd H ea (ExO C ea))) ∨ (PySem.W.exmOne K (.ref C) (.ref C0) = some false ∧ r C D σ H)
section
variable {X : Cx} {x n : Str} {i : Nat} {np pos : Pos} {b0 : Stmt} {suite : List Stmt} {hs : List ExceptHandler} {C0 : Addr} {t : TS} {r : Addr → TS}
theorem pha_nil : PHA X hs tLost := fun _ _ _ _ _ _ _ _ _ _ _ h => h.elim
theorem pha_cons (hm : X.mg x = some (.ref C0)) (hg : Gl X x) (hN : X.N.Nodup) (hi : X.N[i]? = some n) (hk : X.env.kindOf n = some .local) (hx : Loc X.env.scope n) (ht : ∀ u, PSs (X.hold u) (b0 :: suite) t) (hr : PHA X hs r) (hdb : (x == ("__debug__" : Str)) = false := by decide) (hf : X.fn n = true ∨ X.env.scope.names.lookup n = some .local := by first | exact .inl rfl | exact .inr rfl | assumption) :
    PHA X (.ExceptHandler (some (.Name x np)) (some n) (b0 :: suite) pos :: hs) (tHandAs X.K C0 i t r) := by
  intro pins s σ H D B ea C a0 L O h
  refine wpAny_handleBy_cons (codeAny_handlers_test (ld_glob (X := X.hold (.ref ea)) (L.inv.hold _) hg hm ?_ hdb)) (by intro q; cases q)
  have LT : PySem.W.Looks (model X.prog X.w) s.heap (typeOf (.ref ea)) (.ref C) := by
    obtain ⟨ob, hob, hoc⟩ := L.fly.there
    rw [← hoc]
    exact PySem.W.Looks.ld hob |>.andThen .now
  rcases h with ⟨hx', h⟩ | ⟨hx', h⟩
  · refine (PySem.W.exm_one L.inv.kIn LT hx').here ?_
    refine codeAny_handlers_suite_as ?_
    refine lands_againW L.fly fun h6 fl6 up6 => ?_
    have I6 := (L.go h6 fl6.1 up6).hold (.ref ea)
    obtain ⟨_, _, _, oe, vs, T, oT, ts, he, ⟨hc, _⟩, hd, _⟩ := id fl6
    have I7 : Inv (X.hold (.ref ea)) pins σ (upd H ea (ExO C ea)) { s with heap := h6 } := I6.track O.hn he hc (fun v z => by rw [hd] at z; cases z) O.loc O.old O.pn
    refine store_ok (X := X.hold (.ref ea)) I7 hN hi hx (v := .ref ea) (u := .ref ea) rfl (fun s' I8 => ?_) hf
    refine wpAny_mono (ht (.ref ea) pins _ _ _ _ I8 (h ea O.hn)) (fun f s2 q => ?_) fun _ _ z => False.elim z
    have q := q.unhold L.inv.ok
    show wpAny _ _ (do bindName X.env n .none; unbindBehindTheSuite X.env n pos) _ _ s2
    cases f with
    | next => obtain ⟨σ', H', I, q⟩ := q; exact goes_ok I hN hi hk fun s3 I3 => ⟨_, H', I3, q⟩
    | brk => obtain ⟨σ', H', I, q⟩ := q; exact goes_ok I hN hi hk fun s3 I3 => ⟨_, H', I3, q⟩
    | cont => obtain ⟨σ', H', I, q⟩ := q; exact goes_ok I hN hi hk fun s3 I3 => ⟨_, H', I3, q⟩
    | ret v => obtain ⟨v', σ', H', I, r, q⟩ := q; exact goes_ok I hN hi hk fun s3 I3 => ⟨v', _, H', I3, r, q⟩
  · refine (PySem.W.exm_one L.inv.kIn LT hx').here ?_
    exact hr pins s σ H D B ea C a0 L O h
end
section
variable {X : Cx} {hs : List ExceptHandler} {pos : Pos}
theorem ps_tryA {body : List Stmt} {h0 : ExceptHandler} {tb : XK → TS} {th : Addr → TS} (hb : PXs X body tb) (hh : PHA X (h0 :: hs) th) (hst : X.stack = X.env :: X.outer) (hf : X.env.frame = some X.env.locals) (hex : X.ex = [] := by rfl) : PS X (.Try body (h0 :: hs) [] [] pos) (tTry th tb) := by
  intro pins s σ H D I h
  refine wpAny_Try_except (wpAny_mono (hb pins s σ H D _ (fun e s₁ => wpAny (model X.prog X.w) X.A (noteFrame e X.env) (fun _ s₂ => wpAny (model X.prog X.w) X.A (setFlight e none) (fun _ s₃ => wpAny (model X.prog X.w) X.A (handleBy e X.env (h0 :: hs)) (SP X pins D) X.xe s₃) X.xe s₂) X.xe s₁) I h ?_) (fun f s1 q => ?_) fun _ _ z => z)
  · intro H1 s1 e' s' I1 hc
    obtain ⟨ea, C, a0, H', B, rfl, ⟨C', e1, hE⟩, os, bare, un, hok, fl, cov, trb, hea⟩ := hc
    cases e1
    have nfr : ea ∉ frs X.stack := fun z => by
      obtain ⟨_, o2, q2, nf⟩ := fl.2.2.1.mem z
      obtain ⟨_, _, _, oe, vs, T, oT, ts, he, _, hd, _⟩ := id fl
      rw [q2] at he
      cases he
      exact nf vs hd
    have new : ∀ o, s1.heap.get? ea = some o → False := fun o q => by
      obtain ⟨o', z⟩ := cov ea o q nfr
      rw [fl.2.1] at z
      cases z
    have O : AsOk X pins H' ea := by
      refine ⟨hea, ?_, fun z => ?_, fun p hp z => ?_⟩
      · cases q : X.s₀.heap.get? ea with
        | none => rfl
        | some o =>
          obtain ⟨o', z⟩ := I1.base.there ea o q (by rw [hex]; simp)
          exact (new o' z).elim
      · obtain ⟨m, hn, _⟩ := I1.loc
        obtain ⟨o, _, _, ho, _⟩ := hn
        exact new o (by rw [z]; exact ho)
      · exact new p.2 (by rw [← z]; exact (I1.pin p hp).1)
    have fl0 := fl
    rw [hst] at fl0
    refine wpAny_looks_onW (I1.ok.frames.trans (by rw [hst])) hf fl0 fun h4 held4 up4 => ?_
    refine wpAny_landsW held4 fun h5 fl5 up5 => ?_
    have fl5' : Heap.FlyingW B X.stack ea (.ref C) a0 h5 := by rw [hst]; exact fl5
    have up := up4.trans up5
    refine hh pins _ σ H' D B ea C a0 ⟨land I1 os bare un hok fl cov trb fl5.1 up, fl5', fun h' st' up' => ?_⟩ O hE
    exact land I1 os bare un hok fl cov trb st' (up.trans up')
  · cases f with
    | next => exact wpAny_execs_nil q
    | brk => exact q
    | cont => exact q
    | ret v => exact q
end
end L2
end

section
set_option Elab.async false
set_option linter.all false
set_option maxRecDepth 100000
set_option maxHeartbeats 4000000
namespace L2
open PySem PySem.Spec PySem.Calls PyProof.Rows PySem.W PySem.Builtin PySem.Builtin.ObjectAttr PySem.Builtin.Getset_descriptor
/-! ### isinstance of an object of which nothing is known but its class -/
section
variable {K : PySem.W.Frag} {D x : Addr}
theorem oc_look {M : Model} {h : Heap} (p : ∃ o, h.get? x = some o ∧ o.cls = .ref D) : Looks M h (typeOf (.ref x)) (.ref D) := by
  obtain ⟨o, e, c⟩ := p
  exact c ▸ (Looks.ld e).andThen .now
theorem oc_find {M : Model} {h : Heap} {name : Str} {a g : Value} (X : K.In h) (ha : findIn K (.ref D) name = some (some a)) (hg : specialIn K a "__get__" = some (some g)) (ht : takesIn K a = some true) : Looks M h (find (.ref x) (.ref D) name) (.bind g a) := by
  have L2 : Looks M h (getOf (some a)) (some g) := looks_specialIn X hg
  have L3 : Looks M h (dataDescriptor? (some a) (some g)) (some (g, a)) := (looks_takesIn (M := M) X ht).andThen .now
  exact (looks_findIn (M := M) X ha).andThen (L2.andThen (L3.andThen (Looks.tag .now)))
section
variable {prog : Program} {w : World} {A : Around} {E : Value → Shared → Prop} {s : Shared}
theorem oc_get {R : Result → Shared → Prop} {tp : Value} (X : K.In s.heap) (p : ∃ o, s.heap.get? x = some o ∧ o.cls = .ref D) (hm : mroIn K D (.type "object") = some true) (h : R (.ok (.ret (.ref D))) s) :
    codeAny (model prog w) A (.call (.builtin "getset_descriptor.__get__") ⟨[.builtin "object.__class__", .ref x, tp], []⟩) R s := by
  obtain ⟨hh, g, dr, t, os⟩ := s
  have L0 := oc_look (M := model prog w) p
  have L1 := looks_mroIn (M := model prog w) X hm
  refine codeAny_call_builtin KF.slot_gs.plain KF.entry_gs (KF.slot_gs.check _ _ _ _ _ _ _ _ KF.type_class (KF.args_gs _ _ _) ?_)
  unfold Builtin.«getset_descriptor.__get__» descrGet
  rw [dga_obj]
  refine wpAny_bind (wpAny_pure ?_)
  unfold descrGetter descrCheckInstance descrNameAndClass isInstance
  simp only [KF.owner_class]
  repeat lk
  refine ⟨Code.quiet_builtin _ (by decide +kernel), codeAny_builtin KF.entry_class ?_⟩
  unfold Builtin.«object.__class__» shownTypeOf
  repeat lk
  exact h
theorem slot_bga : Slot "BaseException" "__getattribute__" "BaseException.__getattribute__" :=
  .of (owner := "BaseException") (n := "__getattribute__") (by rw [typeLookup_type, builtinLookup_eq_fast]; kernel_rfl) (by decide +kernel) (by decide +kernel) (by decide +kernel)
    (by first | exact .inl (by decide +kernel) | exact .inr (by decide +kernel)) (by rw [isSubtype_type]; kernel_rfl)
theorem oc_class {Q : Option Value → Shared → Prop} (hga : findIn K (.ref D) "__getattribute__" = some (some (.builtin "BaseException.__getattribute__"))) (hgn : findIn K (.ref D) "__getattr__" = some none) (hbe : subIn K (.ref D) (.type "BaseException") = some true) (ha : findIn K (.ref D) "__class__" = some (some (.builtin "object.__class__")))
    (hn : specialIn K (.builtin "object.__class__") "__get__" = some (some (.builtin "getset_descriptor.__get__"))) (htk : takesIn K (.builtin "object.__class__") = some true) (hm : mroIn K D (.type "object") = some true)
    (X : K.In s.heap) (p : ∃ o, s.heap.get? x = some o ∧ o.cls = .ref D) (h : Q (some (.ref D)) { s with toks := s.toks + 1 }) : wpAny (model prog w) A (getAttr? (.ref x) "__class__") Q E s := by
  obtain ⟨hh, g, d, t, os⟩ := s
  have L0 := oc_look (M := model prog w) p
  have L1 := looks_findIn (M := model prog w) X hga
  have L2 := oc_find (M := model prog w) (x := x) X ha hn htk
  have L3 : Looks (model prog w) hh (hookBefore (.ref D)) none := looks_hook X (by rw [if_pos (show onTheHeap (Value.ref D) = true from rfl)]; exact hgn)
  unfold getAttr? getAttrBy? getAttrBy
  refine wpAny_bind (wpAny_mkText (wpAny_bind (wpAny_attempt (wpAny_holding (wpAny_bind (L0.at (wpAny_bind (L1.at ?_))))))))
  dsimp only
  rw [show (onTheHeap (.ref D) && Value.builtin "BaseException.__getattribute__" == Value.builtin "object.__getattribute__") = false from by rw [show (Value.builtin "BaseException.__getattribute__" == Value.builtin "object.__getattribute__") = false from by decide +kernel, Bool.and_false], if_neg (by decide)]
  unfold getAttrByItsOwn
  refine wpAny_bind (L3.at (wpAny_bind (wpAny_attempt (wpAny_holding ?_))))
  unfold callGetattribute
  rw [show (false && onTheHeap (Value.builtin "BaseException.__getattribute__")) = false from rfl, if_neg (by decide)]
  unfold boundAndCalled
  rw [slot_bga.bind]
  refine wpAny_bind (wpAny_pure ?_)
  show wpAny _ _ (call (.builtin "BaseException.__getattribute__") [.ref x, .str "__class__" t]) _ _ _
  refine wpAny_call (codeAny_call_builtin slot_bga.plain PySem.F.entry_bexc_ga ?_)
  refine @check_slot (model prog w) _ _ ⟨hh, g, d, t + 1, os⟩ "BaseException.__getattribute__" "BaseException" "__getattribute__" (.ref x) [.str "__class__" t] [] _ (by decide +kernel) (by decide +kernel) (L0.andThen (looks_subIn X hbe)) (PySem.F.args_bexc_ga _ _) ?_
  unfold Builtin.«object.__getattribute__»
  refine wpAny_bind (wpAny_pure ?_)
  dsimp only
  refine wpAny_bind (wpAny_pure (wpAny_bind (L0.at (wpAny_bind (L2.at ?_)))))
  show wpAny _ _ (bindTo (.builtin "getset_descriptor.__get__") (.builtin "object.__class__") (.ref x) (.ref D)) _ _ _
  unfold bindTo
  refine wpAny_bind (wpAny_holding (wpAny_call (oc_get (s := ⟨hh, g, d, t + 1, os⟩) X p hm ?_)))
  refine wpAny_pure ?_
  refine handed_on (v := .ref D) rfl ?_
  exact wpAny_pure h
end
theorem kitx_cls (hga : findIn K (.ref D) "__getattribute__" = some (some (.builtin "BaseException.__getattribute__"))) (hgn : findIn K (.ref D) "__getattr__" = some none) (hbe : subIn K (.ref D) (.type "BaseException") = some true) (hc : (clsIn K D).isSome = true) (ha : findIn K (.ref D) "__class__" = some (some (.builtin "object.__class__")))
    (hn : specialIn K (.builtin "object.__class__") "__get__" = some (some (.builtin "getset_descriptor.__get__"))) (htk : takesIn K (.builtin "object.__class__") = some true) (hm : mroIn K D (.type "object") = some true) :
    KitX K (.ref x) (.ref D) (fun h => ∃ o, h.get? x = some o ∧ o.cls = .ref D) where
  ty := fun _ _ _ p => oc_look p
  it := fun _ _ X _ => by
    obtain ⟨cdD, hcD⟩ := Option.isSome_iff_exists.mp hc
    unfold clsIn at hcD
    split at hcD
    · rename_i c' d' cd' sl' ho
      intro A' Q' E' s' k q
      unfold isType loadHead
      exact wpAny_bind (wpAny_loadPart (k _ _ (X _ _ ho)) (wpAny_pure q))
    · cases hcD
  ne := fun h tp dd its n sl X htp => by
    obtain ⟨cdD, hcD⟩ := Option.isSome_iff_exists.mp hc
    refine Bool.eq_false_iff.mpr fun q => ?_
    have e : D = tp := Value.ref.inj (beq_iff_eq.mp q)
    subst e
    unfold clsIn at hcD
    split at hcD
    · rename_i c' d' cd' sl' ho
      have z := (X _ _ ho).symm.trans htp
      cases z
    · cases hcD
  ca := fun X p k => oc_class hga hgn hbe ha hn htk hm X p k
end
/-- what the class of an exception must be for isinstance -/
structure ClsE (K : PySem.W.Frag) (D : Addr) : Prop where
  hg : findIn K (.ref D) "__getattribute__" = some (some (.builtin "BaseException.__getattribute__"))
  gn : findIn K (.ref D) "__getattr__" = some none
  be : subIn K (.ref D) (.type "BaseException") = some true
  hc : (clsIn K D).isSome = true
  ha : findIn K (.ref D) "__class__" = some (some (.builtin "object.__class__"))
  hn : specialIn K (.builtin "object.__class__") "__get__" = some (some (.builtin "getset_descriptor.__get__"))
  ht : takesIn K (.builtin "object.__class__") = some true
  hm : mroIn K D (.type "object") = some true
def rIsiE (K : PySem.W.Frag) : List V → Hp → VK → Prop := fun xs H Q => ∃ ea C D b, xs = [.ref ea, .ref D] ∧ H ea = some (ExO C ea) ∧ ClsE K C ∧ kitOne K (.ref C) (.ref D) = some b ∧ Q (.bl b) H
theorem call_isinstE {X : Cx} : CallR X (.builtin "isinstance") (rIsiE X.K) := by
  intro pins s σ H xs us Q I r h
  obtain ⟨ea, C, D, b, rfl, he, ce, e, q⟩ := h
  obtain ⟨u, v, rfl, ru, rv⟩ := r.two
  cases rv
  cases ru
  exact kia_one (kitx_cls ce.hg ce.gn ce.be ce.hc ce.ha ce.hn ce.ht ce.hm) I.kIn (I.hok _ _ he).1 e (fun z => nomatch z) fun tk => ⟨.bl b, H, I.tok _, rfl, q⟩
end L2
end

section
set_option Elab.async false
set_option linter.all false
set_option maxRecDepth 100000
set_option maxHeartbeats 4000000
namespace L2
open PySem PySem.Spec PySem.Calls PyProof.Rows PySem.W
/-! ### isinstance(e, T), T a built-in class -/
def rIsiV (K : PySem.W.Frag) : List V → Hp → VK → Prop := fun xs H Q => ∃ ea C n b, xs = [.ref ea, .ty n] ∧ H ea = some (ExO C ea) ∧ ClsE K C ∧ kitOne K (.ref C) (.type n) = some b ∧ Q (.bl b) H
theorem call_isinstV {X : Cx} : CallR X (.builtin "isinstance") (rIsiV X.K) := by
  intro pins s σ H xs us Q I r h
  obtain ⟨ea, C, D, b, rfl, he, ce, e, q⟩ := h
  obtain ⟨u, v, rfl, ru, rv⟩ := r.two
  cases rv
  cases ru
  exact kia_one (kitx_cls ce.hg ce.gn ce.be ce.hc ce.ha ce.hn ce.ht ce.hm) I.kIn (I.hok _ _ he).1 e (fun z => nomatch z) fun tk => ⟨.bl b, H, I.tok _, rfl, q⟩
/-! ### an expression within try -/
section
variable {X : Cx} {e : Expr} {pos : Pos}
theorem pxs_expr {te : XK → TE} (he : PX X e te) (hs : swapsWith e none pos.line X.env = pure false := by rfl) : PXs X [.Expr e pos] (fun E => tDrop (te E)) := by
  intro pins s σ H D E xe I h hxx
  exact wpAny_execs_cons (wpAny_Expr_any (thn (he pins s σ H _ E xe I h hxx) fun v s1 ⟨x, H1, I1, r1, q1⟩ => wpAny_execs_nil ⟨σ, H1, I1, q1⟩) I.quiet hs)
/-! ### == of two equal lists -/
def rEqLD (K : PySem.W.Frag) : R2 := fun x y H Q => ∃ d p q xs ys, d ≤ 60 ∧ x = .ref p ∧ y = .ref q ∧ SqL K H p xs ∧ SqL K H q ys ∧ xs.length = ys.length ∧ (∀ (i : Nat) (x y : V), xs[i]? = some x → ys[i]? = some y → EqD K H d x y) ∧ Q (.bl true) H
theorem op_eqLD (hu : X.A.units + 64 < cLine) : OpR X (compareOp .Eq) (rEqLD X.K) := by
  intro pins s σ H x y v u Q I rx ry h
  obtain ⟨d, p, q, xs, ys, hd, rfl, rfl, h1, h2, hl, hi, hq⟩ := h
  cases rx
  cases ry
  obtain ⟨us, r1, p1, z1⟩ := I.list h1
  obtain ⟨ws, r2, p2, z2⟩ := I.list h2
  have l1 := r1.length
  have l2 := r2.length
  refine SeqAt.eq_listAt (e := fun _ => true) p1.isList p2.isList (by rw [List.size_toArray, List.size_toArray]; omega) (by omega) (items_at (pins := pins) (σ := σ) (H := H) (K := X.K) (d := d) r1 r2 hl fun i x y hx hy u v ru rv => eqd_at I (hi i x y hx hy) X.A.in1 (by show X.A.units + 1 + d < cLine; omega) u v ru rv) ?_
  rw [all_true]
  exact ⟨.bl true, H, I, rfl, hq⟩
end
end L2
end

section
set_option Elab.async false
set_option linter.all false
set_option maxRecDepth 100000
set_option maxHeartbeats 4000000
namespace My
open PySem L2
def top (i : Nat) : Stmt := PySem.Challenge.pw_signalwise_k54_runners_apart.main.body.getD i (.Pass ⟨0, 0, 0, 0⟩)
abbrev s_begun_instants : Stmt := top 28
theorem sc_begun_instants : FnScope ["part", "there", "word", "first", "inner"] ["part", "there"] (defScope s_begun_instants) := ⟨rfl, rfl, rfl, by decide +kernel, rfl, by decide +kernel, by decide +kernel⟩
abbrev s_begun_leaf_instants : Stmt := top 30
theorem sc_begun_leaf_instants : FnScope ["part", "sent"] ["part"] (defScope s_begun_leaf_instants) := ⟨rfl, rfl, rfl, by decide +kernel, rfl, by decide +kernel, by decide +kernel⟩
abbrev s_in_turn_instants : Stmt := top 33
theorem sc_in_turn_instants : FnScope ["first", "second"] ["first", "second"] (defScope s_in_turn_instants) := ⟨rfl, rfl, rfl, by decide +kernel, rfl, by decide +kernel, by decide +kernel⟩
abbrev s_side_by_side_instants : Stmt := top 35
theorem sc_side_by_side_instants : FnScope ["first", "second", "code", "left"] ["first", "second"] (defScope s_side_by_side_instants) := ⟨rfl, rfl, rfl, by decide +kernel, rfl, by decide +kernel, by decide +kernel⟩
abbrev s_begun_walking : Stmt := top 40
theorem sc_begun_walking : FnScope ["part", "sure", "known", "word", "first", "inner"] ["part", "sure", "known"] (defScope s_begun_walking) := ⟨rfl, rfl, rfl, by decide +kernel, rfl, by decide +kernel, by decide +kernel⟩
abbrev s_begun_leaf_walking : Stmt := top 42
theorem sc_begun_leaf_walking : FnScope ["part", "sure", "can", "must"] ["part", "sure"] (defScope s_begun_leaf_walking) := ⟨rfl, rfl, rfl, by decide +kernel, rfl, by decide +kernel, by decide +kernel⟩
abbrev s_in_turn_walking : Stmt := top 44
theorem sc_in_turn_walking : FnScope ["first", "second", "going_past", "codes"] ["first", "second"] (defScope s_in_turn_walking) := ⟨rfl, rfl, rfl, by decide +kernel, rfl, by decide +kernel, by decide +kernel⟩
abbrev s_side_by_side_walking : Stmt := top 46
theorem sc_side_by_side_walking : FnScope ["first", "second", "least", "codes"] ["first", "second"] (defScope s_side_by_side_walking) := ⟨rfl, rfl, rfl, by decide +kernel, rfl, by decide +kernel, by decide +kernel⟩
abbrev s_leaf_code : Stmt := top 13
theorem sc_leaf_code : FnScope ["part"] ["part"] (defScope s_leaf_code) := ⟨rfl, rfl, rfl, by decide +kernel, rfl, by decide +kernel, by decide +kernel⟩
abbrev s_code_of_again : Stmt := top 14
theorem sc_code_of_again : FnScope ["code"] ["code"] (defScope s_code_of_again) := ⟨rfl, rfl, rfl, by decide +kernel, rfl, by decide +kernel, by decide +kernel⟩
abbrev s_code_of_trap : Stmt := top 15
theorem sc_code_of_trap : FnScope ["code"] ["code"] (defScope s_code_of_trap) := ⟨rfl, rfl, rfl, by decide +kernel, rfl, by decide +kernel, by decide +kernel⟩
abbrev s_part_to_begin : Stmt := top 20
theorem sc_part_to_begin : FnScope ["part", "state"] ["part", "state"] (defScope s_part_to_begin) := ⟨rfl, rfl, rfl, by decide +kernel, rfl, by decide +kernel, by decide +kernel⟩
abbrev s_body_to_begin : Stmt := top 21
theorem sc_body_to_begin : FnScope ["program", "state", "found"] ["program", "state"] (defScope s_body_to_begin) := ⟨rfl, rfl, rfl, by decide +kernel, rfl, by decide +kernel, by decide +kernel⟩
abbrev s_remaining : Stmt := top 22
theorem sc_remaining : FnScope ["part", "state", "first", "second", "inner"] ["part", "state"] (defScope s_remaining) := ⟨rfl, rfl, rfl, by decide +kernel, rfl, by decide +kernel, by decide +kernel⟩
abbrev s_left_of_pair : Stmt := top 23
theorem sc_left_of_pair : FnScope ["part", "first", "second"] ["part", "first", "second"] (defScope s_left_of_pair) := ⟨rfl, rfl, rfl, by decide +kernel, rfl, by decide +kernel, by decide +kernel⟩
abbrev s_left_of_round : Stmt := top 24
theorem sc_left_of_round : FnScope ["part", "inner", "skipped"] ["part", "inner"] (defScope s_left_of_round) := ⟨rfl, rfl, rfl, by decide +kernel, rfl, by decide +kernel, by decide +kernel⟩
abbrev s_ran : Stmt := top 26
theorem sc_ran : FnScope ["part", "state", "there", "ending"] ["part", "state", "there"] (defScope s_ran) := ⟨rfl, rfl, rfl, by decide +kernel, rfl, by decide +kernel, by decide +kernel⟩
abbrev s_instant : Stmt := top 27
theorem sc_instant : FnScope ["program", "state", "there", "body"] ["program", "state", "there"] (defScope s_instant) := ⟨rfl, rfl, rfl, by decide +kernel, rfl, by decide +kernel, by decide +kernel⟩
abbrev s_rests_left : Stmt := top 32
theorem sc_rests_left : FnScope ["part"] ["part"] (defScope s_rests_left) := ⟨rfl, rfl, rfl, by decide +kernel, rfl, by decide +kernel, by decide +kernel⟩
abbrev s_repeated : Stmt := top 37
theorem sc_repeated : FnScope ["rest", "inner", "left"] ["rest", "inner"] (defScope s_repeated) := ⟨rfl, rfl, rfl, by decide +kernel, rfl, by decide +kernel, by decide +kernel⟩
abbrev s_walked : Stmt := top 39
theorem sc_walked : FnScope ["part", "state", "sure", "known", "ending"] ["part", "state", "sure", "known"] (defScope s_walked) := ⟨rfl, rfl, rfl, by decide +kernel, rfl, by decide +kernel, by decide +kernel⟩
abbrev s_one_of : Stmt := top 48
theorem sc_one_of : FnScope ["first", "second"] ["first", "second"] (defScope s_one_of) := ⟨rfl, rfl, rfl, by decide +kernel, rfl, by decide +kernel, by decide +kernel⟩
abbrev s_recoded : Stmt := top 49
theorem sc_recoded : FnScope ["inner", "codes"] ["inner", "codes"] (defScope s_recoded) := ⟨rfl, rfl, rfl, by decide +kernel, rfl, by decide +kernel, by decide +kernel⟩
abbrev s_rounds : Stmt := top 51
theorem sc_rounds : FnScope ["program", "state", "coming", "body", "known", "told", "changes"] ["program", "state", "coming"] (defScope s_rounds) := ⟨rfl, rfl, rfl, by decide +kernel, rfl, by decide +kernel, by decide +kernel⟩
abbrev s_settled : Stmt := top 52
theorem sc_settled : FnScope ["program", "state", "coming", "known", "changes"] ["program", "state", "coming"] (defScope s_settled) := ⟨rfl, rfl, rfl, by decide +kernel, rfl, by decide +kernel, by decide +kernel⟩
abbrev s_signs_that_are : Stmt := top 53
theorem sc_signs_that_are : FnScope ["value", "known"] ["value", "known"] (defScope s_signs_that_are) := ⟨rfl, rfl, rfl, by decide +kernel, rfl, by decide +kernel, by decide +kernel⟩
abbrev s_known_at_first : Stmt := top 54
theorem sc_known_at_first : FnScope ["program", "coming"] ["program", "coming"] (defScope s_known_at_first) := ⟨rfl, rfl, rfl, by decide +kernel, rfl, by decide +kernel, by decide +kernel⟩
abbrev s_known_behind : Stmt := top 55
theorem sc_known_behind : FnScope ["known", "changes", "behind", "change"] ["known", "changes"] (defScope s_known_behind) := ⟨rfl, rfl, rfl, by decide +kernel, rfl, by decide +kernel, by decide +kernel⟩
abbrev s_changes_by : Stmt := top 56
theorem sc_changes_by : FnScope ["body", "known", "must", "can", "walk", "waiting"] ["body", "known"] (defScope s_changes_by) := ⟨rfl, rfl, rfl, by decide +kernel, rfl, by decide +kernel, by decide +kernel⟩
abbrev s_signs_there : Stmt := top 60
theorem sc_signs_there : FnScope ["known"] ["known"] (defScope s_signs_there) := ⟨rfl, rfl, rfl, by decide +kernel, rfl, by decide +kernel, by decide +kernel⟩
abbrev s__law_mixed : Stmt := top 62
theorem sc__law_mixed : FnScope ["_law_cell"] ["_law_cell"] (defScope s__law_mixed) := ⟨rfl, rfl, rfl, by decide +kernel, rfl, by decide +kernel, by decide +kernel⟩
abbrev s__law_at : Stmt := top 63
theorem sc__law_at : FnScope ["_law_script", "_law_k"] ["_law_script", "_law_k"] (defScope s__law_at) := ⟨rfl, rfl, rfl, by decide +kernel, rfl, by decide +kernel, by decide +kernel⟩
abbrev s__law_leaf : Stmt := top 64
theorem sc__law_leaf : FnScope ["_law_seed", "_law_signs", "_law_lot"] ["_law_seed", "_law_signs"] (defScope s__law_leaf) := ⟨rfl, rfl, rfl, by decide +kernel, rfl, by decide +kernel, by decide +kernel⟩
abbrev s__law_deep : Stmt := top 65
theorem sc__law_deep : FnScope ["_law_part", "_law_inner"] ["_law_part"] (defScope s__law_deep) := ⟨rfl, rfl, rfl, by decide +kernel, rfl, by decide +kernel, by decide +kernel⟩
abbrev s__law_grown : Stmt := top 66
theorem sc__law_grown : FnScope ["_law_stack", "_law_seed", "_law_signs", "_law_lot", "_law_sign", "_law_one", "_law_other"] ["_law_stack", "_law_seed", "_law_signs"] (defScope s__law_grown) := ⟨rfl, rfl, rfl, by decide +kernel, rfl, by decide +kernel, by decide +kernel⟩
abbrev s__law_body : Stmt := top 67
theorem sc__law_body : FnScope ["_law_cells", "_law_signs", "_law_stack", "_law_cell", "_law_seed", "_law_one", "_law_other"] ["_law_cells", "_law_signs"] (defScope s__law_body) := ⟨rfl, rfl, rfl, by decide +kernel, rfl, by decide +kernel, by decide +kernel⟩
abbrev s__law_numbered : Stmt := top 68
theorem sc__law_numbered : FnScope ["_law_part", "_law_k", "_law_word", "_law_one", "_law_other"] ["_law_part", "_law_k"] (defScope s__law_numbered) := ⟨rfl, rfl, rfl, by decide +kernel, rfl, by decide +kernel, by decide +kernel⟩
abbrev s__law_program : Stmt := top 69
theorem sc__law_program : FnScope ["_law_script", "_law_most", "_law_seed", "_law_came", "_law_outs", "_law_signs", "_law_body_here", "_law_many"] ["_law_script", "_law_most"] (defScope s__law_program) := ⟨rfl, rfl, rfl, by decide +kernel, rfl, by decide +kernel, by decide +kernel⟩
abbrev s__law_coming : Stmt := top 70
theorem sc__law_coming : FnScope ["_law_cell", "_law_came", "_law_seed"] ["_law_cell", "_law_came"] (defScope s__law_coming) := ⟨rfl, rfl, rfl, by decide +kernel, rfl, by decide +kernel, by decide +kernel⟩
abbrev s__law_tick : Stmt := top 71
theorem sc__law_tick : FnScope ["_law_runner", "_law_coming_here", "_law_word", "_law_found"] ["_law_runner", "_law_coming_here"] (defScope s__law_tick) := ⟨rfl, rfl, rfl, by decide +kernel, rfl, by decide +kernel, by decide +kernel⟩
abbrev s__law_refused : Stmt := top 72
theorem sc__law_refused : FnScope ["_law_runner", "_law_alone", "e", "_law_others"] ["_law_runner"] (defScope s__law_refused) := ⟨rfl, rfl, rfl, by decide +kernel, rfl, by decide +kernel, by decide +kernel⟩
abbrev s_law : Stmt := top 73
theorem sc_law : FnScope ["_law_script", "_law_program_here", "_law_rests", "_law_first", "_law_second", "_law_stuck", "_law_rows", "_law_held", "_law_copies", "_law_cell", "_law_coming_here", "_law_found", "_law_state", "_law_k", "_law_word"] ["_law_script"] (defScope s_law) := ⟨rfl, rfl, rfl, by decide +kernel, rfl, by decide +kernel, by decide +kernel⟩
abbrev s_Runner : Stmt := top 58
abbrev s_Walker : Stmt := top 59
structure Txt (mg : Str → Option Value) : Prop where
  n_ValueError : mg "ValueError" = none
  n_enumerate : mg "enumerate" = none
  n_int : mg "int" = none
  n_isinstance : mg "isinstance" = none
  n_len : mg "len" = none
  n_list : mg "list" = none
  n_max : mg "max" = none
  n_min : mg "min" = none
  n_range : mg "range" = none
  n_set : mg "set" = none
  n_sorted : mg "sorted" = none
  n_tuple : mg "tuple" = none
/-! ### plain parts, what remains of them, and what they do -/
inductive Pt where
  | nothing
  | rest (k : Int)
  | send (s : Int)
  | exit (d : Int)
  | stay (ks : List Int)
  | iff (s : Int) (p q : Pt)
  | again (k : Int) (p : Pt)
  | hold (s : Int) (p : Pt)
  | watch (s : Int) (p : Pt)
  | trap (p : Pt)
  | thn (p q : Pt)
  | bes (p q : Pt)
def Pt.nd : Pt → Nd
  | .nothing => .t [.s "nothing"]
  | .rest k => .t [.s "rest", .i k]
  | .send s => .t [.s "send", .i s]
  | .exit d => .t [.s "exit", .i d]
  | .stay ks => .t [.s "stay", .t (ks.map Nd.i)]
  | .iff s p q => .t [.s "if", .i s, p.nd, q.nd]
  | .again k p => .t [.s "again", .i k, p.nd]
  | .hold s p => .t [.s "hold", .i s, p.nd]
  | .watch s p => .t [.s "watch", .i s, p.nd]
  | .trap p => .t [.s "trap", p.nd]
  | .thn p q => .t [.s "then", p.nd, q.nd]
  | .bes p q => .t [.s "beside", p.nd, q.nd]
def Pt.hg : Pt → Nat
  | .iff _ p q => max p.hg q.hg + 1
  | .thn p q => max p.hg q.hg + 1
  | .bes p q => max p.hg q.hg + 1
  | .again _ p => p.hg + 1
  | .hold _ p => p.hg + 1
  | .watch _ p => p.hg + 1
  | .trap p => p.hg + 1
  | _ => 1
/-- rests and agains -/
def Pt.rc : Pt → Nat
  | .rest _ => 1
  | .stay ks => ks.length
  | .iff _ p q => p.rc + q.rc
  | .thn p q => p.rc + q.rc
  | .bes p q => p.rc + q.rc
  | .again _ p => p.rc + 1
  | .hold _ p => p.rc
  | .watch _ p => p.rc
  | .trap p => p.rc
  | _ => 0
/-- sends -/
def Pt.sc : Pt → Nat
  | .send _ => 1
  | .iff _ p q => p.sc + q.sc
  | .thn p q => p.sc + q.sc
  | .bes p q => p.sc + q.sc
  | .again _ p => p.sc
  | .hold _ p => p.sc
  | .watch _ p => p.sc
  | .trap p => p.sc
  | _ => 0
/-- rests left at most -/
def Pt.lc : Pt → Nat
  | .rest _ => 1
  | .stay ks => ks.length
  | .iff _ p q => max p.lc q.lc
  | .thn p q => max p.lc q.lc
  | .bes p q => p.lc + q.lc
  | .again _ p => max 1 p.lc
  | .hold _ p => p.lc
  | .watch _ p => p.lc
  | .trap p => p.lc
  | _ => 0
def lp (p : Pt) (a b : List Int × Pt) : Pt :=
  match p with
  | .thn _ q => if b.1 = [] then .thn a.2 q else b.2
  | .bes _ _ => if ¬ a.1 = [] ∧ ¬ b.1 = [] then .bes a.2 b.2 else if ¬ a.1 = [] then a.2 else if ¬ b.1 = [] then b.2 else p
  | _ => if ¬ a.1 = [] then a.2 else if ¬ b.1 = [] then b.2 else p
def lr (p : Pt) (a : List Int × Pt) : Pt :=
  if a.1 = [] then p else
  match p with
  | .again k _ => .again k a.2
  | .trap _ => .trap a.2
  | .hold s _ => .iff s (.stay a.1) a.2
  | .watch s _ => .iff s .nothing a.2
  | _ => p
def rem (st : List Int) : Pt → List Int × Pt
  | .iff s p q => ((rem st p).1 ++ (rem st q).1, lp (.iff s p q) (rem st p) (rem st q))
  | .thn p q => ((rem st p).1 ++ (rem st q).1, lp (.thn p q) (rem st p) (rem st q))
  | .bes p q => ((rem st p).1 ++ (rem st q).1, lp (.bes p q) (rem st p) (rem st q))
  | .again k p => if k ∈ st then ([k] ++ (rem st p).1, .again k p) else ((rem st p).1, lr (.again k p) (rem st p))
  | .hold s p => ((rem st p).1, lr (.hold s p) (rem st p))
  | .watch s p => ((rem st p).1, lr (.watch s p) (rem st p))
  | .trap p => ((rem st p).1, lr (.trap p) (rem st p))
  | .rest k => if k ∈ st then ([k], .nothing) else ([], .rest k)
  | p => ([], p)
def trapC (c : Int) : Int := if c = 2 then 0 else if 2 < c then c - 1 else c
def agC (c : Int) : Int := if c = 0 then 1 else c
abbrev Dd := Int × List Int × List Int
def turnD (a b : Dd) : Dd := (b.1, a.2.1 ++ b.2.1, b.2.2)
def sideD (a b : Dd) : Dd := (if b.1 > a.1 then b.1 else a.1, a.2.1 ++ b.2.1, if (if b.1 > a.1 then b.1 else a.1) = 1 then a.2.2 ++ b.2.2 else [])
def repD (k : Int) (a : Dd) : Dd := (agC a.1, a.2.1, if a.1 = 0 then [k] else a.2.2)
def beg (th : List Int) : Pt → Dd
  | .thn p q => if (beg th p).1 = 0 then turnD (beg th p) (beg th q) else beg th p
  | .bes p q => sideD (beg th p) (beg th q)
  | .iff s p q => if s ∈ th then beg th p else beg th q
  | .again k p => repD k (beg th p)
  | .hold _ p => beg th p
  | .watch _ p => beg th p
  | .trap p => (trapC (beg th p).1, (beg th p).2.1, (beg th p).2.2)
  | .nothing => (0, [], [])
  | .send s => (0, [s], [])
  | .exit d => (2 + d, [], [])
  | .rest k => (1, [], [k])
  | .stay ks => (1, [], ks)
theorem Pt.hg_pos (p : Pt) : 1 ≤ p.hg := by cases p <;> exact Nat.le_add_left 1 _
theorem rem_len (st : List Int) (p : Pt) : (rem st p).1.length ≤ p.rc := by
  induction p with
  | nothing => exact Nat.le_refl _
  | rest k => simp only [rem]; split; exact Nat.le_refl _; exact Nat.zero_le _
  | send s => exact Nat.le_refl _
  | exit d => exact Nat.le_refl _
  | stay ks => exact Nat.zero_le _
  | iff s p q ih1 ih2 => simp only [rem, List.length_append]; exact Nat.add_le_add ih1 ih2
  | thn p q ih1 ih2 => simp only [rem, List.length_append]; exact Nat.add_le_add ih1 ih2
  | bes p q ih1 ih2 => simp only [rem, List.length_append]; exact Nat.add_le_add ih1 ih2
  | again k p ih =>
    simp only [rem]
    split
    · rw [List.length_append, Nat.add_comm]; exact Nat.succ_le_succ ih
    · exact Nat.le_trans ih (Nat.le_succ _)
  | hold s p ih => exact ih
  | watch s p ih => exact ih
  | trap p ih => exact ih
theorem Pt.lc_rc (p : Pt) : p.lc ≤ p.rc := by
  induction p with
  | iff s p q h1 h2 => exact Nat.max_le.mpr ⟨Nat.le_trans h1 (Nat.le_add_right _ _), Nat.le_trans h2 (Nat.le_add_left _ _)⟩
  | thn p q h1 h2 => exact Nat.max_le.mpr ⟨Nat.le_trans h1 (Nat.le_add_right _ _), Nat.le_trans h2 (Nat.le_add_left _ _)⟩
  | bes p q h1 h2 => exact Nat.add_le_add h1 h2
  | again k p h => exact Nat.max_le.mpr ⟨Nat.le_add_left _ _, Nat.le_trans h (Nat.le_succ _)⟩
  | hold s p h => exact h
  | watch s p h => exact h
  | trap p h => exact h
  | _ => exact Nat.le_refl _
theorem beg_len (th : List Int) (p : Pt) : (beg th p).2.1.length ≤ p.sc ∧ (beg th p).2.2.length ≤ p.lc := by
  induction p with
  | nothing => exact ⟨Nat.le_refl _, Nat.le_refl _⟩
  | rest k => exact ⟨Nat.le_refl _, Nat.le_refl _⟩
  | send s => exact ⟨Nat.le_refl _, Nat.le_refl _⟩
  | exit d => exact ⟨Nat.le_refl _, Nat.le_refl _⟩
  | stay ks => exact ⟨Nat.le_refl _, Nat.le_refl _⟩
  | iff s p q ih1 ih2 =>
    simp only [beg]
    split
    · exact ⟨Nat.le_trans ih1.1 (Nat.le_add_right _ _), Nat.le_trans ih1.2 (Nat.le_max_left _ _)⟩
    · exact ⟨Nat.le_trans ih2.1 (Nat.le_add_left _ _), Nat.le_trans ih2.2 (Nat.le_max_right _ _)⟩
  | thn p q ih1 ih2 =>
    simp only [beg]
    split
    · simp only [turnD, List.length_append]
      exact ⟨Nat.add_le_add ih1.1 ih2.1, Nat.le_trans ih2.2 (Nat.le_max_right _ _)⟩
    · exact ⟨Nat.le_trans ih1.1 (Nat.le_add_right _ _), Nat.le_trans ih1.2 (Nat.le_max_left _ _)⟩
  | bes p q ih1 ih2 =>
    simp only [beg, sideD, List.length_append]
    refine ⟨Nat.add_le_add ih1.1 ih2.1, ?_⟩
    generalize (if (beg th q).1 > (beg th p).1 then (beg th q).1 else (beg th p).1) = c
    split
    · rw [List.length_append]; exact Nat.add_le_add ih1.2 ih2.2
    · exact Nat.zero_le _
  | again k p ih =>
    simp only [beg, repD]
    refine ⟨ih.1, ?_⟩
    split
    · exact Nat.le_max_left _ _
    · exact Nat.le_trans ih.2 (Nat.le_max_right _ _)
  | hold s p ih => exact ih
  | watch s p ih => exact ih
  | trap p ih => exact ih
theorem lp_le {f : Pt → Nat} {p : Pt} {a b : List Int × Pt} {n : Nat} (h0 : f p ≤ n) (ha : f a.2 ≤ n) (hb : f b.2 ≤ n) (ht : ∀ q r, p = .thn q r → f (.thn a.2 r) ≤ n) (hs : ∀ q r, p = .bes q r → f (.bes a.2 b.2) ≤ n) : f (lp p a b) ≤ n := by
  unfold lp
  split
  · split
    · exact ht _ _ rfl
    · exact hb
  · split
    · exact hs _ _ rfl
    · split
      · exact ha
      · split
        · exact hb
        · exact h0
  · split
    · exact ha
    · split
      · exact hb
      · exact h0
theorem rem_sc (st : List Int) (p : Pt) : (rem st p).2.sc ≤ p.sc := by
  induction p with
  | nothing => exact Nat.le_refl _
  | rest k => simp only [rem]; split <;> exact Nat.le_refl _
  | send s => exact Nat.le_refl _
  | exit d => exact Nat.le_refl _
  | stay ks => exact Nat.le_refl _
  | iff s p q ih1 ih2 => exact lp_le (f := Pt.sc) (p := .iff s p q) (a := rem st p) (b := rem st q) (n := Pt.sc (.iff s p q)) (Nat.le_refl _) (Nat.le_trans ih1 (Nat.le_add_right _ _)) (Nat.le_trans ih2 (Nat.le_add_left _ _)) (fun _ _ e => nomatch e) (fun _ _ e => nomatch e)
  | thn p q ih1 ih2 => exact lp_le (f := Pt.sc) (p := .thn p q) (a := rem st p) (b := rem st q) (n := Pt.sc (.thn p q)) (Nat.le_refl _) (Nat.le_trans ih1 (Nat.le_add_right _ _)) (Nat.le_trans ih2 (Nat.le_add_left _ _)) (fun _ _ e => by cases e; exact Nat.add_le_add_right ih1 _) (fun _ _ e => nomatch e)
  | bes p q ih1 ih2 => exact lp_le (f := Pt.sc) (p := .bes p q) (a := rem st p) (b := rem st q) (n := Pt.sc (.bes p q)) (Nat.le_refl _) (Nat.le_trans ih1 (Nat.le_add_right _ _)) (Nat.le_trans ih2 (Nat.le_add_left _ _)) (fun _ _ e => nomatch e) (fun _ _ e => by cases e; exact Nat.add_le_add ih1 ih2)
  | again k p ih =>
    simp only [rem]
    split
    · exact Nat.le_refl _
    · unfold lr; split
      · exact Nat.le_refl _
      · exact ih
  | hold s p ih => simp only [rem]; unfold lr; split; exact Nat.le_refl _; exact Nat.le_trans (Nat.le_of_eq (Nat.zero_add _)) ih
  | watch s p ih => simp only [rem]; unfold lr; split; exact Nat.le_refl _; exact Nat.le_trans (Nat.le_of_eq (Nat.zero_add _)) ih
  | trap p ih => simp only [rem]; unfold lr; split; exact Nat.le_refl _; exact ih
theorem rem_lc (st : List Int) (p : Pt) : (rem st p).2.lc ≤ p.rc := by
  induction p with
  | nothing => exact Nat.le_refl _
  | rest k => simp only [rem]; split; exact Nat.zero_le _; exact Nat.le_refl _
  | send s => exact Nat.le_refl _
  | exit d => exact Nat.le_refl _
  | stay ks => exact Nat.le_refl _
  | iff s p q ih1 ih2 => exact lp_le (f := Pt.lc) (p := .iff s p q) (a := rem st p) (b := rem st q) (n := Pt.rc (.iff s p q)) (Pt.lc_rc _) (Nat.le_trans ih1 (Nat.le_add_right _ _)) (Nat.le_trans ih2 (Nat.le_add_left _ _)) (fun _ _ e => nomatch e) (fun _ _ e => nomatch e)
  | thn p q ih1 ih2 => exact lp_le (f := Pt.lc) (p := .thn p q) (a := rem st p) (b := rem st q) (n := Pt.rc (.thn p q)) (Pt.lc_rc _) (Nat.le_trans ih1 (Nat.le_add_right _ _)) (Nat.le_trans ih2 (Nat.le_add_left _ _)) (fun _ _ e => by cases e; exact Nat.max_le.mpr ⟨Nat.le_trans ih1 (Nat.le_add_right _ _), Nat.le_trans (Pt.lc_rc q) (Nat.le_add_left _ _)⟩) (fun _ _ e => nomatch e)
  | bes p q ih1 ih2 => exact lp_le (f := Pt.lc) (p := .bes p q) (a := rem st p) (b := rem st q) (n := Pt.rc (.bes p q)) (Pt.lc_rc _) (Nat.le_trans ih1 (Nat.le_add_right _ _)) (Nat.le_trans ih2 (Nat.le_add_left _ _)) (fun _ _ e => nomatch e) (fun _ _ e => by cases e; exact Nat.add_le_add ih1 ih2)
  | again k p ih =>
    simp only [rem]
    split
    · exact Pt.lc_rc _
    · unfold lr; split
      · exact Pt.lc_rc _
      · exact Nat.max_le.mpr ⟨Nat.le_add_left _ _, Nat.le_trans ih (Nat.le_succ _)⟩
  | hold s p ih => simp only [rem]; unfold lr; split; exact Pt.lc_rc p; exact Nat.max_le.mpr ⟨rem_len st p, ih⟩
  | watch s p ih => simp only [rem]; unfold lr; split; exact Pt.lc_rc p; exact Nat.max_le.mpr ⟨Nat.zero_le _, ih⟩
  | trap p ih => simp only [rem]; unfold lr; split; exact Pt.lc_rc p; exact ih
theorem rem_hg (st : List Int) (p : Pt) : (rem st p).2.hg ≤ p.hg := by
  induction p with
  | nothing => exact Nat.le_refl _
  | rest k => simp only [rem]; split <;> exact Nat.le_refl _
  | send s => exact Nat.le_refl _
  | exit d => exact Nat.le_refl _
  | stay ks => exact Nat.le_refl _
  | iff s p q ih1 ih2 => exact lp_le (f := Pt.hg) (p := .iff s p q) (a := rem st p) (b := rem st q) (n := Pt.hg (.iff s p q)) (Nat.le_refl _) (Nat.le_trans ih1 (Nat.le_trans (Nat.le_max_left _ _) (Nat.le_succ _))) (Nat.le_trans ih2 (Nat.le_trans (Nat.le_max_right _ _) (Nat.le_succ _))) (fun _ _ e => nomatch e) (fun _ _ e => nomatch e)
  | thn p q ih1 ih2 => exact lp_le (f := Pt.hg) (p := .thn p q) (a := rem st p) (b := rem st q) (n := Pt.hg (.thn p q)) (Nat.le_refl _) (Nat.le_trans ih1 (Nat.le_trans (Nat.le_max_left _ _) (Nat.le_succ _))) (Nat.le_trans ih2 (Nat.le_trans (Nat.le_max_right _ _) (Nat.le_succ _))) (fun _ _ e => by cases e; exact Nat.succ_le_succ (Nat.max_le.mpr ⟨Nat.le_trans ih1 (Nat.le_max_left _ _), Nat.le_max_right _ _⟩)) (fun _ _ e => nomatch e)
  | bes p q ih1 ih2 => exact lp_le (f := Pt.hg) (p := .bes p q) (a := rem st p) (b := rem st q) (n := Pt.hg (.bes p q)) (Nat.le_refl _) (Nat.le_trans ih1 (Nat.le_trans (Nat.le_max_left _ _) (Nat.le_succ _))) (Nat.le_trans ih2 (Nat.le_trans (Nat.le_max_right _ _) (Nat.le_succ _))) (fun _ _ e => nomatch e) (fun _ _ e => by cases e; exact Nat.succ_le_succ (Nat.max_le.mpr ⟨Nat.le_trans ih1 (Nat.le_max_left _ _), Nat.le_trans ih2 (Nat.le_max_right _ _)⟩))
  | again k p ih =>
    simp only [rem]
    split
    · exact Nat.le_refl _
    · unfold lr; split
      · exact Nat.le_refl _
      · exact Nat.succ_le_succ ih
  | hold s p ih => simp only [rem]; unfold lr; split; exact Nat.le_refl _; exact Nat.succ_le_succ (Nat.max_le.mpr ⟨Pt.hg_pos p, ih⟩)
  | watch s p ih => simp only [rem]; unfold lr; split; exact Nat.le_refl _; exact Nat.succ_le_succ (Nat.max_le.mpr ⟨Pt.hg_pos p, ih⟩)
  | trap p ih => simp only [rem]; unfold lr; split; exact Nat.le_refl _; exact Nat.succ_le_succ ih
/-- what ran tells: sent each once and rising, left rising -/
def sortI (l : List Int) : List Int := l.mergeSort (fun a b => decide (a ≤ b))
theorem sortI_perm (l : List Int) : (sortI l).Perm l := List.mergeSort_perm l _
theorem sortI_rise (l : List Int) : (sortI l).Pairwise (· ≤ ·) := by
  have := List.pairwise_mergeSort (le := fun a b : Int => decide (a ≤ b)) (fun a b c h1 h2 => by simp at *; omega) (fun a b => by simp; omega) l
  exact this.imp fun {a b} h => by simpa using h
theorem perm_ext {a b : List Int} (p : a.Perm b) (ha : a.Pairwise (· ≤ ·)) (hb : b.Pairwise (· ≤ ·)) : a = b := by
  induction a generalizing b with
  | nil => exact p.nil_eq.symm ▸ rfl
  | cons x a ih =>
    cases b with
    | nil => exact absurd p.length_eq (by simp)
    | cons y b =>
      have ha' := List.pairwise_cons.mp ha
      have hb' := List.pairwise_cons.mp hb
      have e : x = y := by
        have h1 : x ≤ y := by
          rcases List.mem_cons.mp (p.mem_iff.mpr (List.mem_cons_self (a := y) (l := b))) with z | z
          · omega
          · exact ha'.1 y z
        have h2 : y ≤ x := by
          rcases List.mem_cons.mp (p.mem_iff.mp (List.mem_cons_self (a := x) (l := a))) with z | z
          · omega
          · exact hb'.1 x z
        omega
      subst e
      congr 1
      exact ih (List.Perm.cons_inv p) ha'.2 hb'.2
theorem sortI_eq {l ms : List Int} (p : ms.Perm l) (h : ms.Pairwise (· ≤ ·)) : ms = sortI l := perm_ext (p.trans (sortI_perm l).symm) h (sortI_rise l)
def pb (p : Pt) : Option (List Int) → Pt
  | none => p
  | some st => (rem st p).2
def ranD (p : Pt) (st : Option (List Int)) (th : List Int) : Dd := ((beg th (pb p st)).1, nub (beg th (pb p st)).2.1, sortI (beg th (pb p st)).2.2)

end My
end

section
set_option Elab.async false
set_option linter.all false
set_option maxRecDepth 100000
set_option maxHeartbeats 4000000
namespace My
open PySem L2
theorem iteE {l : List Int} {A B : Prop} (h1 : ¬ l = [] → A) (h2 : l = [] → B) : if (!(l.map V.int).isEmpty) = true then A else B := by
  cases l with
  | nil => exact h2 rfl
  | cons x r => exact h1 (by simp)
theorem iteI {i j : Int} {A B : Prop} (h1 : i = j → A) (h2 : ¬ i = j → B) : if decide (V.int i = V.int j) = true then A else B := by
  by_cases c : i = j
  · rw [decide_eq_true (congrArg V.int c), if_pos rfl]; exact h1 c
  · rw [decide_eq_false (fun z => c (V.int.inj z)), if_neg Bool.false_ne_true]; exact h2 c
theorem iteM {k : Int} {l : List Int} {A B : Prop} (h1 : k ∈ l → A) (h2 : ¬ k ∈ l → B) : if (if false = true then !inV (V.int k) (l.map V.int) else inV (V.int k) (l.map V.int)) = true then A else B := by
  rw [if_neg Bool.false_ne_true, inV_ints]
  by_cases c : k ∈ l
  · rw [decide_eq_true c, if_pos rfl]; exact h1 c
  · rw [decide_eq_false c, if_neg Bool.false_ne_true]; exact h2 c
theorem iteW {x y : Str} {A B : Prop} (h1 : x = y → A) (h2 : ¬ x = y → B) : if decide (V.str x = V.str y) = true then A else B := by
  by_cases c : x = y
  · subst c; exact iteEq (h1 rfl)
  · exact iteNe c (h2 c)
theorem iteB {b : Bool} {A B : Prop} (h1 : b = true → A) (h2 : b = false → B) : if b = true then A else B := by
  cases b with
  | true => rw [if_pos rfl]; exact h1 rfl
  | false => rw [if_neg Bool.false_ne_true]; exact h2 rfl
def wdP : Pt → Str
  | .nothing => "nothing"
  | .rest _ => "rest"
  | .send _ => "send"
  | .exit _ => "exit"
  | .stay _ => "stay"
  | .iff _ _ _ => "if"
  | .again _ _ => "again"
  | .hold _ _ => "hold"
  | .watch _ _ => "watch"
  | .trap _ => "trap"
  | .thn _ _ => "then"
  | .bes _ _ => "beside"
theorem nd_wd (p : Pt) : ∃ r, Pt.nd p = .t (.s (wdP p) :: r) := by cases p <;> exact ⟨_, rfl⟩
theorem wd_at {K : PySem.W.Frag} {H : Hp} {p : Pt} {v : V} (h : PAt K H (Pt.nd p) v) : ∃ a vs, v = .ref a ∧ TupAt K H a (.str (wdP p) :: vs) := by
  obtain ⟨r, e⟩ := nd_wd p
  rw [e] at h
  obtain ⟨a, vs, rfl, hs, hx⟩ := PAt.get h
  unfold PAtL at hx
  obtain ⟨v, r', rfl, q, l⟩ := hx
  cases q.str
  exact ⟨a, r', rfl, hs⟩
theorem wd_thn {p : Pt} (e : wdP p = "then") : ∃ p1 p2, p = .thn p1 p2 := by cases p <;> first | exact ⟨_, _, rfl⟩ | (dsimp only [wdP] at e; exact absurd e (by decide +kernel))
theorem wd_bes {p : Pt} (e : wdP p = "beside") : ∃ p1 p2, p = .bes p1 p2 := by cases p <;> first | exact ⟨_, _, rfl⟩ | (dsimp only [wdP] at e; exact absurd e (by decide +kernel))
theorem wd_iff {p : Pt} (e : wdP p = "if") : ∃ x p1 p2, p = .iff x p1 p2 := by cases p <;> first | exact ⟨_, _, _, rfl⟩ | (dsimp only [wdP] at e; exact absurd e (by decide +kernel))
theorem wd_again {p : Pt} (e : wdP p = "again") : ∃ k p1, p = .again k p1 := by cases p <;> first | exact ⟨_, _, rfl⟩ | (dsimp only [wdP] at e; exact absurd e (by decide +kernel))
theorem wd_hold {p : Pt} (e : wdP p = "hold") : ∃ x p1, p = .hold x p1 := by cases p <;> first | exact ⟨_, _, rfl⟩ | (dsimp only [wdP] at e; exact absurd e (by decide +kernel))
theorem wd_watch {p : Pt} (e : wdP p = "watch") : ∃ x p1, p = .watch x p1 := by cases p <;> first | exact ⟨_, _, rfl⟩ | (dsimp only [wdP] at e; exact absurd e (by decide +kernel))
theorem wd_trap {p : Pt} (e : wdP p = "trap") : ∃ p1, p = .trap p1 := by cases p <;> first | exact ⟨_, rfl⟩ | (dsimp only [wdP] at e; exact absurd e (by decide +kernel))
theorem wd_exit {p : Pt} (e : wdP p = "exit") : ∃ k, p = .exit k := by cases p <;> first | exact ⟨_, rfl⟩ | (dsimp only [wdP] at e; exact absurd e (by decide +kernel))
theorem wd_send {p : Pt} (e : wdP p = "send") : ∃ k, p = .send k := by cases p <;> first | exact ⟨_, rfl⟩ | (dsimp only [wdP] at e; exact absurd e (by decide +kernel))
theorem wd_stay {p : Pt} (e : wdP p = "stay") : ∃ k, p = .stay k := by cases p <;> first | exact ⟨_, rfl⟩ | (dsimp only [wdP] at e; exact absurd e (by decide +kernel))
theorem wd_rest {p : Pt} (e : wdP p = "rest") : ∃ k, p = .rest k := by cases p <;> first | exact ⟨_, rfl⟩ | (dsimp only [wdP] at e; exact absurd e (by decide +kernel))
theorem snoc_le {α : Type} {l : List α} {x : α} {j : Nat} (h : l.length ≤ j) : (l ++ [x]).length ≤ j + 1 := by rw [List.length_append, List.length_singleton]; exact Nat.succ_le_succ h
theorem lt9 {n : Nat} (h : n < 64) : n ≤ 900 := Nat.le_trans (Nat.le_of_lt h) (by decide)
theorem leKn {n k : Nat} (h : n ≤ k) (z : k ≤ 1000) : n ≤ 1000 := Nat.le_trans h z
theorem le2K {a b k l : Nat} (h1 : a ≤ k) (h2 : b ≤ l) (z : k + l ≤ 1000) : a + b ≤ 1000 := Nat.le_trans (Nat.add_le_add h1 h2) z
theorem le2L {a b k l : Nat} (h1 : a ≤ k) (h2 : b ≤ l) (z : k + l < 64) : a + b < 64 := Nat.lt_of_le_of_lt (Nat.add_le_add h1 h2) z
theorem tn_lt {s : Int} {n : Nat} (h : 0 ≤ s ∧ s < n) : s.toNat < n := (Int.toNat_lt h.1).mpr h.2
theorem hgl {a b n : Nat} (h : max a b + 1 ≤ n + 1) : a ≤ n := Nat.le_trans (Nat.le_max_left _ _) (Nat.le_of_succ_le_succ h)
theorem hgr {a b n : Nat} (h : max a b + 1 ≤ n + 1) : b ≤ n := Nat.le_trans (Nat.le_max_right _ _) (Nat.le_of_succ_le_succ h)
theorem adl {a b n : Nat} (h : a + b ≤ n) : a ≤ n := Nat.le_trans (Nat.le_add_right _ _) h
theorem adr {a b n : Nat} (h : a + b ≤ n) : b ≤ n := Nat.le_trans (Nat.le_add_left _ _) h
theorem mxl {a b n : Nat} (h : max a b ≤ n) : a ≤ n := Nat.le_trans (Nat.le_max_left _ _) h
theorem mxr {a b n : Nat} (h : max a b ≤ n) : b ≤ n := Nat.le_trans (Nat.le_max_right _ _) h
structure TxtR (K : PySem.W.Frag) (mg : Str → Option Value) (aN aP aR : Addr) (uE uR uL : Value) : Prop extends Txt mg where
  m_ENDED : mg "ENDED" = some uE
  r_ENDED : RelV (.int 0) uE
  m_RESTS : mg "RESTS" = some uR
  r_RESTS : RelV (.int 1) uR
  m_LEAVES : mg "LEAVES" = some uL
  r_LEAVES : RelV (.int 2) uL
  m_NOTHING : mg "NOTHING" = some (.ref aN)
  r_NOTHING : RelV (.ref aN) (Value.ref aN)
  mN : ModT K aN [V.str "nothing"]
  m_PAIRS : mg "PAIRS" = some (.ref aP)
  r_PAIRS : RelV (.ref aP) (Value.ref aP)
  mP : ModT K aP [V.str "then", V.str "if", V.str "beside"]
  m_ROUND : mg "ROUND" = some (.ref aR)
  r_ROUND : RelV (.ref aR) (Value.ref aR)
  mR : ModT K aR [V.str "again", V.str "hold", V.str "watch", V.str "trap"]
def RemAt (K : PySem.W.Frag) (H : Hp) (t : Addr) (r : List Int × Pt) : Prop := ∃ l v, H t = some (.tup [.ref l, v]) ∧ H l = some (.lst (r.1.map V.int)) ∧ PAt K H r.2.nd v
theorem RemAt.mono {K : PySem.W.Frag} {H H' : Hp} (g : Same H H') {t : Addr} {r : List Int × Pt} (h : RemAt K H t r) : RemAt K H' t r := by
  obtain ⟨l, v, h1, h2, h3⟩ := h
  exact ⟨l, v, g _ _ h1, g _ _ h2, h3.mono g.tp⟩
theorem patL_ints {K : PySem.W.Frag} {H : Hp} : ∀ (l : List Int), PAtL K H (l.map Nd.i) (l.map V.int)
  | [] => .nil
  | x :: r => .cons .i (patL_ints r)
theorem patL_int {K : PySem.W.Frag} {H : Hp} : ∀ {l : List Int} {vs : List V}, PAtL K H (l.map Nd.i) vs → vs = l.map V.int
  | [], vs, h => by unfold PAtL at h; exact h
  | x :: r, vs, h => by
    have h : PAtL K H (.i x :: r.map Nd.i) vs := h
    unfold PAtL at h
    obtain ⟨v, r', rfl, q, l⟩ := h
    cases q.int
    rw [patL_int l]; rfl
def isLf : Pt → Bool
  | .nothing => true
  | .rest _ => true
  | .send _ => true
  | .exit _ => true
  | .stay _ => true
  | _ => false
def isPr : Pt → Bool
  | .iff _ _ _ => true
  | .thn _ _ => true
  | .bes _ _ => true
  | _ => false
def isRd : Pt → Bool
  | .again _ _ => true
  | .hold _ _ => true
  | .watch _ _ => true
  | .trap _ => true
  | _ => false
theorem wd_leaf {p : Pt} (n1 : ¬ wdP p = "then") (n2 : ¬ wdP p = "beside") (n3 : ¬ wdP p = "if") (n4 : ¬ wdP p = "again") (n5 : ¬ wdP p = "hold") (n6 : ¬ wdP p = "watch") (n7 : ¬ wdP p = "trap") : isLf p = true := by
  cases p <;> first | rfl | exact absurd rfl n1 | exact absurd rfl n2 | exact absurd rfl n3 | exact absurd rfl n4 | exact absurd rfl n5 | exact absurd rfl n6 | exact absurd rfl n7
theorem in_pr {p : Pt} {A B : Prop} (h1 : isPr p = true → A) (h2 : isPr p = false → B) : if (if false = true then !inV (V.str (wdP p)) [V.str "then", V.str "if", V.str "beside"] else inV (V.str (wdP p)) [V.str "then", V.str "if", V.str "beside"]) = true then A else B := by
  rw [show (if false = true then !inV (V.str (wdP p)) [V.str "then", V.str "if", V.str "beside"] else inV (V.str (wdP p)) [V.str "then", V.str "if", V.str "beside"]) = isPr p from by cases p <;> (dsimp only [wdP, isPr]; decide +kernel)]
  exact iteB h1 h2
theorem in_rd {p : Pt} {A B : Prop} (h1 : isRd p = true → A) (h2 : isRd p = false → B) : if (if false = true then !inV (V.str (wdP p)) [V.str "again", V.str "hold", V.str "watch", V.str "trap"] else inV (V.str (wdP p)) [V.str "again", V.str "hold", V.str "watch", V.str "trap"]) = true then A else B := by
  rw [show (if false = true then !inV (V.str (wdP p)) [V.str "again", V.str "hold", V.str "watch", V.str "trap"] else inV (V.str (wdP p)) [V.str "again", V.str "hold", V.str "watch", V.str "trap"]) = isRd p from by cases p <;> (dsimp only [wdP, isRd]; decide +kernel)]
  exact iteB h1 h2
/-- a pair, by its last two items -/
inductive PrV (K : PySem.W.Frag) (H : Hp) (p : Pt) (v : V) (n : Nat) : Prop
  | mk (a : Addr) (vs : List V) (x1 x2 : V) (p1 p2 : Pt) (e : v = .ref a) (hs : TupAt K H a vs) (i1 : atI vs (-2) = some x1) (i2 : atI vs (-1) = some x2) (h1 : PAt K H (Pt.nd p1) x1) (h2 : PAt K H (Pt.nd p2) x2) (c1 : p1.hg ≤ n) (c2 : p2.hg ≤ n) (hc : p1.rc + p2.rc ≤ 900) (er : ∀ ns, rem ns p = ((rem ns p1).1 ++ (rem ns p2).1, lp p (rem ns p1) (rem ns p2))) : PrV K H p v n
theorem pat_pr {K : PySem.W.Frag} {H : Hp} {p : Pt} {v : V} {n : Nat} (h : PAt K H (Pt.nd p) v) (z : isPr p = true) (hh : p.hg ≤ n + 1) (hc : p.rc ≤ 900) : PrV K H p v n := by
  cases p with
  | thn p1 p2 =>
    obtain ⟨a, vs, rfl, hs, hx⟩ := PAt.get h
    obtain ⟨x0, x1, x2, rfl, h0, h1, h2⟩ := hx.three
    exact ⟨a, _, x1, x2, p1, p2, rfl, hs, atI_neg2 (by simp) rfl, atI_neg1 rfl, h1, h2, hgl hh, hgr hh, hc, fun _ => rfl⟩
  | bes p1 p2 =>
    obtain ⟨a, vs, rfl, hs, hx⟩ := PAt.get h
    obtain ⟨x0, x1, x2, rfl, h0, h1, h2⟩ := hx.three
    exact ⟨a, _, x1, x2, p1, p2, rfl, hs, atI_neg2 (by simp) rfl, atI_neg1 rfl, h1, h2, hgl hh, hgr hh, hc, fun _ => rfl⟩
  | iff sn p1 p2 =>
    obtain ⟨a, vs, rfl, hs, hx⟩ := PAt.get h
    obtain ⟨x0, x1, x2, x3, rfl, h0, h1, h2, h3⟩ := hx.four
    exact ⟨a, _, x2, x3, p1, p2, rfl, hs, atI_neg2 (by simp) rfl, atI_neg1 rfl, h2, h3, hgl hh, hgr hh, hc, fun _ => rfl⟩
  | _ => cases z
/-- a round, by its last item -/
inductive RdV (K : PySem.W.Frag) (H : Hp) (p : Pt) (v : V) (n : Nat) : Prop
  | mk (a : Addr) (vs : List V) (x1 : V) (p1 : Pt) (e : v = .ref a) (hs : TupAt K H a (.str (wdP p) :: vs)) (i1 : atI (.str (wdP p) :: vs) (-1) = some x1) (h1 : PAt K H (Pt.nd p1) x1) (c1 : p1.hg ≤ n) (c2 : p1.rc ≤ 900) (hor : (∃ k, p = .again k p1 ∧ p1.rc + 1 ≤ 900 ∧ vs = [.int k, x1]) ∨ (¬ wdP p = "again" ∧ ∀ ns, rem ns p = ((rem ns p1).1, lr p (rem ns p1)))) : RdV K H p v n
theorem pat_rd {K : PySem.W.Frag} {H : Hp} {p : Pt} {v : V} {n : Nat} (h : PAt K H (Pt.nd p) v) (z : isRd p = true) (hh : p.hg ≤ n + 1) (hc : p.rc ≤ 900) : RdV K H p v n := by
  cases p with
  | again k p1 =>
    obtain ⟨a, vs, rfl, hs, hx⟩ := PAt.get h
    obtain ⟨x0, x1, x2, rfl, h0, h1, h2⟩ := hx.three
    cases h0.str
    cases h1.int
    exact ⟨a, _, x2, p1, rfl, hs, atI_neg1 rfl, h2, Nat.le_of_succ_le_succ hh, Nat.le_of_succ_le hc, .inl ⟨k, rfl, hc, rfl⟩⟩
  | hold k p1 =>
    obtain ⟨a, vs, rfl, hs, hx⟩ := PAt.get h
    obtain ⟨x0, x1, x2, rfl, h0, h1, h2⟩ := hx.three
    cases h0.str
    exact ⟨a, _, x2, p1, rfl, hs, atI_neg1 rfl, h2, Nat.le_of_succ_le_succ hh, hc, .inr ⟨by dsimp only [wdP]; decide +kernel, fun _ => rfl⟩⟩
  | watch k p1 =>
    obtain ⟨a, vs, rfl, hs, hx⟩ := PAt.get h
    obtain ⟨x0, x1, x2, rfl, h0, h1, h2⟩ := hx.three
    cases h0.str
    exact ⟨a, _, x2, p1, rfl, hs, atI_neg1 rfl, h2, Nat.le_of_succ_le_succ hh, hc, .inr ⟨by dsimp only [wdP]; decide +kernel, fun _ => rfl⟩⟩
  | trap p1 =>
    obtain ⟨a, vs, rfl, hs, hx⟩ := PAt.get h
    obtain ⟨x0, x1, rfl, h0, h1⟩ := hx.two
    cases h0.str
    exact ⟨a, _, x1, p1, rfl, hs, atI_neg1 rfl, h1, Nat.le_of_succ_le_succ hh, hc, .inr ⟨by dsimp only [wdP]; decide +kernel, fun _ => rfl⟩⟩
  | _ => cases z
theorem rem_leaf {p : Pt} (h1 : isPr p = false) (h2 : isRd p = false) (h3 : ¬ wdP p = "rest") (ns : List Int) : rem ns p = ([], p) := by
  cases p <;> first | rfl | (cases h1; done) | (cases h2; done) | exact absurd rfl h3
def agIn (ns : List Int) : Pt → Bool
  | .again k _ => decide (k ∈ ns)
  | _ => false
def restIn (ns : List Int) : Pt → Bool
  | .rest k => decide (k ∈ ns)
  | _ => false
theorem agIn_no {p : Pt} (h : ¬ wdP p = "again") (ns : List Int) : agIn ns p = false := by cases p <;> first | rfl | exact absurd rfl h
theorem restIn_no {p : Pt} (h : ¬ wdP p = "rest") (ns : List Int) : restIn ns p = false := by cases p <;> first | rfl | exact absurd rfl h
/-- a test that changes nothing, by its value -/
theorem if_pure {t : TT} {a u : TS} {D : Ends} {σ : St} {H : Hp} (b : Bool) (h : ∀ N : Bool → Hp → Prop, N b H → t σ H N) (ka : b = true → a { D with nx := u D } σ H) (kb : b = false → u D σ H) : tSeq (tIfS t a tNext) u D σ H :=
  h _ (by
    cases b with
    | true => exact iteT (ka rfl)
    | false => exact iteF (kb rfl))
theorem beg_leaf {p : Pt} (h : isLf p = true) (th th' : List Int) : beg th p = beg th' p := by cases p <;> first | rfl | cases h
theorem lf_code {p : Pt} (h : isLf p = true) (n1 : ¬ wdP p = "exit") (n2 : ¬ wdP p = "rest") (n3 : ¬ wdP p = "stay") : (beg [] p).1 = 0 := by cases p <;> first | rfl | exact absurd rfl n1 | exact absurd rfl n2 | exact absurd rfl n3 | cases h
theorem lf_left {p : Pt} (h : isLf p = true) (n1 : ¬ wdP p = "rest") (n2 : ¬ wdP p = "stay") : (beg [] p).2.2 = [] := by cases p <;> first | rfl | exact absurd rfl n1 | exact absurd rfl n2 | cases h
theorem lf_sent {p : Pt} (h : isLf p = true) (n1 : ¬ wdP p = "send") : (beg [] p).2.1 = [] := by cases p <;> first | rfl | exact absurd rfl n1 | cases h
def spLeafC (K : PySem.W.Frag) : Sp := fun vs H Q _ => ∃ v p, vs = [v] ∧ PAt K H (Pt.nd p) v ∧ isLf p = true ∧ Q (.int (beg [] p).1) H
def spAgC : Sp := fun vs H Q _ => ∃ c : Int, vs = [.int c] ∧ Q (.int (agC c)) H
def spTrC : Sp := fun vs H Q _ => ∃ c : Int, vs = [.int c] ∧ Q (.int (trapC c)) H
def spLP (K : PySem.W.Frag) : Sp := fun vs H Q _ => ∃ v p t1 t2 a b, vs = [v, .ref t1, .ref t2] ∧ PAt K H (Pt.nd p) v ∧ isPr p = true ∧ RemAt K H t1 a ∧ RemAt K H t2 b ∧ ∀ v' H', Same H H' → PAt K H' (lp p a b).nd v' → Q v' H'
def spLR (K : PySem.W.Frag) : Sp := fun vs H Q _ => ∃ v p t a, vs = [v, .ref t] ∧ PAt K H (Pt.nd p) v ∧ isRd p = true ∧ RemAt K H t a ∧ ∀ v' H', Same H H' → PAt K H' (lr p a).nd v' → Q v' H'
def spRem (K : PySem.W.Frag) (n : Nat) : Sp := fun vs H Q _ => ∃ v p st ns, vs = [v, .ref st] ∧ PAt K H (Pt.nd p) v ∧ SqL K H st ((ns : List Int).map V.int) ∧ p.hg ≤ n ∧ p.rc ≤ 900 ∧ ∀ t H', Same H H' → RemAt K H' t (rem ns p) → Q (.ref t) H'
def StAt (K : PySem.W.Frag) (H : Hp) : Option (List Int) → V → Prop
  | none, v => v = .non
  | some ns, v => ∃ a, v = .ref a ∧ SqL K H a (ns.map V.int)
def spPtb (K : PySem.W.Frag) (n : Nat) : Sp := fun vs H Q _ => ∃ v p sv st, vs = [v, sv] ∧ PAt K H (Pt.nd p) v ∧ StAt K H st sv ∧ (st = none ∨ (p.hg ≤ n ∧ p.rc ≤ 900)) ∧ ∀ v' H', Same H H' → PAt K H' (pb p st).nd v' → Q v' H'
section
variable {P : Program} {w : World} {K : PySem.W.Frag} {mg : Str → Option Value} {base : Heap} {aN aP aR : Addr} {uE uR uL : Value}
theorem ok_leafCode (F : FunM K mg "leaf_code" ["part"] s_leaf_code) (T : TxtR K mg aN aP aR uE uR uL) : Callee P w K mg base 1 "leaf_code" ["part"] (spLeafC K) := by
  refine F.ok sc_leaf_code (fun vs H Q E h => ?_) (fun f cdv A outer s H vs Q E hr h => ?_)
  · obtain ⟨v, p, rfl, _⟩ := h; rfl
  obtain ⟨v, p, rfl, hp, lf, q⟩ := h
  refine ⟨_, (pss_cons (ps_if (pt_cmpR op_eq (pe_ix ix_tup (pv 0) pe_int (fun _ _ => rfl)) pe_str (nomark _))
      (pss_one (ps_ret (pe_op op_add (pe_glob rfl T.m_LEAVES T.r_LEAVES) (pe_ix ix_tup (pv 0) pe_int (fun _ _ => rfl)))))
      pss_nil)
    (pss_cons (ps_if (PW.pt (pw_or (pt_cmpR op_eq (pe_ix ix_tup (pv 0) pe_int (fun _ _ => rfl)) pe_str (nomark _)) (pw_or1 (pt_cmpR op_eq (pe_ix ix_tup (pv 0) pe_int (fun _ _ => rfl)) pe_str (nomark _)))))
      (pss_one (ps_ret (pe_glob rfl T.m_RESTS T.r_RESTS)))
      pss_nil)
    (pss_one (ps_ret (pe_glob rfl T.m_ENDED T.r_ENDED))))), ?_⟩
  obtain ⟨a, vs, rfl, hs⟩ := wd_at hp
  refine ⟨_, rfl, a, _, _, _, rfl, rfl, hs.sq, atI_nat (j := 0) rfl, rfl, _, rfl, iteW (fun e => ?_) fun n1 => ⟨_, rfl, a, _, _, _, rfl, rfl, hs.sq, atI_nat (j := 0) rfl, rfl, _, rfl, iteW (fun e => iteT ?_) fun n2 => ⟨_, rfl, a, _, _, _, rfl, rfl, hs.sq, atI_nat (j := 0) rfl, rfl, _, rfl, iteW (fun e => ?_) fun n3 => ?_⟩⟩⟩
  · obtain ⟨x, rfl⟩ := wd_exit e
    obtain ⟨a', vs', ev, hs, hx⟩ := PAt.get hp
    cases ev
    obtain ⟨x0, x1, rfl, h0, h1⟩ := hx.two
    cases h0.str
    cases h1.int
    exact ⟨_, rfl, a, _, _, _, rfl, rfl, hs.sq, atI_nat (j := 1) rfl, _, _, rfl, rfl, q⟩
  · obtain ⟨x, rfl⟩ := wd_rest e
    exact q
  · obtain ⟨x, rfl⟩ := wd_stay e
    exact q
  · rw [lf_code lf n1 n2 n3] at q
    exact q
theorem ok_agC (F : FunM K mg "code_of_again" ["code"] s_code_of_again) (T : TxtR K mg aN aP aR uE uR uL) : Callee P w K mg base 1 "code_of_again" ["code"] spAgC := by
  refine F.ok sc_code_of_again (fun vs H Q E h => ?_) (fun f cdv A outer s H vs Q E hr h => ?_)
  · obtain ⟨c, rfl, _⟩ := h; rfl
  obtain ⟨c, rfl, q⟩ := h
  refine ⟨_, (pss_one (ps_ret (pe_ifExp (pt_cmpR op_eq (pv 0) (pe_glob rfl T.m_ENDED T.r_ENDED) (nomark _)) (pe_glob rfl T.m_RESTS T.r_RESTS) (pv 0)))), ?_⟩
  unfold agC at q
  refine ⟨_, rfl, rfl, _, rfl, iteI (fun c => ?_) fun c => ?_⟩
  · rw [if_pos c] at q; exact q
  · rw [if_neg c] at q; exact ⟨_, rfl, q⟩
theorem ok_trC (F : FunM K mg "code_of_trap" ["code"] s_code_of_trap) (T : TxtR K mg aN aP aR uE uR uL) : Callee P w K mg base 1 "code_of_trap" ["code"] spTrC := by
  refine F.ok sc_code_of_trap (fun vs H Q E h => ?_) (fun f cdv A outer s H vs Q E hr h => ?_)
  · obtain ⟨c, rfl, _⟩ := h; rfl
  obtain ⟨c, rfl, q⟩ := h
  refine ⟨_, (pss_cons (ps_if (pt_cmpR op_eq (pv 0) (pe_glob rfl T.m_LEAVES T.r_LEAVES) (nomark _))
      (pss_one (ps_ret (pe_glob rfl T.m_ENDED T.r_ENDED)))
      pss_nil)
    (pss_one (ps_ret (pe_ifExp (pt_cmpR op_gt (pv 0) (pe_glob rfl T.m_LEAVES T.r_LEAVES) (nomark _)) (pe_op op_sub (pv 0) pe_int) (pv 0))))), ?_⟩
  unfold trapC at q
  refine ⟨_, rfl, rfl, _, rfl, iteI (fun c => ?_) fun c => ?_⟩
  · rw [if_pos c] at q; exact q
  · rw [if_neg c] at q
    refine ⟨_, rfl, _, _, rfl, rfl, _, rfl, ite2 (fun c => ?_) fun c => ?_⟩
    · rw [if_pos (of_decide_eq_true c)] at q; exact ⟨_, rfl, _, _, rfl, rfl, q⟩
    · rw [if_neg (fun z => c (decide_eq_true z))] at q; exact ⟨_, rfl, q⟩
set_option maxHeartbeats 16000000 in
theorem ok_LP (F : FunM K mg "left_of_pair" ["part", "first", "second"] s_left_of_pair) (T : TxtR K mg aN aP aR uE uR uL) : Callee P w K mg base 1 "left_of_pair" ["part", "first", "second"] (spLP K) := by
  refine F.ok sc_left_of_pair (fun vs H Q E h => ?_) (fun f cdv A outer s H vs Q E hr h => ?_)
  · obtain ⟨v, p, t1, t2, a, b, rfl, _⟩ := h; rfl
  obtain ⟨v, p, t1, t2, ra, rb, rfl, hp, pr, ⟨l1, v1, a1, a2, a3⟩, ⟨l2, v2, b1, b2, b3⟩, q⟩ := h
  refine ⟨_, (pss_cons (ps_if (pt_cmpR op_eq (pe_ix ix_tup (pv 0) pe_int (fun _ _ => rfl)) pe_str (nomark _))
      (pss_one (ps_ret (pe_ifExp (pt_truth (pe_ix ix_tup (pv 2) pe_int (fun _ _ => rfl)) (fun _ => rfl)) (pe_ix ix_tup (pv 2) pe_int (fun _ _ => rfl)) (pe_tup (pa_cons pe_str (pa_cons (pe_ix ix_tup (pv 1) pe_int (fun _ _ => rfl)) (pa_cons (pe_ix ix_tup (pv 0) pe_int (fun _ _ => rfl)) pa_nil)))))))
      pss_nil)
    (pss_cons (ps_if (PW.pt (pw_and (pt_cmpR op_eq (pe_ix ix_tup (pv 0) pe_int (fun _ _ => rfl)) pe_str (nomark _)) (pw_and (pt_truth (pe_ix ix_tup (pv 1) pe_int (fun _ _ => rfl)) (fun _ => rfl)) (pw_and1 (pt_truth (pe_ix ix_tup (pv 2) pe_int (fun _ _ => rfl)) (fun _ => rfl))))))
      (pss_one (ps_ret (pe_tup (pa_cons pe_str (pa_cons (pe_ix ix_tup (pv 1) pe_int (fun _ _ => rfl)) (pa_cons (pe_ix ix_tup (pv 2) pe_int (fun _ _ => rfl)) pa_nil))))))
      pss_nil)
    (pss_cons (ps_if (pt_truth (pe_ix ix_tup (pv 1) pe_int (fun _ _ => rfl)) (fun _ => rfl))
      (pss_one (ps_ret (pe_ix ix_tup (pv 1) pe_int (fun _ _ => rfl))))
      pss_nil)
    (pss_one (ps_ret (pe_ifExp (pt_truth (pe_ix ix_tup (pv 2) pe_int (fun _ _ => rfl)) (fun _ => rfl)) (pe_ix ix_tup (pv 2) pe_int (fun _ _ => rfl)) (pv 0))))))), ?_⟩
  cases p with
  | thn p1 p2 =>
    obtain ⟨a, vs, rfl, hs, hx⟩ := PAt.get hp
    obtain ⟨x0, x1, x2, rfl, h0, h1, h2⟩ := hx.three
    cases h0.str
    refine ⟨_, rfl, a, _, _, _, rfl, rfl, hs.sq, atI_nat (j := 0) rfl, rfl, _, rfl, iteEq ⟨_, rfl, t2, _, _, _, rfl, rfl, SqT.of b1, atI_nat (j := 0) rfl, _, .inl ⟨_, SqL.of b2, rfl⟩, iteE (fun c => ?_) fun c => ?_⟩⟩
    · exact ⟨_, rfl, t2, _, _, _, rfl, rfl, SqT.of b1, atI_nat (j := 1) rfl, q _ _ (Same.refl _) (by unfold lp; dsimp only; rw [if_neg c]; exact b3)⟩
    · refine ⟨_, rfl, t1, _, _, _, rfl, rfl, SqT.of a1, atI_nat (j := 1) rfl, _, rfl, a, _, _, _, rfl, rfl, hs.sq, atI_nat (j := 2) rfl, (by show 3 ≤ sizeLine; decide), fun t ht => ?_⟩
      have g := same_new ht (.tup [V.str "then", v1, x2])
      exact q _ _ g (by unfold lp; dsimp only; rw [if_pos c]; exact .t (.inl upd_same) (.cons .s (.cons (a3.mono g.tp) (.cons (h2.mono g.tp) .nil))))
  | bes p1 p2 =>
    obtain ⟨a, vs, rfl, hs, hx⟩ := PAt.get hp
    obtain ⟨x0, x1, x2, rfl, h0, h1, h2⟩ := hx.three
    cases h0.str
    have last : ∀ (c : ra.1 = [] ∨ rb.1 = []), lp (.bes p1 p2) ra rb = (if ¬ ra.1 = [] then ra.2 else if ¬ rb.1 = [] then rb.2 else .bes p1 p2) := fun c => by
      unfold lp
      dsimp only
      rw [if_neg (fun z => c.elim z.1 z.2)]
    refine ⟨_, rfl, a, _, _, _, rfl, rfl, hs.sq, atI_nat (j := 0) rfl, rfl, _, rfl, iteNe (by decide +kernel) ⟨_, rfl, a, _, _, _, rfl, rfl, hs.sq, atI_nat (j := 0) rfl, rfl, _, rfl, iteEq ⟨_, rfl, t1, _, _, _, rfl, rfl, SqT.of a1, atI_nat (j := 0) rfl, _, .inl ⟨_, SqL.of a2, rfl⟩, iteE (fun c1 => ?_) fun c1 => ?_⟩⟩⟩
    · refine ⟨_, rfl, t2, _, _, _, rfl, rfl, SqT.of b1, atI_nat (j := 0) rfl, _, .inl ⟨_, SqL.of b2, rfl⟩, iteE (fun c2 => ?_) fun c2 => ?_⟩
      · refine ⟨_, rfl, t1, _, _, _, rfl, rfl, SqT.of a1, atI_nat (j := 1) rfl, _, rfl, t2, _, _, _, rfl, rfl, SqT.of b1, atI_nat (j := 1) rfl, (by show 3 ≤ sizeLine; decide), fun t ht => ?_⟩
        have g := same_new ht (.tup [V.str "beside", v1, v2])
        exact q _ _ g (by unfold lp; dsimp only; rw [if_pos ⟨c1, c2⟩]; exact .t (.inl upd_same) (.cons .s (.cons (a3.mono g.tp) (.cons (b3.mono g.tp) .nil))))
      · refine ⟨_, rfl, t1, _, _, _, rfl, rfl, SqT.of a1, atI_nat (j := 0) rfl, _, .inl ⟨_, SqL.of a2, rfl⟩, iteE (fun _ => ?_) fun z => absurd z c1⟩
        exact ⟨_, rfl, t1, _, _, _, rfl, rfl, SqT.of a1, atI_nat (j := 1) rfl, q _ _ (Same.refl _) (by rw [last (.inr c2), if_pos c1]; exact a3)⟩
    · refine iteF ⟨_, rfl, t1, _, _, _, rfl, rfl, SqT.of a1, atI_nat (j := 0) rfl, _, .inl ⟨_, SqL.of a2, rfl⟩, iteE (fun z => absurd c1 z) fun _ => ⟨_, rfl, t2, _, _, _, rfl, rfl, SqT.of b1, atI_nat (j := 0) rfl, _, .inl ⟨_, SqL.of b2, rfl⟩, iteE (fun c2 => ?_) fun c2 => ?_⟩⟩
      · exact ⟨_, rfl, t2, _, _, _, rfl, rfl, SqT.of b1, atI_nat (j := 1) rfl, q _ _ (Same.refl _) (by rw [last (.inl c1), if_neg (fun z => z c1), if_pos c2]; exact b3)⟩
      · exact ⟨_, rfl, q _ _ (Same.refl _) (by rw [last (.inl c1), if_neg (fun z => z c1), if_neg (fun z => z c2)]; exact hp)⟩
  | iff s p1 p2 =>
    obtain ⟨a, vs, rfl, hs, hx⟩ := PAt.get hp
    obtain ⟨x0, x1, x2, x3, rfl, h0, h1, h2, h3⟩ := hx.four
    cases h0.str
    cases h1.int
    refine ⟨_, rfl, a, _, _, _, rfl, rfl, hs.sq, atI_nat (j := 0) rfl, rfl, _, rfl, iteNe (by decide +kernel) ⟨_, rfl, a, _, _, _, rfl, rfl, hs.sq, atI_nat (j := 0) rfl, rfl, _, rfl, iteNe (by decide +kernel) (iteF ⟨_, rfl, t1, _, _, _, rfl, rfl, SqT.of a1, atI_nat (j := 0) rfl, _, .inl ⟨_, SqL.of a2, rfl⟩, iteE (fun c1 => ?_) fun c1 => ⟨_, rfl, t2, _, _, _, rfl, rfl, SqT.of b1, atI_nat (j := 0) rfl, _, .inl ⟨_, SqL.of b2, rfl⟩, iteE (fun c2 => ?_) fun c2 => ?_⟩⟩)⟩⟩
    · exact ⟨_, rfl, t1, _, _, _, rfl, rfl, SqT.of a1, atI_nat (j := 1) rfl, q _ _ (Same.refl _) (by unfold lp; dsimp only; rw [if_pos c1]; exact a3)⟩
    · exact ⟨_, rfl, t2, _, _, _, rfl, rfl, SqT.of b1, atI_nat (j := 1) rfl, q _ _ (Same.refl _) (by unfold lp; dsimp only; rw [if_neg (fun z => z c1), if_pos c2]; exact b3)⟩
    · exact ⟨_, rfl, q _ _ (Same.refl _) (by unfold lp; dsimp only; rw [if_neg (fun z => z c1), if_neg (fun z => z c2)]; exact hp)⟩
  | _ => cases pr
set_option maxHeartbeats 16000000 in
theorem ok_LR (F : FunM K mg "left_of_round" ["part", "inner"] s_left_of_round) (T : TxtR K mg aN aP aR uE uR uL) : Callee P w K mg base 1 "left_of_round" ["part", "inner"] (spLR K) := by
  refine F.ok sc_left_of_round (fun vs H Q E h => ?_) (fun f cdv A outer s H vs Q E hr h => ?_)
  · obtain ⟨v, p, t1, a, rfl, _⟩ := h; rfl
  obtain ⟨v, p, t1, ra, rfl, hp, rd, ⟨l1, v1, a1, a2, a3⟩, q⟩ := h
  refine ⟨_, (pss_cons (ps_if (pt_not (pt_truth (pe_ix ix_tup (pv 1) pe_int (fun _ _ => rfl)) (fun _ => rfl)))
      (pss_one (ps_ret (pv 0)))
      pss_nil)
    (pss_cons (ps_if (pt_cmpR op_eq (pe_ix ix_tup (pv 0) pe_int (fun _ _ => rfl)) pe_str (nomark _))
      (pss_one (ps_ret (pe_tup (pa_cons pe_str (pa_cons (pe_ix ix_tup (pv 0) pe_int (fun _ _ => rfl)) (pa_cons (pe_ix ix_tup (pv 1) pe_int (fun _ _ => rfl)) pa_nil))))))
      pss_nil)
    (pss_cons (ps_if (pt_cmpR op_eq (pe_ix ix_tup (pv 0) pe_int (fun _ _ => rfl)) pe_str (nomark _))
      (pss_one (ps_ret (pe_tup (pa_cons pe_str (pa_cons (pe_ix ix_tup (pv 1) pe_int (fun _ _ => rfl)) pa_nil)))))
      pss_nil)
    (pss_cons (ps_set (i := 2) sc_left_of_round.nd rfl (Or.inl rfl) (pe_ifExp (pt_cmpR op_eq (pe_ix ix_tup (pv 0) pe_int (fun _ _ => rfl)) pe_str (nomark _)) (pe_tup (pa_cons pe_str (pa_cons (pe_callTy call_tuple_of rfl T.n_tuple (by decide +kernel) (pa_cons (pe_ix ix_tup (pv 1) pe_int (fun _ _ => rfl)) pa_nil)) pa_nil))) (pe_glob rfl T.m_NOTHING T.r_NOTHING)))
    (pss_one (ps_ret (pe_tup (pa_cons pe_str (pa_cons (pe_ix ix_tup (pv 0) pe_int (fun _ _ => rfl)) (pa_cons (pv 2) (pa_cons (pe_ix ix_tup (pv 1) pe_int (fun _ _ => rfl)) pa_nil))))))))))), ?_⟩
  have none : ra.1 = [] → lr p ra = p := fun c => by unfold lr; rw [if_pos c]
  have nt : ∀ {A B : Prop}, (¬ ra.1 = [] → B) → (ra.1 = [] → A) → if (!!(ra.1.map V.int).isEmpty) = true then A else B := fun {A B} h1 h2 => by
    cases e : ra.1 with
    | nil => exact h2 e
    | cons x r => exact h1 (by rw [e]; simp)
  refine ⟨_, rfl, t1, _, _, _, rfl, rfl, SqT.of a1, atI_nat (j := 0) rfl, _, .inl ⟨_, SqL.of a2, rfl⟩, nt (fun c => ?_) fun c => ⟨_, rfl, q _ _ (Same.refl _) (by rw [none c]; exact hp)⟩⟩
  cases p with
  | again k p1 =>
    obtain ⟨a, vs, rfl, hs, hx⟩ := PAt.get hp
    obtain ⟨x0, x1, x2, rfl, h0, h1, h2⟩ := hx.three
    cases h0.str
    cases h1.int
    refine ⟨_, rfl, a, _, _, _, rfl, rfl, hs.sq, atI_nat (j := 0) rfl, rfl, _, rfl, iteEq ⟨_, rfl, a, _, _, _, rfl, rfl, hs.sq, atI_nat (j := 1) rfl, _, rfl, t1, _, _, _, rfl, rfl, SqT.of a1, atI_nat (j := 1) rfl, (by show 3 ≤ sizeLine; decide), fun t ht => ?_⟩⟩
    have g := same_new ht (.tup [V.str "again", .int k, v1])
    exact q _ _ g (by unfold lr; rw [if_neg c]; exact .t (.inl upd_same) (.cons .s (.cons .i (.cons (a3.mono g.tp) .nil))))
  | trap p1 =>
    obtain ⟨a, vs, rfl, hs, hx⟩ := PAt.get hp
    obtain ⟨x0, x1, rfl, h0, h1⟩ := hx.two
    cases h0.str
    refine ⟨_, rfl, a, _, _, _, rfl, rfl, hs.sq, atI_nat (j := 0) rfl, rfl, _, rfl, iteNe (by decide +kernel) ⟨_, rfl, a, _, _, _, rfl, rfl, hs.sq, atI_nat (j := 0) rfl, rfl, _, rfl, iteEq ⟨_, rfl, t1, _, _, _, rfl, rfl, SqT.of a1, atI_nat (j := 1) rfl, (by show 2 ≤ sizeLine; decide), fun t ht => ?_⟩⟩⟩
    have g := same_new ht (.tup [V.str "trap", v1])
    exact q _ _ g (by unfold lr; rw [if_neg c]; exact .t (.inl upd_same) (.cons .s (.cons (a3.mono g.tp) .nil)))
  | hold s p1 =>
    obtain ⟨a, vs, rfl, hs, hx⟩ := PAt.get hp
    obtain ⟨x0, x1, x2, rfl, h0, h1, h2⟩ := hx.three
    cases h0.str
    cases h1.int
    refine ⟨_, rfl, a, _, _, _, rfl, rfl, hs.sq, atI_nat (j := 0) rfl, rfl, _, rfl, iteNe (by decide +kernel) ⟨_, rfl, a, _, _, _, rfl, rfl, hs.sq, atI_nat (j := 0) rfl, rfl, _, rfl, iteNe (by decide +kernel) ⟨_, rfl, a, _, _, _, rfl, rfl, hs.sq, atI_nat (j := 0) rfl, rfl, _, rfl, iteEq ⟨_, rfl, t1, _, _, _, rfl, rfl, SqT.of a1, atI_nat (j := 0) rfl, l1, _, rfl, .inl ⟨SqL.of a2, fun t0 ht0 => ⟨(by show 2 ≤ sizeLine; decide), fun t2 ht2 => ?_⟩⟩⟩⟩⟩⟩
    obtain ⟨g0, n1, n2⟩ := new2 (b := .tup [V.str "stay", .ref t0]) ht0 ht2
    refine ⟨_, rfl, a, _, _, _, rfl, rfl, (hs.mono g0.tp).sq, atI_nat (j := 1) rfl, _, rfl, _, rfl, t1, _, _, _, rfl, rfl, SqT.of (g0 _ _ a1), atI_nat (j := 1) rfl, (by show 4 ≤ sizeLine; decide), fun t ht => ?_⟩
    have g := same_new ht (.tup [V.str "if", .int s, .ref t2, v1])
    exact q _ _ (g0.trans g) (by unfold lr; rw [if_neg c]; exact .t (.inl upd_same) (.cons .s (.cons .i (.cons (.t (.inl (g _ _ n2)) (.cons .s (.cons (.t (.inl (g _ _ n1)) (patL_ints _)) .nil))) (.cons (a3.mono (g0.trans g).tp) .nil)))))
  | watch s p1 =>
    obtain ⟨a, vs, rfl, hs, hx⟩ := PAt.get hp
    obtain ⟨x0, x1, x2, rfl, h0, h1, h2⟩ := hx.three
    cases h0.str
    cases h1.int
    refine ⟨_, rfl, a, _, _, _, rfl, rfl, hs.sq, atI_nat (j := 0) rfl, rfl, _, rfl, iteNe (by decide +kernel) ⟨_, rfl, a, _, _, _, rfl, rfl, hs.sq, atI_nat (j := 0) rfl, rfl, _, rfl, iteNe (by decide +kernel) ⟨_, rfl, a, _, _, _, rfl, rfl, hs.sq, atI_nat (j := 0) rfl, rfl, _, rfl, iteNe (by decide +kernel) ?_⟩⟩⟩
    refine ⟨_, rfl, a, _, _, _, rfl, rfl, hs.sq, atI_nat (j := 1) rfl, _, rfl, _, rfl, t1, _, _, _, rfl, rfl, SqT.of a1, atI_nat (j := 1) rfl, (by show 4 ≤ sizeLine; decide), fun t ht => ?_⟩
    have g := same_new ht (.tup [V.str "if", .int s, .ref aN, v1])
    exact q _ _ g (by unfold lr; rw [if_neg c]; exact .t (.inl upd_same) (.cons .s (.cons .i (.cons (.t (.inr T.mN) (.cons .s .nil)) (.cons (a3.mono g.tp) .nil)))))
  | _ => cases rd
set_option maxHeartbeats 64000000 in
theorem ok_rem {n : Nat} (F : FunM K mg "remaining" ["part", "state"] s_remaining) (T : TxtR K mg aN aP aR uE uR uL) (C_left_of_pair : Callee P w K mg base 1 "left_of_pair" ["part", "first", "second"] (spLP K)) (C_left_of_round : Callee P w K mg base 1 "left_of_round" ["part", "inner"] (spLR K))
    (C_remaining : Callee P w K mg base (n + 2) "remaining" ["part", "state"] (spRem K n)) : Callee P w K mg base (n + 3) "remaining" ["part", "state"] (spRem K (n + 1)) := by
  refine F.ok sc_remaining (fun vs H Q E h => ?_) (fun f cdv A outer s H vs Q E hr h => ?_)
  · obtain ⟨v, p, st, ns, rfl, _⟩ := h; rfl
  obtain ⟨v, p, st, ns, rfl, hp, hS, hh, hc, q⟩ := h
  refine ⟨_, (pss_cons (ps_if (pt_cmpR op_in_seq (pe_ix ix_tup (pv 0) pe_int (fun _ _ => rfl)) (pe_glob rfl T.m_PAIRS T.r_PAIRS) (by rfl))
      (pss_cons (ps_set (i := 2) sc_remaining.nd rfl (Or.inl rfl) (pe_callC C_remaining hr rfl pass0 (pa_cons (pe_ix ix_tup (pv 0) (pe_un un_neg pe_int) (fun _ _ => rfl)) (pa_cons (pv 1) pa_nil))))
    (pss_cons (ps_set (i := 3) sc_remaining.nd rfl (Or.inl rfl) (pe_callC C_remaining hr rfl pass0 (pa_cons (pe_ix ix_tup (pv 0) (pe_un un_neg pe_int) (fun _ _ => rfl)) (pa_cons (pv 1) pa_nil))))
    (pss_one (ps_ret (pe_tup (pa_cons (pe_op op_cat (pe_ix ix_tup (pv 2) pe_int (fun _ _ => rfl)) (pe_ix ix_tup (pv 3) pe_int (fun _ _ => rfl))) (pa_cons (pe_callC C_left_of_pair hr rfl pass0 (pa_cons (pv 0) (pa_cons (pv 2) (pa_cons (pv 3) pa_nil)))) pa_nil)))))))
      pss_nil)
    (pss_cons (ps_if (pt_cmpR op_in_seq (pe_ix ix_tup (pv 0) pe_int (fun _ _ => rfl)) (pe_glob rfl T.m_ROUND T.r_ROUND) (by rfl))
      (pss_cons (ps_set (i := 4) sc_remaining.nd rfl (Or.inl rfl) (pe_callC C_remaining hr rfl pass0 (pa_cons (pe_ix ix_tup (pv 0) (pe_un un_neg pe_int) (fun _ _ => rfl)) (pa_cons (pv 1) pa_nil))))
    (pss_cons (ps_if (PW.pt (pw_and (pt_cmpR op_eq (pe_ix ix_tup (pv 0) pe_int (fun _ _ => rfl)) pe_str (nomark _)) (pw_and1 (pt_cmpR op_in_seq (pe_ix ix_tup (pv 0) pe_int (fun _ _ => rfl)) (pv 1) (by rfl)))))
      (pss_one (ps_ret (pe_tup (pa_cons (pe_op op_cat (pe_lst (pa_cons (pe_ix ix_tup (pv 0) pe_int (fun _ _ => rfl)) pa_nil)) (pe_ix ix_tup (pv 4) pe_int (fun _ _ => rfl))) (pa_cons (pv 0) pa_nil)))))
      pss_nil)
    (pss_one (ps_ret (pe_tup (pa_cons (pe_ix ix_tup (pv 4) pe_int (fun _ _ => rfl)) (pa_cons (pe_callC C_left_of_round hr rfl pass0 (pa_cons (pv 0) (pa_cons (pv 4) pa_nil))) pa_nil)))))))
      pss_nil)
    (pss_cons (ps_if (PW.pt (pw_and (pt_cmpR op_eq (pe_ix ix_tup (pv 0) pe_int (fun _ _ => rfl)) pe_str (nomark _)) (pw_and1 (pt_cmpR op_in_seq (pe_ix ix_tup (pv 0) pe_int (fun _ _ => rfl)) (pv 1) (by rfl)))))
      (pss_one (ps_ret (pe_tup (pa_cons (pe_lst (pa_cons (pe_ix ix_tup (pv 0) pe_int (fun _ _ => rfl)) pa_nil)) (pa_cons (pe_glob rfl T.m_NOTHING T.r_NOTHING) pa_nil)))))
      pss_nil)
    (pss_one (ps_ret (pe_tup (pa_cons (pe_lst pa_nil) (pa_cons (pv 0) pa_nil)))))))), ?_⟩
  obtain ⟨a, vs, rfl, hs⟩ := wd_at hp
  refine ⟨_, rfl, a, _, _, _, rfl, rfl, hs.sq, atI_nat (j := 0) rfl, aP, _, rfl, .inr (.inr T.mP), rfl, rfl, _, rfl, in_pr (fun z => ?_) fun z1 => ⟨_, rfl, a, _, _, _, rfl, rfl, hs.sq, atI_nat (j := 0) rfl, aR, _, rfl, .inr (.inr T.mR), rfl, rfl, _, rfl, in_rd (fun z => ?_) fun z2 => ?_⟩⟩
  · obtain ⟨a', vs', x1, x2, p1, p2, ev, hs, i1, i2, h1, h2, c1, c2, hc, er⟩ := pat_pr hp z hh hc
    cases ev
    have l1 := rem_len ns p1
    have l2 := rem_len ns p2
    rw [er] at q
    refine ⟨_, rfl, _, rfl, a, _, _, _, rfl, rfl, hs.sq, i1, _, rfl, x1, p1, st, ns, rfl, h1, hS, c1, adl hc, fun t1 H1 g1 R1 => ?_⟩
    refine ⟨_, rfl, _, rfl, a, _, _, _, rfl, rfl, (hs.mono g1.tp).sq, i2, _, rfl, x2, p2, st, ns, rfl, h2.mono g1.tp, g1.seq hS, c2, adr hc, fun t2 H2 g2 R2 => ?_⟩
    have R1' := R1.mono g2
    obtain ⟨l1', v1, a1, a2, a3⟩ := id R1'
    obtain ⟨l2', v2, b1, b2, b3⟩ := id R2
    refine ⟨_, rfl, t1, _, _, _, rfl, rfl, SqT.of a1, atI_nat (j := 0) rfl, _, rfl, t2, _, _, _, rfl, rfl, SqT.of b1, atI_nat (j := 0) rfl, l1', l2', _, _, rfl, rfl, a2, b2, by rw [List.length_map, List.length_map]; exact small (leKn (Nat.le_trans (Nat.add_le_add l1 l2) hc) (by decide)), fun l hl => ?_⟩
    have g3 := same_new hl (.lst (((rem ns p1).1.map V.int) ++ ((rem ns p2).1.map V.int)))
    refine ⟨_, rfl, _, rfl, _, rfl, _, p, t1, t2, _, _, rfl, hp.mono ((g1.trans g2).trans g3).tp, z, R1'.mono g3, R2.mono g3, fun v' H4 g4 P4 => ⟨(by show 2 ≤ sizeLine; decide), fun t ht => ?_⟩⟩
    have g5 := same_new ht (.tup [.ref l, v'])
    refine q _ _ ((((g1.trans g2).trans g3).trans g4).trans g5) ⟨l, v', upd_same, ?_, P4.mono g5.tp⟩
    rw [g5 _ _ (g4 _ _ upd_same)]
    show some (HO.lst ((rem ns p1).1.map V.int ++ (rem ns p2).1.map V.int)) = some (HO.lst (((rem ns p1).1 ++ (rem ns p2).1).map V.int))
    rw [List.map_append]
  · obtain ⟨a', vs', x1, p1, ev, hs, i1, h1, c1, c2, hor⟩ := pat_rd hp z hh hc
    cases ev
    have l1 := rem_len ns p1
    refine ⟨_, rfl, _, rfl, a, _, _, _, rfl, rfl, hs.sq, i1, _, rfl, x1, p1, st, ns, rfl, h1, hS, c1, c2, fun t1 H1 g1 R1 => ?_⟩
    have hs1 := hs.mono g1.tp
    obtain ⟨l1', v1, a1, a2, a3⟩ := id R1
    dsimp only [gName]
    refine if_pure (agIn ns p) (fun N fin => ?_) (fun c => ?_) fun c => ?_
    · rcases hor with ⟨k, rfl, hc', rfl⟩ | ⟨na, _⟩
      · refine ⟨_, rfl, a, _, _, _, rfl, rfl, hs1.sq, atI_nat (j := 0) rfl, rfl, _, rfl, iteEq ⟨_, rfl, a, _, _, _, rfl, rfl, hs1.sq, atI_nat (j := 1) rfl, _, rfl, st, _, rfl, .inl (g1.seq hS), rfl, flat_ints ns, _, rfl, ?_⟩⟩
        rw [if_neg Bool.false_ne_true, inV_ints]
        exact fin
      · refine ⟨_, rfl, a, _, _, _, rfl, rfl, hs1.sq, atI_nat (j := 0) rfl, rfl, _, rfl, iteNe na ?_⟩
        rw [agIn_no na ns] at fin
        exact fin
    · rcases hor with ⟨k, rfl, hc', rfl⟩ | ⟨na, _⟩
      · have c : k ∈ ns := of_decide_eq_true c
        refine ⟨_, rfl, a, _, _, _, rfl, rfl, hs1.sq, atI_nat (j := 1) rfl, (by show 1 ≤ sizeLine; decide), fun l0 hl0 => ?_⟩
        have g2 := same_new hl0 (.lst [V.int k])
        refine ⟨_, rfl, t1, _, _, _, rfl, rfl, SqT.of (g2 _ _ a1), atI_nat (j := 0) rfl, l0, l1', _, _, rfl, rfl, upd_same, g2 _ _ a2, by rw [List.length_map]; show 1 + _ ≤ sizeLine; exact small (Nat.le_trans (Nat.add_le_add_left (Nat.le_trans l1 c2) 1) (by decide)), fun l hl => ?_⟩
        have g3 := same_new hl (.lst ([V.int k] ++ (rem ns p1).1.map V.int))
        refine ⟨_, rfl, (by show 2 ≤ sizeLine; decide), fun t ht => ?_⟩
        have g5 := same_new ht (.tup [.ref l, .ref a])
        refine q _ _ (((g1.trans g2).trans g3).trans g5) ?_
        rw [show rem ns (.again k p1) = ([k] ++ (rem ns p1).1, .again k p1) from by simp only [rem]; rw [if_pos c]]
        exact ⟨l, _, upd_same, g5 _ _ upd_same, hp.mono (((g1.trans g2).trans g3).trans g5).tp⟩
      · rw [agIn_no na ns] at c
        cases c
    · have er : rem ns p = ((rem ns p1).1, lr p (rem ns p1)) := by
        rcases hor with ⟨k, rfl, _, _⟩ | ⟨_, h⟩
        · simp only [rem]; rw [if_neg (of_decide_eq_false c)]
        · exact h ns
      rw [er] at q
      refine ⟨_, rfl, t1, _, _, _, rfl, rfl, SqT.of a1, atI_nat (j := 0) rfl, _, rfl, _, rfl, _, p, t1, _, rfl, hp.mono g1.tp, z, R1, fun v' H4 g4 P4 => ⟨(by show 2 ≤ sizeLine; decide), fun t ht => ?_⟩⟩
      have g5 := same_new ht (.tup [.ref l1', v'])
      exact q _ _ ((g1.trans g4).trans g5) ⟨l1', v', upd_same, g5 _ _ (g4 _ _ a2), P4.mono g5.tp⟩
  · dsimp only [tNext]
    refine if_pure (restIn ns p) (fun N fin => ?_) (fun c => ?_) fun c => ?_
    · by_cases z : wdP p = "rest"
      · obtain ⟨k, rfl⟩ := wd_rest z
        obtain ⟨a', vs', ev, hs, hx⟩ := PAt.get hp
        cases ev
        obtain ⟨x0, x1, rfl, h0, h1⟩ := hx.two
        cases h0.str
        cases h1.int
        refine ⟨_, rfl, a, _, _, _, rfl, rfl, hs.sq, atI_nat (j := 0) rfl, rfl, _, rfl, iteEq ⟨_, rfl, a, _, _, _, rfl, rfl, hs.sq, atI_nat (j := 1) rfl, _, rfl, st, _, rfl, .inl hS, rfl, flat_ints ns, _, rfl, ?_⟩⟩
        rw [if_neg Bool.false_ne_true, inV_ints]
        exact fin
      · refine ⟨_, rfl, a, _, _, _, rfl, rfl, hs.sq, atI_nat (j := 0) rfl, rfl, _, rfl, iteNe z ?_⟩
        rw [restIn_no z ns] at fin
        exact fin
    · obtain ⟨k, rfl⟩ : ∃ k, p = .rest k := wd_rest (Classical.byContradiction fun z => by rw [restIn_no z ns] at c; cases c)
      have c : k ∈ ns := of_decide_eq_true c
      obtain ⟨a', vs', ev, hs, hx⟩ := PAt.get hp
      cases ev
      obtain ⟨x0, x1, rfl, h0, h1⟩ := hx.two
      cases h0.str
      cases h1.int
      refine ⟨_, rfl, a, _, _, _, rfl, rfl, hs.sq, atI_nat (j := 1) rfl, (by show 1 ≤ sizeLine; decide), fun l hl => ⟨(by show 2 ≤ sizeLine; decide), fun t ht => ?_⟩⟩
      obtain ⟨g, n1, n2⟩ := new2 (b := .tup [.ref l, .ref aN]) hl ht
      refine q _ _ g ?_
      rw [show rem ns (.rest k) = ([k], .nothing) from by simp only [rem]; rw [if_pos c]]
      exact ⟨l, _, n2, n1, .t (.inr T.mN) (.cons .s .nil)⟩
    · have er : rem ns p = ([], p) := by
        by_cases z : wdP p = "rest"
        · obtain ⟨k, rfl⟩ := wd_rest z
          simp only [rem]; rw [if_neg (of_decide_eq_false c)]
        · exact rem_leaf z1 z2 z ns
      rw [er] at q
      refine ⟨(by show 0 ≤ sizeLine; decide), fun l hl => ⟨_, rfl, (by show 2 ≤ sizeLine; decide), fun t ht => ?_⟩⟩
      obtain ⟨g, n1, n2⟩ := new2 (b := .tup [.ref l, .ref a]) hl ht
      exact q _ _ g ⟨l, _, n2, n1, hp.mono g.tp⟩
theorem rem_all (F : FunM K mg "remaining" ["part", "state"] s_remaining) (T : TxtR K mg aN aP aR uE uR uL) (CP : Callee P w K mg base 1 "left_of_pair" ["part", "first", "second"] (spLP K)) (CR : Callee P w K mg base 1 "left_of_round" ["part", "inner"] (spLR K)) :
    ∀ n, Callee P w K mg base (n + 2) "remaining" ["part", "state"] (spRem K n)
  | 0 => (F.zero (sp := spRem K 0) fun vs H Q E h => by obtain ⟨v, p, st, ns, _, _, _, hh, _⟩ := h; exact absurd hh (Nat.not_le_of_gt (Pt.hg_pos p))).mono (by decide)
  | n + 1 => ok_rem F T CP CR (rem_all F T CP CR n)
theorem ok_ptb {n : Nat} (F : FunM K mg "part_to_begin" ["part", "state"] s_part_to_begin) (T : TxtR K mg aN aP aR uE uR uL) (C_remaining : Callee P w K mg base (n + 2) "remaining" ["part", "state"] (spRem K n)) :
    Callee P w K mg base (n + 3) "part_to_begin" ["part", "state"] (spPtb K n) := by
  refine F.ok sc_part_to_begin (fun vs H Q E h => ?_) (fun f cdv A outer s H vs Q E hr h => ?_)
  · obtain ⟨v, p, sv, st, rfl, _⟩ := h; rfl
  obtain ⟨v, p, sv, st, rfl, hp, hS, hb, q⟩ := h
  refine ⟨_, (pss_cons (ps_if (pt_cmpR op_isN (pv 1) pe_non (nomark _))
      (pss_one (ps_ret (pv 0)))
      pss_nil)
    (pss_one (ps_ret (pe_ix ix_tup (pe_callC C_remaining hr rfl pass0 (pa_cons (pv 0) (pa_cons (pv 1) pa_nil))) pe_int (fun _ _ => rfl))))), ?_⟩
  cases st with
  | none =>
    have e : sv = .non := hS
    subst e
    exact ⟨_, rfl, rfl, _, rfl, iteT ⟨_, rfl, q _ _ (Same.refl _) hp⟩⟩
  | some ns =>
    obtain ⟨a, rfl, hS⟩ := hS
    obtain ⟨hh, hc⟩ := hb.resolve_left (fun z => by cases z)
    refine ⟨_, rfl, rfl, _, rfl, iteF ⟨_, rfl, _, rfl, v, p, a, ns, rfl, hp, hS, hh, hc, fun t H1 g1 ⟨l, v1, a1, a2, a3⟩ => ?_⟩⟩
    exact ⟨t, _, _, _, rfl, rfl, SqT.of a1, atI_nat (j := 1) rfl, q _ _ g1 a3⟩
end

end My
end

section
set_option Elab.async false
set_option linter.all false
set_option maxRecDepth 100000
set_option maxHeartbeats 4000000
namespace My
open PySem L2
/-! ### what a part does -/
def DdAt (H : Hp) (t : Addr) (d : Dd) : Prop := ∃ l1 l2, H t = some (.tup [.int d.1, .ref l1, .ref l2]) ∧ H l1 = some (.lst (d.2.1.map V.int)) ∧ H l2 = some (.lst (d.2.2.map V.int))
theorem DdAt.mono {H H' : Hp} (g : Same H H') {t : Addr} {d : Dd} (h : DdAt H t d) : DdAt H' t d := by
  obtain ⟨l1, l2, h1, h2, h3⟩ := h
  exact ⟨l1, l2, g _ _ h1, g _ _ h2, g _ _ h3⟩
def small9 (d : Dd) : Prop := d.2.1.length ≤ 900 ∧ d.2.2.length ≤ 900
def spRl (K : PySem.W.Frag) : Sp := fun vs H Q _ => ∃ v p, vs = [v] ∧ PAt K H (Pt.nd p) v ∧ isLf p = true ∧ p.lc ≤ 900 ∧ ∀ l H', Same H H' → H' l = some (.lst ((beg [] p).2.2.map V.int)) → Q (.ref l) H'
def spBl (K : PySem.W.Frag) : Sp := fun vs H Q _ => ∃ v p, vs = [v] ∧ PAt K H (Pt.nd p) v ∧ isLf p = true ∧ p.lc ≤ 900 ∧ ∀ t H', Same H H' → DdAt H' t (beg [] p) → Q (.ref t) H'
def spTurn : Sp := fun vs H Q _ => ∃ t1 t2 a b, vs = [.ref t1, .ref t2] ∧ DdAt H t1 a ∧ DdAt H t2 b ∧ small9 a ∧ small9 b ∧ ∀ t H', Same H H' → DdAt H' t (turnD a b) → Q (.ref t) H'
def spSide : Sp := fun vs H Q _ => ∃ t1 t2 a b, vs = [.ref t1, .ref t2] ∧ DdAt H t1 a ∧ DdAt H t2 b ∧ small9 a ∧ small9 b ∧ ∀ t H', Same H H' → DdAt H' t (sideD a b) → Q (.ref t) H'
def spRep : Sp := fun vs H Q _ => ∃ (k : Int) (t1 : Addr) (a : Dd), vs = [.int k, .ref t1] ∧ DdAt H t1 a ∧ ∀ t H', Same H H' → DdAt H' t (repD k a) → Q (.ref t) H'
def spBeg (K : PySem.W.Frag) (n : Nat) : Sp := fun vs H Q _ => ∃ v p th ns, vs = [v, .ref th] ∧ PAt K H (Pt.nd p) v ∧ SqL K H th ((ns : List Int).map V.int) ∧ p.hg ≤ n ∧ p.sc ≤ 900 ∧ p.lc ≤ 900 ∧ ∀ t H', Same H H' → DdAt H' t (beg ns p) → Q (.ref t) H'
theorem sm9 {ns : List Int} {p : Pt} (h1 : p.sc ≤ 900) (h2 : p.lc ≤ 900) : small9 (beg ns p) := ⟨Nat.le_trans (beg_len ns p).1 h1, Nat.le_trans (beg_len ns p).2 h2⟩
/-- what ran tells, in lists of its own -/
def RanAt (H H' : Hp) (t : Addr) (d : Dd) : Prop := ∃ l1 l2, H' t = some (.tup [.int d.1, .ref l1, .ref l2]) ∧ H' l1 = some (.lst (d.2.1.map V.int)) ∧ H' l2 = some (.lst (d.2.2.map V.int)) ∧ H l1 = none ∧ H l2 = none ∧ l1 ≠ l2
def spRanG (K : PySem.W.Frag) (n : Nat) : Sp := fun vs H Q _ => ∃ v p sv st th ns, vs = [v, sv, .ref th] ∧ PAt K H (Pt.nd p) v ∧ StAt K H st sv ∧ SqL K H th ((ns : List Int).map V.int) ∧ (st = none ∨ (p.hg ≤ n ∧ p.rc ≤ 900)) ∧ (pb p st).hg ≤ n ∧ (pb p st).sc < 64 ∧ (pb p st).lc < 64 ∧ ∀ t H', Same H H' → RanAt H H' t (ranD p st ns) → Q (.ref t) H'
theorem pb_bd (p : Pt) (st : Option (List Int)) : (pb p st).hg ≤ p.hg ∧ (pb p st).sc ≤ p.sc ∧ (pb p st).lc ≤ p.rc := by
  cases st with
  | none => exact ⟨Nat.le_refl _, Nat.le_refl _, Pt.lc_rc p⟩
  | some l => exact ⟨rem_hg l p, rem_sc l p, rem_lc l p⟩
section
variable {P : Program} {w : World} {K : PySem.W.Frag} {mg : Str → Option Value} {base : Heap} {aN aP aR : Addr} {uE uR uL : Value}
theorem ok_rl (F : FunM K mg "rests_left" ["part"] s_rests_left) (T : TxtR K mg aN aP aR uE uR uL) : Callee P w K mg base 1 "rests_left" ["part"] (spRl K) := by
  refine F.ok sc_rests_left (fun vs H Q E h => ?_) (fun f cdv A outer s H vs Q E hr h => ?_)
  · obtain ⟨v, p, rfl, _⟩ := h; rfl
  obtain ⟨v, p, rfl, hp, lf, hc, q⟩ := h
  refine ⟨_, (pss_cons (ps_if (pt_cmpR op_eq (pe_ix ix_tup (pv 0) pe_int (fun _ _ => rfl)) pe_str (nomark _))
      (pss_one (ps_ret (pe_lst (pa_cons (pe_ix ix_tup (pv 0) pe_int (fun _ _ => rfl)) pa_nil))))
      pss_nil)
    (pss_one (ps_ret (pe_ifExp (pt_cmpR op_eq (pe_ix ix_tup (pv 0) pe_int (fun _ _ => rfl)) pe_str (nomark _)) (pe_callTy call_list_of rfl T.n_list (by decide +kernel) (pa_cons (pe_ix ix_tup (pv 0) pe_int (fun _ _ => rfl)) pa_nil)) (pe_lst pa_nil))))), ?_⟩
  obtain ⟨a, vs, rfl, hs⟩ := wd_at hp
  refine ⟨_, rfl, a, _, _, _, rfl, rfl, hs.sq, atI_nat (j := 0) rfl, rfl, _, rfl, iteW (fun e => ?_) fun n1 => ⟨_, rfl, a, _, _, _, rfl, rfl, hs.sq, atI_nat (j := 0) rfl, rfl, _, rfl, iteW (fun e => ?_) fun n2 => ?_⟩⟩
  · obtain ⟨x, rfl⟩ := wd_rest e
    obtain ⟨a', vs', ev, hs, hx⟩ := PAt.get hp
    cases ev
    obtain ⟨x0, x1, rfl, h0, h1⟩ := hx.two
    cases h0.str
    cases h1.int
    exact ⟨_, rfl, a, _, _, _, rfl, rfl, hs.sq, atI_nat (j := 1) rfl, (by show 1 ≤ sizeLine; decide), fun l hl => q _ _ (same_new hl _) upd_same⟩
  · obtain ⟨ks, rfl⟩ := wd_stay e
    obtain ⟨a', vs', ev, hs, hx⟩ := PAt.get hp
    cases ev
    obtain ⟨x0, x1, rfl, h0, h1⟩ := hx.two
    cases h0.str
    obtain ⟨a2, vs2, rfl, hs2, hx2⟩ := PAt.get h1
    cases patL_int hx2
    exact ⟨_, rfl, a, _, _, _, rfl, rfl, hs.sq, atI_nat (j := 1) rfl, a2, _, rfl, .inr hs2.sq, fun l hl => q _ _ (same_new hl _) upd_same⟩
  · rw [lf_left lf n1 n2] at q
    exact ⟨(by show 0 ≤ sizeLine; decide), fun l hl => q _ _ (same_new hl _) upd_same⟩
theorem ok_bl (F : FunA K mg "begun_leaf_instants" "begun_leaf" ["part"] s_begun_leaf_instants) (T : TxtR K mg aN aP aR uE uR uL) (C_leaf_code : Callee P w K mg base 1 "leaf_code" ["part"] (spLeafC K)) (C_rests_left : Callee P w K mg base 1 "rests_left" ["part"] (spRl K)) : Callee P w K mg base 2 "begun_leaf_instants" ["part"] (spBl K) := by
  refine F.ok sc_begun_leaf_instants (fun vs H Q E h => ?_) (fun f cdv A outer s H vs Q E hr h => ?_)
  · obtain ⟨v, p, rfl, _⟩ := h; rfl
  obtain ⟨v, p, rfl, hp, lf, hc, q⟩ := h
  refine ⟨_, (pss_cons (ps_set (i := 1) sc_begun_leaf_instants.nd rfl (Or.inl rfl) (pe_ifExp (pt_cmpR op_eq (pe_ix ix_tup (pv 0) pe_int (fun _ _ => rfl)) pe_str (nomark _)) (pe_lst (pa_cons (pe_ix ix_tup (pv 0) pe_int (fun _ _ => rfl)) pa_nil)) (pe_lst pa_nil)))
    (pss_one (ps_ret (pe_tup (pa_cons (pe_callC C_leaf_code hr rfl pass0 (pa_cons (pv 0) pa_nil)) (pa_cons (pv 1) (pa_cons (pe_callC C_rests_left hr rfl pass0 (pa_cons (pv 0) pa_nil)) pa_nil))))))), ?_⟩
  have fin : ∀ (l1 : Addr) (xs : List V) (hl : H l1 = none) (e : xs = (beg [] p).2.1.map V.int), (tTup (tCons (tCall (spLeafC K) [] E0 (tCons (tVar 0) tNil)) (tCons (tVar 1) (tCons (tCall (spRl K) [] E0 (tCons (tVar 0) tNil)) tNil)))) [some v, some (.ref l1)] (upd H l1 (.lst xs)) Q := by
    intro l1 xs hl e
    subst e
    have g1 := same_new hl (.lst ((beg [] p).2.1.map V.int))
    refine ⟨_, rfl, v, p, rfl, hp.mono g1.tp, lf, _, rfl, _, rfl, v, p, rfl, hp.mono g1.tp, lf, hc, fun l2 H2 g2 e2 => ⟨(by show 3 ≤ sizeLine; decide), fun t ht => ?_⟩⟩
    have g3 := same_new ht (.tup [.int (beg [] p).1, .ref l1, .ref l2])
    exact q _ _ ((g1.trans g2).trans g3) ⟨l1, l2, upd_same, g3 _ _ (g2 _ _ upd_same), g3 _ _ e2⟩
  obtain ⟨a, vs, rfl, hs⟩ := wd_at hp
  refine ⟨_, rfl, a, _, _, _, rfl, rfl, hs.sq, atI_nat (j := 0) rfl, rfl, _, rfl, iteW (fun e => ?_) fun n1 => ⟨(by show 0 ≤ sizeLine; decide), fun l hl => fin l [] hl (by rw [lf_sent lf n1]; rfl)⟩⟩
  obtain ⟨x, rfl⟩ := wd_send e
  obtain ⟨a', vs', ev, hs, hx⟩ := PAt.get hp
  cases ev
  obtain ⟨x0, x1, rfl, h0, h1⟩ := hx.two
  cases h0.str
  cases h1.int
  exact ⟨_, rfl, a, _, _, _, rfl, rfl, hs.sq, atI_nat (j := 1) rfl, (by show 1 ≤ sizeLine; decide), fun l hl => fin l _ hl rfl⟩
theorem ok_turn (F : FunA K mg "in_turn_instants" "in_turn" ["first", "second"] s_in_turn_instants) (T : TxtR K mg aN aP aR uE uR uL) : Callee P w K mg base 1 "in_turn_instants" ["first", "second"] spTurn := by
  refine F.ok sc_in_turn_instants (fun vs H Q E h => ?_) (fun f cdv A outer s H vs Q E hr h => ?_)
  · obtain ⟨t1, t2, da, db, rfl, _⟩ := h; rfl
  obtain ⟨t1, t2, da, db, rfl, ⟨l1, l2, a1, a2, a3⟩, ⟨m1, m2, b1, b2, b3⟩, sa, sb, q⟩ := h
  refine ⟨_, (pss_one (ps_ret (pe_tup (pa_cons (pe_ix ix_tup (pv 1) pe_int (fun _ _ => rfl)) (pa_cons (pe_op op_cat (pe_ix ix_tup (pv 0) pe_int (fun _ _ => rfl)) (pe_ix ix_tup (pv 1) pe_int (fun _ _ => rfl))) (pa_cons (pe_ix ix_tup (pv 1) pe_int (fun _ _ => rfl)) pa_nil)))))), ?_⟩
  refine ⟨_, rfl, t2, _, _, _, rfl, rfl, SqT.of b1, atI_nat (j := 0) rfl, _, rfl, t1, _, _, _, rfl, rfl, SqT.of a1, atI_nat (j := 1) rfl, _, rfl, t2, _, _, _, rfl, rfl, SqT.of b1, atI_nat (j := 1) rfl, l1, m1, _, _, rfl, rfl, a2, b2, by rw [List.length_map, List.length_map]; exact Nat.le_trans (Nat.add_le_add sa.1 sb.1) (by decide), fun l hl => ?_⟩
  have g1 := same_new hl (.lst (da.2.1.map V.int ++ db.2.1.map V.int))
  refine ⟨_, rfl, t2, _, _, _, rfl, rfl, SqT.of (g1 _ _ b1), atI_nat (j := 2) rfl, (by show 3 ≤ sizeLine; decide), fun t ht => ?_⟩
  have g2 := same_new ht (.tup [.int db.1, .ref l, .ref m2])
  refine q _ _ (g1.trans g2) ⟨l, m2, upd_same, ?_, g2 _ _ (g1 _ _ b3)⟩
  rw [g2 _ _ upd_same]
  show some (HO.lst (da.2.1.map V.int ++ db.2.1.map V.int)) = some (HO.lst ((da.2.1 ++ db.2.1).map V.int))
  rw [List.map_append]
set_option maxHeartbeats 16000000 in
theorem ok_side (F : FunA K mg "side_by_side_instants" "side_by_side" ["first", "second"] s_side_by_side_instants) (T : TxtR K mg aN aP aR uE uR uL) : Callee P w K mg base 1 "side_by_side_instants" ["first", "second"] spSide := by
  refine F.ok sc_side_by_side_instants (fun vs H Q E h => ?_) (fun f cdv A outer s H vs Q E hr h => ?_)
  · obtain ⟨t1, t2, da, db, rfl, _⟩ := h; rfl
  obtain ⟨t1, t2, da, db, rfl, ⟨l1, l2, a1, a2, a3⟩, ⟨m1, m2, b1, b2, b3⟩, sa, sb, q⟩ := h
  refine ⟨_, (pss_cons (ps_set (i := 2) sc_side_by_side_instants.nd rfl (Or.inl rfl) (pe_callB (call_max2 rfl) rfl T.n_max (by decide +kernel) (pa_cons (pe_ix ix_tup (pv 0) pe_int (fun _ _ => rfl)) (pa_cons (pe_ix ix_tup (pv 1) pe_int (fun _ _ => rfl)) pa_nil))))
    (pss_cons (ps_set (i := 3) sc_side_by_side_instants.nd rfl (Or.inl rfl) (pe_ifExp (pt_cmpR op_eq (pv 2) (pe_glob rfl T.m_RESTS T.r_RESTS) (nomark _)) (pe_op op_cat (pe_ix ix_tup (pv 0) pe_int (fun _ _ => rfl)) (pe_ix ix_tup (pv 1) pe_int (fun _ _ => rfl))) (pe_lst pa_nil)))
    (pss_one (ps_ret (pe_tup (pa_cons (pv 2) (pa_cons (pe_op op_cat (pe_ix ix_tup (pv 0) pe_int (fun _ _ => rfl)) (pe_ix ix_tup (pv 1) pe_int (fun _ _ => rfl))) (pa_cons (pv 3) pa_nil)))))))), ?_⟩
  refine ⟨_, rfl, t1, _, _, _, rfl, rfl, SqT.of a1, atI_nat (j := 0) rfl, _, rfl, t2, _, _, _, rfl, rfl, SqT.of b1, atI_nat (j := 0) rfl, _, _, rfl, ?_⟩
  have fin : ∀ (l0 : Addr) (xs : List Int) (hl : H l0 = none) (e : xs = (sideD da db).2.2), (tTup (tCons (tVar 2) (tCons (tOp rCat (tOp (rIxT K) (tVar 0) (tC (.int 1))) (tOp (rIxT K) (tVar 1) (tC (.int 1)))) (tCons (tVar 3) tNil)))) [some (.ref t1), some (.ref t2), some (.int (sideD da db).1), some (.ref l0)] (upd H l0 (.lst (xs.map V.int))) Q := by
    intro l0 xs hl e
    subst e
    have g0 := same_new hl (.lst ((sideD da db).2.2.map V.int))
    refine ⟨_, rfl, _, rfl, t1, _, _, _, rfl, rfl, SqT.of (g0 _ _ a1), atI_nat (j := 1) rfl, _, rfl, t2, _, _, _, rfl, rfl, SqT.of (g0 _ _ b1), atI_nat (j := 1) rfl, l1, m1, _, _, rfl, rfl, g0 _ _ a2, g0 _ _ b2, by rw [List.length_map, List.length_map]; exact Nat.le_trans (Nat.add_le_add sa.1 sb.1) (by decide), fun l hl2 => ?_⟩
    have g1 := same_new hl2 (.lst (da.2.1.map V.int ++ db.2.1.map V.int))
    refine ⟨_, rfl, (by show 3 ≤ sizeLine; decide), fun t ht => ?_⟩
    have g2 := same_new ht (.tup [.int (sideD da db).1, .ref l, .ref l0])
    refine q _ _ ((g0.trans g1).trans g2) ⟨l, l0, upd_same, ?_, g2 _ _ (g1 _ _ upd_same)⟩
    rw [g2 _ _ upd_same]
    show some (HO.lst (da.2.1.map V.int ++ db.2.1.map V.int)) = some (HO.lst ((da.2.1 ++ db.2.1).map V.int))
    rw [List.map_append]
  refine ⟨_, rfl, rfl, _, rfl, iteI (fun c => ?_) fun c => ?_⟩
  · refine ⟨_, rfl, t1, _, _, _, rfl, rfl, SqT.of a1, atI_nat (j := 2) rfl, _, rfl, t2, _, _, _, rfl, rfl, SqT.of b1, atI_nat (j := 2) rfl, l2, m2, _, _, rfl, rfl, a3, b3, by rw [List.length_map, List.length_map]; exact Nat.le_trans (Nat.add_le_add sa.2 sb.2) (by decide), fun l hl => ?_⟩
    rw [← List.map_append]
    exact fin l _ hl (by unfold sideD; dsimp only; rw [if_pos c])
  · exact ⟨(by show 0 ≤ sizeLine; decide), fun l hl => fin l [] hl (by unfold sideD; dsimp only; rw [if_neg c])⟩
theorem ok_rep (F : FunM K mg "repeated" ["rest", "inner"] s_repeated) (T : TxtR K mg aN aP aR uE uR uL) (C_code_of_again : Callee P w K mg base 1 "code_of_again" ["code"] spAgC) : Callee P w K mg base 2 "repeated" ["rest", "inner"] spRep := by
  refine F.ok sc_repeated (fun vs H Q E h => ?_) (fun f cdv A outer s H vs Q E hr h => ?_)
  · obtain ⟨k, t1, da, rfl, _⟩ := h; rfl
  obtain ⟨k, t1, da, rfl, ⟨l1, l2, a1, a2, a3⟩, q⟩ := h
  refine ⟨_, (pss_cons (ps_set (i := 2) sc_repeated.nd rfl (Or.inl rfl) (pe_ifExp (pt_cmpR op_eq (pe_ix ix_tup (pv 1) pe_int (fun _ _ => rfl)) (pe_glob rfl T.m_ENDED T.r_ENDED) (nomark _)) (pe_lst (pa_cons (pv 0) pa_nil)) (pe_ix ix_tup (pv 1) pe_int (fun _ _ => rfl))))
    (pss_one (ps_ret (pe_tup (pa_cons (pe_callC C_code_of_again hr rfl pass0 (pa_cons (pe_ix ix_tup (pv 1) pe_int (fun _ _ => rfl)) pa_nil)) (pa_cons (pe_ix ix_tup (pv 1) pe_int (fun _ _ => rfl)) (pa_cons (pv 2) pa_nil))))))), ?_⟩
  refine ⟨_, rfl, t1, _, _, _, rfl, rfl, SqT.of a1, atI_nat (j := 0) rfl, rfl, _, rfl, iteI (fun c => ?_) fun c => ?_⟩
  · refine ⟨_, rfl, (by show 1 ≤ sizeLine; decide), fun l hl => ?_⟩
    have g0 := same_new hl (.lst [.int k])
    refine ⟨_, rfl, t1, _, _, _, rfl, rfl, SqT.of (g0 _ _ a1), atI_nat (j := 0) rfl, _, rfl, _, rfl, t1, _, _, _, rfl, rfl, SqT.of (g0 _ _ a1), atI_nat (j := 1) rfl, _, rfl, (by show 3 ≤ sizeLine; decide), fun t ht => ?_⟩
    have g2 := same_new ht (.tup [.int (agC da.1), .ref l1, .ref l])
    exact q _ _ (g0.trans g2) ⟨l1, l, upd_same, g2 _ _ (g0 _ _ a2), by rw [show (repD k da).2.2 = [k] from if_pos c]; exact g2 _ _ upd_same⟩
  · refine ⟨_, rfl, t1, _, _, _, rfl, rfl, SqT.of a1, atI_nat (j := 2) rfl, ?_⟩
    refine ⟨_, rfl, t1, _, _, _, rfl, rfl, SqT.of a1, atI_nat (j := 0) rfl, _, rfl, _, rfl, t1, _, _, _, rfl, rfl, SqT.of a1, atI_nat (j := 1) rfl, _, rfl, (by show 3 ≤ sizeLine; decide), fun t ht => ?_⟩
    have g2 := same_new ht (.tup [.int (agC da.1), .ref l1, .ref l2])
    exact q _ _ g2 ⟨l1, l2, upd_same, g2 _ _ a2, by rw [show (repD k da).2.2 = da.2.2 from if_neg c]; exact g2 _ _ a3⟩
set_option maxHeartbeats 64000000 in
theorem ok_beg {n : Nat} (F : FunA K mg "begun_instants" "begun" ["part", "there"] s_begun_instants) (T : TxtR K mg aN aP aR uE uR uL) (C_begun_leaf_instants : Callee P w K mg base 2 "begun_leaf_instants" ["part"] (spBl K)) (C_in_turn_instants : Callee P w K mg base 1 "in_turn_instants" ["first", "second"] spTurn) (C_side_by_side_instants : Callee P w K mg base 1 "side_by_side_instants" ["first", "second"] spSide)
    (C_repeated : Callee P w K mg base 2 "repeated" ["rest", "inner"] spRep) (C_code_of_trap : Callee P w K mg base 1 "code_of_trap" ["code"] spTrC) (C_begun_instants : Callee P w K mg base (n + 2) "begun_instants" ["part", "there"] (spBeg K n)) : Callee P w K mg base (n + 3) "begun_instants" ["part", "there"] (spBeg K (n + 1)) := by
  refine F.ok sc_begun_instants (fun vs H Q E h => ?_) (fun f cdv A outer s H vs Q E hr h => ?_)
  · obtain ⟨v, p, st, ns, rfl, _⟩ := h; rfl
  obtain ⟨v, p, st, ns, rfl, hp, hS, hh, hsc, hlc, q⟩ := h
  refine ⟨_, (pss_cons (ps_set (i := 2) sc_begun_instants.nd rfl (Or.inl rfl) (pe_ix ix_tup (pv 0) pe_int (fun _ _ => rfl)))
    (pss_cons (ps_if (pt_cmpR op_eq (pv 2) pe_str (nomark _))
      (pss_cons (ps_set (i := 3) sc_begun_instants.nd rfl (Or.inl rfl) (pe_callC C_begun_instants hr rfl pass0 (pa_cons (pe_ix ix_tup (pv 0) pe_int (fun _ _ => rfl)) (pa_cons (pv 1) pa_nil))))
    (pss_one (ps_ret (pe_ifExp (pt_cmpR op_eq (pe_ix ix_tup (pv 3) pe_int (fun _ _ => rfl)) (pe_glob rfl T.m_ENDED T.r_ENDED) (nomark _)) (pe_callC C_in_turn_instants hr rfl pass0 (pa_cons (pv 3) (pa_cons (pe_callC C_begun_instants hr rfl pass0 (pa_cons (pe_ix ix_tup (pv 0) pe_int (fun _ _ => rfl)) (pa_cons (pv 1) pa_nil))) pa_nil))) (pv 3)))))
      pss_nil)
    (pss_cons (ps_if (pt_cmpR op_eq (pv 2) pe_str (nomark _))
      (pss_one (ps_ret (pe_callC C_side_by_side_instants hr rfl pass0 (pa_cons (pe_callC C_begun_instants hr rfl pass0 (pa_cons (pe_ix ix_tup (pv 0) pe_int (fun _ _ => rfl)) (pa_cons (pv 1) pa_nil))) (pa_cons (pe_callC C_begun_instants hr rfl pass0 (pa_cons (pe_ix ix_tup (pv 0) pe_int (fun _ _ => rfl)) (pa_cons (pv 1) pa_nil))) pa_nil)))))
      pss_nil)
    (pss_cons (ps_if (pt_cmpR op_eq (pv 2) pe_str (nomark _))
      (pss_one (ps_ret (pe_callC C_begun_instants hr rfl pass0 (pa_cons (pe_ifExp (pt_cmpR op_in_seq (pe_ix ix_tup (pv 0) pe_int (fun _ _ => rfl)) (pv 1) (by rfl)) (pe_ix ix_tup (pv 0) pe_int (fun _ _ => rfl)) (pe_ix ix_tup (pv 0) pe_int (fun _ _ => rfl))) (pa_cons (pv 1) pa_nil)))))
      pss_nil)
    (pss_cons (ps_if (pt_cmpR op_eq (pv 2) pe_str (nomark _))
      (pss_one (ps_ret (pe_callC C_repeated hr rfl pass0 (pa_cons (pe_ix ix_tup (pv 0) pe_int (fun _ _ => rfl)) (pa_cons (pe_callC C_begun_instants hr rfl pass0 (pa_cons (pe_ix ix_tup (pv 0) pe_int (fun _ _ => rfl)) (pa_cons (pv 1) pa_nil))) pa_nil)))))
      pss_nil)
    (pss_cons (ps_if (PW.pt (pw_or (pt_cmpR op_eq (pv 2) pe_str (nomark _)) (pw_or1 (pt_cmpR op_eq (pv 2) pe_str (nomark _)))))
      (pss_one (ps_ret (pe_callC C_begun_instants hr rfl pass0 (pa_cons (pe_ix ix_tup (pv 0) pe_int (fun _ _ => rfl)) (pa_cons (pv 1) pa_nil)))))
      pss_nil)
    (pss_cons (ps_if (pt_cmpR op_eq (pv 2) pe_str (nomark _))
      (pss_cons (ps_set (i := 4) sc_begun_instants.nd rfl (Or.inl rfl) (pe_callC C_begun_instants hr rfl pass0 (pa_cons (pe_ix ix_tup (pv 0) pe_int (fun _ _ => rfl)) (pa_cons (pv 1) pa_nil))))
    (pss_one (ps_ret (pe_tup (pa_cons (pe_callC C_code_of_trap hr rfl pass0 (pa_cons (pe_ix ix_tup (pv 4) pe_int (fun _ _ => rfl)) pa_nil)) (pa_cons (pe_ix ix_tup (pv 4) pe_int (fun _ _ => rfl)) (pa_cons (pe_ix ix_tup (pv 4) pe_int (fun _ _ => rfl)) pa_nil)))))))
      pss_nil)
    (pss_one (ps_ret (pe_callC C_begun_leaf_instants hr rfl pass0 (pa_cons (pv 0) pa_nil))))))))))), ?_⟩
  obtain ⟨a, vs, rfl, hs⟩ := wd_at hp
  refine ⟨_, rfl, a, _, _, _, rfl, rfl, hs.sq, atI_nat (j := 0) rfl, _, rfl, rfl, _, rfl, iteW (fun e => ?_) fun n1 => ⟨_, rfl, rfl, _, rfl, iteW (fun e => ?_) fun n2 => ⟨_, rfl, rfl, _, rfl, iteW (fun e => ?_) fun n3 => ⟨_, rfl, rfl, _, rfl, iteW (fun e => ?_) fun n4 => ⟨_, rfl, rfl, _, rfl, iteW (fun e => iteT ?_) fun n5 => ⟨_, rfl, rfl, _, rfl, iteW (fun e => ?_) fun n6 => ⟨_, rfl, rfl, _, rfl, iteW (fun e => ?_) fun n7 => ?_⟩⟩⟩⟩⟩⟩⟩
  · obtain ⟨p1, p2, rfl⟩ := wd_thn e
    obtain ⟨a', vs', ev, hs, hx⟩ := PAt.get hp
    cases ev
    obtain ⟨x0, x1, x2, rfl, h0, h1, h2⟩ := hx.three
    cases h0.str
    refine ⟨_, rfl, a, _, _, _, rfl, rfl, hs.sq, atI_nat (j := 1) rfl, _, rfl, x1, p1, st, ns, rfl, h1, hS, hgl hh, adl hsc, mxl hlc, fun t1 H1 g1 R1 => ?_⟩
    obtain ⟨l1, l2, a1, a2, a3⟩ := id R1
    refine ⟨_, rfl, t1, _, _, _, rfl, rfl, SqT.of a1, atI_nat (j := 0) rfl, rfl, _, rfl, iteI (fun c => ?_) fun c => ?_⟩
    · refine ⟨_, rfl, _, rfl, a, _, _, _, rfl, rfl, (hs.mono g1.tp).sq, atI_nat (j := 2) rfl, _, rfl, x2, p2, st, ns, rfl, h2.mono g1.tp, g1.seq hS, hgr hh, adr hsc, mxr hlc, fun t2 H2 g2 R2 => ?_⟩
      refine ⟨t1, t2, _, _, rfl, R1.mono g2, R2, sm9 (adl hsc) (mxl hlc), sm9 (adr hsc) (mxr hlc), fun t H3 g3 R3 => ?_⟩
      exact q _ _ ((g1.trans g2).trans g3) (by rw [show beg ns (.thn p1 p2) = turnD (beg ns p1) (beg ns p2) from by simp only [beg]; rw [if_pos c]]; exact R3)
    · exact ⟨_, rfl, q _ _ g1 (by rw [show beg ns (.thn p1 p2) = beg ns p1 from by simp only [beg]; rw [if_neg c]]; exact R1)⟩
  · obtain ⟨p1, p2, rfl⟩ := wd_bes e
    obtain ⟨a', vs', ev, hs, hx⟩ := PAt.get hp
    cases ev
    obtain ⟨x0, x1, x2, rfl, h0, h1, h2⟩ := hx.three
    cases h0.str
    refine ⟨_, rfl, a, _, _, _, rfl, rfl, hs.sq, atI_nat (j := 1) rfl, _, rfl, x1, p1, st, ns, rfl, h1, hS, hgl hh, adl hsc, adl hlc, fun t1 H1 g1 R1 => ?_⟩
    refine ⟨_, rfl, a, _, _, _, rfl, rfl, (hs.mono g1.tp).sq, atI_nat (j := 2) rfl, _, rfl, x2, p2, st, ns, rfl, h2.mono g1.tp, g1.seq hS, hgr hh, adr hsc, adr hlc, fun t2 H2 g2 R2 => ?_⟩
    exact ⟨t1, t2, _, _, rfl, R1.mono g2, R2, sm9 (adl hsc) (adl hlc), sm9 (adr hsc) (adr hlc), fun t H3 g3 R3 => q _ _ ((g1.trans g2).trans g3) R3⟩
  · obtain ⟨sn, p1, p2, rfl⟩ := wd_iff e
    obtain ⟨a', vs', ev, hs, hx⟩ := PAt.get hp
    cases ev
    obtain ⟨x0, x1, x2, x3, rfl, h0, h1, h2, h3⟩ := hx.four
    cases h0.str
    cases h1.int
    refine ⟨_, rfl, a, _, _, _, rfl, rfl, hs.sq, atI_nat (j := 1) rfl, _, rfl, st, _, rfl, .inl hS, rfl, flat_ints ns, _, rfl, iteM (fun c => ?_) fun c => ?_⟩
    · exact ⟨_, rfl, a, _, _, _, rfl, rfl, hs.sq, atI_nat (j := 2) rfl, _, rfl, x2, p1, st, ns, rfl, h2, hS, hgl hh, adl hsc, mxl hlc, fun t1 H1 g1 R1 => q _ _ g1 (by rw [show beg ns (.iff sn p1 p2) = beg ns p1 from by simp only [beg]; rw [if_pos c]]; exact R1)⟩
    · exact ⟨_, rfl, a, _, _, _, rfl, rfl, hs.sq, atI_nat (j := 3) rfl, _, rfl, x3, p2, st, ns, rfl, h3, hS, hgr hh, adr hsc, mxr hlc, fun t1 H1 g1 R1 => q _ _ g1 (by rw [show beg ns (.iff sn p1 p2) = beg ns p2 from by simp only [beg]; rw [if_neg c]]; exact R1)⟩
  · obtain ⟨kn, p1, rfl⟩ := wd_again e
    obtain ⟨a', vs', ev, hs, hx⟩ := PAt.get hp
    cases ev
    obtain ⟨x0, x1, x2, rfl, h0, h1, h2⟩ := hx.three
    cases h0.str
    cases h1.int
    refine ⟨_, rfl, a, _, _, _, rfl, rfl, hs.sq, atI_nat (j := 1) rfl, _, rfl, a, _, _, _, rfl, rfl, hs.sq, atI_nat (j := 2) rfl, _, rfl, x2, p1, st, ns, rfl, h2, hS, Nat.le_of_succ_le_succ hh, hsc, mxr hlc, fun t1 H1 g1 R1 => ?_⟩
    exact ⟨kn, t1, _, rfl, R1, fun t H3 g3 R3 => q _ _ (g1.trans g3) R3⟩
  · obtain ⟨sn, p1, rfl⟩ := wd_hold e
    obtain ⟨a', vs', ev, hs, hx⟩ := PAt.get hp
    cases ev
    obtain ⟨x0, x1, x2, rfl, h0, h1, h2⟩ := hx.three
    cases h0.str
    cases h1.int
    exact ⟨_, rfl, a, _, _, _, rfl, rfl, hs.sq, atI_nat (j := 2) rfl, _, rfl, x2, p1, st, ns, rfl, h2, hS, Nat.le_of_succ_le_succ hh, hsc, hlc, fun t1 H1 g1 R1 => q _ _ g1 R1⟩
  · obtain ⟨sn, p1, rfl⟩ := wd_watch e
    obtain ⟨a', vs', ev, hs, hx⟩ := PAt.get hp
    cases ev
    obtain ⟨x0, x1, x2, rfl, h0, h1, h2⟩ := hx.three
    cases h0.str
    cases h1.int
    exact ⟨_, rfl, a, _, _, _, rfl, rfl, hs.sq, atI_nat (j := 2) rfl, _, rfl, x2, p1, st, ns, rfl, h2, hS, Nat.le_of_succ_le_succ hh, hsc, hlc, fun t1 H1 g1 R1 => q _ _ g1 R1⟩
  · obtain ⟨p1, rfl⟩ := wd_trap e
    obtain ⟨a', vs', ev, hs, hx⟩ := PAt.get hp
    cases ev
    obtain ⟨x0, x1, rfl, h0, h1⟩ := hx.two
    cases h0.str
    refine ⟨_, rfl, a, _, _, _, rfl, rfl, hs.sq, atI_nat (j := 1) rfl, _, rfl, x1, p1, st, ns, rfl, h1, hS, Nat.le_of_succ_le_succ hh, hsc, hlc, fun t1 H1 g1 R1 => ?_⟩
    obtain ⟨l1, l2, a1, a2, a3⟩ := id R1
    refine ⟨_, rfl, t1, _, _, _, rfl, rfl, SqT.of a1, atI_nat (j := 0) rfl, _, rfl, _, rfl, t1, _, _, _, rfl, rfl, SqT.of a1, atI_nat (j := 1) rfl, _, rfl, t1, _, _, _, rfl, rfl, SqT.of a1, atI_nat (j := 2) rfl, (by show 3 ≤ sizeLine; decide), fun t ht => ?_⟩
    have g2 := same_new ht (.tup [.int (trapC (beg ns p1).1), .ref l1, .ref l2])
    exact q _ _ (g1.trans g2) ⟨l1, l2, upd_same, g2 _ _ a2, g2 _ _ a3⟩
  · have lf := wd_leaf n1 n2 n3 n4 n5 n6 n7
    exact ⟨_, rfl, _, p, rfl, hp, lf, hlc, fun t1 H1 g1 R1 => q _ _ g1 (by rw [beg_leaf lf ns []]; exact R1)⟩
theorem beg_all (F : FunA K mg "begun_instants" "begun" ["part", "there"] s_begun_instants) (T : TxtR K mg aN aP aR uE uR uL) (C1 : Callee P w K mg base 2 "begun_leaf_instants" ["part"] (spBl K)) (C2 : Callee P w K mg base 1 "in_turn_instants" ["first", "second"] spTurn) (C3 : Callee P w K mg base 1 "side_by_side_instants" ["first", "second"] spSide)
    (C4 : Callee P w K mg base 2 "repeated" ["rest", "inner"] spRep) (C5 : Callee P w K mg base 1 "code_of_trap" ["code"] spTrC) : ∀ n, Callee P w K mg base (n + 2) "begun_instants" ["part", "there"] (spBeg K n)
  | 0 => (F.zero (sp := spBeg K 0) fun vs H Q E h => by obtain ⟨v, p, st, ns, _, _, _, hh, _⟩ := h; exact absurd hh (Nat.not_le_of_gt (Pt.hg_pos p))).mono (by decide)
  | n + 1 => ok_beg F T C1 C2 C3 C4 C5 (beg_all F T C1 C2 C3 C4 C5 n)
set_option maxHeartbeats 16000000 in
theorem ok_ranG {n : Nat} (F : FunM K mg "ran" ["part", "state", "there"] s_ran) (T : TxtR K mg aN aP aR uE uR uL) (C_part_to_begin : Callee P w K mg base (n + 3) "part_to_begin" ["part", "state"] (spPtb K n)) (C_begun_instants : Callee P w K mg base (n + 2) "begun_instants" ["part", "there"] (spBeg K n)) :
    Callee P w K mg base (n + 4) "ran" ["part", "state", "there"] (spRanG K n) := by
  refine F.ok sc_ran (fun vs H Q E h => ?_) (fun f cdv A outer s H vs Q E hr h => ?_)
  · obtain ⟨v, p, sv, st, th, ns, rfl, _⟩ := h; rfl
  obtain ⟨v, p, sv, st, th, ns, rfl, hp, hst, hS, hb, k1, k2, k3, q⟩ := h
  refine ⟨_, (pss_cons (ps_set (i := 3) sc_ran.nd rfl (Or.inl rfl) (pe_callC C_begun_instants hr rfl pass0 (pa_cons (pe_callC C_part_to_begin hr rfl pass0 (pa_cons (pv 0) (pa_cons (pv 1) pa_nil))) (pa_cons (pv 2) pa_nil))))
    (pss_one (ps_ret (pe_tup (pa_cons (pe_ix ix_tup (pv 3) pe_int (fun _ _ => rfl)) (pa_cons (pe_sset rfl rfl T.n_sorted rfl T.n_set (pe_ix ix_tup (pv 3) pe_int (fun _ _ => rfl))) (pa_cons (pe_callB call_sorted rfl T.n_sorted (by decide +kernel) (pa_cons (pe_ix ix_tup (pv 3) pe_int (fun _ _ => rfl)) pa_nil)) pa_nil))))))), ?_⟩
  refine ⟨_, rfl, _, rfl, v, p, sv, st, rfl, hp, hst, hb, fun v1 H1 g1 P1 => ?_⟩
  refine ⟨_, rfl, v1, pb p st, th, ns, rfl, P1, g1.seq hS, k1, lt9 k2, lt9 k3, fun t H2 g2 ⟨l1, l2, a1, a2, a3⟩ => ?_⟩
  obtain ⟨c1, c2⟩ := beg_len ns (pb p st)
  refine ⟨_, rfl, t, _, _, _, rfl, rfl, SqT.of a1, atI_nat (j := 0) rfl, _, rfl, t, _, _, _, rfl, rfl, SqT.of a1, atI_nat (j := 1) rfl, l1, _, rfl, SqL.of a2, Nat.lt_of_le_of_lt c1 k2, fun r1 hr1 => ?_⟩
  have g3 := same_new hr1 (.lst ((nub (beg ns (pb p st)).2.1).map V.int))
  refine ⟨_, rfl, t, _, _, _, rfl, rfl, SqT.of (g3 _ _ a1), atI_nat (j := 2) rfl, l2, _, rfl, SqL.of (g3 _ _ a3), Nat.lt_of_le_of_lt c2 k3, fun r2 ms hr2 pm om => ?_⟩
  cases sortI_eq pm om
  have g4 := same_new hr2 (.lst ((sortI (beg ns (pb p st)).2.2).map V.int))
  refine ⟨(by show 3 ≤ sizeLine; decide), fun t2 ht2 => ?_⟩
  have g5 := same_new ht2 (.tup [.int (beg ns (pb p st)).1, .ref r1, .ref r2])
  have g02 := g1.trans g2
  refine q _ _ (((g02.trans g3).trans g4).trans g5) ⟨r1, r2, upd_same, g5 _ _ (g4 _ _ upd_same), g5 _ _ upd_same, g02.free hr1, (g02.trans g3).free hr2, ne_of_none upd_same hr2⟩
end

end My
end

section
set_option Elab.async false
set_option linter.all false
set_option maxRecDepth 100000
set_option maxHeartbeats 4000000
namespace My
open PySem L2
/-! ### walks -/
abbrev Wk := List Int × Bool × List Int × List Int
def vO : Option Bool → V
  | none => .non
  | some b => .bl b
abbrev V_ENDED : V := .int 0
def minL : List Int → Int
  | [] => 0
  | [x] => x
  | x :: y :: r => if minL (y :: r) < x then minL (y :: r) else x
theorem minL_low : ∀ {l : List Int}, 0 < l.length → minL l ∈ l ∧ ∀ a ∈ l, minL l ≤ a
  | [x], _ => ⟨List.mem_singleton.mpr rfl, fun a ha => by rcases List.mem_singleton.mp ha with rfl; exact Int.le_refl _⟩
  | x :: y :: r, _ => by
    obtain ⟨h1, h2⟩ := minL_low (l := y :: r) (Nat.succ_pos _)
    unfold minL
    split
    · next c => exact ⟨List.mem_cons_of_mem _ h1, fun a ha => (List.mem_cons.mp ha).elim (fun e => e ▸ Int.le_of_lt c) fun z => h2 a z⟩
    · next c => exact ⟨List.mem_cons_self, fun a ha => (List.mem_cons.mp ha).elim (fun e => e ▸ Int.le_refl _) fun z => Int.le_trans (Int.not_lt.mp c) (h2 a z)⟩
theorem minL_eq {l : List Int} {M : Int} (h1 : M ∈ l) (h2 : ∀ a ∈ l, M ≤ a) : M = minL l := by
  obtain ⟨k1, k2⟩ := minL_low (List.length_pos_of_mem h1)
  exact Int.le_antisymm (h2 _ k1) (k2 _ h1)
def mx (a b : Int) : Int := if b > a then b else a
def turnW (a b : Wk) : Wk := (nub (a.1.filter (fun c => !decide (c = 0)) ++ b.1), b.2.1, a.2.2.1 ++ b.2.2.1, a.2.2.2 ++ b.2.2.2)
def sideW (a b : Wk) : Wk := ((nub (a.1 ++ b.1)).filter (fun c => decide (mx (minL a.1) (minL b.1) ≤ c)), a.2.1 && b.2.1, a.2.2.1 ++ b.2.2.1, a.2.2.2 ++ b.2.2.2)
def oneW (a b : Wk) : Wk := (nub (a.1 ++ b.1), false, [], a.2.2.2 ++ b.2.2.2)
def recW (f : Int → Int) (a : Wk) : Wk := (nub (a.1.map f), a.2.1, a.2.2.1, a.2.2.2)
def wbeg (kn : List (Option Bool)) : Bool → Pt → Wk
  | s, .thn p q => if 0 ∈ (wbeg kn s p).1 then turnW (wbeg kn s p) (wbeg kn (wbeg kn s p).2.1 q) else wbeg kn s p
  | s, .bes p q => sideW (wbeg kn s p) (wbeg kn s q)
  | s, .iff x p q => match (kn[x.toNat]?).getD none with
    | none => oneW (wbeg kn false p) (wbeg kn false q)
    | some true => wbeg kn s p
    | some false => wbeg kn s q
  | s, .again _ p => recW agC (wbeg kn s p)
  | s, .hold _ p => wbeg kn s p
  | s, .watch _ p => wbeg kn s p
  | s, .trap p => recW trapC (wbeg kn s p)
  | s, .nothing => ([0], s, [], [])
  | s, .send x => ([0], s, if s = true then [x] else [], [x])
  | s, .exit d => ([2 + d], s, [], [])
  | s, .rest _ => ([1], s, [], [])
  | s, .stay _ => ([1], s, [], [])
def okW (sg : Int) : Pt → Prop
  | .send s => 0 ≤ s ∧ s < sg
  | .exit d => 0 ≤ d ∧ d < 4
  | .iff s p q => (0 ≤ s ∧ s < sg) ∧ okW sg p ∧ okW sg q
  | .thn p q => okW sg p ∧ okW sg q
  | .bes p q => okW sg p ∧ okW sg q
  | .again _ p => okW sg p
  | .hold s p => (0 ≤ s ∧ s < sg) ∧ okW sg p
  | .watch s p => (0 ≤ s ∧ s < sg) ∧ okW sg p
  | .trap p => okW sg p
  | _ => True
theorem okW_rem {sg : Int} (st : List Int) {p : Pt} (h : okW sg p) : okW sg (rem st p).2 := by
  induction p with
  | iff s p q ih1 ih2 =>
    have := ih1 h.2.1
    have := ih2 h.2.2
    simp only [rem, lp]
    split
    · assumption
    · split
      · assumption
      · exact h
  | thn p q ih1 ih2 =>
    have := ih1 h.1
    have := ih2 h.2
    simp only [rem, lp]
    split
    · exact ⟨ih1 h.1, h.2⟩
    · assumption
  | bes p q ih1 ih2 =>
    have := ih1 h.1
    have := ih2 h.2
    simp only [rem, lp]
    split
    · exact ⟨ih1 h.1, ih2 h.2⟩
    · split
      · assumption
      · split
        · assumption
        · exact h
  | again k p ih =>
    have := ih h
    simp only [rem]
    split
    · exact h
    · simp only [lr]
      split
      · exact h
      · exact ih h
  | hold s p ih =>
    have := ih h.2
    simp only [rem, lr]
    split
    · exact h
    · exact ⟨h.1, trivial, ih h.2⟩
  | watch s p ih =>
    have := ih h.2
    simp only [rem, lr]
    split
    · exact h
    · exact ⟨h.1, trivial, ih h.2⟩
  | trap p ih =>
    have := ih h
    simp only [rem, lr]
    split
    · exact h
    · exact ih h
  | rest k =>
    simp only [rem]
    split <;> exact trivial
  | nothing => exact trivial
  | send s => exact h
  | exit d => exact h
  | stay ks => exact trivial
theorem okW_pb {sg : Int} {p : Pt} (h : okW sg p) (st : Option (List Int)) : okW sg (pb p st) := by
  cases st with
  | none => exact h
  | some l => exact okW_rem l h
theorem rise_len : ∀ {l : List Int} {a b : Int}, l.Pairwise (· < ·) → (∀ x ∈ l, a ≤ x ∧ x < b) → (l.length : Int) ≤ max 0 (b - a)
  | [], a, b, _, _ => Int.le_max_left 0 (b - a)
  | x :: r, a, b, h, k => by
    have h' := List.pairwise_cons.mp h
    have kx := k x List.mem_cons_self
    have := rise_len (l := r) (a := x + 1) (b := b) h'.2 fun y hy => ⟨Int.add_one_le_of_lt (h'.1 y hy), (k y (List.mem_cons_of_mem _ hy)).2⟩
    rw [List.length_cons]
    omega
structure Cw (l : List Int) : Prop where
  ri : l.Pairwise (· < ·)
  bd : ∀ c ∈ l, 0 ≤ c ∧ c < 6
  ne : 0 < l.length
theorem Cw.len {l : List Int} (h : Cw l) : l.length ≤ 6 := by
  have := rise_len h.ri h.bd
  omega
theorem nub_ne {l : List Int} (h : 0 < l.length) : 0 < (nub l).length := by
  cases l with
  | nil => cases h
  | cons x r => exact List.length_pos_of_mem (mem_nub.mpr (List.mem_cons_self (a := x) (l := r)))
theorem cw_nub {l : List Int} (h : ∀ c ∈ l, 0 ≤ c ∧ c < 6) (n : 0 < l.length) : Cw (nub l) := ⟨rise_nub l, fun c hc => h c (mem_nub.mp hc), nub_ne n⟩
theorem cw_app {a b : List Int} (ha : Cw a) (hb : Cw b) : Cw (nub (a ++ b)) := cw_nub (fun c hc => (List.mem_append.mp hc).elim (fun h => ha.bd c h) fun h => hb.bd c h) (by rw [List.length_append]; exact Nat.lt_of_lt_of_le ha.ne (Nat.le_add_right _ _))
theorem cw_one {c : Int} (h : 0 ≤ c ∧ c < 6) : Cw [c] := ⟨List.pairwise_singleton _ _, fun x hx => by rcases List.mem_singleton.mp hx with rfl; exact h, Nat.succ_pos _⟩
theorem three {c : Int} (h0 : 0 ≤ c) (h : c < 3) : c = 0 ∨ c = 1 ∨ c = 2 := by
  obtain ⟨n, rfl⟩ := Int.eq_ofNat_of_zero_le h0
  match n, h with
  | 0, _ => exact .inl rfl
  | 1, _ => exact .inr (.inl rfl)
  | 2, _ => exact .inr (.inr rfl)
  | n + 3, z => exact absurd z (by omega)
theorem six {P : Int → Prop} (h0 : P 0) (h1 : P 1) (h2 : P 2) (h3 : P 3) (h4 : P 4) (h5 : P 5) {c : Int} (h : 0 ≤ c ∧ c < 6) : P c := by
  obtain ⟨n, rfl⟩ := Int.eq_ofNat_of_zero_le h.1
  match n, h.2 with
  | 0, _ => exact h0
  | 1, _ => exact h1
  | 2, _ => exact h2
  | 3, _ => exact h3
  | 4, _ => exact h4
  | 5, _ => exact h5
  | n + 6, z => exact absurd z (by omega)
theorem agC_bd {c : Int} (h : 0 ≤ c ∧ c < 6) : 0 ≤ agC c ∧ agC c < 6 := six (P := fun c => 0 ≤ agC c ∧ agC c < 6) (by decide) (by decide) (by decide) (by decide) (by decide) (by decide) h
theorem trapC_bd {c : Int} (h : 0 ≤ c ∧ c < 6) : 0 ≤ trapC c ∧ trapC c < 6 := six (P := fun c => 0 ≤ trapC c ∧ trapC c < 6) (by decide) (by decide) (by decide) (by decide) (by decide) (by decide) h
theorem cw_map {f : Int → Int} (hf : ∀ c, 0 ≤ c ∧ c < 6 → 0 ≤ f c ∧ f c < 6) {a : List Int} (ha : Cw a) : Cw (nub (a.map f)) := cw_nub (fun c hc => by obtain ⟨x, hx, rfl⟩ := List.mem_map.mp hc; exact hf x (ha.bd x hx)) (by rw [List.length_map]; exact ha.ne)
theorem cw_side {a b : List Int} (ha : Cw a) (hb : Cw b) : Cw ((nub (a ++ b)).filter (fun c => decide (mx (minL a) (minL b) ≤ c))) := by
  have h := cw_app ha hb
  refine ⟨h.ri.filter _, fun c hc => h.bd c (List.mem_filter.mp hc).1, ?_⟩
  have m1 := (minL_low ha.ne).1
  have m2 := (minL_low hb.ne).1
  refine List.length_pos_of_mem (a := mx (minL a) (minL b)) (List.mem_filter.mpr ⟨mem_nub.mpr ?_, by simp⟩)
  unfold mx
  split
  · exact List.mem_append_right _ m2
  · exact List.mem_append_left _ m1
theorem cw_beg {sg : Int} (kn : List (Option Bool)) {p : Pt} (h : okW sg p) : ∀ s, Cw (wbeg kn s p).1 := by
  induction p with
  | thn p q ih1 ih2 =>
    intro s
    simp only [wbeg]
    split
    · have h1 := ih1 h.1 s
      have h2 := ih2 h.2 (wbeg kn s p).2.1
      exact cw_nub (fun c hc => (List.mem_append.mp hc).elim (fun z => h1.bd c (List.mem_filter.mp z).1) fun z => h2.bd c z) (by rw [List.length_append]; exact Nat.lt_of_lt_of_le h2.ne (Nat.le_add_left _ _))
    · exact ih1 h.1 s
  | bes p q ih1 ih2 => intro s; exact cw_side (ih1 h.1 s) (ih2 h.2 s)
  | iff x p q ih1 ih2 =>
    intro s
    simp only [wbeg]
    split
    · exact cw_app (ih1 h.2.1 false) (ih2 h.2.2 false)
    · exact ih1 h.2.1 s
    · exact ih2 h.2.2 s
  | again k p ih => intro s; exact cw_map (fun c => agC_bd) (ih h s)
  | hold x p ih => intro s; exact ih h.2 s
  | watch x p ih => intro s; exact ih h.2 s
  | trap p ih => intro s; exact cw_map (fun c => trapC_bd) (ih h s)
  | nothing => intro s; exact cw_one ⟨by decide, by decide⟩
  | send x => intro s; exact cw_one ⟨by decide, by decide⟩
  | exit d => intro s; exact cw_one ⟨Int.le_trans h.1 (Int.le_add_of_nonneg_left (by decide)), Int.add_lt_add_left h.2 2⟩
  | rest k => intro s; exact cw_one ⟨by decide, by decide⟩
  | stay k => intro s; exact cw_one ⟨by decide, by decide⟩
theorem wbeg_len (kn : List (Option Bool)) (p : Pt) : ∀ s, (wbeg kn s p).2.2.1.length ≤ p.sc ∧ (wbeg kn s p).2.2.2.length ≤ p.sc := by
  induction p with
  | thn p q ih1 ih2 =>
    intro s
    have h1 := ih1 s
    have h2 := ih2 (wbeg kn s p).2.1
    simp only [wbeg, Pt.sc]
    split
    · simp only [turnW, List.length_append]; exact ⟨Nat.add_le_add h1.1 h2.1, Nat.add_le_add h1.2 h2.2⟩
    · exact ⟨Nat.le_add_right_of_le h1.1, Nat.le_add_right_of_le h1.2⟩
  | bes p q ih1 ih2 =>
    intro s
    have h1 := ih1 s
    have h2 := ih2 s
    simp only [wbeg, Pt.sc, sideW, List.length_append]
    exact ⟨Nat.add_le_add h1.1 h2.1, Nat.add_le_add h1.2 h2.2⟩
  | iff x p q ih1 ih2 =>
    intro s
    have h1 := ih1 s
    have h2 := ih2 s
    have h3 := ih1 false
    have h4 := ih2 false
    simp only [wbeg, Pt.sc]
    split
    · simp only [oneW, List.length_append, List.length_nil]; exact ⟨Nat.zero_le _, Nat.add_le_add h3.2 h4.2⟩
    · exact ⟨Nat.le_add_right_of_le h1.1, Nat.le_add_right_of_le h1.2⟩
    · exact ⟨Nat.le_add_left_of_le h2.1, Nat.le_add_left_of_le h2.2⟩
  | again k p ih => intro s; exact ih s
  | hold x p ih => intro s; exact ih s
  | watch x p ih => intro s; exact ih s
  | trap p ih => intro s; exact ih s
  | send x => intro s; cases s <;> simp [wbeg, Pt.sc]
  | nothing => intro s; exact ⟨Nat.zero_le _, Nat.zero_le _⟩
  | exit x => intro s; exact ⟨Nat.zero_le _, Nat.zero_le _⟩
  | rest x => intro s; exact ⟨Nat.zero_le _, Nat.zero_le _⟩
  | stay x => intro s; exact ⟨Nat.zero_le _, Nat.zero_le _⟩
def walkD (kn : List (Option Bool)) (s : Bool) (p : Pt) (st : Option (List Int)) : Wk := ((wbeg kn s (pb p st)).1, (wbeg kn s (pb p st)).2.1, nub (wbeg kn s (pb p st)).2.2.1, nub (wbeg kn s (pb p st)).2.2.2)

end My
end

section
set_option Elab.async false
set_option linter.all false
set_option maxRecDepth 100000
set_option maxHeartbeats 4000000
namespace My
open PySem L2
def WkAt (H : Hp) (t : Addr) (d : Wk) : Prop := ∃ l1 l2 l3, H t = some (.tup [.ref l1, .bl d.2.1, .ref l2, .ref l3]) ∧ H l1 = some (.lst (d.1.map V.int)) ∧ H l2 = some (.lst (d.2.2.1.map V.int)) ∧ H l3 = some (.lst (d.2.2.2.map V.int))
theorem WkAt.mono {H H' : Hp} {t : Addr} {d : Wk} (h : WkAt H t d) (g : Same H H') : WkAt H' t d := by
  obtain ⟨l1, l2, l3, a1, a2, a3, a4⟩ := h
  exact ⟨l1, l2, l3, g _ _ a1, g _ _ a2, g _ _ a3, g _ _ a4⟩
def smW (d : Wk) : Prop := d.1.length ≤ 20 ∧ 0 < d.1.length ∧ d.2.2.1.length ≤ 900 ∧ d.2.2.2.length ≤ 900
def spTurnW : Sp := fun vs H Q _ => ∃ t1 t2 a b, vs = [.ref t1, .ref t2] ∧ WkAt H t1 a ∧ WkAt H t2 b ∧ smW a ∧ smW b ∧ ∀ t H', Same H H' → WkAt H' t (turnW a b) → Q (.ref t) H'
def spSideW : Sp := fun vs H Q _ => ∃ t1 t2 a b, vs = [.ref t1, .ref t2] ∧ WkAt H t1 a ∧ WkAt H t2 b ∧ smW a ∧ smW b ∧ ∀ t H', Same H H' → WkAt H' t (sideW a b) → Q (.ref t) H'
def spOneW : Sp := fun vs H Q _ => ∃ t1 t2 a b, vs = [.ref t1, .ref t2] ∧ WkAt H t1 a ∧ WkAt H t2 b ∧ smW a ∧ smW b ∧ ∀ t H', Same H H' → WkAt H' t (oneW a b) → Q (.ref t) H'
def spRecW : Sp := fun vs H Q _ => ∃ (t1 c : Addr) (a : Wk) (cs : List Int), vs = [.ref t1, .ref c] ∧ WkAt H t1 a ∧ H c = some (.lst (cs.map V.int)) ∧ cs.length ≤ 20 ∧ ∀ t H', Same H H' → WkAt H' t (nub cs, a.2.1, a.2.2.1, a.2.2.2) → Q (.ref t) H'
def spLeafW (K : PySem.W.Frag) : Sp := fun vs H Q _ => ∃ v p s, vs = [v, .bl s] ∧ PAt K H (Pt.nd p) v ∧ isLf p = true ∧ ∀ t H', Same H H' → WkAt H' t (wbeg [] s p) → Q (.ref t) H'
def spWb (K : PySem.W.Frag) (n : Nat) : Sp := fun vs H Q _ => ∃ v p s kl kn, vs = [v, .bl s, .ref kl] ∧ PAt K H (Pt.nd p) v ∧ SqL K H kl ((kn : List (Option Bool)).map vO) ∧ p.hg ≤ n ∧ p.sc ≤ 900 ∧ okW kn.length p ∧ ∀ t H', Same H H' → WkAt H' t (wbeg kn s p) → Q (.ref t) H'
def spWalk (K : PySem.W.Frag) (n : Nat) : Sp := fun vs H Q _ => ∃ v p sv st s kl kn, vs = [v, sv, .bl s, .ref kl] ∧ PAt K H (Pt.nd p) v ∧ StAt K H st sv ∧ SqL K H kl ((kn : List (Option Bool)).map vO) ∧ p.hg ≤ n ∧ p.sc < 64 ∧ p.rc < 64 ∧ okW kn.length p ∧ ∀ t H', Same H H' → WkAt H' t (walkD kn s p st) → Q (.ref t) H'
theorem smW_beg {kn : List (Option Bool)} {sg : Int} {p : Pt} (h : okW sg p) (hs : p.sc ≤ 900) (s : Bool) : smW (wbeg kn s p) := by
  have c := cw_beg kn h s
  exact ⟨Nat.le_trans c.len (by decide), c.ne, Nat.le_trans (wbeg_len kn p s).1 hs, Nat.le_trans (wbeg_len kn p s).2 hs⟩
theorem lstApp {H : Hp} {l : Addr} {xs ys : List Int} (h : H l = some (.lst (xs.map V.int ++ ys.map V.int))) : H l = some (.lst ((xs ++ ys).map V.int)) := by rw [h, List.map_append]
section
variable {P : Program} {w : World} {K : PySem.W.Frag} {mg : Str → Option Value} {base : Heap} {aN aP aR : Addr} {uE uR uL : Value}
set_option maxHeartbeats 16000000 in
theorem ok_turnW (F : FunA K mg "in_turn_walking" "in_turn" ["first", "second"] s_in_turn_walking) (T : TxtR K mg aN aP aR uE uR uL) : Callee P w K mg base 1 "in_turn_walking" ["first", "second"] spTurnW := by
  refine F.ok sc_in_turn_walking (fun vs H Q E h => ?_) (fun f cdv A outer s H vs Q E hr h => ?_)
  · obtain ⟨t1, t2, da, db, rfl, _⟩ := h; rfl
  obtain ⟨t1, t2, da, db, rfl, ⟨l1, l2, l3, a1, a2, a3, a4⟩, ⟨m1, m2, m3, b1, b2, b3, b4⟩, sa, sb, q⟩ := h
  refine ⟨_, (pss_cons (ps_setComp (j := 2) (g := (gName 0)) (tc := (tTest (tOp rNe (tVar 0) (tC V_ENDED)))) (te := (tVar 0)) ["code"] [] sc_in_turn_walking.nd rfl (Or.inl rfl) rfl (compOk (defScope s_in_turn_walking) ["first", "second", "going_past", "codes"] (by decide +kernel)) (pi_list (pe_ix ix_tup (pv 0) pe_int (fun _ _ => rfl))) (fun s2 H2 fp cl C => pg_name (i := 0) (show List.Nodup [("code" : Str)] from by decide +kernel) rfl (Or.inl rfl)) (gkeep_name (by decide)) (fun s2 H2 fp cl C => pif_one (pt_cmpR op_ne (pv 0) (pe_glob rfl T.m_ENDED T.r_ENDED) (nomark _))) (fun s2 H2 fp cl C => (pv 0)))
    (pss_cons (ps_set (i := 3) sc_in_turn_walking.nd rfl (Or.inl rfl) (pe_sset rfl rfl T.n_sorted rfl T.n_set (pe_op op_cat (pv 2) (pe_ix ix_tup (pv 1) pe_int (fun _ _ => rfl)))))
    (pss_one (ps_ret (pe_tup (pa_cons (pv 3) (pa_cons (pe_ix ix_tup (pv 1) pe_int (fun _ _ => rfl)) (pa_cons (pe_op op_cat (pe_ix ix_tup (pv 0) pe_int (fun _ _ => rfl)) (pe_ix ix_tup (pv 1) pe_int (fun _ _ => rfl))) (pa_cons (pe_op op_cat (pe_ix ix_tup (pv 0) pe_int (fun _ _ => rfl)) (pe_ix ix_tup (pv 1) pe_int (fun _ _ => rfl))) pa_nil))))))))), ?_⟩
  refine ⟨_, rfl, t1, _, _, _, rfl, rfl, SqT.of a1, atI_nat (j := 0) rfl, l1, rfl, ⟨_, SqL.of a2⟩, comp_list (K := K) (xs := da.1.map V.int) (fun i ys H' => H' = H ∧ ys = ((da.1.take i).filter (fun c => !decide (c = 0))).map V.int) ⟨rfl, rfl⟩ (by rw [List.length_map]; exact small (leKn sa.1 (by decide))) (fun i ys H' ⟨e, _⟩ => by rw [e]; exact SqL.of a2) ?_ ?_⟩
  · rintro j z ys H' N hj ⟨rfl, rfl⟩ hN hyl
    rw [List.getElem?_map] at hj
    cases ej : da.1[j]? with
    | none => rw [ej] at hj; cases hj
    | some c =>
      rw [ej] at hj
      cases hj
      have et : (da.1.take (j + 1)).filter (fun c => !decide (c = 0)) = (da.1.take j).filter (fun c => !decide (c = 0)) ++ [c].filter (fun c => !decide (c = 0)) := by
        rw [List.take_add_one, ej, List.filter_append]; rfl
      refine ⟨_, rfl, rfl, _, rfl, ite2 (fun z => ?_) fun z => ?_⟩
      · refine ⟨_, rfl, hN _ _ (snoc_le hyl) ⟨rfl, ?_⟩⟩
        have nz : ¬ c = 0 := fun y => by rw [y] at z; exact absurd z (by decide)
        rw [et, List.map_append, List.filter_cons_of_pos (by simp [nz])]
        rfl
      · refine hN _ _ (Nat.le_succ_of_le hyl) ⟨rfl, ?_⟩
        have nz : c = 0 := Classical.byContradiction fun y => z (by simp [y])
        rw [et, List.filter_cons_of_neg (by simp [nz])]
        simp
  · rintro ys H' hyl ⟨rfl, rfl⟩ D hD
    have g0 := same_new hD (.lst (((da.1.take (da.1.map V.int).length).filter (fun c => !decide (c = 0))).map V.int))
    have hD0 : (upd H' D (.lst (((da.1.take (da.1.map V.int).length).filter (fun c => !decide (c = 0))).map V.int))) D = some (.lst ((da.1.filter (fun c => !decide (c = 0))).map V.int)) := by rw [upd_same, List.length_map, List.take_length]
    have fl : (da.1.filter (fun c => !decide (c = 0))).length ≤ da.1.length := List.length_filter_le _ _
    have s1 := sa.1
    have s2 := sb.1
    have a1 := g0 _ _ a1
    have a3 := g0 _ _ a3
    have a4 := g0 _ _ a4
    have b1 := g0 _ _ b1
    have b2 := g0 _ _ b2
    have b3 := g0 _ _ b3
    have b4 := g0 _ _ b4
    have q : ∀ t H2, Same (upd H' D (.lst (((da.1.take (da.1.map V.int).length).filter (fun c => !decide (c = 0))).map V.int))) H2 → WkAt H2 t (turnW da db) → Q (.ref t) H2 := fun t H2 g => q t H2 (g0.trans g)
    generalize (upd H' D (.lst (((da.1.take (da.1.map V.int).length).filter (fun c => !decide (c = 0))).map V.int))) = H1 at hD0 a1 a3 a4 b1 b2 b3 b4 q
    refine ⟨_, rfl, _, rfl, t2, _, _, _, rfl, rfl, SqT.of b1, atI_nat (j := 0) rfl, D, m1, _, _, rfl, rfl, hD0, b2, by rw [List.length_map, List.length_map]; exact small (le2K (Nat.le_trans fl s1) s2 (by decide)), fun p hp => ?_⟩
    have g1 := same_new hp (.lst ((da.1.filter (fun c => !decide (c = 0))).map V.int ++ db.1.map V.int))
    refine ⟨p, _, rfl, SqL.of (lstApp upd_same), by rw [List.length_append]; exact le2L (Nat.le_trans fl s1) s2 (by decide), fun r hr => ?_⟩
    have g2 := same_new hr (.lst ((nub (da.1.filter (fun c => !decide (c = 0)) ++ db.1)).map V.int))
    have g12 := g1.trans g2
    refine ⟨_, rfl, _, rfl, t2, _, _, _, rfl, rfl, SqT.of (g12 _ _ b1), atI_nat (j := 1) rfl, _, rfl, t1, _, _, _, rfl, rfl, SqT.of (g12 _ _ a1), atI_nat (j := 2) rfl, _, rfl, t2, _, _, _, rfl, rfl, SqT.of (g12 _ _ b1), atI_nat (j := 2) rfl, l2, m2, _, _, rfl, rfl, g12 _ _ a3, g12 _ _ b3, by rw [List.length_map, List.length_map]; exact Nat.le_trans (Nat.add_le_add sa.2.2.1 sb.2.2.1) (by decide), fun c hc => ?_⟩
    have g3 := same_new hc (.lst (da.2.2.1.map V.int ++ db.2.2.1.map V.int))
    have g13 := g12.trans g3
    refine ⟨_, rfl, t1, _, _, _, rfl, rfl, SqT.of (g13 _ _ a1), atI_nat (j := 3) rfl, _, rfl, t2, _, _, _, rfl, rfl, SqT.of (g13 _ _ b1), atI_nat (j := 3) rfl, l3, m3, _, _, rfl, rfl, g13 _ _ a4, g13 _ _ b4, by rw [List.length_map, List.length_map]; exact Nat.le_trans (Nat.add_le_add sa.2.2.2 sb.2.2.2) (by decide), fun e he => ?_⟩
    have g4 := same_new he (.lst (da.2.2.2.map V.int ++ db.2.2.2.map V.int))
    refine ⟨(by show 4 ≤ sizeLine; decide), fun t ht => ?_⟩
    have g5 := same_new ht (.tup [.ref r, .bl db.2.1, .ref c, .ref e])
    exact q _ _ (g13.trans (g4.trans g5)) ⟨r, c, e, upd_same, g5 _ _ (g4 _ _ (g3 _ _ upd_same)), g5 _ _ (g4 _ _ (lstApp upd_same)), g5 _ _ (lstApp upd_same)⟩
set_option maxHeartbeats 16000000 in
theorem ok_sideW (F : FunA K mg "side_by_side_walking" "side_by_side" ["first", "second"] s_side_by_side_walking) (T : TxtR K mg aN aP aR uE uR uL) : Callee P w K mg base 1 "side_by_side_walking" ["first", "second"] spSideW := by
  refine F.ok sc_side_by_side_walking (fun vs H Q E h => ?_) (fun f cdv A outer s H vs Q E hr h => ?_)
  · obtain ⟨t1, t2, da, db, rfl, _⟩ := h; rfl
  obtain ⟨t1, t2, da, db, rfl, ⟨l1, l2, l3, a1, a2, a3, a4⟩, ⟨m1, m2, m3, b1, b2, b3, b4⟩, sa, sb, q⟩ := h
  refine ⟨_, (pss_cons (ps_set (i := 2) sc_side_by_side_walking.nd rfl (Or.inr rfl) (pe_callB (call_max2 rfl) rfl T.n_max (by decide +kernel) (pa_cons (pe_callB (call_minL rfl) rfl T.n_min (by decide +kernel) (pa_cons (pe_ix ix_tup (pv 0) pe_int (fun _ _ => rfl)) pa_nil)) (pa_cons (pe_callB (call_minL rfl) rfl T.n_min (by decide +kernel) (pa_cons (pe_ix ix_tup (pv 1) pe_int (fun _ _ => rfl)) pa_nil)) pa_nil))))
    (pss_cons (ps_setComp (j := 3) (g := (gName 0)) (tc := (tTest (tOp (rI0 fun i j => .bl (decide (j ≤ i))) (tVar 0) (tVar 1)))) (te := (tVar 0)) ["code"] [("least", 2)] sc_side_by_side_walking.nd rfl (Or.inl rfl) rfl (compOk (defScope s_side_by_side_walking) ["first", "second", "least", "codes"] (by decide +kernel)) (pi_list (pe_sset rfl rfl T.n_sorted rfl T.n_set (pe_op op_cat (pe_ix ix_tup (pv 0) pe_int (fun _ _ => rfl)) (pe_ix ix_tup (pv 1) pe_int (fun _ _ => rfl))))) (fun s2 H2 fp cl C => pg_name (i := 0) (show List.Nodup [("code" : Str), ("least" : Str)] from by decide +kernel) rfl (Or.inl rfl)) (gkeep_name (by decide)) (fun s2 H2 fp cl C => pif_one (pt_cmpR op_ge (pv 0) (pv 1) (nomark _))) (fun s2 H2 fp cl C => (pv 0)))
    (pss_one (ps_ret (pe_tup (pa_cons (pv 3) (pa_cons (pe_and (pe_ix ix_tup (pv 0) pe_int (fun _ _ => rfl)) (pe_one (pe_ix ix_tup (pv 1) pe_int (fun _ _ => rfl)))) (pa_cons (pe_op op_cat (pe_ix ix_tup (pv 0) pe_int (fun _ _ => rfl)) (pe_ix ix_tup (pv 1) pe_int (fun _ _ => rfl))) (pa_cons (pe_op op_cat (pe_ix ix_tup (pv 0) pe_int (fun _ _ => rfl)) (pe_ix ix_tup (pv 1) pe_int (fun _ _ => rfl))) pa_nil))))))))), ?_⟩
  refine ⟨_, rfl, t1, _, _, _, rfl, rfl, SqT.of a1, atI_nat (j := 0) rfl, l1, _, rfl, SqL.of a2, sa.2.1, fun M1 h1 h2 => ?_⟩
  refine ⟨_, rfl, t2, _, _, _, rfl, rfl, SqT.of b1, atI_nat (j := 0) rfl, m1, _, rfl, SqL.of b2, sb.2.1, fun M2 k1 k2 => ?_⟩
  cases minL_eq h1 h2
  cases minL_eq k1 k2
  have s1 := sa.1
  have s2 := sb.1
  refine ⟨_, _, rfl, _, rfl, t1, _, _, _, rfl, rfl, SqT.of a1, atI_nat (j := 0) rfl, _, rfl, t2, _, _, _, rfl, rfl, SqT.of b1, atI_nat (j := 0) rfl, l1, m1, _, _, rfl, rfl, a2, b2, by rw [List.length_map, List.length_map]; exact small (le2K s1 s2 (by decide)), fun p hp => ?_⟩
  have g1 := same_new hp (.lst (da.1.map V.int ++ db.1.map V.int))
  refine ⟨p, da.1 ++ db.1, rfl, SqL.of (lstApp upd_same), by rw [List.length_append]; exact le2L s1 s2 (by decide), fun r hr => ?_⟩
  have g2 := same_new hr (.lst ((nub (da.1 ++ db.1)).map V.int))
  have g12 := g1.trans g2
  have hr2 := upd_same (H := upd H p (.lst (da.1.map V.int ++ db.1.map V.int))) (a := r) (o := .lst ((nub (da.1 ++ db.1)).map V.int))
  have a1 := g12 _ _ a1
  have a3 := g12 _ _ a3
  have a4 := g12 _ _ a4
  have b1 := g12 _ _ b1
  have b3 := g12 _ _ b3
  have b4 := g12 _ _ b4
  have q : ∀ t H2, Same (upd (upd H p (.lst (da.1.map V.int ++ db.1.map V.int))) r (.lst ((nub (da.1 ++ db.1)).map V.int))) H2 → WkAt H2 t (sideW da db) → Q (.ref t) H2 := fun t H2 g => q t H2 (g12.trans g)
  generalize (upd (upd H p (.lst (da.1.map V.int ++ db.1.map V.int))) r (.lst ((nub (da.1 ++ db.1)).map V.int))) = H1 at hr2 a1 a3 a4 b1 b3 b4 q
  have nl : (nub (da.1 ++ db.1)).length ≤ 40 := Nat.le_trans (nub_len _) (by rw [List.length_append]; exact Nat.add_le_add s1 s2)
  refine ⟨r, rfl, ⟨_, SqL.of hr2⟩, comp_list (K := K) (xs := (nub (da.1 ++ db.1)).map V.int) (fun i ys H' => H' = H1 ∧ ys = (((nub (da.1 ++ db.1)).take i).filter (fun c => decide (mx (minL da.1) (minL db.1) ≤ c))).map V.int) ⟨rfl, rfl⟩ (by rw [List.length_map]; exact small (leKn nl (by decide))) (fun i ys H' ⟨e, _⟩ => by rw [e]; exact SqL.of hr2) ?_ ?_⟩
  · rintro j z ys H' N hj ⟨rfl, rfl⟩ hN hyl
    rw [List.getElem?_map] at hj
    cases ej : (nub (da.1 ++ db.1))[j]? with
    | none => rw [ej] at hj; cases hj
    | some c =>
      rw [ej] at hj
      cases hj
      have et : ((nub (da.1 ++ db.1)).take (j + 1)).filter (fun c => decide (mx (minL da.1) (minL db.1) ≤ c)) = ((nub (da.1 ++ db.1)).take j).filter (fun c => decide (mx (minL da.1) (minL db.1) ≤ c)) ++ [c].filter (fun c => decide (mx (minL da.1) (minL db.1) ≤ c)) := by
        rw [List.take_add_one, ej, List.filter_append]; rfl
      refine ⟨_, rfl, _, rfl, _, _, rfl, rfl, _, rfl, ite2 (fun z => ?_) fun z => ?_⟩
      · refine ⟨_, rfl, hN _ _ (snoc_le hyl) ⟨rfl, ?_⟩⟩
        have f1 : [c].filter (fun c => decide (mx (minL da.1) (minL db.1) ≤ c)) = [c] := by
          have : mx (minL da.1) (minL db.1) ≤ c := of_decide_eq_true z
          simp [this]
        rw [et, f1, List.map_append]
        rfl
      · refine hN _ _ (Nat.le_succ_of_le hyl) ⟨rfl, ?_⟩
        have f1 : [c].filter (fun c => decide (mx (minL da.1) (minL db.1) ≤ c)) = [] := by
          have : ¬ mx (minL da.1) (minL db.1) ≤ c := fun y => z (decide_eq_true y)
          simp [this]
        rw [et, f1, List.append_nil]
  · rintro ys H' hyl ⟨rfl, rfl⟩ D hD
    have g0 := same_new hD (.lst ((((nub (da.1 ++ db.1)).take ((nub (da.1 ++ db.1)).map V.int).length).filter (fun c => decide (mx (minL da.1) (minL db.1) ≤ c))).map V.int))
    have hD0 : (upd H' D (.lst ((((nub (da.1 ++ db.1)).take ((nub (da.1 ++ db.1)).map V.int).length).filter (fun c => decide (mx (minL da.1) (minL db.1) ≤ c))).map V.int))) D = some (.lst ((sideW da db).1.map V.int)) := by rw [upd_same, List.length_map, List.take_length]; rfl
    have a1 := g0 _ _ a1
    have a3 := g0 _ _ a3
    have a4 := g0 _ _ a4
    have b1 := g0 _ _ b1
    have b3 := g0 _ _ b3
    have b4 := g0 _ _ b4
    have q := fun t H2 (g : Same (upd H' D (.lst ((((nub (da.1 ++ db.1)).take ((nub (da.1 ++ db.1)).map V.int).length).filter (fun c => decide (mx (minL da.1) (minL db.1) ≤ c))).map V.int))) H2) => q t H2 (g0.trans g)
    generalize (upd H' D (.lst ((((nub (da.1 ++ db.1)).take ((nub (da.1 ++ db.1)).map V.int).length).filter (fun c => decide (mx (minL da.1) (minL db.1) ≤ c))).map V.int))) = H2 at hD0 a1 a3 a4 b1 b3 b4 q
    refine ⟨_, rfl, _, rfl, t1, _, _, _, rfl, rfl, SqT.of a1, atI_nat (j := 1) rfl, _, rfl, ?_⟩
    have rest : ∀ bb, bb = (da.2.1 && db.2.1) → (tCons (tOp rCat (tOp (rIxT K) (tVar 0) (tC (.int 2))) (tOp (rIxT K) (tVar 1) (tC (.int 2)))) (tCons (tOp rCat (tOp (rIxT K) (tVar 0) (tC (.int 3))) (tOp (rIxT K) (tVar 1) (tC (.int 3)))) tNil)) [some (.ref t1), some (.ref t2), some (.int (mx (minL da.1) (minL db.1))), some (.ref D)] H2 (fun xs H1 => ([V.ref D, .bl bb] ++ xs).length ≤ sizeLine ∧ ∀ p, H1 p = none → Q (.ref p) (upd H1 p (.tup ([V.ref D, .bl bb] ++ xs)))) := by
      intro bb eb
      subst eb
      refine ⟨_, rfl, t1, _, _, _, rfl, rfl, SqT.of a1, atI_nat (j := 2) rfl, _, rfl, t2, _, _, _, rfl, rfl, SqT.of b1, atI_nat (j := 2) rfl, l2, m2, _, _, rfl, rfl, a3, b3, by rw [List.length_map, List.length_map]; exact Nat.le_trans (Nat.add_le_add sa.2.2.1 sb.2.2.1) (by decide), fun c hc => ?_⟩
      have g3 := same_new hc (.lst (da.2.2.1.map V.int ++ db.2.2.1.map V.int))
      refine ⟨_, rfl, t1, _, _, _, rfl, rfl, SqT.of (g3 _ _ a1), atI_nat (j := 3) rfl, _, rfl, t2, _, _, _, rfl, rfl, SqT.of (g3 _ _ b1), atI_nat (j := 3) rfl, l3, m3, _, _, rfl, rfl, g3 _ _ a4, g3 _ _ b4, by rw [List.length_map, List.length_map]; exact Nat.le_trans (Nat.add_le_add sa.2.2.2 sb.2.2.2) (by decide), fun e he => ?_⟩
      have g4 := same_new he (.lst (da.2.2.2.map V.int ++ db.2.2.2.map V.int))
      refine ⟨(by show 4 ≤ sizeLine; decide), fun t ht => ?_⟩
      have g5 := same_new ht (.tup [.ref D, .bl (da.2.1 && db.2.1), .ref c, .ref e])
      exact q _ _ (g3.trans (g4.trans g5)) ⟨D, c, e, upd_same, g5 _ _ (g4 _ _ (g3 _ _ hD0)), g5 _ _ (g4 _ _ (lstApp upd_same)), g5 _ _ (lstApp upd_same)⟩
    cases e1 : da.2.1 with
    | true => exact iteT ⟨_, rfl, t2, _, _, _, rfl, rfl, SqT.of b1, atI_nat (j := 1) rfl, rest _ (by rw [e1]; rfl)⟩
    | false => exact iteF (rest _ (by rw [e1]; rfl))
set_option maxHeartbeats 16000000 in
theorem ok_oneW (F : FunM K mg "one_of" ["first", "second"] s_one_of) (T : TxtR K mg aN aP aR uE uR uL) : Callee P w K mg base 1 "one_of" ["first", "second"] spOneW := by
  refine F.ok sc_one_of (fun vs H Q E h => ?_) (fun f cdv A outer s H vs Q E hr h => ?_)
  · obtain ⟨t1, t2, da, db, rfl, _⟩ := h; rfl
  obtain ⟨t1, t2, da, db, rfl, ⟨l1, l2, l3, a1, a2, a3, a4⟩, ⟨m1, m2, m3, b1, b2, b3, b4⟩, sa, sb, q⟩ := h
  refine ⟨_, (pss_one (ps_ret (pe_tup (pa_cons (pe_sset rfl rfl T.n_sorted rfl T.n_set (pe_op op_cat (pe_ix ix_tup (pv 0) pe_int (fun _ _ => rfl)) (pe_ix ix_tup (pv 1) pe_int (fun _ _ => rfl)))) (pa_cons pe_bl (pa_cons (pe_lst pa_nil) (pa_cons (pe_op op_cat (pe_ix ix_tup (pv 0) pe_int (fun _ _ => rfl)) (pe_ix ix_tup (pv 1) pe_int (fun _ _ => rfl))) pa_nil))))))), ?_⟩
  have s1 := sa.1
  have s2 := sb.1
  refine ⟨_, rfl, t1, _, _, _, rfl, rfl, SqT.of a1, atI_nat (j := 0) rfl, _, rfl, t2, _, _, _, rfl, rfl, SqT.of b1, atI_nat (j := 0) rfl, l1, m1, _, _, rfl, rfl, a2, b2, by rw [List.length_map, List.length_map]; exact small (le2K s1 s2 (by decide)), fun p hp => ?_⟩
  have g1 := same_new hp (.lst (da.1.map V.int ++ db.1.map V.int))
  refine ⟨p, da.1 ++ db.1, rfl, SqL.of (lstApp upd_same), by rw [List.length_append]; exact le2L s1 s2 (by decide), fun r hr => ?_⟩
  have g2 := same_new hr (.lst ((nub (da.1 ++ db.1)).map V.int))
  refine ⟨(by show 0 ≤ sizeLine; decide), fun c hc => ?_⟩
  have g3 := same_new hc (.lst [])
  have g13 := (g1.trans g2).trans g3
  refine ⟨_, rfl, t1, _, _, _, rfl, rfl, SqT.of (g13 _ _ a1), atI_nat (j := 3) rfl, _, rfl, t2, _, _, _, rfl, rfl, SqT.of (g13 _ _ b1), atI_nat (j := 3) rfl, l3, m3, _, _, rfl, rfl, g13 _ _ a4, g13 _ _ b4, by rw [List.length_map, List.length_map]; exact Nat.le_trans (Nat.add_le_add sa.2.2.2 sb.2.2.2) (by decide), fun e he => ?_⟩
  have g4 := same_new he (.lst (da.2.2.2.map V.int ++ db.2.2.2.map V.int))
  refine ⟨(by show 4 ≤ sizeLine; decide), fun t ht => ?_⟩
  have g5 := same_new ht (.tup [.ref r, .bl false, .ref c, .ref e])
  exact q _ _ (g13.trans (g4.trans g5)) ⟨r, c, e, upd_same, g5 _ _ (g4 _ _ (g3 _ _ upd_same)), g5 _ _ (g4 _ _ upd_same), g5 _ _ (lstApp upd_same)⟩
theorem ok_recW (F : FunM K mg "recoded" ["inner", "codes"] s_recoded) (T : TxtR K mg aN aP aR uE uR uL) : Callee P w K mg base 1 "recoded" ["inner", "codes"] spRecW := by
  refine F.ok sc_recoded (fun vs H Q E h => ?_) (fun f cdv A outer s H vs Q E hr h => ?_)
  · obtain ⟨t1, c, a, cs, rfl, _⟩ := h; rfl
  obtain ⟨t1, c, a, cs, rfl, ⟨l1, l2, l3, a1, a2, a3, a4⟩, hc, hl, q⟩ := h
  refine ⟨_, (pss_one (ps_ret (pe_tup (pa_cons (pe_sset rfl rfl T.n_sorted rfl T.n_set (pv 1)) (pa_cons (pe_ix ix_tup (pv 0) pe_int (fun _ _ => rfl)) (pa_cons (pe_ix ix_tup (pv 0) pe_int (fun _ _ => rfl)) (pa_cons (pe_ix ix_tup (pv 0) pe_int (fun _ _ => rfl)) pa_nil))))))), ?_⟩
  refine ⟨_, rfl, c, cs, rfl, SqL.of hc, Nat.lt_of_le_of_lt hl (by decide), fun r hr => ?_⟩
  have g1 := same_new hr (.lst ((nub cs).map V.int))
  refine ⟨_, rfl, t1, _, _, _, rfl, rfl, SqT.of (g1 _ _ a1), atI_nat (j := 1) rfl, _, rfl, t1, _, _, _, rfl, rfl, SqT.of (g1 _ _ a1), atI_nat (j := 2) rfl, _, rfl, t1, _, _, _, rfl, rfl, SqT.of (g1 _ _ a1), atI_nat (j := 3) rfl, (by show 4 ≤ sizeLine; decide), fun t ht => ?_⟩
  have g5 := same_new ht (.tup [.ref r, .bl a.2.1, .ref l2, .ref l3])
  exact q _ _ (g1.trans g5) ⟨r, l2, l3, upd_same, g5 _ _ upd_same, g5 _ _ (g1 _ _ a3), g5 _ _ (g1 _ _ a4)⟩
set_option maxHeartbeats 16000000 in
theorem ok_leafW (F : FunA K mg "begun_leaf_walking" "begun_leaf" ["part", "sure"] s_begun_leaf_walking) (T : TxtR K mg aN aP aR uE uR uL) (C_leaf_code : Callee P w K mg base 1 "leaf_code" ["part"] (spLeafC K)) : Callee P w K mg base 2 "begun_leaf_walking" ["part", "sure"] (spLeafW K) := by
  refine F.ok sc_begun_leaf_walking (fun vs H Q E h => ?_) (fun f cdv A outer s H vs Q E hr h => ?_)
  · obtain ⟨v, p, sr, rfl, _⟩ := h; rfl
  obtain ⟨v, p, sr, rfl, hp, lf, q⟩ := h
  refine ⟨_, (pss_cons (ps_set (i := 2) sc_begun_leaf_walking.nd rfl (Or.inl rfl) (pe_ifExp (pt_cmpR op_eq (pe_ix ix_tup (pv 0) pe_int (fun _ _ => rfl)) pe_str (nomark _)) (pe_lst (pa_cons (pe_ix ix_tup (pv 0) pe_int (fun _ _ => rfl)) pa_nil)) (pe_lst pa_nil)))
    (pss_cons (ps_set (i := 3) sc_begun_leaf_walking.nd rfl (Or.inl rfl) (pe_ifExp (pt_val (pv 1)) (pv 2) (pe_lst pa_nil)))
    (pss_one (ps_ret (pe_tup (pa_cons (pe_lst (pa_cons (pe_callC C_leaf_code hr rfl pass0 (pa_cons (pv 0) pa_nil)) pa_nil)) (pa_cons (pv 1) (pa_cons (pv 3) (pa_cons (pv 2) pa_nil))))))))), ?_⟩
  have fin : ∀ (l1 : Addr) (xs : List Int) (hl : H l1 = none) (e1 : wbeg [] sr p = ([(beg [] p).1], sr, (if sr = true then xs else []), xs)), (tAsg (tIf (tB (tVar 1)) (tVar 2) (tLst tNil)) (gName 3)) { nx := tRet (tTup (tCons (tLst (tCons (tCall (spLeafC K) [] E0 (tCons (tVar 0) tNil)) tNil)) (tCons (tVar 1) (tCons (tVar 3) (tCons (tVar 2) tNil))))) { nx := fun _ H' => Q .non H', rt := Q }, rt := Q } [some v, some (.bl sr), some (.ref l1), none] (upd H l1 (.lst (xs.map V.int))) := by
    intro l1 xs hl e1
    rw [e1] at q
    have g1 := same_new hl (.lst (xs.map V.int))
    refine ⟨_, rfl, _, rfl, ?_⟩
    cases sr with
    | true =>
      refine iteT ⟨_, rfl, _, rfl, v, p, rfl, hp.mono g1.tp, lf, (by show 1 ≤ sizeLine; decide), fun c hc => ?_⟩
      have g2 := same_new hc (.lst [.int (beg [] p).1])
      refine ⟨_, rfl, _, rfl, _, rfl, (by show 4 ≤ sizeLine; decide), fun t ht => ?_⟩
      have g3 := same_new ht (.tup [.ref c, .bl true, .ref l1, .ref l1])
      exact q _ _ (g1.trans (g2.trans g3)) ⟨c, l1, l1, upd_same, g3 _ _ upd_same, g3 _ _ (g2 _ _ upd_same), g3 _ _ (g2 _ _ upd_same)⟩
    | false =>
      refine iteF ⟨(by show 0 ≤ sizeLine; decide), fun m hm => ?_⟩
      have g0 := same_new hm (.lst [])
      refine ⟨_, rfl, v, p, rfl, hp.mono (g1.trans g0).tp, lf, (by show 1 ≤ sizeLine; decide), fun c hc => ?_⟩
      have g2 := same_new hc (.lst [.int (beg [] p).1])
      refine ⟨_, rfl, _, rfl, _, rfl, (by show 4 ≤ sizeLine; decide), fun t ht => ?_⟩
      have g3 := same_new ht (.tup [.ref c, .bl false, .ref m, .ref l1])
      exact q _ _ (g1.trans (g0.trans (g2.trans g3))) ⟨c, m, l1, upd_same, g3 _ _ upd_same, g3 _ _ (g2 _ _ upd_same), g3 _ _ (g2 _ _ (g0 _ _ upd_same))⟩
  cases p with
  | nothing =>
    obtain ⟨a, vs, rfl, hs, hx⟩ := PAt.get hp
    obtain ⟨x0, rfl, h0⟩ := hx.one
    cases h0.str
    exact ⟨_, rfl, a, _, _, _, rfl, rfl, hs.sq, atI_nat (j := 0) rfl, rfl, _, rfl, iteNe (by decide +kernel) ⟨(by show 0 ≤ sizeLine; decide), fun l hl => fin l [] hl (by cases sr <;> rfl)⟩⟩
  | exit x =>
    obtain ⟨a, vs, rfl, hs, hx⟩ := PAt.get hp
    obtain ⟨x0, x1, rfl, h0, h1⟩ := hx.two
    cases h0.str
    cases h1.int
    exact ⟨_, rfl, a, _, _, _, rfl, rfl, hs.sq, atI_nat (j := 0) rfl, rfl, _, rfl, iteNe (by decide +kernel) ⟨(by show 0 ≤ sizeLine; decide), fun l hl => fin l [] hl (by cases sr <;> rfl)⟩⟩
  | rest x =>
    obtain ⟨a, vs, rfl, hs, hx⟩ := PAt.get hp
    obtain ⟨x0, x1, rfl, h0, h1⟩ := hx.two
    cases h0.str
    cases h1.int
    exact ⟨_, rfl, a, _, _, _, rfl, rfl, hs.sq, atI_nat (j := 0) rfl, rfl, _, rfl, iteNe (by decide +kernel) ⟨(by show 0 ≤ sizeLine; decide), fun l hl => fin l [] hl (by cases sr <;> rfl)⟩⟩
  | stay x =>
    obtain ⟨a, vs, rfl, hs, hx⟩ := PAt.get hp
    obtain ⟨x0, x1, rfl, h0, h1⟩ := hx.two
    cases h0.str
    exact ⟨_, rfl, a, _, _, _, rfl, rfl, hs.sq, atI_nat (j := 0) rfl, rfl, _, rfl, iteNe (by decide +kernel) ⟨(by show 0 ≤ sizeLine; decide), fun l hl => fin l [] hl (by cases sr <;> rfl)⟩⟩
  | send x =>
    obtain ⟨a, vs, rfl, hs, hx⟩ := PAt.get hp
    obtain ⟨x0, x1, rfl, h0, h1⟩ := hx.two
    cases h0.str
    cases h1.int
    exact ⟨_, rfl, a, _, _, _, rfl, rfl, hs.sq, atI_nat (j := 0) rfl, rfl, _, rfl, iteEq ⟨_, rfl, a, _, _, _, rfl, rfl, hs.sq, atI_nat (j := 1) rfl, (by show 1 ≤ sizeLine; decide), fun l hl => fin l [x] hl (by cases sr <;> rfl)⟩⟩
  | _ => cases lf
end

end My
end

section
set_option Elab.async false
set_option linter.all false
set_option maxRecDepth 100000
set_option maxHeartbeats 4000000
namespace My
open PySem L2
/-- a walk whose tuple and lists stand apart from a list -/
inductive WkN (s : Addr) (H : Hp) (t : Addr) (d : Wk) : Prop
  | mk (l1 l2 l3 : Addr) (h0 : H t = some (.tup [.ref l1, .bl d.2.1, .ref l2, .ref l3])) (h1 : H l1 = some (.lst (d.1.map V.int))) (h2 : H l2 = some (.lst (d.2.2.1.map V.int))) (h3 : H l3 = some (.lst (d.2.2.2.map V.int))) (n0 : t ≠ s) (n1 : l1 ≠ s) (n2 : l2 ≠ s) (n3 : l3 ≠ s) : WkN s H t d
def spWalkG (K : PySem.W.Frag) (n : Nat) : Sp := fun vs H Q _ => ∃ v p sv st s kl kn, vs = [v, sv, .bl s, .ref kl] ∧ PAt K H (Pt.nd p) v ∧ StAt K H st sv ∧ SqL K H kl ((kn : List (Option Bool)).map vO) ∧ (st = none ∨ (p.hg ≤ n ∧ p.rc ≤ 900)) ∧ (pb p st).hg ≤ n ∧ (pb p st).sc < 64 ∧ okW kn.length p ∧ ∀ (t : Addr) (H' : Hp), Same H H' → WkAt H' t (walkD kn s p st) → (∀ (a : Addr) (xs : List Addr), H a = some (.lst (xs.map V.ref)) → WkN a H' t (walkD kn s p st)) → Q (.ref t) H'
def selW : Option Bool → Wk → Wk → Wk → Wk
  | none, a, _, _ => a
  | some true, _, b, _ => b
  | some false, _, _, c => c
section
variable {P : Program} {w : World} {K : PySem.W.Frag} {mg : Str → Option Value} {base : Heap} {aN aP aR : Addr} {uE uR uL : Value}
theorem wbeg_leaf {p : Pt} (h : isLf p = true) (kn kn2 : List (Option Bool)) (s : Bool) : wbeg kn s p = wbeg kn2 s p := by cases p <;> first | rfl | cases h
theorem wbeg_iff {kn : List (Option Bool)} {s : Bool} {x : Int} {p q : Pt} {o : Option Bool} (h : (kn[x.toNat]?).getD none = o) : wbeg kn s (.iff x p q) = selW o (oneW (wbeg kn false p) (wbeg kn false q)) (wbeg kn s p) (wbeg kn s q) := by
  subst h
  simp only [wbeg]
  cases (kn[x.toNat]?).getD none with
  | none => rfl
  | some b => cases b <;> rfl
set_option maxHeartbeats 64000000 in
theorem ok_wb {n : Nat} (F : FunA K mg "begun_walking" "begun" ["part", "sure", "known"] s_begun_walking) (T : TxtR K mg aN aP aR uE uR uL) (C_begun_leaf_walking : Callee P w K mg base 2 "begun_leaf_walking" ["part", "sure"] (spLeafW K)) (C_in_turn_walking : Callee P w K mg base 1 "in_turn_walking" ["first", "second"] spTurnW) (C_side_by_side_walking : Callee P w K mg base 1 "side_by_side_walking" ["first", "second"] spSideW) (C_one_of : Callee P w K mg base 1 "one_of" ["first", "second"] spOneW) (C_recoded : Callee P w K mg base 1 "recoded" ["inner", "codes"] spRecW)
    (C_code_of_again : Callee P w K mg base 1 "code_of_again" ["code"] spAgC) (C_code_of_trap : Callee P w K mg base 1 "code_of_trap" ["code"] spTrC) (C_begun_walking : Callee P w K mg base (n + 2) "begun_walking" ["part", "sure", "known"] (spWb K n)) : Callee P w K mg base (n + 3) "begun_walking" ["part", "sure", "known"] (spWb K (n + 1)) := by
  refine F.ok sc_begun_walking (fun vs H Q E h => ?_) (fun f cdv A outer s H vs Q E hr h => ?_)
  · obtain ⟨v, p, sr, kl, kn, rfl, _⟩ := h; rfl
  obtain ⟨v, p, sr, kl, kn, rfl, hp, hS, hh, hsc, ok, q⟩ := h
  refine ⟨_, (pss_cons (ps_set (i := 3) sc_begun_walking.nd rfl (Or.inl rfl) (pe_ix ix_tup (pv 0) pe_int (fun _ _ => rfl)))
    (pss_cons (ps_if (pt_cmpR op_eq (pv 3) pe_str (nomark _))
      (pss_cons (ps_set (i := 4) sc_begun_walking.nd rfl (Or.inl rfl) (pe_callC C_begun_walking hr rfl pass0 (pa_cons (pe_ix ix_tup (pv 0) pe_int (fun _ _ => rfl)) (pa_cons (pv 1) (pa_cons (pv 2) pa_nil)))))
    (pss_one (ps_ret (pe_ifExp (pt_cmpR op_in_seq (pe_glob rfl T.m_ENDED T.r_ENDED) (pe_ix ix_tup (pv 4) pe_int (fun _ _ => rfl)) (by rfl)) (pe_callC C_in_turn_walking hr rfl pass0 (pa_cons (pv 4) (pa_cons (pe_callC C_begun_walking hr rfl pass0 (pa_cons (pe_ix ix_tup (pv 0) pe_int (fun _ _ => rfl)) (pa_cons (pe_ix ix_tup (pv 4) pe_int (fun _ _ => rfl)) (pa_cons (pv 2) pa_nil)))) pa_nil))) (pv 4)))))
      pss_nil)
    (pss_cons (ps_if (pt_cmpR op_eq (pv 3) pe_str (nomark _))
      (pss_one (ps_ret (pe_callC C_side_by_side_walking hr rfl pass0 (pa_cons (pe_callC C_begun_walking hr rfl pass0 (pa_cons (pe_ix ix_tup (pv 0) pe_int (fun _ _ => rfl)) (pa_cons (pv 1) (pa_cons (pv 2) pa_nil)))) (pa_cons (pe_callC C_begun_walking hr rfl pass0 (pa_cons (pe_ix ix_tup (pv 0) pe_int (fun _ _ => rfl)) (pa_cons (pv 1) (pa_cons (pv 2) pa_nil)))) pa_nil)))))
      pss_nil)
    (pss_cons (ps_if (pt_cmpR op_eq (pv 3) pe_str (nomark _))
      (pss_cons (ps_if (pt_cmpR op_isN (pe_ix ix_list (pv 2) (pe_ix ix_tup (pv 0) pe_int (fun _ _ => rfl)) (fun _ _ => rfl)) pe_non (nomark _))
      (pss_one (ps_ret (pe_callC C_one_of hr rfl pass0 (pa_cons (pe_callC C_begun_walking hr rfl pass0 (pa_cons (pe_ix ix_tup (pv 0) pe_int (fun _ _ => rfl)) (pa_cons pe_bl (pa_cons (pv 2) pa_nil)))) (pa_cons (pe_callC C_begun_walking hr rfl pass0 (pa_cons (pe_ix ix_tup (pv 0) pe_int (fun _ _ => rfl)) (pa_cons pe_bl (pa_cons (pv 2) pa_nil)))) pa_nil)))))
      pss_nil)
    (pss_one (ps_ret (pe_callC C_begun_walking hr rfl pass0 (pa_cons (pe_ifExp (pt_val (pe_ix ix_list (pv 2) (pe_ix ix_tup (pv 0) pe_int (fun _ _ => rfl)) (fun _ _ => rfl))) (pe_ix ix_tup (pv 0) pe_int (fun _ _ => rfl)) (pe_ix ix_tup (pv 0) pe_int (fun _ _ => rfl))) (pa_cons (pv 1) (pa_cons (pv 2) pa_nil)))))))
      pss_nil)
    (pss_cons (ps_if (pt_cmpR op_eq (pv 3) pe_str (nomark _))
      (pss_cons (ps_set (i := 5) sc_begun_walking.nd rfl (Or.inl rfl) (pe_callC C_begun_walking hr rfl pass0 (pa_cons (pe_ix ix_tup (pv 0) pe_int (fun _ _ => rfl)) (pa_cons (pv 1) (pa_cons (pv 2) pa_nil)))))
    (pss_one (ps_ret (pe_callC C_recoded hr rfl pass0 (pa_cons (pv 5) (pa_cons (pe_comp (g := (gName 0)) (tc := tAlways) (te := (tCall spAgC [] E0 (tCons (tVar 0) tNil))) ["code"] [] rfl (compOk (defScope s_begun_walking) ["part", "sure", "known", "word", "first", "inner"] (by decide +kernel)) (pi_list (pe_ix ix_tup (pv 5) pe_int (fun _ _ => rfl))) (fun s2 H2 fp cl C => pg_name (i := 0) (show List.Nodup [("code" : Str)] from by decide +kernel) rfl (Or.inl rfl)) (gkeep_name (by decide)) (fun s2 H2 fp cl C => pif_nil) (fun s2 H2 fp cl C => (pe_callC C_code_of_again hr rfl pass0 (pa_cons (pv 0) pa_nil)))) pa_nil))))))
      pss_nil)
    (pss_cons (ps_if (PW.pt (pw_or (pt_cmpR op_eq (pv 3) pe_str (nomark _)) (pw_or1 (pt_cmpR op_eq (pv 3) pe_str (nomark _)))))
      (pss_one (ps_ret (pe_callC C_begun_walking hr rfl pass0 (pa_cons (pe_ix ix_tup (pv 0) pe_int (fun _ _ => rfl)) (pa_cons (pv 1) (pa_cons (pv 2) pa_nil))))))
      pss_nil)
    (pss_cons (ps_if (pt_cmpR op_eq (pv 3) pe_str (nomark _))
      (pss_cons (ps_set (i := 5) sc_begun_walking.nd rfl (Or.inl rfl) (pe_callC C_begun_walking hr rfl pass0 (pa_cons (pe_ix ix_tup (pv 0) pe_int (fun _ _ => rfl)) (pa_cons (pv 1) (pa_cons (pv 2) pa_nil)))))
    (pss_one (ps_ret (pe_callC C_recoded hr rfl pass0 (pa_cons (pv 5) (pa_cons (pe_comp (g := (gName 0)) (tc := tAlways) (te := (tCall spTrC [] E0 (tCons (tVar 0) tNil))) ["code"] [] rfl (compOk (defScope s_begun_walking) ["part", "sure", "known", "word", "first", "inner"] (by decide +kernel)) (pi_list (pe_ix ix_tup (pv 5) pe_int (fun _ _ => rfl))) (fun s2 H2 fp cl C => pg_name (i := 0) (show List.Nodup [("code" : Str)] from by decide +kernel) rfl (Or.inl rfl)) (gkeep_name (by decide)) (fun s2 H2 fp cl C => pif_nil) (fun s2 H2 fp cl C => (pe_callC C_code_of_trap hr rfl pass0 (pa_cons (pv 0) pa_nil)))) pa_nil))))))
      pss_nil)
    (pss_one (ps_ret (pe_callC C_begun_leaf_walking hr rfl pass0 (pa_cons (pv 0) (pa_cons (pv 1) pa_nil)))))))))))), ?_⟩
  obtain ⟨a, vs, rfl, hs⟩ := wd_at hp
  refine ⟨_, rfl, a, _, _, _, rfl, rfl, hs.sq, atI_nat (j := 0) rfl, _, rfl, rfl, _, rfl, iteW (fun e => ?_) fun n1 => ⟨_, rfl, rfl, _, rfl, iteW (fun e => ?_) fun n2 => ⟨_, rfl, rfl, _, rfl, iteW (fun e => ?_) fun n3 => ⟨_, rfl, rfl, _, rfl, iteW (fun e => ?_) fun n4 => ⟨_, rfl, rfl, _, rfl, iteW (fun e => iteT ?_) fun n5 => ⟨_, rfl, rfl, _, rfl, iteW (fun e => ?_) fun n6 => ⟨_, rfl, rfl, _, rfl, iteW (fun e => ?_) fun n7 => ?_⟩⟩⟩⟩⟩⟩⟩
  · obtain ⟨p1, p2, rfl⟩ := wd_thn e
    obtain ⟨a', vs', ev, hs, hx⟩ := PAt.get hp
    cases ev
    obtain ⟨x0, x1, x2, rfl, h0, h1, h2⟩ := hx.three
    cases h0.str
    refine ⟨_, rfl, a, _, _, _, rfl, rfl, hs.sq, atI_nat (j := 1) rfl, _, rfl, _, rfl, x1, p1, sr, kl, kn, rfl, h1, hS, hgl hh, adl hsc, ok.1, fun t1 H1 g1 R1 => ?_⟩
    obtain ⟨l1, l2, l3, a1, a2, a3, a4⟩ := id R1
    refine ⟨_, rfl, t1, _, _, _, rfl, rfl, SqT.of a1, atI_nat (j := 0) rfl, l1, _, rfl, .inl (SqL.of a2), rfl, flat_ints _, _, rfl, iteM (fun c => ?_) fun c => ?_⟩
    · refine ⟨_, rfl, _, rfl, a, _, _, _, rfl, rfl, (hs.mono g1.tp).sq, atI_nat (j := 2) rfl, _, rfl, t1, _, _, _, rfl, rfl, SqT.of a1, atI_nat (j := 1) rfl, _, rfl, x2, p2, _, kl, kn, rfl, h2.mono g1.tp, g1.seq hS, hgr hh, adr hsc, ok.2, fun t2 H2 g2 R2 => ?_⟩
      refine ⟨t1, t2, _, _, rfl, R1.mono g2, R2, smW_beg ok.1 (adl hsc) sr, smW_beg ok.2 (adr hsc) _, fun t H3 g3 R3 => ?_⟩
      exact q _ _ ((g1.trans g2).trans g3) (by rw [show wbeg kn sr (.thn p1 p2) = turnW (wbeg kn sr p1) (wbeg kn (wbeg kn sr p1).2.1 p2) from by simp only [wbeg]; rw [if_pos c]]; exact R3)
    · exact ⟨_, rfl, q _ _ g1 (by rw [show wbeg kn sr (.thn p1 p2) = wbeg kn sr p1 from by simp only [wbeg]; rw [if_neg c]]; exact R1)⟩
  · obtain ⟨p1, p2, rfl⟩ := wd_bes e
    obtain ⟨a', vs', ev, hs, hx⟩ := PAt.get hp
    cases ev
    obtain ⟨x0, x1, x2, rfl, h0, h1, h2⟩ := hx.three
    cases h0.str
    refine ⟨_, rfl, a, _, _, _, rfl, rfl, hs.sq, atI_nat (j := 1) rfl, _, rfl, _, rfl, x1, p1, sr, kl, kn, rfl, h1, hS, hgl hh, adl hsc, ok.1, fun t1 H1 g1 R1 => ?_⟩
    refine ⟨_, rfl, a, _, _, _, rfl, rfl, (hs.mono g1.tp).sq, atI_nat (j := 2) rfl, _, rfl, _, rfl, x2, p2, sr, kl, kn, rfl, h2.mono g1.tp, g1.seq hS, hgr hh, adr hsc, ok.2, fun t2 H2 g2 R2 => ?_⟩
    exact ⟨t1, t2, _, _, rfl, R1.mono g2, R2, smW_beg ok.1 (adl hsc) sr, smW_beg ok.2 (adr hsc) sr, fun t H3 g3 R3 => q _ _ ((g1.trans g2).trans g3) R3⟩
  · obtain ⟨sn, p1, p2, rfl⟩ := wd_iff e
    obtain ⟨a', vs', ev, hs, hx⟩ := PAt.get hp
    cases ev
    obtain ⟨x0, x1, x2, x3, rfl, h0, h1, h2, h3⟩ := hx.four
    cases h0.str
    cases h1.int
    have hb : sn.toNat < kn.length := tn_lt ok.1
    obtain ⟨o, eo⟩ : ∃ o, kn[sn.toNat]? = some o := ⟨_, List.getElem?_eq_getElem hb⟩
    have ea : atI (kn.map vO) sn = some (vO o) := by
      have := atI_nat (xs := kn.map vO) (j := sn.toNat) (v := vO o) (by rw [List.getElem?_map, eo]; rfl)
      rw [Int.toNat_of_nonneg ok.1.1] at this
      exact this
    have ew := fun s => wbeg_iff (kn := kn) (s := s) (x := sn) (p := p1) (q := p2) (o := o) (by rw [eo]; rfl)
    refine ⟨_, rfl, _, rfl, a, _, _, _, rfl, rfl, hs.sq, atI_nat (j := 1) rfl, kl, _, _, _, rfl, rfl, hS, ea, rfl, _, rfl, ?_⟩
    rw [ew] at q
    cases o with
    | none =>
      refine iteT ?_
      refine ⟨_, rfl, a, _, _, _, rfl, rfl, hs.sq, atI_nat (j := 2) rfl, _, rfl, x2, p1, false, kl, kn, rfl, h2, hS, hgl hh, adl hsc, ok.2.1, fun t1 H1 g1 R1 => ?_⟩
      refine ⟨_, rfl, a, _, _, _, rfl, rfl, (hs.mono g1.tp).sq, atI_nat (j := 3) rfl, _, rfl, x3, p2, false, kl, kn, rfl, h3.mono g1.tp, g1.seq hS, hgr hh, adr hsc, ok.2.2, fun t2 H2 g2 R2 => ?_⟩
      exact ⟨t1, t2, _, _, rfl, R1.mono g2, R2, smW_beg ok.2.1 (adl hsc) false, smW_beg ok.2.2 (adr hsc) false, fun t H3 g3 R3 => q _ _ ((g1.trans g2).trans g3) R3⟩
    | some b =>
      refine iteF ?_
      refine ⟨_, rfl, _, rfl, a, _, _, _, rfl, rfl, hs.sq, atI_nat (j := 1) rfl, kl, _, _, _, rfl, rfl, hS, ea, b, rfl, ?_⟩
      cases b with
      | true => exact iteT ⟨_, rfl, a, _, _, _, rfl, rfl, hs.sq, atI_nat (j := 2) rfl, _, rfl, _, rfl, x2, p1, sr, kl, kn, rfl, h2, hS, hgl hh, adl hsc, ok.2.1, fun t1 H1 g1 R1 => q _ _ g1 R1⟩
      | false => exact iteF ⟨_, rfl, a, _, _, _, rfl, rfl, hs.sq, atI_nat (j := 3) rfl, _, rfl, _, rfl, x3, p2, sr, kl, kn, rfl, h3, hS, hgr hh, adr hsc, ok.2.2, fun t1 H1 g1 R1 => q _ _ g1 R1⟩
  · obtain ⟨k, p1, rfl⟩ := wd_again e
    obtain ⟨a', vs', ev, hs, hx⟩ := PAt.get hp
    cases ev
    obtain ⟨x0, x1, x2, rfl, h0, h1, h2⟩ := hx.three
    cases h0.str
    cases h1.int
    refine ⟨_, rfl, a, _, _, _, rfl, rfl, hs.sq, atI_nat (j := 2) rfl, _, rfl, _, rfl, x2, p1, sr, kl, kn, rfl, h2, hS, Nat.le_of_succ_le_succ hh, hsc, ok, fun t1 H1 g1 R1 => ?_⟩
    obtain ⟨l1, l2, l3, a1, a2, a3, a4⟩ := id R1
    have sm := smW_beg (kn := kn) (p := p1) ok hsc sr
    refine ⟨_, rfl, _, rfl, t1, _, _, _, rfl, rfl, SqT.of a1, atI_nat (j := 0) rfl, l1, rfl, ⟨_, SqL.of a2⟩, comp_list (K := K) (xs := (wbeg kn sr p1).1.map V.int) (fun i ys H' => H' = H1 ∧ ys = (((wbeg kn sr p1).1.take i).map agC).map V.int) ⟨rfl, rfl⟩ (by rw [List.length_map]; exact small (leKn sm.1 (by decide))) (fun i ys H' ⟨e, _⟩ => by rw [e]; exact SqL.of a2) ?_ ?_⟩
    · rintro j z ys H' N hj ⟨rfl, rfl⟩ hN hyl
      rw [List.getElem?_map] at hj
      cases ej : (wbeg kn sr p1).1[j]? with
      | none => rw [ej] at hj; cases hj
      | some c =>
        rw [ej] at hj
        cases hj
        refine ⟨_, rfl, c, rfl, hN _ _ ?_ ⟨rfl, ?_⟩⟩
        · exact snoc_le hyl
        · rw [List.take_add_one, ej, List.map_append, List.map_append]; rfl
    · rintro ys H' hyl ⟨rfl, rfl⟩ D hD
      have g2 := same_new hD (.lst ((((wbeg kn sr p1).1.take ((wbeg kn sr p1).1.map V.int).length).map agC).map V.int))
      have hD0 : (upd H' D (.lst ((((wbeg kn sr p1).1.take ((wbeg kn sr p1).1.map V.int).length).map agC).map V.int))) D = some (.lst (((wbeg kn sr p1).1.map agC).map V.int)) := by rw [upd_same, List.length_map, List.take_length]
      exact ⟨t1, D, _, _, rfl, R1.mono g2, hD0, by rw [List.length_map]; exact sm.1, fun t H3 g3 R3 => q _ _ ((g1.trans g2).trans g3) R3⟩
  · obtain ⟨s0, p1, rfl⟩ := wd_hold e
    obtain ⟨a', vs', ev, hs, hx⟩ := PAt.get hp
    cases ev
    obtain ⟨x0, x1, x2, rfl, h0, h1, h2⟩ := hx.three
    cases h0.str
    cases h1.int
    exact ⟨_, rfl, a, _, _, _, rfl, rfl, hs.sq, atI_nat (j := 2) rfl, _, rfl, _, rfl, x2, p1, sr, kl, kn, rfl, h2, hS, Nat.le_of_succ_le_succ hh, hsc, ok.2, fun t1 H1 g1 R1 => q _ _ g1 R1⟩
  · obtain ⟨s0, p1, rfl⟩ := wd_watch e
    obtain ⟨a', vs', ev, hs, hx⟩ := PAt.get hp
    cases ev
    obtain ⟨x0, x1, x2, rfl, h0, h1, h2⟩ := hx.three
    cases h0.str
    cases h1.int
    exact ⟨_, rfl, a, _, _, _, rfl, rfl, hs.sq, atI_nat (j := 2) rfl, _, rfl, _, rfl, x2, p1, sr, kl, kn, rfl, h2, hS, Nat.le_of_succ_le_succ hh, hsc, ok.2, fun t1 H1 g1 R1 => q _ _ g1 R1⟩
  · obtain ⟨p1, rfl⟩ := wd_trap e
    obtain ⟨a', vs', ev, hs, hx⟩ := PAt.get hp
    cases ev
    obtain ⟨x0, x1, rfl, h0, h1⟩ := hx.two
    cases h0.str
    refine ⟨_, rfl, a, _, _, _, rfl, rfl, hs.sq, atI_nat (j := 1) rfl, _, rfl, _, rfl, x1, p1, sr, kl, kn, rfl, h1, hS, Nat.le_of_succ_le_succ hh, hsc, ok, fun t1 H1 g1 R1 => ?_⟩
    obtain ⟨l1, l2, l3, a1, a2, a3, a4⟩ := id R1
    have sm := smW_beg (kn := kn) (p := p1) ok hsc sr
    refine ⟨_, rfl, _, rfl, t1, _, _, _, rfl, rfl, SqT.of a1, atI_nat (j := 0) rfl, l1, rfl, ⟨_, SqL.of a2⟩, comp_list (K := K) (xs := (wbeg kn sr p1).1.map V.int) (fun i ys H' => H' = H1 ∧ ys = (((wbeg kn sr p1).1.take i).map trapC).map V.int) ⟨rfl, rfl⟩ (by rw [List.length_map]; exact small (leKn sm.1 (by decide))) (fun i ys H' ⟨e, _⟩ => by rw [e]; exact SqL.of a2) ?_ ?_⟩
    · rintro j z ys H' N hj ⟨rfl, rfl⟩ hN hyl
      rw [List.getElem?_map] at hj
      cases ej : (wbeg kn sr p1).1[j]? with
      | none => rw [ej] at hj; cases hj
      | some c =>
        rw [ej] at hj
        cases hj
        refine ⟨_, rfl, c, rfl, hN _ _ ?_ ⟨rfl, ?_⟩⟩
        · exact snoc_le hyl
        · rw [List.take_add_one, ej, List.map_append, List.map_append]; rfl
    · rintro ys H' hyl ⟨rfl, rfl⟩ D hD
      have g2 := same_new hD (.lst ((((wbeg kn sr p1).1.take ((wbeg kn sr p1).1.map V.int).length).map trapC).map V.int))
      have hD0 : (upd H' D (.lst ((((wbeg kn sr p1).1.take ((wbeg kn sr p1).1.map V.int).length).map trapC).map V.int))) D = some (.lst (((wbeg kn sr p1).1.map trapC).map V.int)) := by rw [upd_same, List.length_map, List.take_length]
      exact ⟨t1, D, _, _, rfl, R1.mono g2, hD0, by rw [List.length_map]; exact sm.1, fun t H3 g3 R3 => q _ _ ((g1.trans g2).trans g3) R3⟩
  · have lf := wd_leaf n1 n2 n3 n4 n5 n6 n7
    exact ⟨_, rfl, _, rfl, _, p, sr, rfl, hp, lf, fun t1 H1 g1 R1 => q _ _ g1 (by rw [wbeg_leaf lf kn [] sr]; exact R1)⟩
theorem wb_all (F : FunA K mg "begun_walking" "begun" ["part", "sure", "known"] s_begun_walking) (T : TxtR K mg aN aP aR uE uR uL) (C1 : Callee P w K mg base 2 "begun_leaf_walking" ["part", "sure"] (spLeafW K)) (C2 : Callee P w K mg base 1 "in_turn_walking" ["first", "second"] spTurnW) (C3 : Callee P w K mg base 1 "side_by_side_walking" ["first", "second"] spSideW) (C4 : Callee P w K mg base 1 "one_of" ["first", "second"] spOneW) (C5 : Callee P w K mg base 1 "recoded" ["inner", "codes"] spRecW)
    (C6 : Callee P w K mg base 1 "code_of_again" ["code"] spAgC) (C7 : Callee P w K mg base 1 "code_of_trap" ["code"] spTrC) : ∀ n, Callee P w K mg base (n + 2) "begun_walking" ["part", "sure", "known"] (spWb K n)
  | 0 => (F.zero (sp := spWb K 0) fun vs H Q E h => by obtain ⟨v, p, sr, kl, kn, _, _, _, hh, _⟩ := h; exact absurd hh (Nat.not_le_of_gt (Pt.hg_pos p))).mono (by decide)
  | n + 1 => ok_wb F T C1 C2 C3 C4 C5 C6 C7 (wb_all F T C1 C2 C3 C4 C5 C6 C7 n)
set_option maxHeartbeats 16000000 in
theorem ok_walkG {n : Nat} (F : FunM K mg "walked" ["part", "state", "sure", "known"] s_walked) (T : TxtR K mg aN aP aR uE uR uL) (C_part_to_begin : Callee P w K mg base (n + 3) "part_to_begin" ["part", "state"] (spPtb K n)) (C_begun_walking : Callee P w K mg base (n + 2) "begun_walking" ["part", "sure", "known"] (spWb K n)) :
    Callee P w K mg base (n + 4) "walked" ["part", "state", "sure", "known"] (spWalkG K n) := by
  refine F.ok sc_walked (fun vs H Q E h => ?_) (fun f cdv A outer s H vs Q E hr h => ?_)
  · obtain ⟨v, p, sv, st, sr, kl, kn, rfl, _⟩ := h; rfl
  obtain ⟨v, p, sv, st, sr, kl, kn, rfl, hp, hst, hS, hb, k1, k2, ok, q⟩ := h
  refine ⟨_, (pss_cons (ps_set (i := 4) sc_walked.nd rfl (Or.inl rfl) (pe_callC C_begun_walking hr rfl pass0 (pa_cons (pe_callC C_part_to_begin hr rfl pass0 (pa_cons (pv 0) (pa_cons (pv 1) pa_nil))) (pa_cons (pv 2) (pa_cons (pv 3) pa_nil)))))
    (pss_one (ps_ret (pe_tup (pa_cons (pe_ix ix_tup (pv 4) pe_int (fun _ _ => rfl)) (pa_cons (pe_ix ix_tup (pv 4) pe_int (fun _ _ => rfl)) (pa_cons (pe_sset rfl rfl T.n_sorted rfl T.n_set (pe_ix ix_tup (pv 4) pe_int (fun _ _ => rfl))) (pa_cons (pe_sset rfl rfl T.n_sorted rfl T.n_set (pe_ix ix_tup (pv 4) pe_int (fun _ _ => rfl))) pa_nil)))))))), ?_⟩
  refine ⟨_, rfl, _, rfl, v, p, sv, st, rfl, hp, hst, hb, fun v1 H1 g1 P1 => ?_⟩
  refine ⟨_, rfl, _, rfl, v1, pb p st, sr, kl, kn, rfl, P1, g1.seq hS, k1, lt9 k2, okW_pb ok st, fun t H2 g2 ⟨l1, l2, l3, a1, a2, a3, a4⟩ => ?_⟩
  have wl := wbeg_len kn (pb p st) sr
  refine ⟨_, rfl, t, _, _, _, rfl, rfl, SqT.of a1, atI_nat (j := 0) rfl, _, rfl, t, _, _, _, rfl, rfl, SqT.of a1, atI_nat (j := 1) rfl, _, rfl, t, _, _, _, rfl, rfl, SqT.of a1, atI_nat (j := 2) rfl, l2, _, rfl, SqL.of a3, Nat.lt_of_le_of_lt wl.1 k2, fun r1 hr1 => ?_⟩
  have g3 := same_new hr1 (.lst ((nub (wbeg kn sr (pb p st)).2.2.1).map V.int))
  refine ⟨_, rfl, t, _, _, _, rfl, rfl, SqT.of (g3 _ _ a1), atI_nat (j := 3) rfl, l3, _, rfl, SqL.of (g3 _ _ a4), Nat.lt_of_le_of_lt wl.2 k2, fun r2 hr2 => ?_⟩
  have g4 := same_new hr2 (.lst ((nub (wbeg kn sr (pb p st)).2.2.2).map V.int))
  refine ⟨(by show 4 ≤ sizeLine; decide), fun t2 ht2 => ?_⟩
  have g5 := same_new ht2 (.tup [.ref l1, .bl (wbeg kn sr (pb p st)).2.1, .ref r1, .ref r2])
  have gA := (g1.trans g2).trans (g3.trans (g4.trans g5))
  have c1 := g5 _ _ (g4 _ _ (g3 _ _ a2))
  have c2 := g5 _ _ (g4 _ _ (upd_same (H := H2) (a := r1) (o := .lst ((nub (wbeg kn sr (pb p st)).2.2.1).map V.int))))
  have c3 := g5 _ _ (upd_same (H := (upd H2 r1 (.lst ((nub (wbeg kn sr (pb p st)).2.2.1).map V.int)))) (a := r2) (o := .lst ((nub (wbeg kn sr (pb p st)).2.2.2).map V.int)))
  have ne := (cw_beg kn (okW_pb ok st) sr).ne
  have f1 := (g1.trans g2).free hr1
  have f2 := ((g1.trans g2).trans g3).free hr2
  have f3 := ((g1.trans g2).trans (g3.trans g4)).free ht2
  refine q _ _ gA ⟨l1, r1, r2, upd_same, c1, c2, c3⟩ fun a xs ha => ⟨l1, r1, r2, upd_same, c1, c2, c3, (ne_of_none ha f3).symm, fun e => ?_, (ne_of_none ha f1).symm, (ne_of_none ha f2).symm⟩
  subst e
  have z := gA _ _ ha
  rw [c1] at z
  have z := HO.lst.inj (Option.some.inj z)
  generalize (wbeg kn sr (pb p st)).1 = cs at z ne
  cases cs with
  | nil => exact absurd ne (by simp)
  | cons c cs =>
    cases xs with
    | nil => cases z
    | cons y ys => cases z
theorem ok_walk {n : Nat} (C : Callee P w K mg base (n + 4) "walked" ["part", "state", "sure", "known"] (spWalkG K n)) : Callee P w K mg base (n + 4) "walked" ["part", "state", "sure", "known"] (spWalk K n) := C.imp fun vs H Q E h => by
  obtain ⟨v, p, sv, st, sr, kl, kn, rfl, hp, hst, hS, hh, hsc, hrc, ok, q⟩ := h
  have b := pb_bd p st
  exact ⟨v, p, sv, st, sr, kl, kn, rfl, hp, hst, hS, .inr ⟨hh, lt9 hrc⟩, Nat.le_trans b.1 hh, Nat.lt_of_le_of_lt b.2.1 hsc, ok, fun t H' g wk _ => q t H' g wk⟩
end

end My
end

section
set_option Elab.async false
set_option linter.all false
set_option maxRecDepth 100000
set_option maxHeartbeats 4000000
namespace My
open PySem L2
end My
end

section
set_option Elab.async false
set_option linter.all false
set_option maxRecDepth 100000
set_option maxHeartbeats 4000000
namespace My
open PySem L2
def okX : Pt → Prop
  | .exit d => 0 ≤ d
  | .iff _ p q => okX p ∧ okX q
  | .thn p q => okX p ∧ okX q
  | .bes p q => okX p ∧ okX q
  | .again _ p => okX p
  | .hold _ p => okX p
  | .watch _ p => okX p
  | .trap p => okX p
  | _ => True
theorem stAt_mono {K : PySem.W.Frag} {H H' : Hp} (g : Same H H') {st : Option (List Int)} {v : V} (h : StAt K H st v) : StAt K H' st v := by
  cases st with
  | none => exact h
  | some l =>
    obtain ⟨a, e, hS⟩ := h
    exact ⟨a, e, g.seq hS⟩
def spLaw (K : PySem.W.Frag) : Sp := fun vs H Q _ => ∃ (a : Addr) (ns : List Int), vs = [.ref a] ∧ SqL K H a (ns.map V.int) ∧ ns.length ≤ 63 ∧ ∀ H', Q (.bl true) H'
section
variable {P : Program} {w : World} {K : PySem.W.Frag} {mg : Str → Option Value} {base : Heap}
end
/-! ### more known, more sure: nothing is taken back -/
def instD (p : Pt) (st : Option (List Int)) (th : List Int) : Dd :=
  match st with
  | none => ranD p none th
  | some l => if (rem l p).1 = [] then (0, [], []) else ranD p (some l) th
/-- what is told of an instant, in lists of its own -/
def DdF (H H' : Hp) (t : Addr) (d : Dd) : Prop := ∃ l1 l2, H' t = some (.tup [.int d.1, .ref l1, .ref l2]) ∧ H' l1 = some (.lst (d.2.1.map V.int)) ∧ H' l2 = some (.lst (d.2.2.map V.int)) ∧ H l1 = none ∧ H l2 = none
def spRan0 (K : PySem.W.Frag) (n : Nat) : Sp := fun vs H Q _ => ∃ v p th ns, vs = [v, .non, .ref th] ∧ PAt K H (Pt.nd p) v ∧ SqL K H th ((ns : List Int).map V.int) ∧ p.hg ≤ n ∧ p.sc < 64 ∧ p.lc < 64 ∧ ∀ t H', Same H H' → DdF H H' t ((beg ns p).1, nub (beg ns p).2.1, sortI (beg ns p).2.2) → Q (.ref t) H'
def overP (p : Pt) : Option (List Int) → Prop
  | none => False
  | some l => (rem l p).1 = []
def spBtb (K : PySem.W.Frag) (n : Nat) : Sp := fun vs H Q _ => ∃ pr x0 x1 x2 v p sv st, vs = [.ref pr, sv] ∧ SqT K H pr [x0, x1, x2, v] ∧ PAt K H (Pt.nd p) v ∧ StAt K H st sv ∧ p.hg ≤ n ∧ p.rc ≤ 900 ∧ ∀ v' H', Same H H' → (overP p st ∧ v' = .non ∨ ¬ overP p st ∧ PAt K H' (pb p st).nd v') → Q v' H'
def spInst (K : PySem.W.Frag) (n : Nat) : Sp := fun vs H Q _ => ∃ pr x0 x1 x2 v p sv st th ns, vs = [.ref pr, sv, .ref th] ∧ SqT K H pr [x0, x1, x2, v] ∧ PAt K H (Pt.nd p) v ∧ StAt K H st sv ∧ SqL K H th ((ns : List Int).map V.int) ∧ p.hg ≤ n ∧ p.sc < 64 ∧ p.rc < 64 ∧ ∀ t H', Same H H' → DdF H H' t (instD p st ns) → Q (.ref t) H'
theorem inst_over {p : Pt} {st : Option (List Int)} {th : List Int} : (overP p st → instD p st th = (0, [], [])) ∧ (¬ overP p st → instD p st th = ranD p st th) := by
  cases st with
  | none => exact ⟨fun z => z.elim, fun _ => rfl⟩
  | some l => exact ⟨fun z => if_pos z, fun z => if_neg z⟩
section
variable {P : Program} {w : World} {K : PySem.W.Frag} {mg : Str → Option Value} {base : Heap} {aN aP aR : Addr} {uE uR uL : Value}
theorem ok_ran0 {n : Nat} (C : Callee P w K mg base (n + 4) "ran" ["part", "state", "there"] (spRanG K n)) : Callee P w K mg base (n + 4) "ran" ["part", "state", "there"] (spRan0 K n) := C.imp fun vs H Q E h => by
  obtain ⟨v, p, th, ns, rfl, hp, hS, hh, hsc, hlc, q⟩ := h
  refine ⟨v, p, .non, none, th, ns, rfl, hp, rfl, hS, .inl rfl, hh, hsc, hlc, fun t H' g R => q t H' g ?_⟩
  obtain ⟨l1, l2, a1, a2, a3, f1, f2, _⟩ := R
  exact ⟨l1, l2, a1, a2, a3, f1, f2⟩
theorem ok_btb {n : Nat} (F : FunM K mg "body_to_begin" ["program", "state"] s_body_to_begin) (T : TxtR K mg aN aP aR uE uR uL) (C_remaining : Callee P w K mg base (n + 2) "remaining" ["part", "state"] (spRem K n)) :
    Callee P w K mg base (n + 3) "body_to_begin" ["program", "state"] (spBtb K n) := by
  refine F.ok sc_body_to_begin (fun vs H Q E h => ?_) (fun f cdv A outer s H vs Q E hr h => ?_)
  · obtain ⟨pr, x0, x1, x2, v, p, sv, st, rfl, _⟩ := h; rfl
  obtain ⟨pr, x0, x1, x2, v, p, sv, st, rfl, hpr, hp, hS, hh, hc, q⟩ := h
  refine ⟨_, (pss_cons (ps_if (pt_cmpR op_isN (pv 1) pe_non (nomark _))
      (pss_one (ps_ret (pe_ix ix_tup (pv 0) pe_int (fun _ _ => rfl))))
      pss_nil)
    (pss_cons (ps_set (i := 2) sc_body_to_begin.nd rfl (Or.inl rfl) (pe_callC C_remaining hr rfl pass0 (pa_cons (pe_ix ix_tup (pv 0) pe_int (fun _ _ => rfl)) (pa_cons (pv 1) pa_nil))))
    (pss_one (ps_ret (pe_ifExp (pt_truth (pe_ix ix_tup (pv 2) pe_int (fun _ _ => rfl)) (fun _ => rfl)) (pe_ix ix_tup (pv 2) pe_int (fun _ _ => rfl)) pe_non))))), ?_⟩
  cases st with
  | none =>
    have e : sv = .non := hS
    subst e
    exact ⟨_, rfl, rfl, _, rfl, iteT ⟨_, rfl, pr, _, _, _, rfl, rfl, hpr, atI_nat (j := 3) rfl, q _ _ (Same.refl _) (.inr ⟨fun z => z, hp⟩)⟩⟩
  | some ns =>
    obtain ⟨a, rfl, hS⟩ := hS
    refine ⟨_, rfl, rfl, _, rfl, iteF ⟨_, rfl, pr, _, _, _, rfl, rfl, hpr, atI_nat (j := 3) rfl, _, rfl, v, p, a, ns, rfl, hp, hS, hh, hc, fun t H1 g1 ⟨l, v1, a1, a2, a3⟩ => ?_⟩⟩
    refine ⟨_, rfl, t, _, _, _, rfl, rfl, SqT.of a1, atI_nat (j := 0) rfl, _, .inl ⟨_, SqL.of a2, rfl⟩, iteE (fun c => ?_) fun c => ?_⟩
    · exact ⟨_, rfl, t, _, _, _, rfl, rfl, SqT.of a1, atI_nat (j := 1) rfl, q _ _ g1 (.inr ⟨c, a3⟩)⟩
    · exact q _ _ g1 (.inl ⟨c, rfl⟩)
set_option maxHeartbeats 16000000 in
theorem ok_inst {n : Nat} (F : FunM K mg "instant" ["program", "state", "there"] s_instant) (T : TxtR K mg aN aP aR uE uR uL) (C_body_to_begin : Callee P w K mg base (n + 3) "body_to_begin" ["program", "state"] (spBtb K n)) (C_ran : Callee P w K mg base (n + 4) "ran" ["part", "state", "there"] (spRan0 K n)) :
    Callee P w K mg base (n + 5) "instant" ["program", "state", "there"] (spInst K n) := by
  refine F.ok sc_instant (fun vs H Q E h => ?_) (fun f cdv A outer s H vs Q E hr h => ?_)
  · obtain ⟨pr, x0, x1, x2, v, p, sv, st, th, ns, rfl, _⟩ := h; rfl
  obtain ⟨pr, x0, x1, x2, v, p, sv, st, th, ns, rfl, hpr, hp, hst, hS, hh, hsc, hrc, q⟩ := h
  refine ⟨_, (pss_cons (ps_set (i := 3) sc_instant.nd rfl (Or.inl rfl) (pe_callC C_body_to_begin hr rfl pass0 (pa_cons (pv 0) (pa_cons (pv 1) pa_nil))))
    (pss_cons (ps_if (pt_cmpR op_isN (pv 3) pe_non (nomark _))
      (pss_one (ps_ret (pe_tup (pa_cons (pe_glob rfl T.m_ENDED T.r_ENDED) (pa_cons (pe_lst pa_nil) (pa_cons (pe_lst pa_nil) pa_nil))))))
      pss_nil)
    (pss_one (ps_ret (pe_callC C_ran hr rfl pass0 (pa_cons (pv 3) (pa_cons pe_non (pa_cons (pv 2) pa_nil)))))))), ?_⟩
  refine ⟨_, rfl, _, rfl, pr, x0, x1, x2, v, p, sv, st, rfl, hpr, hp, hst, hh, by omega, fun v1 H1 g1 hv => ?_⟩
  rcases hv with ⟨ov, rfl⟩ | ⟨ov, P1⟩
  · refine ⟨_, rfl, rfl, _, rfl, iteT ⟨(by show 0 ≤ sizeLine; decide), fun y1 hy1 => ⟨(by show 0 ≤ sizeLine; decide), fun y2 hy2 => ⟨(by show 3 ≤ sizeLine; decide), fun y3 hy3 => ?_⟩⟩⟩⟩
    obtain ⟨kx, n1, n2, n3⟩ := new3 (a := .lst []) (b := .lst []) (c := .tup [.int 0, .ref y1, .ref y2]) hy1 hy2 hy3
    exact q _ _ (g1.trans kx) (by rw [inst_over.1 ov]; exact ⟨y1, y2, n3, n1, n2, g1.free hy1, (g1.trans (same_new hy1 _)).free hy2⟩)
  · have k1 : (pb p st).hg ≤ p.hg := by cases st with | none => exact Nat.le_refl _ | some l => exact rem_hg l p
    have k2 : (pb p st).sc ≤ p.sc := by cases st with | none => exact Nat.le_refl _ | some l => exact rem_sc l p
    have k3 : (pb p st).lc ≤ p.rc := by cases st with | none => exact Pt.lc_rc p | some l => exact rem_lc l p
    obtain ⟨a1, e1⟩ : ∃ a, v1 = .ref a := by
      generalize pb p st = p' at P1
      cases p' <;> (obtain ⟨a, vs, e, _⟩ := PAt.get P1; exact ⟨a, e⟩)
    subst e1
    refine ⟨_, rfl, rfl, _, rfl, iteF ⟨_, rfl, _, rfl, .ref a1, pb p st, th, ns, rfl, P1, g1.seq hS, by omega, by omega, by omega, fun t H2 g2 R2 => q _ _ (g1.trans g2) ?_⟩⟩
    rw [inst_over.2 ov]
    obtain ⟨l1, l2, a1, a2, a3, f1, f2⟩ := R2
    exact ⟨l1, l2, a1, a2, a3, g1.free f1, g1.free f2⟩
end
/-! ### settling -/
def mcB (kn : List (Option Bool)) : Option Pt → List Int × List Int
  | none => ([], [])
  | some b => ((walkD kn true b none).2.2.1, (walkD kn true b none).2.2.2)
def okB (sg : Int) : Option Pt → Prop
  | none => True
  | some b => okW sg b
def areL (v : Option Bool) (kn : List (Option Bool)) : List Int := ((List.range kn.length).filter (fun i => decide ((kn[i]?).getD none = v))).map fun (i : Nat) => (i : Int)
theorem mem_areL {v : Option Bool} {kn : List (Option Bool)} {x : Int} : x ∈ areL v kn ↔ (0 ≤ x ∧ x < kn.length) ∧ (kn[x.toNat]?).getD none = v := by
  unfold areL
  rw [List.mem_map]
  constructor
  · rintro ⟨i, hi, rfl⟩
    have := List.mem_filter.mp hi
    exact ⟨⟨by omega, by have := List.mem_range.mp this.1; omega⟩, by rw [Int.toNat_natCast]; exact of_decide_eq_true this.2⟩
  · rintro ⟨⟨h0, h1⟩, h2⟩
    exact ⟨x.toNat, List.mem_filter.mpr ⟨List.mem_range.mpr (by omega), decide_eq_true h2⟩, by omega⟩
def tak (kn : List (Option Bool)) (mu ca : List Int) : List Int := (areL none kn).filter (fun s => decide (s ∈ mu) || !decide (s ∈ ca))
theorem mem_tak {kn : List (Option Bool)} {mu ca : List Int} {x : Int} : x ∈ tak kn mu ca ↔ ((0 ≤ x ∧ x < kn.length) ∧ (kn[x.toNat]?).getD none = none) ∧ (x ∈ mu ∨ ¬ x ∈ ca) := by
  unfold tak
  rw [List.mem_filter, mem_areL]
  simp
def chg (kn : List (Option Bool)) (mu ca : List Int) : List (Int × Bool) := (tak kn mu ca).map fun s => (s, decide (s ∈ mu))
def behK (kn : List (Option Bool)) (cs : List (Int × Bool)) : List (Option Bool) := cs.foldl (fun k c => k.set c.1.toNat (some c.2)) kn
theorem behK_len (cs : List (Int × Bool)) : ∀ kn, (behK kn cs).length = kn.length := by
  induction cs with
  | nil => intro kn; rfl
  | cons c r ih => intro kn; show (behK (kn.set c.1.toNat (some c.2)) r).length = _; rw [ih, List.length_set]
def stepK (o : Option Pt) (kn : List (Option Bool)) : List (Int × Bool) := chg kn (mcB kn o).1 (mcB kn o).2
def firstK (n : Nat) (co : List Int) : List (Option Bool) := (List.range n).map fun (i : Nat) => if (i : Int) ∈ co then some true else none
def rnds (o : Option Pt) : Nat → List (Option Bool) → List (List (Int × Bool))
  | 0, _ => []
  | f + 1, kn => if stepK o kn = [] then [] else stepK o kn :: rnds o f (behK kn (stepK o kn))
def setF (o : Option Pt) (f : Nat) (kn : List (Option Bool)) : List (Option Bool) := (rnds o f kn).foldl behK kn
def nones : List (Option Bool) → Nat
  | [] => 0
  | none :: r => nones r + 1
  | some _ :: r => nones r
theorem nones_len : ∀ kn : List (Option Bool), nones kn ≤ kn.length
  | [] => Nat.le_refl _
  | none :: r => by have := nones_len r; simp only [nones, List.length_cons]; omega
  | some _ :: r => by have := nones_len r; simp only [nones, List.length_cons]; omega
theorem nones_set (b : Bool) : ∀ (kn : List (Option Bool)) (i : Nat), nones (kn.set i (some b)) ≤ nones kn ∧ (kn[i]? = some none → nones (kn.set i (some b)) < nones kn)
  | [], i => ⟨Nat.le_refl _, fun z => by simp at z⟩
  | none :: r, 0 => ⟨by simp only [List.set_cons_zero, nones]; omega, fun _ => by simp only [List.set_cons_zero, nones]; omega⟩
  | some c :: r, 0 => ⟨by simp only [List.set_cons_zero, nones]; omega, fun z => by simp at z⟩
  | none :: r, i + 1 => by
    have := nones_set b r i
    refine ⟨by simp only [List.set_cons_succ, nones]; omega, fun z => ?_⟩
    have := this.2 (by simpa using z)
    simp only [List.set_cons_succ, nones]; omega
  | some c :: r, i + 1 => by
    have := nones_set b r i
    refine ⟨by simp only [List.set_cons_succ, nones]; omega, fun z => ?_⟩
    have := this.2 (by simpa using z)
    simp only [List.set_cons_succ, nones]; omega
theorem nones_beh : ∀ (cs : List (Int × Bool)) (kn : List (Option Bool)), nones (behK kn cs) ≤ nones kn
  | [], kn => Nat.le_refl _
  | c :: r, kn => Nat.le_trans (nones_beh r _) (nones_set c.2 kn c.1.toNat).1
theorem nones_next {o : Option Pt} {kn : List (Option Bool)} (h : ¬ stepK o kn = []) : nones (behK kn (stepK o kn)) < nones kn := by
  cases e : stepK o kn with
  | nil => exact absurd e h
  | cons c r =>
    have hc : c ∈ stepK o kn := by rw [e]; exact List.mem_cons_self
    obtain ⟨s, hs, ec⟩ := List.mem_map.mp hc
    have m := (mem_tak.mp hs).1
    refine Nat.lt_of_le_of_lt (nones_beh r _) ((nones_set c.2 kn c.1.toNat).2 ?_)
    subst ec
    show kn[s.toNat]? = some none
    have hl : s.toNat < kn.length := by have := m.1; omega
    rw [List.getElem?_eq_getElem hl]
    have := m.2
    rw [List.getElem?_eq_getElem hl] at this
    exact congrArg some this
def bodyO (p : Pt) (st : Option (List Int)) : Option Pt :=
  match st with
  | none => some p
  | some l => if (rem l p).1 = [] then none else some (rem l p).2
theorem bodyO_over {p : Pt} {st : Option (List Int)} : (overP p st → bodyO p st = none) ∧ (¬ overP p st → bodyO p st = some (pb p st)) := by
  cases st with
  | none => exact ⟨fun z => z.elim, fun _ => rfl⟩
  | some l => exact ⟨fun z => if_pos z, fun z => if_neg z⟩
theorem okB_body {sg : Int} {p : Pt} (h : okW sg p) (st : Option (List Int)) : okB sg (bodyO p st) := by
  by_cases z : overP p st
  · rw [bodyO_over.1 z]; exact trivial
  · rw [bodyO_over.2 z]; exact okW_pb h st
end My
end

section
set_option Elab.async false
set_option linter.all false
set_option maxRecDepth 100000
set_option maxHeartbeats 4000000
namespace My
open PySem L2
def chV (p : Addr × (Int × Bool)) : V := .ref p.1
def ChAt (H : Hp) (a : Addr) (cs : List (Int × Bool)) : Prop := ∃ its : List (Addr × (Int × Bool)), H a = some (.lst (its.map chV)) ∧ its.map Prod.snd = cs ∧ ∀ p ∈ its, H p.1 = some (.tup [.int p.2.1, .bl p.2.2])
theorem ChAt.mono {H H' : Hp} {a : Addr} {cs : List (Int × Bool)} (h : ChAt H a cs) (g : Same H H') : ChAt H' a cs := by
  obtain ⟨its, h1, h2, h3⟩ := h
  exact ⟨its, g _ _ h1, h2, fun p hp => g _ _ (h3 p hp)⟩
theorem ChAt.off {H : Hp} {a r : Addr} {cs : List (Int × Bool)} {xs ys : List V} (h : ChAt H a cs) (n : a ≠ r) (hr : H r = some (.lst xs)) : ChAt (upd H r (.lst ys)) a cs := by
  obtain ⟨its, h1, h2, h3⟩ := h
  refine ⟨its, by rw [upd_ne n]; exact h1, h2, fun p hp => ?_⟩
  have := h3 p hp
  rw [upd_ne (fun z => by rw [z, hr] at this; cases this)]
  exact this
def rdV (p : Addr × List (Int × Bool)) : V := .ref p.1
def RdAt (H : Hp) (a : Addr) (css : List (List (Int × Bool))) : Prop := ∃ its : List (Addr × List (Int × Bool)), H a = some (.lst (its.map rdV)) ∧ its.map Prod.snd = css ∧ ∀ p ∈ its, ChAt H p.1 p.2
structure PgAt (K : PySem.W.Frag) (H : Hp) (pr : Addr) (n : Nat) (p : Pt) : Prop where
  pa : ∃ x0 x1 v, H pr = some (.tup [x0, x1, .int n, v]) ∧ PAt K H (Pt.nd p) v
  hg : p.hg ≤ 40
  sc : p.sc ≤ 40
  rc : p.rc ≤ 40
  ok : okW n p
  nb : n ≤ 30
theorem PgAt.mono {K : PySem.W.Frag} {H H' : Hp} {pr : Addr} {n : Nat} {p : Pt} (h : PgAt K H pr n p) (g : Same H H') : PgAt K H' pr n p := by
  obtain ⟨⟨x0, x1, v, e, a⟩, h1, h2, h3, h4, h5⟩ := h
  exact ⟨⟨x0, x1, v, g _ _ e, a.mono g.tp⟩, h1, h2, h3, h4, h5⟩
def OBd (K : PySem.W.Frag) (H : Hp) : Option Pt → V → Prop
  | none, v => v = .non
  | some b, v => PAt K H b.nd v ∧ b.hg ≤ 40 ∧ b.sc < 64
theorem OBd.mono {K : PySem.W.Frag} {H H' : Hp} {o : Option Pt} {v : V} (h : OBd K H o v) (g : Same H H') : OBd K H' o v := by
  cases o with
  | none => exact h
  | some b => exact ⟨h.1.mono g.tp, h.2⟩
def spWalk0 (K : PySem.W.Frag) (n : Nat) : Sp := fun vs H Q _ => ∃ v p s kl kn, vs = [v, .non, .bl s, .ref kl] ∧ PAt K H (Pt.nd p) v ∧ SqL K H kl ((kn : List (Option Bool)).map vO) ∧ p.hg ≤ n ∧ p.sc < 64 ∧ okW kn.length p ∧ ∀ t H', Same H H' → WkAt H' t (walkD kn s p none) → Q (.ref t) H'
def spFirst (K : PySem.W.Frag) : Sp := fun vs H Q _ => ∃ pr co n p cs, vs = [.ref pr, .ref co] ∧ PgAt K H pr n p ∧ SqL K H co ((cs : List Int).map V.int) ∧ ∀ r H', Same H H' → H r = none → H' r = some (.lst ((firstK n cs).map vO)) → Q (.ref r) H'
def spAre (K : PySem.W.Frag) : Sp := fun vs H Q _ => ∃ v kl kn, vs = [vO v, .ref kl] ∧ SqL K H kl ((kn : List (Option Bool)).map vO) ∧ kn.length ≤ 30 ∧ ∀ r H', Same H H' → H r = none → H' r = some (.lst ((areL v kn).map V.int)) → Q (.ref r) H'
def spChg (K : PySem.W.Frag) : Sp := fun vs H Q _ => ∃ bv o kl kn, vs = [bv, .ref kl] ∧ OBd K H o bv ∧ SqL K H kl ((kn : List (Option Bool)).map vO) ∧ kn.length ≤ 30 ∧ okB kn.length o ∧ ∀ r H', Same H H' → H r = none → ChAt H' r (stepK o kn) → Q (.ref r) H'
def spBeh (K : PySem.W.Frag) : Sp := fun vs H Q _ => ∃ kl c kn cs, vs = [.ref kl, .ref c] ∧ SqL K H kl ((kn : List (Option Bool)).map vO) ∧ ChAt H c cs ∧ (∀ x ∈ cs, 0 ≤ x.1 ∧ x.1 < kn.length) ∧ cs.length ≤ 60 ∧ kn.length ≤ 30 ∧ ∀ r H', Same H H' → H r = none → H' r = some (.lst ((behK kn cs).map vO)) → Q (.ref r) H'
def spRnd (K : PySem.W.Frag) : Sp := fun vs H Q _ => ∃ pr sv co n p st cs, vs = [.ref pr, sv, .ref co] ∧ PgAt K H pr n p ∧ StAt K H st sv ∧ SqL K H co ((cs : List Int).map V.int) ∧ ∀ r H', Same H H' → RdAt H' r (rnds (bodyO p st) (n + 1) (firstK n cs)) → Q (.ref r) H'
def spSet (K : PySem.W.Frag) : Sp := fun vs H Q _ => ∃ pr sv co n p st cs, vs = [.ref pr, sv, .ref co] ∧ PgAt K H pr n p ∧ StAt K H st sv ∧ SqL K H co ((cs : List Int).map V.int) ∧ ∀ r H', Same H H' → H' r = some (.lst ((setF (bodyO p st) (n + 1) (firstK n cs)).map vO)) → Q (.ref r) H'
theorem areL_len (v : Option Bool) (kn : List (Option Bool)) : (areL v kn).length ≤ kn.length := by
  unfold areL
  rw [List.length_map]
  exact Nat.le_trans (List.length_filter_le _ _) (by rw [List.length_range]; exact Nat.le_refl _)
theorem stepK_bd (o : Option Pt) (kn : List (Option Bool)) : (∀ x ∈ stepK o kn, 0 ≤ x.1 ∧ x.1 < kn.length) ∧ (stepK o kn).length ≤ kn.length := by
  constructor
  · intro x hx
    obtain ⟨s, hs, rfl⟩ := List.mem_map.mp hx
    exact (mem_tak.mp hs).1.1
  · unfold stepK chg tak
    rw [List.length_map]
    exact Nat.le_trans (List.length_filter_le _ _) (areL_len _ _)
theorem rnds_bd (o : Option Pt) : ∀ (f : Nat) (kn : List (Option Bool)), ∀ cs ∈ rnds o f kn, (∀ x ∈ cs, 0 ≤ x.1 ∧ x.1 < kn.length) ∧ cs.length ≤ kn.length
  | 0, kn, cs, h => by cases h
  | f + 1, kn, cs, h => by
    simp only [rnds] at h
    split at h
    · cases h
    · rcases List.mem_cons.mp h with rfl | h
      · exact stepK_bd o kn
      · have := rnds_bd o f _ cs h
        rw [behK_len] at this
        exact this
theorem foldB_len : ∀ (css : List (List (Int × Bool))) (kn : List (Option Bool)), (css.foldl behK kn).length = kn.length
  | [], kn => rfl
  | c :: r, kn => by show (r.foldl behK (behK kn c)).length = _; rw [foldB_len r, behK_len]
theorem vO_eq (a b : Option Bool) : decide (vO a = vO b) = decide (a = b) := by
  cases a with
  | none => cases b with
    | none => rfl
    | some y => rfl
  | some x => cases b with
    | none => rfl
    | some y => cases x <;> cases y <;> rfl
theorem vO_scal (a b : Option Bool) : scal (vO a) (vO b) = true := by cases a <;> cases b <;> rfl
theorem areL_take (v : Option Bool) (kn : List (Option Bool)) (j : Nat) (o : Option Bool) (h : kn[j]? = some o) : ((List.range (j + 1)).filter (fun i => decide ((kn[i]?).getD none = v))).map (fun (i : Nat) => (i : Int)) = if decide (o = v) = true then ((List.range j).filter (fun i => decide ((kn[i]?).getD none = v))).map (fun (i : Nat) => (i : Int)) ++ [(j : Int)] else ((List.range j).filter (fun i => decide ((kn[i]?).getD none = v))).map (fun (i : Nat) => (i : Int)) := by
  rw [List.range_succ, List.filter_append, List.map_append]
  by_cases z : o = v
  · rw [if_pos (decide_eq_true z), List.filter_cons_of_pos (by rw [h]; exact decide_eq_true z)]; rfl
  · rw [if_neg (fun y => z (of_decide_eq_true y)), List.filter_cons_of_neg (by rw [h]; exact fun y => z (of_decide_eq_true y))]; simp
section
variable {P : Program} {w : World} {K : PySem.W.Frag} {mg : Str → Option Value} {base : Heap} {aN aP aR : Addr} {uE uR uL : Value}
theorem ok_walk0 {n : Nat} (C : Callee P w K mg base (n + 4) "walked" ["part", "state", "sure", "known"] (spWalkG K n)) : Callee P w K mg base (n + 4) "walked" ["part", "state", "sure", "known"] (spWalk0 K n) := C.imp fun vs H Q E h => by
  obtain ⟨v, p, sr, kl, kn, rfl, hp, hS, hh, hsc, ok, q⟩ := h
  exact ⟨v, p, .non, none, sr, kl, kn, rfl, hp, rfl, hS, .inl rfl, hh, hsc, ok, fun t H' g wk _ => q t H' g wk⟩
set_option maxHeartbeats 16000000 in
theorem ok_first (F : FunM K mg "known_at_first" ["program", "coming"] s_known_at_first) (T : Txt mg) : Callee P w K mg base 1 "known_at_first" ["program", "coming"] (spFirst K) := by
  refine F.ok sc_known_at_first (fun vs H Q E h => ?_) (fun f cdv A outer s H vs Q E hr h => ?_)
  · obtain ⟨pr, co, n, p, cs, rfl, _⟩ := h; rfl
  obtain ⟨pr, co, n, p, cs, rfl, pg, hS, q⟩ := h
  obtain ⟨x0, x1, v, hpr, _⟩ := pg.pa
  have nb := pg.nb
  refine ⟨_, (pss_one (ps_ret (pe_comp (g := (gName 0)) (tc := tAlways) (te := (tIf (tTest (tOp (rIn K false) (tVar 0) (tVar 1))) (tC (.bl true)) (tC .non))) ["sign"] [("coming", 1)] rfl (compOk (defScope s_known_at_first) ["program", "coming"] (by decide +kernel)) (pi_range1 rfl T.n_range (pa_cons (pe_ix ix_tup (pv 0) pe_int (fun _ _ => rfl)) pa_nil)) (fun s2 H2 fp cl C => pg_name (i := 0) (show List.Nodup [("sign" : Str), ("coming" : Str)] from by decide +kernel) rfl (Or.inl rfl)) (gkeep_name (by decide)) (fun s2 H2 fp cl C => pif_nil) (fun s2 H2 fp cl C => (pe_ifExp (pt_cmpR op_in_seq (pv 0) (pv 1) (by rfl)) pe_bl pe_non))))), ?_⟩
  refine ⟨_, rfl, pr, _, _, _, rfl, rfl, SqT.of hpr, atI_nat (j := 2) rfl, _, rfl, by omega, by omega, ?_⟩
  dsimp only
  rw [Int.toNat_natCast]
  refine comp_range (n := n) (fun i ys H' => H' = H ∧ ys = (firstK i cs).map vO) ⟨rfl, rfl⟩ (small (by omega)) ?_ ?_
  · rintro i ys H' N hi ⟨rfl, rfl⟩ hN hyl
    have es : firstK (i + 1) cs = firstK i cs ++ [if (i : Int) ∈ cs then some true else none] := by unfold firstK; rw [List.range_succ, List.map_append]; rfl
    refine ⟨_, rfl, _, rfl, co, _, rfl, .inl hS, rfl, flat_ints _, _, rfl, iteM (fun c => ?_) fun c => ?_⟩
    · rw [Int.zero_add] at c
      exact hN _ _ (by rw [List.length_append, List.length_singleton]; omega) ⟨rfl, by rw [es, if_pos c, List.map_append]; rfl⟩
    · rw [Int.zero_add] at c
      exact hN _ _ (by rw [List.length_append, List.length_singleton]; omega) ⟨rfl, by rw [es, if_neg c, List.map_append]; rfl⟩
  · rintro ys H' hyl ⟨rfl, rfl⟩ D hD
    exact q D _ (same_new hD _) hD upd_same
set_option maxHeartbeats 16000000 in
theorem ok_are (F : FunM K mg "signs_that_are" ["value", "known"] s_signs_that_are) (T : Txt mg) : Callee P w K mg base 1 "signs_that_are" ["value", "known"] (spAre K) := by
  refine F.ok sc_signs_that_are (fun vs H Q E h => ?_) (fun f cdv A outer s H vs Q E hr h => ?_)
  · obtain ⟨v, kl, kn, rfl, _⟩ := h; rfl
  obtain ⟨v, kl, kn, rfl, hS, ln, q⟩ := h
  refine ⟨_, (pss_one (ps_ret (pe_comp (g := (gTup K 2 (gCons (gName 0) (gCons (gName 1) gNil)))) (tc := (tTest (tOp rEq (tVar 1) (tVar 2)))) (te := (tVar 0)) ["sign", "one"] [("value", 0)] rfl (compOk (defScope s_signs_that_are) ["value", "known"] (by decide +kernel)) (pi_enum rfl T.n_enumerate (pa_cons (pv 1) pa_nil)) (fun s2 H2 fp cl C => pg_tup rfl (pgs_cons (pg_name (i := 0) (show List.Nodup [("sign" : Str), ("one" : Str), ("value" : Str)] from by decide +kernel) rfl (Or.inl rfl)) (pgs_cons (pg_name (i := 1) (show List.Nodup [("sign" : Str), ("one" : Str), ("value" : Str)] from by decide +kernel) rfl (Or.inl rfl)) pgs_nil))) (gkeep_pair (by decide) (by decide)) (fun s2 H2 fp cl C => pif_one (pt_cmpR op_eq (pv 1) (pv 2) (nomark _))) (fun s2 H2 fp cl C => (pv 0))))), ?_⟩
  refine ⟨_, rfl, kl, rfl, ⟨_, hS⟩, ?_⟩
  refine comp_enum (K := K) (xs := kn.map vO) (fun i ys H' => Same H H' ∧ ys = (((List.range i).filter (fun i => decide ((kn[i]?).getD none = v))).map fun (i : Nat) => (i : Int)).map V.int) ⟨Same.refl _, rfl⟩ (by rw [List.length_map]; exact small (by omega)) (fun i ys H' ⟨g, _⟩ => g.seq hS) ?_ ?_
  · rintro i x Tt ys H' Nx hi ⟨gx, rfl⟩ hT hN hyl
    rw [List.getElem?_map] at hi
    cases e : kn[i]? with
    | none => rw [e] at hi; cases hi
    | some o =>
      rw [e] at hi
      cases hi
      have gT := same_new hT (.tup [.int i, vO o])
      have et := areL_take v kn i o e
      refine ⟨Tt, _, rfl, SqT.of upd_same, rfl, _, _, rfl, _, _, rfl, rfl, ?_⟩
      refine ⟨_, rfl, _, rfl, vO_scal o v, _, rfl, ?_⟩
      rw [vO_eq]
      refine ite2 (fun c => ?_) (fun c => ?_)
      · exact ⟨_, rfl, hN _ _ (by rw [List.length_append, List.length_singleton]; omega) ⟨gx.trans gT, by rw [et, if_pos c, List.map_append]; rfl⟩⟩
      · exact hN _ _ (by omega) ⟨gx.trans gT, by rw [et, if_neg c]⟩
  · rintro ys H' hyl ⟨gx, rfl⟩ D hD
    refine q D _ (gx.trans (same_new hD _)) (gx.free hD) ?_
    rw [upd_same, List.length_map]
    rfl
set_option maxHeartbeats 16000000 in
theorem ok_beh (F : FunM K mg "known_behind" ["known", "changes"] s_known_behind) (T : Txt mg) : Callee P w K mg base 1 "known_behind" ["known", "changes"] (spBeh K) := by
  refine F.ok sc_known_behind (fun vs H Q E h => ?_) (fun f cdv A outer s H vs Q E hr h => ?_)
  · obtain ⟨kl, c, kn, cs, rfl, _⟩ := h; rfl
  obtain ⟨kl, c, kn, cs, rfl, hS, ⟨its, hc, ec, al⟩, bd, lc, ln, q⟩ := h
  refine ⟨_, (pss_cons (ps_set (i := 2) sc_known_behind.nd rfl (Or.inl rfl) (pe_callTy call_list_of rfl T.n_list (by decide +kernel) (pa_cons (pv 0) pa_nil)))
    (pss_cons (ps_for PassesOwn.never rfl (pi_list (pv 1)) (pg_name (i := 3) sc_known_behind.nd rfl (Or.inl rfl))
      (pss_one (ps_asg (pe_ix ix_tup (pv 3) pe_int (fun _ _ => rfl)) (pg_sub (pv 2) (pe_ix ix_tup (pv 3) pe_int (fun _ _ => rfl)) set_list))))
    (pss_one (ps_ret (pv 2))))), ?_⟩
  refine ⟨_, rfl, kl, _, rfl, .inl hS, fun b hb => ?_⟩
  have nc : c ≠ b := ne_of_none hc hb
  refine ⟨_, rfl, c, rfl, ⟨_, SqL.of (same_new hb _ _ _ hc)⟩, for_list (K := K) (a := c) (xs := its.map chV) (D := { nx := tRet (tVar 2) { nx := fun x H' => Q V.non H', rt := Q }, rt := Q }) (fun i σ H' => ∃ x3 : Option V, σ = [some (.ref kl), some (.ref c), some (.ref b), x3] ∧ Same H H' ∧ H' b = some (.lst ((behK kn (cs.take i)).map vO))) ⟨none, rfl, same_new hb _, upd_same⟩ (fun i σ H' _ ⟨_, _, g, _⟩ => SqL.of (g _ _ hc)) ?_ ?_⟩
  · rintro i y σ H1 hi ⟨x3, rfl, g, hB⟩
    rw [List.getElem?_map] at hi
    cases e : its[i]? with
    | none => rw [e] at hi; cases hi
    | some p =>
      rw [e] at hi
      cases hi
      have hp := g _ _ (al p (List.mem_of_getElem? e))
      have ep : cs[i]? = some p.2 := by rw [← ec, List.getElem?_map, e]; rfl
      have bp := bd p.2 (List.mem_of_getElem? ep)
      have bl : (behK kn (cs.take i)).length = kn.length := behK_len _ _
      refine ⟨_, rfl, p.1, _, _, _, rfl, rfl, SqT.of hp, atI_nat (j := 1) rfl, _, rfl, _, rfl, p.1, _, _, _, rfl, rfl, SqT.of hp, atI_nat (j := 0) rfl, b, _, _, p.2.1.toNat, rfl, rfl, hB, ?_, ?_⟩
      · unfold ixN
        rw [if_pos bp.1, if_pos (by rw [List.length_map, bl]; exact bp.2)]
      · refine ⟨_, rfl, g.young hb _, ?_⟩
        rw [upd_same]
        congr 2
        rw [List.take_add_one, ep]
        unfold behK
        rw [List.foldl_append]
        show _ = List.map vO ((List.foldl _ kn (cs.take i)).set p.2.1.toNat (some p.2.2))
        rw [List.map_set]
        rfl
  · rintro σ H1 ⟨x3, rfl, g, hB⟩
    have hl : (its.map chV).length = cs.length := by rw [List.length_map, ← ec, List.length_map]
    rw [hl, List.take_length] at hB
    exact ⟨_, rfl, q b H1 g hb hB⟩
set_option maxHeartbeats 32000000 in
theorem ok_chg (F : FunM K mg "changes_by" ["body", "known"] s_changes_by) (T : Txt mg) (C_walked : Callee P w K mg base 44 "walked" ["part", "state", "sure", "known"] (spWalk0 K 40)) (C_signs_that_are : Callee P w K mg base 1 "signs_that_are" ["value", "known"] (spAre K)) : Callee P w K mg base 45 "changes_by" ["body", "known"] (spChg K) := by
  refine F.ok sc_changes_by (fun vs H Q E h => ?_) (fun f cdv A outer s H vs Q E hr h => ?_)
  · obtain ⟨bv, o, kl, kn, rfl, _⟩ := h; rfl
  obtain ⟨bv, o, kl, kn, rfl, ob, hS, ln, ok, q⟩ := h
  refine ⟨_, (pss_cons (ps_set (i := 2) sc_changes_by.nd rfl (Or.inr rfl) (pe_lst pa_nil))
    (pss_cons (ps_set (i := 3) sc_changes_by.nd rfl (Or.inr rfl) (pe_lst pa_nil))
    (pss_cons (ps_if (pt_cmpR op_notN (pv 0) pe_non (nomark _))
      (pss_cons (ps_set (i := 4) sc_changes_by.nd rfl (Or.inl rfl) (pe_callC C_walked hr rfl pass0 (pa_cons (pv 0) (pa_cons pe_non (pa_cons pe_bl (pa_cons (pv 1) pa_nil))))))
    (pss_cons (ps_set (i := 2) sc_changes_by.nd rfl (Or.inr rfl) (pe_ix ix_tup (pv 4) pe_int (fun _ _ => rfl)))
    (pss_one (ps_set (i := 3) sc_changes_by.nd rfl (Or.inr rfl) (pe_ix ix_tup (pv 4) pe_int (fun _ _ => rfl))))))
      pss_nil)
    (pss_cons (ps_set (i := 5) sc_changes_by.nd rfl (Or.inl rfl) (pe_callC C_signs_that_are hr rfl pass0 (pa_cons pe_non (pa_cons (pv 1) pa_nil))))
    (pss_one (ps_ret (pe_comp (g := (gName 0)) (tc := (tOr (tTest (tOp (rIn K false) (tVar 0) (tVar 1))) (tTest (tOp (rIn K true) (tVar 0) (tVar 2))))) (te := (tTup (tCons (tVar 0) (tCons (tOp (rIn K false) (tVar 0) (tVar 1)) tNil)))) ["sign"] [("must", 2), ("can", 3)] rfl (compOk (defScope s_changes_by) ["body", "known", "must", "can", "walk", "waiting"] (by decide +kernel)) (pi_list (pv 5)) (fun s2 H2 fp cl C => pg_name (i := 0) (show List.Nodup [("sign" : Str), ("must" : Str), ("can" : Str)] from by decide +kernel) rfl (Or.inl rfl)) (gkeep_name (by decide)) (fun s2 H2 fp cl C => pif_one (PW.pt (pw_or (pt_cmpR op_in_seq (pv 0) (pv 1) (by rfl)) (pw_or1 (pt_cmpR op_notIn_seq (pv 0) (pv 2) (by rfl)))))) (fun s2 H2 fp cl C => (pe_tup (pa_cons (pv 0) (pa_cons (pe_cmpR op_in_seq (pv 0) (pv 1) (by rfl)) pa_nil))))))))))), ?_⟩
  refine ⟨(by show 0 ≤ sizeLine; decide), fun e1 he1 => ⟨(by show 0 ≤ sizeLine; decide), fun e2 he2 => ?_⟩⟩
  have k1 := same_new he1 (.lst [])
  have k2 := same_new he2 (.lst [])
  have g0 := k1.trans k2
  have h1 := k2 _ _ (upd_same (H := H) (a := e1) (o := .lst []))
  have h2 := upd_same (H := upd H e1 (.lst [])) (a := e2) (o := .lst [])
  generalize (upd (upd H e1 (.lst [])) e2 (.lst [])) = H0 at g0 h1 h2
  cases o with
  | none =>
    have e0 : bv = .non := ob
    subst e0
    refine ⟨_, rfl, rfl, _, rfl, iteF ?_⟩
    obtain ⟨mu, ca, Hx, gx, hmu, hca, eu, ea, ex⟩ : ∃ mu ca Hx, Same H Hx ∧ Hx mu = some (.lst ((mcB kn none).1.map V.int)) ∧ Hx ca = some (.lst ((mcB kn none).2.map V.int)) ∧ mu = e1 ∧ ca = e2 ∧ Hx = H0 := ⟨e1, e2, H0, g0, h1, h2, rfl, rfl, rfl⟩
    rw [← eu, ← ea, ← ex]
    generalize (none : Option Pt) = o at hmu hca q
    refine ⟨_, rfl, none, kl, kn, rfl, gx.seq hS, ln, fun wl H5 g5 nw hw => ?_⟩
    have gm := g5 _ _ hmu
    have gc := g5 _ _ hca
    have gy := gx.trans g5
    have wlen : (areL none kn).length ≤ 30 := Nat.le_trans (areL_len none kn) ln
    refine ⟨_, rfl, wl, rfl, ⟨_, SqL.of hw⟩, comp_list (K := K) (xs := (areL none kn).map V.int) (fun i ys H' => Same H5 H' ∧ ∃ its : List (Addr × (Int × Bool)), ys = its.map chV ∧ its.map Prod.snd = (((areL none kn).take i).filter (fun s => decide (s ∈ (mcB kn o).1) || !decide (s ∈ (mcB kn o).2))).map (fun s => (s, decide (s ∈ (mcB kn o).1))) ∧ ∀ p ∈ its, H' p.1 = some (.tup [.int p.2.1, .bl p.2.2])) ⟨Same.refl _, [], rfl, rfl, fun p hp => by cases hp⟩ (by rw [List.length_map]; exact small (by omega)) (fun i ys H' ⟨g, _⟩ => SqL.of (g _ _ hw)) ?_ ?_⟩
    · rintro j z ys H' N hj ⟨g6, its, rfl, ei, al⟩ hN hyl
      rw [List.getElem?_map] at hj
      cases ej : (areL none kn)[j]? with
      | none => rw [ej] at hj; cases hj
      | some x =>
        rw [ej] at hj
        cases hj
        have et : ((areL none kn).take (j + 1)).filter (fun s => decide (s ∈ (mcB kn o).1) || !decide (s ∈ (mcB kn o).2)) = ((areL none kn).take j).filter (fun s => decide (s ∈ (mcB kn o).1) || !decide (s ∈ (mcB kn o).2)) ++ [x].filter (fun s => decide (s ∈ (mcB kn o).1) || !decide (s ∈ (mcB kn o).2)) := by
          rw [List.take_add_one, ej, List.filter_append]; rfl
        have skip : ¬ (decide (x ∈ (mcB kn o).1) || !decide (x ∈ (mcB kn o).2)) = true → N (its.map chV) H' := fun z => hN _ _ (by omega) ⟨g6, its, rfl, by rw [et, List.filter_cons_of_neg (p := fun s => decide (s ∈ (mcB kn o).1) || !decide (s ∈ (mcB kn o).2)) z]; simpa using ei, al⟩
        have take : ∀ (t : Addr) (b : Bool), b = decide (x ∈ (mcB kn o).1) → (decide (x ∈ (mcB kn o).1) || !decide (x ∈ (mcB kn o).2)) = true → H' t = none → N (its.map chV ++ [.ref t]) (upd H' t (.tup [.int x, .bl b])) := fun t b eb z ht => by
          have k := same_new ht (.tup [.int x, .bl b])
          refine hN _ _ (by rw [List.length_append, List.length_singleton]; omega) ⟨g6.trans k, its ++ [(t, (x, b))], by rw [List.map_append]; rfl, ?_, fun p hp => ?_⟩
          · rw [et, List.filter_cons_of_pos (p := fun s => decide (s ∈ (mcB kn o).1) || !decide (s ∈ (mcB kn o).2)) z, List.map_append, List.map_append, ei, eb]; rfl
          · rcases List.mem_append.mp hp with h | h
            · exact k _ _ (al p h)
            · rcases List.mem_singleton.mp h with rfl
              exact upd_same
        have gm6 := g6 _ _ gm
        have gc6 := g6 _ _ gc
        refine ⟨_, rfl, _, rfl, mu, _, rfl, .inl (SqL.of gm6), rfl, flat_ints _, _, rfl, iteM (fun c => ?_) fun c => ?_⟩
        · refine iteT ⟨_, rfl, _, rfl, _, rfl, mu, _, rfl, .inl (SqL.of gm6), rfl, flat_ints _, (by show 2 ≤ sizeLine; decide), fun t ht => take t _ (by rw [if_neg Bool.false_ne_true, inV_ints]) (by simp [c]) ht⟩
        · refine ⟨_, rfl, _, rfl, ca, _, rfl, .inl (SqL.of gc6), rfl, flat_ints _, _, rfl, ?_⟩
          rw [if_pos rfl, inV_ints]
          by_cases d : x ∈ (mcB kn o).2
          · rw [decide_eq_true d]
            exact iteF (skip (by simp [c, d]))
          · rw [decide_eq_false d]
            exact iteT ⟨_, rfl, _, rfl, _, rfl, mu, _, rfl, .inl (SqL.of gm6), rfl, flat_ints _, (by show 2 ≤ sizeLine; decide), fun t ht => take t _ (by rw [if_neg Bool.false_ne_true, inV_ints]) (by simp [d]) ht⟩
    · rintro ys H' hyl ⟨g6, its, rfl, ei, al⟩ D hD
      have k := same_new hD (.lst (its.map chV))
      rw [List.length_map, List.take_length] at ei
      exact q D _ ((gy.trans g6).trans k) ((gy.trans g6).free hD) ⟨its, upd_same, ei, fun p hp => k _ _ (al p hp)⟩
  | some b =>
    obtain ⟨pb1, hb, sb⟩ := ob
    obtain ⟨a1, e1⟩ : ∃ a, bv = .ref a := by cases b <;> (obtain ⟨a, vs, e, _⟩ := PAt.get pb1; exact ⟨a, e⟩)
    subst e1
    refine ⟨_, rfl, rfl, _, rfl, iteT ?_⟩
    refine ⟨_, rfl, _, rfl, .ref a1, b, true, kl, kn, rfl, pb1.mono g0.tp, g0.seq hS, hb, sb, ok, fun t H4 g4 ⟨l1, l2, l3, a2, a3, a4, a5⟩ => ?_⟩
    refine ⟨_, rfl, t, _, _, _, rfl, rfl, SqT.of a2, atI_nat (j := 2) rfl, _, rfl, t, _, _, _, rfl, rfl, SqT.of a2, atI_nat (j := 3) rfl, ?_⟩
    obtain ⟨mu, ca, Hx, gx, hmu, hca, eu, ea, ex⟩ : ∃ mu ca Hx, Same H Hx ∧ Hx mu = some (.lst ((mcB kn (some b)).1.map V.int)) ∧ Hx ca = some (.lst ((mcB kn (some b)).2.map V.int)) ∧ mu = l2 ∧ ca = l3 ∧ Hx = H4 := ⟨l2, l3, H4, g0.trans g4, a4, a5, rfl, rfl, rfl⟩
    rw [← eu, ← ea, ← ex]
    generalize (some b : Option Pt) = o at hmu hca q
    refine ⟨_, rfl, none, kl, kn, rfl, gx.seq hS, ln, fun wl H5 g5 nw hw => ?_⟩
    have gm := g5 _ _ hmu
    have gc := g5 _ _ hca
    have gy := gx.trans g5
    have wlen : (areL none kn).length ≤ 30 := Nat.le_trans (areL_len none kn) ln
    refine ⟨_, rfl, wl, rfl, ⟨_, SqL.of hw⟩, comp_list (K := K) (xs := (areL none kn).map V.int) (fun i ys H' => Same H5 H' ∧ ∃ its : List (Addr × (Int × Bool)), ys = its.map chV ∧ its.map Prod.snd = (((areL none kn).take i).filter (fun s => decide (s ∈ (mcB kn o).1) || !decide (s ∈ (mcB kn o).2))).map (fun s => (s, decide (s ∈ (mcB kn o).1))) ∧ ∀ p ∈ its, H' p.1 = some (.tup [.int p.2.1, .bl p.2.2])) ⟨Same.refl _, [], rfl, rfl, fun p hp => by cases hp⟩ (by rw [List.length_map]; exact small (by omega)) (fun i ys H' ⟨g, _⟩ => SqL.of (g _ _ hw)) ?_ ?_⟩
    · rintro j z ys H' N hj ⟨g6, its, rfl, ei, al⟩ hN hyl
      rw [List.getElem?_map] at hj
      cases ej : (areL none kn)[j]? with
      | none => rw [ej] at hj; cases hj
      | some x =>
        rw [ej] at hj
        cases hj
        have et : ((areL none kn).take (j + 1)).filter (fun s => decide (s ∈ (mcB kn o).1) || !decide (s ∈ (mcB kn o).2)) = ((areL none kn).take j).filter (fun s => decide (s ∈ (mcB kn o).1) || !decide (s ∈ (mcB kn o).2)) ++ [x].filter (fun s => decide (s ∈ (mcB kn o).1) || !decide (s ∈ (mcB kn o).2)) := by
          rw [List.take_add_one, ej, List.filter_append]; rfl
        have skip : ¬ (decide (x ∈ (mcB kn o).1) || !decide (x ∈ (mcB kn o).2)) = true → N (its.map chV) H' := fun z => hN _ _ (by omega) ⟨g6, its, rfl, by rw [et, List.filter_cons_of_neg (p := fun s => decide (s ∈ (mcB kn o).1) || !decide (s ∈ (mcB kn o).2)) z]; simpa using ei, al⟩
        have take : ∀ (t : Addr) (b : Bool), b = decide (x ∈ (mcB kn o).1) → (decide (x ∈ (mcB kn o).1) || !decide (x ∈ (mcB kn o).2)) = true → H' t = none → N (its.map chV ++ [.ref t]) (upd H' t (.tup [.int x, .bl b])) := fun t b eb z ht => by
          have k := same_new ht (.tup [.int x, .bl b])
          refine hN _ _ (by rw [List.length_append, List.length_singleton]; omega) ⟨g6.trans k, its ++ [(t, (x, b))], by rw [List.map_append]; rfl, ?_, fun p hp => ?_⟩
          · rw [et, List.filter_cons_of_pos (p := fun s => decide (s ∈ (mcB kn o).1) || !decide (s ∈ (mcB kn o).2)) z, List.map_append, List.map_append, ei, eb]; rfl
          · rcases List.mem_append.mp hp with h | h
            · exact k _ _ (al p h)
            · rcases List.mem_singleton.mp h with rfl
              exact upd_same
        have gm6 := g6 _ _ gm
        have gc6 := g6 _ _ gc
        refine ⟨_, rfl, _, rfl, mu, _, rfl, .inl (SqL.of gm6), rfl, flat_ints _, _, rfl, iteM (fun c => ?_) fun c => ?_⟩
        · refine iteT ⟨_, rfl, _, rfl, _, rfl, mu, _, rfl, .inl (SqL.of gm6), rfl, flat_ints _, (by show 2 ≤ sizeLine; decide), fun t ht => take t _ (by rw [if_neg Bool.false_ne_true, inV_ints]) (by simp [c]) ht⟩
        · refine ⟨_, rfl, _, rfl, ca, _, rfl, .inl (SqL.of gc6), rfl, flat_ints _, _, rfl, ?_⟩
          rw [if_pos rfl, inV_ints]
          by_cases d : x ∈ (mcB kn o).2
          · rw [decide_eq_true d]
            exact iteF (skip (by simp [c, d]))
          · rw [decide_eq_false d]
            exact iteT ⟨_, rfl, _, rfl, _, rfl, mu, _, rfl, .inl (SqL.of gm6), rfl, flat_ints _, (by show 2 ≤ sizeLine; decide), fun t ht => take t _ (by rw [if_neg Bool.false_ne_true, inV_ints]) (by simp [d]) ht⟩
    · rintro ys H' hyl ⟨g6, its, rfl, ei, al⟩ D hD
      have k := same_new hD (.lst (its.map chV))
      rw [List.length_map, List.take_length] at ei
      exact q D _ ((gy.trans g6).trans k) ((gy.trans g6).free hD) ⟨its, upd_same, ei, fun p hp => k _ _ (al p hp)⟩
set_option maxHeartbeats 32000000 in
theorem ok_rnd (F : FunM K mg "rounds" ["program", "state", "coming"] s_rounds) (T : Txt mg) (C_body_to_begin : Callee P w K mg base 43 "body_to_begin" ["program", "state"] (spBtb K 40)) (C_known_at_first : Callee P w K mg base 1 "known_at_first" ["program", "coming"] (spFirst K)) (C_known_behind : Callee P w K mg base 1 "known_behind" ["known", "changes"] (spBeh K)) (C_changes_by : Callee P w K mg base 45 "changes_by" ["body", "known"] (spChg K)) : Callee P w K mg base 46 "rounds" ["program", "state", "coming"] (spRnd K) := by
  refine F.ok sc_rounds (fun vs H Q E h => ?_) (fun f cdv A outer s H vs Q E hr h => ?_)
  · obtain ⟨pr, sv, co, n, p, st, cs, rfl, _⟩ := h; rfl
  obtain ⟨pr, sv, co, n, p, st, cs, rfl, pg, hst, hS, q⟩ := h
  obtain ⟨x0, x1, v, hpr, hp⟩ := pg.pa
  have nb := pg.nb
  have pgr := pg.rc
  have pgs := pg.sc
  have pgh := pg.hg
  refine ⟨_, (pss_cons (ps_set (i := 3) sc_rounds.nd rfl (Or.inl rfl) (pe_callC C_body_to_begin hr rfl pass0 (pa_cons (pv 0) (pa_cons (pv 1) pa_nil))))
    (pss_cons (ps_set (i := 4) sc_rounds.nd rfl (Or.inl rfl) (pe_callC C_known_at_first hr rfl pass0 (pa_cons (pv 0) (pa_cons (pv 2) pa_nil))))
    (pss_cons (ps_set (i := 5) sc_rounds.nd rfl (Or.inl rfl) (pe_lst pa_nil))
    (pss_cons (ps_set (i := 6) sc_rounds.nd rfl (Or.inl rfl) (pe_callC C_changes_by hr rfl pass0 (pa_cons (pv 3) (pa_cons (pv 4) pa_nil))))
    (pss_cons (ps_while PassesOwn.never (pt_truth (pv 6) (fun _ => rfl))
      (pss_cons (ps_expr (pe_bm PySem.F.plainAttrs_list PySem.F.slot_list_append PySem.F.type_list_append mt_append (pv 5) (pa_cons (pv 6) pa_nil)))
    (pss_cons (ps_set (i := 4) sc_rounds.nd rfl (Or.inl rfl) (pe_callC C_known_behind hr rfl pass0 (pa_cons (pv 4) (pa_cons (pv 6) pa_nil))))
    (pss_one (ps_set (i := 6) sc_rounds.nd rfl (Or.inl rfl) (pe_callC C_changes_by hr rfl pass0 (pa_cons (pv 3) (pa_cons (pv 4) pa_nil))))))))
    (pss_one (ps_ret (pv 5)))))))), ?_⟩
  refine ⟨_, rfl, _, rfl, pr, x0, x1, .int n, v, p, sv, st, rfl, SqT.of hpr, hp, hst, pg.hg, by omega, fun bv H1 g1 hb => ?_⟩
  have ob : OBd K H1 (bodyO p st) bv := by
    rcases hb with ⟨ov, rfl⟩ | ⟨ov, P1⟩
    · rw [bodyO_over.1 ov]; rfl
    · rw [bodyO_over.2 ov]
      have k1 : (pb p st).hg ≤ p.hg := by cases st with | none => exact Nat.le_refl _ | some l => exact rem_hg l p
      have k2 : (pb p st).sc ≤ p.sc := by cases st with | none => exact Nat.le_refl _ | some l => exact rem_sc l p
      exact ⟨P1, by omega, by omega⟩
  have okb := okB_body pg.ok st
  refine ⟨_, rfl, _, rfl, pr, co, n, p, cs, rfl, pg.mono g1, g1.seq hS, fun kl H2 g2 nk hk => ?_⟩
  refine ⟨(by show 0 ≤ sizeLine; decide), fun r0 hr0 => ?_⟩
  have k3 := same_new hr0 (.lst [])
  have g13 := g2.trans k3
  have g03 := g1.trans g13
  have hk3 := k3 _ _ hk
  have nkr : kl ≠ r0 := ne_of_none hk hr0
  have h30 := upd_same (H := H2) (a := r0) (o := .lst [])
  have fr0 : H r0 = none := (g1.trans g2).free hr0
  have ob3 := ob.mono g13
  generalize (upd H2 r0 (.lst [])) = H3 at g03 hk3 h30 ob3
  have l0 : (firstK n cs).length = n := by simp [firstK]
  generalize bodyO p st = o at ob3 okb q
  refine ⟨_, rfl, _, rfl, bv, o, kl, firstK n cs, rfl, ob3, SqL.of hk3, by omega, by rw [l0]; exact okb, fun ch H4 g4 nch hch => ?_⟩
  refine ⟨fun m σ H' => ∃ (kl ch : Addr) (kn : List (Option Bool)) (its : List (Addr × List (Int × Bool))), σ = [some (.ref pr), some sv, some (.ref co), some bv, some (.ref kl), some (.ref r0), some (.ref ch)] ∧ Same H H' ∧ OBd K H' o bv ∧ H' kl = some (.lst (kn.map vO)) ∧ kl ≠ r0 ∧ kn.length = n ∧ ChAt H' ch (stepK o kn) ∧ ch ≠ r0 ∧ H' r0 = some (.lst (its.map rdV)) ∧ its.length + m = n + 1 ∧ (∀ p ∈ its, ChAt H' p.1 p.2 ∧ p.1 ≠ r0) ∧ nones kn < m ∧ its.map Prod.snd ++ rnds o m kn = rnds o (n + 1) (firstK n cs), ⟨n + 1, kl, ch, firstK n cs, [], rfl, g03.trans g4, ob3.mono g4, g4 _ _ hk3, nkr, l0, hch, (fun z => by rw [z, h30] at nch; cases nch), g4 _ _ h30, by simp, (fun p hp => by cases hp), by have := nones_len (firstK n cs); omega, rfl⟩, ?_⟩
  rintro m σ H5 ⟨kl, ch, kn, its, rfl, g5, ob5, hk5, nkr, ln, hch5, nch5, h50, lm, al, nm, er⟩
  obtain ⟨cit, c1, c2, c3⟩ := id hch5
  refine ⟨_, rfl, _, .inl ⟨_, SqL.of c1, rfl⟩, ?_⟩
  by_cases z : stepK o kn = []
  · have e0 : cit = [] := by rw [z] at c2; exact List.map_eq_nil_iff.mp c2
    subst e0
    refine iteF ?_
    obtain ⟨m', rfl⟩ : ∃ m', m = m' + 1 := ⟨m - 1, by omega⟩
    simp only [rnds] at er
    rw [if_pos z, List.append_nil] at er
    exact ⟨_, rfl, q r0 H5 g5 ⟨its, h50, er, fun p hp => (al p hp).1⟩⟩
  · obtain ⟨x, r, e0⟩ : ∃ x r, cit = x :: r := by
      cases cit with
      | nil => exact absurd c2.symm z
      | cons x r => exact ⟨x, r, rfl⟩
    subst e0
    refine iteT ⟨fun σ' H' => ∃ m', m' < m ∧ ∃ (kl ch : Addr) (kn : List (Option Bool)) (its : List (Addr × List (Int × Bool))), σ' = [some (.ref pr), some sv, some (.ref co), some bv, some (.ref kl), some (.ref r0), some (.ref ch)] ∧ Same H H' ∧ OBd K H' o bv ∧ H' kl = some (.lst (kn.map vO)) ∧ kl ≠ r0 ∧ kn.length = n ∧ ChAt H' ch (stepK o kn) ∧ ch ≠ r0 ∧ H' r0 = some (.lst (its.map rdV)) ∧ its.length + m' = n + 1 ∧ (∀ p ∈ its, ChAt H' p.1 p.2 ∧ p.1 ≠ r0) ∧ nones kn < m' ∧ its.map Prod.snd ++ rnds o m' kn = rnds o (n + 1) (firstK n cs), fun σ' H' h => h, ?_⟩
    refine ⟨_, rfl, .inl ⟨rfl, _, SqL.of h50⟩, _, rfl, r0, _, _, rfl, rfl, h50, by rw [List.length_map]; exact small1000 (by omega), ?_⟩
    have g6 := g5.young fr0 (.lst (its.map rdV ++ [.ref ch]))
    have ob6 : OBd K (upd H5 r0 (.lst (its.map rdV ++ [.ref ch]))) o bv := by
      cases o with
      | none => exact ob5
      | some b => exact ⟨ob5.1.mono (Tp.lst h50), ob5.2⟩
    have hk6 : (upd H5 r0 (.lst (its.map rdV ++ [.ref ch]))) kl = some (.lst (kn.map vO)) := by rw [upd_ne nkr]; exact hk5
    have hch6 := hch5.off (ys := its.map rdV ++ [.ref ch]) nch5 h50
    have al6 : ∀ p ∈ its, ChAt (upd H5 r0 (.lst (its.map rdV ++ [.ref ch]))) p.1 p.2 ∧ p.1 ≠ r0 := fun p hp => ⟨(al p hp).1.off (al p hp).2 h50, (al p hp).2⟩
    have h60 := upd_same (H := H5) (a := r0) (o := .lst (its.map rdV ++ [.ref ch]))
    generalize (upd H5 r0 (.lst (its.map rdV ++ [.ref ch]))) = H6 at g6 ob6 hk6 hch6 al6 h60
    have sb := stepK_bd o kn
    refine ⟨_, rfl, _, rfl, kl, ch, kn, stepK o kn, rfl, SqL.of hk6, hch6, sb.1, by omega, by omega, fun kl2 H7 g7 nk7 hk7 => ?_⟩
    have nkr7 : kl2 ≠ r0 := fun y => by rw [y, h60] at nk7; cases nk7
    have bl := behK_len (stepK o kn) kn
    refine ⟨_, rfl, _, rfl, bv, o, kl2, behK kn (stepK o kn), rfl, ob6.mono g7, SqL.of hk7, by omega, by rw [bl, ln]; exact okb, fun ch2 H8 g8 nc8 hc8 => ?_⟩
    have h70 := g7 _ _ h60
    have nn := nones_next z
    obtain ⟨m', rfl⟩ : ∃ m', m = m' + 1 := ⟨m - 1, by omega⟩
    refine ⟨m', by omega, kl2, ch2, behK kn (stepK o kn), its ++ [(ch, stepK o kn)], rfl, (g6.trans g7).trans g8, (ob6.mono g7).mono g8, g8 _ _ hk7, nkr7, by omega, hc8, (fun y => by rw [y, h70] at nc8; cases nc8), ?_, by rw [List.length_append, List.length_singleton]; omega, fun p hp => ?_, by omega, ?_⟩
    · rw [g8 _ _ h70, List.map_append]; rfl
    · rcases List.mem_append.mp hp with h | h
      · exact ⟨((al6 p h).1.mono g7).mono g8, (al6 p h).2⟩
      · rcases List.mem_singleton.mp h with rfl
        exact ⟨(hch6.mono g7).mono g8, nch5⟩
    · rw [← er]
      simp only [rnds]
      rw [if_neg z, List.map_append, List.append_assoc]
      rfl
set_option maxHeartbeats 32000000 in
theorem ok_set (F : FunM K mg "settled" ["program", "state", "coming"] s_settled) (T : Txt mg) (C_known_at_first : Callee P w K mg base 1 "known_at_first" ["program", "coming"] (spFirst K)) (C_known_behind : Callee P w K mg base 1 "known_behind" ["known", "changes"] (spBeh K)) (C_rounds : Callee P w K mg base 46 "rounds" ["program", "state", "coming"] (spRnd K)) : Callee P w K mg base 47 "settled" ["program", "state", "coming"] (spSet K) := by
  refine F.ok sc_settled (fun vs H Q E h => ?_) (fun f cdv A outer s H vs Q E hr h => ?_)
  · obtain ⟨pr, sv, co, n, p, st, cs, rfl, _⟩ := h; rfl
  obtain ⟨pr, sv, co, n, p, st, cs, rfl, pg, hst, hS, q⟩ := h
  have nb := pg.nb
  refine ⟨_, (pss_cons (ps_set (i := 3) sc_settled.nd rfl (Or.inl rfl) (pe_callC C_known_at_first hr rfl pass0 (pa_cons (pv 0) (pa_cons (pv 2) pa_nil))))
    (pss_cons (ps_for PassesOwn.never rfl (pi_list (pe_callC C_rounds hr rfl pass0 (pa_cons (pv 0) (pa_cons (pv 1) (pa_cons (pv 2) pa_nil))))) (pg_name (i := 4) sc_settled.nd rfl (Or.inl rfl))
      (pss_one (ps_set (i := 3) sc_settled.nd rfl (Or.inl rfl) (pe_callC C_known_behind hr rfl pass0 (pa_cons (pv 3) (pa_cons (pv 4) pa_nil))))))
    (pss_one (ps_ret (pv 3))))), ?_⟩
  refine ⟨_, rfl, _, rfl, pr, co, n, p, cs, rfl, pg, hS, fun kl H1 g1 _ hk => ?_⟩
  refine ⟨_, rfl, _, rfl, _, rfl, pr, sv, co, n, p, st, cs, rfl, pg.mono g1, stAt_mono g1 hst, g1.seq hS, fun r H2 g2 ⟨its, h2, e2, al⟩ => ?_⟩
  have l0 : (firstK n cs).length = n := by simp [firstK]
  have bd := rnds_bd (bodyO p st) (n + 1) (firstK n cs)
  unfold setF at q
  rw [← e2] at bd q
  refine ⟨r, rfl, ⟨_, SqL.of h2⟩, for_list (K := K) (a := r) (xs := its.map rdV) (D := { nx := tRet (tVar 3) { nx := fun x H' => Q V.non H', rt := Q }, rt := Q }) (fun i σ H' => ∃ (kl : Addr) (x4 : Option V), σ = [some (.ref pr), some sv, some (.ref co), some (.ref kl), x4] ∧ Same H2 H' ∧ H' kl = some (.lst ((((its.map Prod.snd).take i).foldl behK (firstK n cs)).map vO))) ⟨kl, none, rfl, Same.refl _, g2 _ _ hk⟩ (fun i σ H' _ ⟨_, _, _, g, _⟩ => SqL.of (g _ _ h2)) ?_ ?_⟩
  · rintro i y σ H3 hi ⟨kl, x4, rfl, g3, hk3⟩
    rw [List.getElem?_map] at hi
    cases e : its[i]? with
    | none => rw [e] at hi; cases hi
    | some it =>
      rw [e] at hi
      cases hi
      have hm := List.mem_of_getElem? e
      have b := bd it.2 (List.mem_map_of_mem hm)
      have fl := foldB_len ((its.map Prod.snd).take i) (firstK n cs)
      refine ⟨_, rfl, _, rfl, kl, it.1, _, it.2, rfl, SqL.of hk3, (al it hm).mono g3, (by rw [fl]; exact b.1), by omega, by omega, fun kl2 H4 g4 _ hk4 => ?_⟩
      refine ⟨kl2, _, rfl, g3.trans g4, ?_⟩
      rw [hk4, List.take_add_one, List.getElem?_map, e, List.foldl_append]
      rfl
  · rintro σ H3 ⟨kl, x4, rfl, g3, hk3⟩
    rw [List.length_map, show its.length = (its.map Prod.snd).length from (List.length_map _).symm, List.take_length] at hk3
    exact ⟨_, rfl, q kl H3 ((g1.trans g2).trans g3) hk3⟩
end

end My
end

section
set_option Elab.async false
set_option linter.all false
set_option maxRecDepth 100000
set_option maxHeartbeats 4000000
namespace My
open PySem L2
/-! ### runners -/
abbrev s_Rinit : Stmt := inClass s_Runner 0
abbrev s_tick : Stmt := inClass s_Runner 1
abbrev s_state : Stmt := inClass s_Runner 2
abbrev s_Winit : Stmt := inClass s_Walker 0
abbrev s_done : Stmt := inClass s_Walker 1
theorem sc_Rinit : FnScope ["self"] ["self"] (defScope s_Rinit) := ⟨rfl, rfl, rfl, by decide +kernel, rfl, by decide +kernel, by decide +kernel⟩
theorem sc_tick : FnScope ["self", "coming", "done"] ["self", "coming"] (defScope s_tick) := ⟨rfl, rfl, rfl, by decide +kernel, rfl, by decide +kernel, by decide +kernel⟩
theorem sc_state : FnScope ["self"] ["self"] (defScope s_state) := ⟨rfl, rfl, rfl, by decide +kernel, rfl, by decide +kernel, by decide +kernel⟩
theorem sc_Winit : FnScope ["self", "program"] ["self", "program"] (defScope s_Winit) := ⟨rfl, rfl, rfl, by decide +kernel, rfl, by decide +kernel, by decide +kernel⟩
theorem sc_done : FnScope ["self", "coming", "there"] ["self", "coming"] (defScope s_done) := ⟨rfl, rfl, rfl, by decide +kernel, rfl, by decide +kernel, by decide +kernel⟩
structure TxtN (K : PySem.W.Frag) (mg : Str → Option Value) (cW cR cUn : Addr) : Prop extends Txt mg where
  cl : Cls K cW
  nR : NoAttr K cW "reached"
  nP : NoAttr K cW "program"
  m_Runner : mg "Runner" = some (.ref cR)
  m_Walker : mg "Walker" = some (.ref cW)
  m_Un : mg "Unsettled" = some (.ref cUn)
  excU : ExcC K cUn
def flR (sv : V) (pr : Addr) : List (Str × V) := [("reached", sv), ("program", .ref pr)]
theorem setF_len (o : Option Pt) (f : Nat) (kn : List (Option Bool)) : (setF o f kn).length = kn.length := by
  unfold setF
  generalize rnds o f kn = l
  induction l generalizing kn with
  | nil => rfl
  | cons c l ih => exact (ih _).trans (behK_len c kn)
def knW (p : Pt) (st : Option (List Int)) (n : Nat) (cs : List Int) : List (Option Bool) := setF (bodyO p st) (n + 1) (firstK n cs)
theorem knW_len (p : Pt) (st : Option (List Int)) (n : Nat) (cs : List Int) : (knW p st n cs).length = n := by
  unfold knW firstK
  rw [setF_len, List.length_map, List.length_range]
theorem vO_flat (kn : List (Option Bool)) : (kn.map vO).all flatV = true := by
  rw [List.all_eq_true]
  intro v hv
  obtain ⟨o, _, rfl⟩ := List.mem_map.mp hv
  cases o <;> rfl
theorem none_in (kn : List (Option Bool)) : inV .non (kn.map vO) = decide (none ∈ kn) := by
  induction kn with
  | nil => rfl
  | cons o kn ih =>
    show (eqV (vO o) .non || inV .non (kn.map vO)) = _
    rw [ih]
    cases o with
    | none => simp [vO, eqV]
    | some b => simp [vO, eqV]
def spSThere (K : PySem.W.Frag) (cUn : Addr) : Sp := fun vs H Q E => ∃ (kl : Addr) (kn : List (Option Bool)), vs = [.ref kl] ∧ SqL K H kl (kn.map vO) ∧ kn.length ≤ 30 ∧
  ((none ∈ kn ∧ ∀ H', Same H H' → E (.ref cUn) none H') ∨ (¬ none ∈ kn ∧ ∀ r H', Same H H' → H r = none → H' r = some (.lst ((areL (some true) kn).map V.int)) → Q (.ref r) H'))
def spRI : Sp := fun vs H Q _ => ∃ (o C dx : Addr) (fs : List (Str × V)), vs = [.ref o] ∧ H o = some (.ins C dx fs) ∧ fs.length < 1000 ∧ Q .non (upd H o (.ins C dx (putF "reached" .non fs)))
def spWI (cW : Addr) : Sp := fun vs H Q _ => ∃ (o dx pr : Addr), vs = [.ref o, .ref pr] ∧ H o = some (.ins cW dx []) ∧ ∀ H', Kp o H H' → H' o = some (.ins cW dx (flR .non pr)) → Q .non H'
/-- a state that is told: the asker's own -/
def CpAt (H H' : Hp) : Option (List Int) → V → Prop
  | none, v => v = .non
  | some ns, v => ∃ r, v = .ref r ∧ H r = none ∧ H' r = some (.lst (ns.map V.int))
def spState (K : PySem.W.Frag) (cW : Addr) : Sp := fun vs H Q _ => ∃ (o dx pr : Addr) (sv : V) (st : Option (List Int)), vs = [.ref o] ∧ H o = some (.ins cW dx (flR sv pr)) ∧ StAt K H st sv ∧ ∀ v H', Same H H' → CpAt H H' st v → Q v H'
def spDone (K : PySem.W.Frag) (cW cUn : Addr) : Sp := fun vs H Q E => ∃ (o dx pr co : Addr) (sv : V) (st : Option (List Int)) (n : Nat) (p : Pt) (cs : List Int), vs = [.ref o, .ref co] ∧ H o = some (.ins cW dx (flR sv pr)) ∧ PgAt K H pr n p ∧ StAt K H st sv ∧ SqL K H co (cs.map V.int) ∧
  ((none ∈ knW p st n cs ∧ ∀ H', Same H H' → E (.ref cUn) none H') ∨ (¬ none ∈ knW p st n cs ∧ ∀ t r b H', Same H H' → H' t = some (.tup [.ref r, .ref b]) → H r = none → H b = none → r ≠ b → H' r = some (.lst ((areL (some true) (knW p st n cs)).map V.int)) → H' b = some (.lst ((instD p st (areL (some true) (knW p st n cs))).2.2.map V.int)) → Q (.ref t) H'))
def spTick (K : PySem.W.Frag) (cW cUn : Addr) : Sp := fun vs H Q E => ∃ (o dx pr co : Addr) (sv : V) (st : Option (List Int)) (n : Nat) (p : Pt) (cs : List Int), vs = [.ref o, .ref co] ∧ H o = some (.ins cW dx (flR sv pr)) ∧ PgAt K H pr n p ∧ StAt K H st sv ∧ SqL K H co (cs.map V.int) ∧ cs.length < 64 ∧
  ((none ∈ knW p st n (nub cs) ∧ ∀ H', Same H H' → E (.ref cUn) none H') ∨ (¬ none ∈ knW p st n (nub cs) ∧ ∀ r b H', Kp o H H' → H' o = some (.ins cW dx (flR (.ref b) pr)) → H r = none → H b = none → r ≠ b → H' r = some (.lst ((areL (some true) (knW p st n (nub cs))).map V.int)) → H' b = some (.lst ((instD p st (areL (some true) (knW p st n (nub cs)))).2.2.map V.int)) → Q (.ref r) H'))
def spTk (K : PySem.W.Frag) (cW : Addr) : Sp := fun vs H Q _ => ∃ (o dx pr co : Addr) (sv : V) (st : Option (List Int)) (n : Nat) (p : Pt) (cs : List Int), vs = [.ref o, .ref co] ∧ H o = some (.ins cW dx (flR sv pr)) ∧ PgAt K H pr n p ∧ StAt K H st sv ∧ SqL K H co (cs.map V.int) ∧ cs.length < 64 ∧
  (none ∈ knW p st n (nub cs) → ∀ t H', Same H H' → H' t = some (.tup [.str "unsettled", .non]) → Q (.ref t) H') ∧ (¬ none ∈ knW p st n (nub cs) → ∀ t r b H', Kp o H H' → H' o = some (.ins cW dx (flR (.ref b) pr)) → H' t = some (.tup [.str "done", .ref r]) → H r = none → H b = none → r ≠ b → H' r = some (.lst ((areL (some true) (knW p st n (nub cs))).map V.int)) → H' b = some (.lst ((instD p st (areL (some true) (knW p st n (nub cs)))).2.2.map V.int)) → Q (.ref t) H')
theorem stAt_same {K : PySem.W.Frag} {H H' : Hp} {st : Option (List Int)} {v : V} (g : Same H H') (h : StAt K H st v) : StAt K H' st v := by
  cases st with
  | none => exact h
  | some ns => obtain ⟨a, e, s⟩ := h; exact ⟨a, e, g.seq s⟩
section
variable {P : Program} {w : World} {K : PySem.W.Frag} {mg : Str → Option Value} {base : Heap} {cW cR cUn : Addr}
theorem ok_sthere (F : FunM K mg "signs_there" ["known"] s_signs_there) (T : TxtN K mg cW cR cUn) (C_signs_that_are : Callee P w K mg base 1 "signs_that_are" ["value", "known"] (spAre K)) : CalleeX P w K mg base 2 "signs_there" ["known"] (spSThere K cUn) := by
  refine F.okX sc_signs_there (fun vs H Q E h => ?_) (fun f cdv A outer s H vs Q E hr h => ?_)
  · obtain ⟨kl, kn, rfl, _⟩ := h; rfl
  obtain ⟨kl, kn, rfl, hS, hl, h⟩ := h
  refine ⟨_, (pss_cons (ps_if (pt_cmpR op_in_seq pe_non (pv 0) (by rfl))
      (pss_one (ps_raise T.excU T.m_Un rfl (pa_cons pe_str pa_nil)))
      pss_nil)
    (pss_one (ps_ret (pe_callC C_signs_that_are hr rfl pass0 (pa_cons pe_bl (pa_cons (pv 0) pa_nil)))))), ?_⟩
  refine ⟨_, rfl, kl, _, rfl, .inl hS, rfl, vO_flat kn, _, rfl, ?_⟩
  dsimp only
  rw [if_neg Bool.false_ne_true, none_in]
  rcases h with ⟨hn, e⟩ | ⟨hn, q⟩
  · rw [decide_eq_true hn]
    exact iteT ⟨by show 1 ≤ sizeLine; decide, e _ (Same.refl _)⟩
  · rw [decide_eq_false hn]
    exact iteF ⟨_, rfl, some true, kl, kn, rfl, hS, hl, fun r H' g f e => q r H' g f e⟩
theorem ok_Rinit {f : Addr} {fd : FuncData} (F : Fun K "__init__" "Runner.__init__" s_Rinit f fd) (T : TxtN K mg cW cR cUn) : FnOk P w K mg base CX0 1 f fd ["self"] (fun vs H Q E => spRI vs H Q E ∧ ∃ o dx fs, vs = [.ref o] ∧ H o = some (.ins cW dx fs)) := by
  refine F.ok sc_Rinit (fun vs H Q E h => ?_) (fun cdv A outer s H vs Q E hr h => ?_)
  · obtain ⟨⟨o, C, dx, fs, rfl, _⟩, _⟩ := h; rfl
  obtain ⟨⟨o, C, dx, fs, rfl, ho, hl, q⟩, o', dx', fs', e, ho'⟩ := h
  cases e
  rw [ho] at ho'
  cases ho'
  refine ⟨_, (pss_one (ps_fld (pv 0) pe_non rfl)), ?_⟩
  exact ⟨_, rfl, o, cW, dx, fs, rfl, ho, T.cl, T.nR, hl, q⟩
theorem ok_Winit {f g : Addr} {fd gd : FuncData} (F : Fun K "__init__" "Walker.__init__" s_Winit f fd) (T : TxtN K mg cW cR cUn) (M : CMeth K cR "__init__" g) (G : FnOk P w K mg base CX0 1 g gd ["self"] (fun vs H Q E => spRI vs H Q E ∧ ∃ o dx fs, vs = [.ref o] ∧ H o = some (.ins cW dx fs))) (hb : Binds K gd ["self"] []) : FnOk P w K mg base CX0 2 f fd ["self", "program"] (spWI cW) := by
  refine F.ok sc_Winit (fun vs H Q E h => ?_) (fun cdv A outer s H vs Q E hr h => ?_)
  · obtain ⟨o, dx, pr, rfl, _⟩ := h; rfl
  obtain ⟨o, dx, pr, rfl, ho, q⟩ := h
  refine ⟨_, (pss_cons (ps_expr (pe_cmeth (pe_glob (v := .ref cR) rfl T.m_Runner rfl) M G hr hb pass0 (pa_cons (pv 0) pa_nil)))
    (pss_one (ps_fld (pv 0) (pv 1) rfl))), ?_⟩
  refine ⟨rfl, _, rfl, ⟨o, cW, dx, [], rfl, ho, (by show 0 < 1000; decide), ?_⟩, o, dx, [], rfl, ho⟩
  refine ⟨_, rfl, _, rfl, o, cW, dx, _, rfl, upd_same, T.cl, T.nP, (by show 1 < 1000; decide), ?_⟩
  exact q _ (Kp.upd.trans Kp.upd) upd_same
theorem ok_state {f : Addr} {fd : FuncData} (F : Fun K "state" "Runner.state" s_state f fd) (T : TxtN K mg cW cR cUn) : FnOk P w K mg base CX0 1 f fd ["self"] (spState K cW) := by
  refine F.ok sc_state (fun vs H Q E h => ?_) (fun cdv A outer s H vs Q E hr h => ?_)
  · obtain ⟨o, dx, pr, sv, st, rfl, _⟩ := h; rfl
  obtain ⟨o, dx, pr, sv, st, rfl, ho, hst, q⟩ := h
  refine ⟨_, (pss_one (ps_ret (pe_ifExp (pt_cmpR op_isN (pe_fld (pv 0) rfl) pe_non (nomark _)) pe_non (pe_callTy call_list_of rfl T.n_list (by decide +kernel) (pa_cons (pe_fld (pv 0) rfl) pa_nil))))), ?_⟩
  refine ⟨_, rfl, o, cW, dx, _, sv, rfl, ho, T.cl, T.nR, rfl, rfl, _, rfl, ?_⟩
  cases st with
  | none =>
    cases (show sv = .non from hst)
    exact iteT (q _ _ (Same.refl _) rfl)
  | some ns =>
    obtain ⟨a, rfl, hS⟩ := hst
    exact iteF ⟨_, rfl, o, cW, dx, _, .ref a, rfl, ho, T.cl, T.nR, rfl, a, _, rfl, .inl hS, fun l hl => q _ _ (same_new hl _) ⟨l, rfl, hl, upd_same⟩⟩
set_option maxHeartbeats 16000000 in
theorem ok_done {f : Addr} {fd : FuncData} (F : Fun K "done_with" "Walker.done_with" s_done f fd) (T : TxtN K mg cW cR cUn) (C_signs_there : CalleeX P w K mg base 2 "signs_there" ["known"] (spSThere K cUn)) (C_settled : Callee P w K mg base 47 "settled" ["program", "state", "coming"] (spSet K)) (C_instant : Callee P w K mg base 45 "instant" ["program", "state", "there"] (spInst K 40)) : FnOk P w K mg base (CX1 P w) 48 f fd ["self", "coming"] (spDone K cW cUn) := by
  refine F.okX sc_done (fun vs H Q E h => ?_) (fun cdv A outer s H vs Q E hr h => ?_)
  · obtain ⟨o, dx, pr, co, sv, st, n, p, cs, rfl, _⟩ := h; rfl
  obtain ⟨o, dx, pr, co, sv, st, n, p, cs, rfl, ho, hP, hst, hS, h⟩ := h
  refine ⟨_, (pss_cons (ps_set (i := 2) sc_done.nd rfl (Or.inl rfl) (pe_callX C_signs_there hr rfl (pa_cons (pe_callC C_settled hr rfl pass0 (pa_cons (pe_fld (pv 0) rfl) (pa_cons (pe_fld (pv 0) rfl) (pa_cons (pv 1) pa_nil)))) pa_nil)))
    (pss_one (ps_ret (pe_tup (pa_cons (pv 2) (pa_cons (pe_ix ix_tup (pe_callC C_instant hr rfl pass0 (pa_cons (pe_fld (pv 0) rfl) (pa_cons (pe_fld (pv 0) rfl) (pa_cons (pv 2) pa_nil)))) pe_int (fun _ _ => rfl)) pa_nil)))))), ?_⟩
  refine ⟨_, rfl, o, cW, dx, _, .ref pr, rfl, ho, T.cl, T.nP, rfl, _, rfl, o, cW, dx, _, sv, rfl, ho, T.cl, T.nR, rfl, _, rfl, pr, sv, co, n, p, st, cs, rfl, hP, hst, hS, fun kl H1 g1 e1 => ?_⟩
  refine ⟨kl, knW p st n cs, rfl, SqL.of e1, by rw [knW_len]; exact hP.nb, ?_⟩
  rcases h with ⟨hn, e⟩ | ⟨hn, q⟩
  · exact .inl ⟨hn, fun H' g => e _ (g1.trans g)⟩
  refine .inr ⟨hn, fun r H2 g2 f2 e2 => ?_⟩
  have g12 := g1.trans g2
  have ho2 := g12 _ _ ho
  obtain ⟨x0, x1, v, hpr, hpa⟩ := (hP.mono g12).pa
  refine ⟨_, rfl, _, rfl, o, cW, dx, _, .ref pr, rfl, ho2, T.cl, T.nP, rfl, _, rfl, o, cW, dx, _, sv, rfl, ho2, T.cl, T.nR, rfl, _, rfl, pr, x0, x1, _, v, p, sv, st, r, _, rfl, SqT.of hpr, hpa, stAt_same g12 hst, SqL.of e2, hP.hg, (by have := hP.sc; omega), (by have := hP.rc; omega), fun t H3 g3 d => ?_⟩
  obtain ⟨l1, l2, a1, a2, a3, f1, f3⟩ := d
  refine ⟨t, _, _, .ref l2, rfl, rfl, SqT.of a1, atI_nat (j := 2) rfl, (by show 2 ≤ sizeLine; decide), fun t2 ht2 => ?_⟩
  have k4 := same_new ht2 (.tup [.ref r, .ref l2])
  exact q t2 r l2 _ ((g12.trans g3).trans k4) upd_same (g1.free f2) (g12.free f3) (fun z => by rw [z, f3] at e2; cases e2) (k4 _ _ (g3 _ _ e2)) (k4 _ _ a3)
set_option maxHeartbeats 16000000 in
theorem ok_tick {f : Addr} {fd : FuncData} (F : Fun K "tick" "Runner.tick" s_tick f fd) (T : TxtN K mg cW cR cUn) (M_done_with : MethX P w K mg base 48 cW "done_with" ["self", "coming"] (spDone K cW cUn)) : FnOk P w K mg base (CX1 P w) 49 f fd ["self", "coming"] (spTick K cW cUn) := by
  refine F.okX sc_tick (fun vs H Q E h => ?_) (fun cdv A outer s H vs Q E hr h => ?_)
  · obtain ⟨o, dx, pr, co, sv, st, n, p, cs, rfl, _⟩ := h; rfl
  obtain ⟨o, dx, pr, co, sv, st, n, p, cs, rfl, ho, hP, hst, hS, hl, h⟩ := h
  refine ⟨_, (pss_cons (ps_set (i := 2) sc_tick.nd rfl (Or.inl rfl) (pe_methX M_done_with hr (pv 0) (pa_cons (pe_sset rfl rfl T.n_sorted rfl T.n_set (pv 1)) pa_nil)))
    (pss_cons (ps_fld (pv 0) (pe_ix ix_tup (pv 2) pe_int (fun _ _ => rfl)) rfl)
    (pss_one (ps_ret (pe_ix ix_tup (pv 2) pe_int (fun _ _ => rfl)))))), ?_⟩
  refine ⟨_, rfl, o, dx, _, rfl, ho, rfl, _, rfl, co, cs, rfl, hS, hl, fun c1 hc1 => ?_⟩
  have k1 := same_new hc1 (.lst ((nub cs).map V.int))
  refine ⟨o, dx, pr, c1, sv, st, n, p, nub cs, rfl, k1 _ _ ho, hP.mono k1, stAt_same k1 hst, SqL.of upd_same, ?_⟩
  rcases h with ⟨hn, e⟩ | ⟨hn, q⟩
  · exact .inl ⟨hn, fun H' g => e _ (k1.trans g)⟩
  refine .inr ⟨hn, fun t r b H2 g2 et fr fb ne er eb => ?_⟩
  have g02 := k1.trans g2
  have ho2 := g02 _ _ ho
  refine ⟨_, rfl, t, _, _, .ref b, rfl, rfl, SqT.of et, atI_nat (j := 1) rfl, _, rfl, o, cW, dx, _, rfl, ho2, T.cl, T.nR, (by show 2 < 1000; decide), ?_⟩
  have nt : t ≠ o := fun z => by rw [z, ho2] at et; cases et
  have nr : r ≠ o := fun z => by rw [z, ho2] at er; cases er
  have nb : b ≠ o := fun z => by rw [z, ho2] at eb; cases eb
  refine ⟨_, rfl, t, _, _, .ref r, rfl, rfl, SqT.of (by rw [upd_ne nt]; exact et), atI_nat (j := 0) rfl, ?_⟩
  exact q r b _ (fun c u hc e => by rw [upd_ne hc]; exact g02 _ _ e) upd_same (k1.free fr) (k1.free fb) ne (by rw [upd_ne nr]; exact er) (by rw [upd_ne nb]; exact eb)
set_option maxHeartbeats 16000000 in
theorem ok_tk (F : FunM K mg "_law_tick" ["_law_runner", "_law_coming_here"] s__law_tick) (T : TxtN K mg cW cR cUn) (hx : PySem.W.exmOne K (.ref cUn) (.ref cUn) = some true) (M_tick : MethX P w K mg base 49 cW "tick" ["self", "coming"] (spTick K cW cUn)) : Callee P w K mg base 50 "_law_tick" ["_law_runner", "_law_coming_here"] (spTk K cW) := by
  refine F.ok sc__law_tick (fun vs H Q E h => ?_) (fun f cdv A outer s H vs Q E hr h => ?_)
  · obtain ⟨o, dx, pr, co, sv, st, n, p, cs, rfl, _⟩ := h; rfl
  obtain ⟨o, dx, pr, co, sv, st, n, p, cs, rfl, ho, hP, hst, hS, hl, hU, hD⟩ := h
  refine ⟨_, (pss_cons (ps_set (i := 2) sc__law_tick.nd rfl (Or.inl rfl) pe_str)
    (pss_cons (ps_set (i := 3) sc__law_tick.nd rfl (Or.inl rfl) pe_non)
    (pss_cons (ps_try (pxs_set (i := 3) (px_meth M_tick hr (pv 0) (pa_cons (pv 1) pa_nil)) sc__law_tick.nd rfl (Or.inl rfl)) (ph_cons T.m_Un rfl (fun u => pss_one (ps_set (i := 2) sc__law_tick.nd rfl (Or.inl rfl) pe_str)) ph_nil) rfl rfl)
    (pss_one (ps_ret (pe_tup (pa_cons (pv 2) (pa_cons (pv 3) pa_nil)))))))), ?_⟩
  refine ⟨_, rfl, o, dx, _, rfl, ho, rfl, _, rfl, o, dx, pr, co, sv, st, n, p, cs, rfl, ho, hP, hst, hS, hl, ?_⟩
  by_cases hn : none ∈ knW p st n (nub cs)
  · refine .inl ⟨hn, fun H' g => ⟨cUn, rfl, .inl ⟨hx, ?_⟩⟩⟩
    exact ⟨_, rfl, _, rfl, (by show 2 ≤ sizeLine; decide), fun t ht => hU hn t _ (g.trans (same_new ht _)) upd_same⟩
  · refine .inr ⟨hn, fun r b H' k eo fr fb ne er eb => ?_⟩
    refine ⟨_, rfl, _, rfl, (by show 2 ≤ sizeLine; decide), fun t ht => ?_⟩
    have kt := same_new ht (.tup [.str "done", .ref r])
    exact hD hn t r b _ (fun c u hc e => kt _ _ (k c u hc e)) (kt _ _ eo) upd_same fr fb ne (kt _ _ er) (kt _ _ eb)
end

end My
end

section
set_option Elab.async false
set_option linter.all false
set_option maxRecDepth 100000
set_option maxHeartbeats 4000000
namespace My
open PySem L2
/-! ### the law's parts, not numbered yet -/
inductive Rp where
  | nothing
  | rest
  | send (s : Int)
  | exit (d : Int)
  | iff (s : Int) (p q : Rp)
  | again (p : Rp)
  | hold (s : Int) (p : Rp)
  | watch (s : Int) (p : Rp)
  | trap (p : Rp)
  | thn (p q : Rp)
  | bes (p q : Rp)
def Rp.nd : Rp → Nd
  | .nothing => .t [.s "nothing"]
  | .rest => .t [.s "rest"]
  | .send s => .t [.s "send", .i s]
  | .exit d => .t [.s "exit", .i d]
  | .iff s p q => .t [.s "if", .i s, p.nd, q.nd]
  | .again p => .t [.s "again", p.nd]
  | .hold s p => .t [.s "hold", .i s, p.nd]
  | .watch s p => .t [.s "watch", .i s, p.nd]
  | .trap p => .t [.s "trap", p.nd]
  | .thn p q => .t [.s "then", p.nd, q.nd]
  | .bes p q => .t [.s "beside", p.nd, q.nd]
def Rp.hg : Rp → Nat
  | .iff _ p q => max p.hg q.hg + 1
  | .thn p q => max p.hg q.hg + 1
  | .bes p q => max p.hg q.hg + 1
  | .again p => p.hg + 1
  | .hold _ p => p.hg + 1
  | .watch _ p => p.hg + 1
  | .trap p => p.hg + 1
  | _ => 1
/-- rests, agains and sends -/
def Rp.wt : Rp → Nat
  | .rest => 1
  | .send _ => 1
  | .iff _ p q => p.wt + q.wt
  | .thn p q => p.wt + q.wt
  | .bes p q => p.wt + q.wt
  | .again p => p.wt + 1
  | .hold _ p => p.wt
  | .watch _ p => p.wt
  | .trap p => p.wt
  | _ => 0
def Rp.ok (sg : Int) : Rp → Prop
  | .send s => 0 ≤ s ∧ s < sg
  | .exit d => 0 ≤ d ∧ d < 4
  | .iff s p q => (0 ≤ s ∧ s < sg) ∧ p.ok sg ∧ q.ok sg
  | .thn p q => p.ok sg ∧ q.ok sg
  | .bes p q => p.ok sg ∧ q.ok sg
  | .again p => p.ok sg
  | .hold s p => (0 ≤ s ∧ s < sg) ∧ p.ok sg
  | .watch s p => (0 ≤ s ∧ s < sg) ∧ p.ok sg
  | .trap p => p.ok sg
  | _ => True
theorem Rp.hg_pos (p : Rp) : 1 ≤ p.hg := by cases p <;> exact Nat.le_add_left 1 _
/-- the rests and agains numbered -/
def num : Rp → Int → Pt × Int
  | .nothing, k => (.nothing, k)
  | .rest, k => (.rest k, k + 1)
  | .send s, k => (.send s, k)
  | .exit d, k => (.exit d, k)
  | .iff s p q, k => (.iff s (num p k).1 (num q (num p k).2).1, (num q (num p k).2).2)
  | .again p, k => (.again (num p k).2 (num p k).1, (num p k).2 + 1)
  | .hold s p, k => (.hold s (num p k).1, (num p k).2)
  | .watch s p, k => (.watch s (num p k).1, (num p k).2)
  | .trap p, k => (.trap (num p k).1, (num p k).2)
  | .thn p q, k => (.thn (num p k).1 (num q (num p k).2).1, (num q (num p k).2).2)
  | .bes p q, k => (.bes (num p k).1 (num q (num p k).2).1, (num q (num p k).2).2)
structure NumOk (sg : Int) (r : Rp) (p : Pt) : Prop where
  hg : p.hg = r.hg
  wt : p.rc + p.sc = r.wt
  ok : r.ok sg → okW sg p
theorem num_ok (sg : Int) (r : Rp) : ∀ k, NumOk sg r (num r k).1 := by
  induction r with
  | nothing => intro k; exact ⟨rfl, rfl, fun _ => trivial⟩
  | rest => intro k; exact ⟨rfl, rfl, fun _ => trivial⟩
  | send s => intro k; exact ⟨rfl, rfl, fun h => h⟩
  | exit d => intro k; exact ⟨rfl, rfl, fun h => h⟩
  | iff s p q ih1 ih2 =>
    intro k
    obtain ⟨a1, a2, a3⟩ := ih1 k
    obtain ⟨b1, b2, b3⟩ := ih2 (num p k).2
    exact ⟨by simp only [num, Pt.hg, Rp.hg, a1, b1], by simp only [num, Pt.rc, Pt.sc, Rp.wt]; omega, fun h => ⟨h.1, a3 h.2.1, b3 h.2.2⟩⟩
  | thn p q ih1 ih2 =>
    intro k
    obtain ⟨a1, a2, a3⟩ := ih1 k
    obtain ⟨b1, b2, b3⟩ := ih2 (num p k).2
    exact ⟨by simp only [num, Pt.hg, Rp.hg, a1, b1], by simp only [num, Pt.rc, Pt.sc, Rp.wt]; omega, fun h => ⟨a3 h.1, b3 h.2⟩⟩
  | bes p q ih1 ih2 =>
    intro k
    obtain ⟨a1, a2, a3⟩ := ih1 k
    obtain ⟨b1, b2, b3⟩ := ih2 (num p k).2
    exact ⟨by simp only [num, Pt.hg, Rp.hg, a1, b1], by simp only [num, Pt.rc, Pt.sc, Rp.wt]; omega, fun h => ⟨a3 h.1, b3 h.2⟩⟩
  | again p ih =>
    intro k
    obtain ⟨a1, a2, a3⟩ := ih k
    exact ⟨by simp only [num, Pt.hg, Rp.hg, a1], by simp only [num, Pt.rc, Pt.sc, Rp.wt]; omega, fun h => a3 h⟩
  | hold s p ih =>
    intro k
    obtain ⟨a1, a2, a3⟩ := ih k
    exact ⟨by simp only [num, Pt.hg, Rp.hg, a1], by simp only [num, Pt.rc, Pt.sc, Rp.wt]; omega, fun h => ⟨h.1, a3 h.2⟩⟩
  | watch s p ih =>
    intro k
    obtain ⟨a1, a2, a3⟩ := ih k
    exact ⟨by simp only [num, Pt.hg, Rp.hg, a1], by simp only [num, Pt.rc, Pt.sc, Rp.wt]; omega, fun h => ⟨h.1, a3 h.2⟩⟩
  | trap p ih =>
    intro k
    obtain ⟨a1, a2, a3⟩ := ih k
    exact ⟨by simp only [num, Pt.hg, Rp.hg, a1], by simp only [num, Pt.rc, Pt.sc, Rp.wt]; omega, fun h => a3 h⟩
/-- what a part's tuple holds: a word, numbers, parts that are less high -/
structure Its (r : Rp) (x : Str) (xs : List Nd) : Prop where
  e : r.nd = .t (.s x :: xs)
  l : xs.length ≤ 3
  c : ∀ n ∈ xs, (∃ k, n = .i k) ∨ ∃ r' : Rp, n = r'.nd ∧ r'.hg + 1 ≤ r.hg
theorem its_of (r : Rp) : ∃ x xs, Its r x xs := by
  have i1 : ∀ (k : Int), ∀ n ∈ [Nd.i k], (∃ k, n = .i k) ∨ ∃ r' : Rp, n = r'.nd ∧ r'.hg + 1 ≤ r.hg := fun k n hn => .inl ⟨k, List.mem_singleton.mp hn⟩
  cases r with
  | nothing => exact ⟨_, [], rfl, by decide, fun n hn => by cases hn⟩
  | rest => exact ⟨_, [], rfl, by decide, fun n hn => by cases hn⟩
  | send s => exact ⟨_, [.i s], rfl, by simp, i1 s⟩
  | exit d => exact ⟨_, [.i d], rfl, by simp, i1 d⟩
  | iff s p q =>
    refine ⟨_, [.i s, p.nd, q.nd], rfl, by simp, fun n hn => ?_⟩
    simp only [List.mem_cons, List.not_mem_nil, or_false] at hn
    rcases hn with rfl | rfl | rfl
    · exact .inl ⟨s, rfl⟩
    · exact .inr ⟨p, rfl, by simp only [Rp.hg]; omega⟩
    · exact .inr ⟨q, rfl, by simp only [Rp.hg]; omega⟩
  | thn p q =>
    refine ⟨_, [p.nd, q.nd], rfl, by simp, fun n hn => ?_⟩
    simp only [List.mem_cons, List.not_mem_nil, or_false] at hn
    rcases hn with rfl | rfl
    · exact .inr ⟨p, rfl, by simp only [Rp.hg]; omega⟩
    · exact .inr ⟨q, rfl, by simp only [Rp.hg]; omega⟩
  | bes p q =>
    refine ⟨_, [p.nd, q.nd], rfl, by simp, fun n hn => ?_⟩
    simp only [List.mem_cons, List.not_mem_nil, or_false] at hn
    rcases hn with rfl | rfl
    · exact .inr ⟨p, rfl, by simp only [Rp.hg]; omega⟩
    · exact .inr ⟨q, rfl, by simp only [Rp.hg]; omega⟩
  | again p =>
    refine ⟨_, [p.nd], rfl, by simp, fun n hn => ?_⟩
    rw [List.mem_singleton.mp hn]
    exact .inr ⟨p, rfl, by simp only [Rp.hg]; omega⟩
  | trap p =>
    refine ⟨_, [p.nd], rfl, by simp, fun n hn => ?_⟩
    rw [List.mem_singleton.mp hn]
    exact .inr ⟨p, rfl, by simp only [Rp.hg]; omega⟩
  | hold s p =>
    refine ⟨_, [.i s, p.nd], rfl, by simp, fun n hn => ?_⟩
    simp only [List.mem_cons, List.not_mem_nil, or_false] at hn
    rcases hn with rfl | rfl
    · exact .inl ⟨s, rfl⟩
    · exact .inr ⟨p, rfl, by simp only [Rp.hg]; omega⟩
  | watch s p =>
    refine ⟨_, [.i s, p.nd], rfl, by simp, fun n hn => ?_⟩
    simp only [List.mem_cons, List.not_mem_nil, or_false] at hn
    rcases hn with rfl | rfl
    · exact .inl ⟨s, rfl⟩
    · exact .inr ⟨p, rfl, by simp only [Rp.hg]; omega⟩
theorem if_cases {tc : TT} {A B : TS} {D : Ends} {σ : St} {H : Hp} (Φ : Bool → Hp → Prop) (ht : ∀ Q : Bool → Hp → Prop, (∀ b H', Φ b H' → Q b H') → tc σ H Q) (hA : ∀ H', Φ true H' → A D σ H') (hB : ∀ H', Φ false H' → B D σ H') : tIfS tc A B D σ H :=
  ht _ fun b H' h => by
    cases b with
    | true => exact iteT (hA H' h)
    | false => exact iteF (hB H' h)
def mixV (c : Int) : Int := (c % 2147483647 + 11) * 48271 * 69621 % 2147483629
theorem mixV_pos (c : Int) : 0 ≤ mixV c := Int.emod_nonneg _ (by decide)
def spMixed : Sp := fun vs H Q _ => ∃ c : Int, vs = [.int c] ∧ Q (.int (mixV c)) H
def spAt (K : PySem.W.Frag) : Sp := fun vs H Q _ => ∃ (a : Addr) (ns : List Int) (k : Int), vs = [.ref a, .int k] ∧ SqL K H a (ns.map V.int) ∧ 0 ≤ k ∧ ∀ m : Int, 0 ≤ m → Q (.int m) H
def spLf (K : PySem.W.Frag) : Sp := fun vs H Q _ => ∃ seed sg : Int, vs = [.int seed, .int sg] ∧ 0 < sg ∧ ∀ v r H', Same H H' → PAt K H' (Rp.nd r) v → r.hg ≤ 2 → r.wt ≤ 1 → r.ok sg → Q v H'
def spDeep (K : PySem.W.Frag) (n : Nat) : Sp := fun vs H Q _ => ∃ (v : V) (r : Rp), vs = [v] ∧ PAt K H (Rp.nd r) v ∧ r.hg ≤ n ∧ ∀ (m : Int) H', Same H H' → Q (.int m) H'
abbrev PrR (K : PySem.W.Frag) (H : Hp) (l : List Rp) (vs : List V) : Prop := PySem.Paired (fun p v => PAt K H (Rp.nd p) v) l vs
theorem prR_mono {K : PySem.W.Frag} {H H' : Hp} (T : Tp H H') {l : List Rp} {vs : List V} (h : PrR K H l vs) : PrR K H' l vs := Paired.mapP h fun _ _ a => a.mono T
def wH (l : List Rp) : Nat := (l.map Rp.hg).sum
def wR (l : List Rp) : Nat := (l.map Rp.wt).sum
theorem wH_snoc (l : List Rp) (p : Rp) : wH (l ++ [p]) = wH l + p.hg := by simp [wH]
theorem wR_snoc (l : List Rp) (p : Rp) : wR (l ++ [p]) = wR l + p.wt := by simp [wR]
theorem prR_last {F : Rp → V → Prop} : ∀ {l : List Rp} {vs : List V}, PySem.Paired F l vs → ¬ l = [] → ∃ l0 p ws v, l = l0 ++ [p] ∧ vs = ws ++ [v] ∧ PySem.Paired F l0 ws ∧ F p v
  | _, _, .nil, h => absurd rfl h
  | _, _, .cons (a := a) (b := b) (l₁ := l1) (l₂ := l2) f t, _ => by
    cases t with
    | nil => exact ⟨[], a, [], b, rfl, rfl, .nil, f⟩
    | cons f' t' =>
      obtain ⟨l0, p, ws, v, e1, e2, t0, fp⟩ := prR_last (.cons f' t') (by simp)
      exact ⟨a :: l0, p, b :: ws, v, by rw [e1]; rfl, by rw [e2]; rfl, .cons f t0, fp⟩
def spGr (K : PySem.W.Frag) : Sp := fun vs H Q _ => ∃ (seed sg : Int) (r : Addr) (l : List Rp) (xs : List V), vs = [.ref r, .int seed, .int sg] ∧ 0 < sg ∧ H r = some (.lst xs) ∧ PrR K H l xs ∧ ¬ l = [] ∧ (∀ p ∈ l, p.ok sg) ∧ wH l ≤ 30 ∧
  ∀ (v : V) (p : Rp) (l' : List Rp) (xs' : List V) (H' : Hp), Kp r H H' → H' r = some (.lst xs') → PrR K H' l' xs' → PAt K H' (Rp.nd p) v → p.ok sg → (∀ q ∈ l', q.ok sg) → wH l' + p.hg ≤ wH l + 1 → wR l' + p.wt ≤ wR l + 1 → l'.length + 1 ≤ l.length → Q v H'
def spBody (K : PySem.W.Frag) : Sp := fun vs H Q _ => ∃ (c : Addr) (cs : List Int) (sg : Int), vs = [.ref c, .int sg] ∧ SqL K H c (cs.map V.int) ∧ cs.length ≤ 10 ∧ 0 < sg ∧ ∀ (v : V) (p : Rp) (H' : Hp), Same H H' → PAt K H' (Rp.nd p) v → p.ok sg → p.hg ≤ 23 → p.wt ≤ 11 → Q v H'
def spNum (K : PySem.W.Frag) (n : Nat) : Sp := fun vs H Q _ => ∃ (v : V) (r : Rp) (k : Int), vs = [v, .int k] ∧ PAt K H (Rp.nd r) v ∧ r.hg ≤ n ∧ ∀ (t : Addr) (v' : V) H', Same H H' → H' t = some (.tup [v', .int (num r k).2]) → PAt K H' (Pt.nd (num r k).1) v' → Q (.ref t) H'
def spProg (K : PySem.W.Frag) : Sp := fun vs H Q _ => ∃ (a : Addr) (ns : List Int), vs = [.ref a, .int 10] ∧ SqL K H a (ns.map V.int) ∧ ∀ (t pr : Addr) (c n : Nat) (x1 x2 v : V) (p : Pt) (H' : Hp), Same H H' → H' t = some (.tup [.ref pr, x2]) → H' pr = some (.tup [.int c, x1, .int n, v]) → c ≤ n → PgAt K H' pr n p → Q (.ref t) H'
def comeB (z : Int) (i : Nat) : Bool := decide (V.int (z / 7 / (1 * 2 ^ ((0 : Int) + (i : Int)).toNat) % 2) = V.int 1)
/-- the signs that come, by a cell -/
def comeV (c : Int) (n : Nat) : List Int := ((List.range n).filter (comeB (mixV c))).map fun (i : Nat) => (i : Int)
theorem comeV_rise (c : Int) (n : Nat) : (comeV c n).Pairwise (· < ·) := by
  unfold comeV
  rw [List.pairwise_map]
  exact (List.pairwise_lt_range.filter _).imp fun {a b} h => by omega
theorem comeV_len (c : Int) (n : Nat) : (comeV c n).length ≤ n := by
  unfold comeV
  rw [List.length_map]
  exact Nat.le_trans (List.length_filter_le _ _) (by rw [List.length_range]; exact Nat.le_refl _)
def spCome : Sp := fun vs H Q _ => ∃ (m : Int) (n : Nat), vs = [.int m, .int n] ∧ n ≤ 30 ∧ ∀ r, H r = none → Q (.ref r) (upd H r (.lst ((comeV m n).map V.int)))
section
variable {P : Program} {w : World} {K : PySem.W.Frag} {mg : Str → Option Value} {base : Heap}
theorem ok_mixed (F : FunM K mg "_law_mixed" ["_law_cell"] s__law_mixed) : Callee P w K mg base 1 "_law_mixed" ["_law_cell"] spMixed := by
  refine F.ok sc__law_mixed (fun vs H Q E h => ?_) (fun f cdv A outer s H vs Q E hr h => ?_)
  · obtain ⟨c, rfl, _⟩ := h; rfl
  obtain ⟨c, rfl, q⟩ := h
  refine ⟨_, (pss_one (ps_ret (pe_op op_mod (pe_op op_mul (pe_op op_mul (pe_op op_add (pe_op op_mod (pv 0) pe_int) pe_int) pe_int) pe_int) pe_int))), ?_⟩
  refine ⟨_, rfl, _, _, rfl, rfl, (by show (0 : Int) < 2147483647; decide), _, _, rfl, rfl, _, _, rfl, rfl, .inr ⟨by decide, by decide⟩, _, _, rfl, rfl, .inr ⟨by decide, by decide⟩, _, _, rfl, rfl, (by show (0 : Int) < 2147483629; decide), ?_⟩
  exact q
theorem ok_at (F : FunM K mg "_law_at" ["_law_script", "_law_k"] s__law_at) (T : Txt mg) (C__law_mixed : Callee P w K mg base 1 "_law_mixed" ["_law_cell"] spMixed) : Callee P w K mg base 2 "_law_at" ["_law_script", "_law_k"] (spAt K) := by
  refine F.ok sc__law_at (fun vs H Q E h => ?_) (fun f cdv A outer s H vs Q E hr h => ?_)
  · obtain ⟨a, ns, k, rfl, _⟩ := h; rfl
  obtain ⟨a, ns, k, rfl, hS, h0, q⟩ := h
  refine ⟨_, (pss_cons (ps_if (pt_cmpR op_lt (pv 1) (pe_callB call_lenK rfl T.n_len PySem.boot_len (pa_cons (pv 0) pa_nil)) (nomark _))
      (pss_one (ps_ret (pe_callC C__law_mixed hr rfl pass0 (pa_cons (pe_ix ix_list (pv 0) (pv 1) (fun _ _ => rfl)) pa_nil))))
      pss_nil)
    (pss_one (ps_ret (pe_callC C__law_mixed hr rfl pass0 (pa_cons pe_int pa_nil))))), ?_⟩
  refine ⟨_, rfl, _, rfl, a, _, rfl, .inl hS, _, _, rfl, rfl, _, rfl, ?_⟩
  refine ite2 (fun c => ?_) (fun c => ?_)
  · have c' : k < (((ns.map V.int).length : Nat) : Int) := of_decide_eq_true c
    rw [List.length_map] at c'
    have hk : k.toNat < ns.length := by omega
    have e : atI (ns.map V.int) ((k.toNat : Nat) : Int) = some (.int ns[k.toNat]) := atI_nat (by rw [List.getElem?_map, List.getElem?_eq_getElem hk] <;> rfl)
    rw [show ((k.toNat : Nat) : Int) = k by omega] at e
    exact ⟨_, rfl, _, rfl, a, _, _, _, rfl, rfl, hS, e, _, rfl, q _ (mixV_pos _)⟩
  · exact ⟨_, rfl, q _ (mixV_pos _)⟩
theorem ok_lf (F : FunM K mg "_law_leaf" ["_law_seed", "_law_signs"] s__law_leaf) : Callee P w K mg base 1 "_law_leaf" ["_law_seed", "_law_signs"] (spLf K) := by
  refine F.ok sc__law_leaf (fun vs H Q E h => ?_) (fun f cdv A outer s H vs Q E hr h => ?_)
  · obtain ⟨n, sg, rfl, _⟩ := h; rfl
  obtain ⟨n, sg, rfl, hsg, q⟩ := h
  refine ⟨_, (pss_cons (ps_set (i := 2) sc__law_leaf.nd rfl (Or.inl rfl) (pe_op op_mod (pv 0) pe_int))
    (pss_cons (ps_if (pt_cmpR op_lt (pv 2) pe_int (nomark _))
      (pss_one (ps_ret (pe_tup (pa_cons pe_str pa_nil))))
      pss_nil)
    (pss_cons (ps_if (pt_cmpR op_lt (pv 2) pe_int (nomark _))
      (pss_one (ps_ret (pe_tup (pa_cons pe_str (pa_cons (pe_op op_mod (pe_op op_fdiv (pv 0) pe_int) (pv 1)) pa_nil)))))
      pss_nil)
    (pss_cons (ps_if (pt_cmpR op_eq (pv 2) pe_int (nomark _))
      (pss_one (ps_ret (pe_tup (pa_cons pe_str (pa_cons (pe_op op_mod (pe_op op_fdiv (pv 0) pe_int) pe_int) pa_nil)))))
      pss_nil)
    (pss_cons (ps_if (pt_cmpR op_eq (pe_op op_mod (pe_op op_fdiv (pv 0) pe_int) pe_int) pe_int (nomark _))
      (pss_one (ps_ret (pe_tup (pa_cons pe_str pa_nil))))
      pss_nil)
    (pss_one (ps_ret (pe_tup (pa_cons pe_str (pa_cons (pe_op op_mod (pe_op op_fdiv (pv 0) pe_int) (pv 1)) (pa_cons (pe_tup (pa_cons pe_str (pa_cons (pe_op op_mod (pe_op op_fdiv (pv 0) pe_int) (pv 1)) pa_nil))) (pa_cons (pe_tup (pa_cons pe_str pa_nil)) pa_nil)))))))))))), ?_⟩
  have md : ∀ z : Int, 0 ≤ z % sg ∧ z % sg < sg := fun z => ⟨Int.emod_nonneg _ (by omega), Int.emod_lt_of_pos _ hsg⟩
  refine ⟨_, rfl, _, _, rfl, rfl, (by show (0 : Int) < 7; decide), _, rfl, _, _, rfl, rfl, _, rfl, ite2 (fun c => ?_) fun c => ⟨_, rfl, _, _, rfl, rfl, _, rfl, ite2 (fun c => ?_) fun c => ⟨_, rfl, rfl, _, rfl, ite2 (fun c => ?_) fun c => ⟨_, rfl, _, _, rfl, rfl, ⟨by decide, by decide⟩, _, _, rfl, rfl, (by show (0 : Int) < 2; decide), rfl, _, rfl, ite2 (fun c => ?_) fun c => ?_⟩⟩⟩⟩
  · exact ⟨(by show 1 ≤ sizeLine; decide), fun t ht => q _ .rest _ (same_new ht _) (.t (.inl upd_same) (.cons .s .nil)) (by simp [Rp.hg]) (by simp [Rp.wt]) trivial⟩
  · exact ⟨_, rfl, _, _, rfl, rfl, ⟨by decide, by decide⟩, _, rfl, _, _, rfl, rfl, hsg, (by show 2 ≤ sizeLine; decide), fun t ht => q _ (.send (n / 7 % sg)) _ (same_new ht _) (.t (.inl upd_same) (.cons .s (.cons .i .nil))) (by simp [Rp.hg]) (by simp [Rp.wt]) (md _)⟩
  · exact ⟨_, rfl, _, _, rfl, rfl, ⟨by decide, by decide⟩, _, _, rfl, rfl, (by show (0 : Int) < 2; decide), (by show 2 ≤ sizeLine; decide), fun t ht => q _ (.exit (n / 7 % 2)) _ (same_new ht _) (.t (.inl upd_same) (.cons .s (.cons .i .nil))) (by simp [Rp.hg]) (by simp [Rp.wt]) ⟨Int.emod_nonneg _ (by decide), Int.lt_trans (Int.emod_lt_of_pos _ (by decide)) (by decide)⟩⟩
  · exact ⟨(by show 1 ≤ sizeLine; decide), fun t ht => q _ .nothing _ (same_new ht _) (.t (.inl upd_same) (.cons .s .nil)) (by simp [Rp.hg]) (by simp [Rp.wt]) trivial⟩
  · refine ⟨_, rfl, _, _, rfl, rfl, ⟨by decide, by decide⟩, _, rfl, _, _, rfl, rfl, hsg, _, rfl, _, _, rfl, rfl, ⟨by decide, by decide⟩, _, rfl, _, _, rfl, rfl, hsg, (by show 2 ≤ sizeLine; decide), fun t1 ht1 => ⟨(by show 1 ≤ sizeLine; decide), fun t2 ht2 => ⟨(by show 4 ≤ sizeLine; decide), fun t ht => ?_⟩⟩⟩
    obtain ⟨g, n1, n2, n3⟩ := new3 (a := .tup [V.str "send", .int (n / 1400 % sg)]) (b := .tup [V.str "nothing"]) (c := .tup [V.str "if", .int (n / 7 % sg), .ref t1, .ref t2]) ht1 ht2 ht
    exact q _ (.iff (n / 7 % sg) (.send (n / 1400 % sg)) .nothing) _ g (.t (.inl n3) (.cons .s (.cons .i (.cons (.t (.inl n1) (.cons .s (.cons .i .nil))) (.cons (.t (.inl n2) (.cons .s .nil)) .nil))))) (by simp [Rp.hg]) (by simp [Rp.wt]) ⟨md _, md _, trivial⟩
set_option maxHeartbeats 16000000 in
theorem ok_deep {n k : Nat} (F : FunM K mg "_law_deep" ["_law_part"] s__law_deep) (T : Txt mg) (C__law_deep : Callee P w K mg base k "_law_deep" ["_law_part"] (spDeep K n)) : Callee P w K mg base (k + 1) "_law_deep" ["_law_part"] (spDeep K (n + 1)) := by
  refine F.ok sc__law_deep (fun vs H Q E h => ?_) (fun f cdv A outer s H vs Q E hr h => ?_)
  · obtain ⟨v, r, rfl, _⟩ := h; rfl
  obtain ⟨v, r, rfl, av, hh, q⟩ := h
  refine ⟨_, (pss_cons (ps_setComp (j := 1) (g := (gName 0)) (tc := (tB (tCB (rIsiK K) (tCons (tVar 0) (tCons (tC (.ty "tuple")) tNil))))) (te := (tCall (spDeep K n) [] E0 (tCons (tVar 0) tNil))) ["_law_one"] [] sc__law_deep.nd rfl (Or.inl rfl) rfl (compOk (defScope s__law_deep) ["_law_part", "_law_inner"] (by decide +kernel)) (pi_tup (pv 0)) (fun s2 H2 fp cl C => pg_name (i := 0) (show List.Nodup [("_law_one" : Str)] from by decide +kernel) rfl (Or.inl rfl)) (gkeep_name (by decide)) (fun s2 H2 fp cl C => pif_one (pt_val (pe_callB call_isinstK rfl T.n_isinstance PyProof.Rows.boot_isinstance (pa_cons (pv 0) (pa_cons (pe_bltn rfl T.n_tuple (by decide +kernel) (v := .ty "tuple") rfl) pa_nil))))) (fun s2 H2 fp cl C => (pe_callC C__law_deep hr rfl pass0 (pa_cons (pv 0) pa_nil))))
    (pss_one (ps_ret (pe_op op_add (pe_callTy call_intK rfl T.n_int (by decide +kernel) (pa_cons (pe_cmpR op_eq (pe_ix ix_tup (pv 0) pe_int (fun _ _ => rfl)) pe_str (nomark _)) pa_nil)) (pe_maxD rfl rfl T.n_max (pa_cons (pv 1) pa_nil) (pk_cons pe_int pk_nil)))))), ?_⟩
  obtain ⟨x, xs, er, l3, hc⟩ := its_of r
  rw [er] at av
  obtain ⟨a, vs, rfl, ha, hx⟩ := av.get
  have hlen := hx.len
  rw [List.length_cons] at hlen
  have hx0 : ∃ r0, vs = .str x :: r0 := by
    unfold PAtL at hx
    obtain ⟨v0, r0, e, hs, _⟩ := hx
    exact ⟨r0, by rw [e, hs.str]⟩
  refine ⟨_, rfl, a, rfl, ⟨_, ha.sq⟩, comp_tup (K := K) (a := a) (xs := vs) (fun i ys H' => Same H H' ∧ ∃ ns : List Int, ys = ns.map V.int) ⟨Same.refl _, [], rfl⟩ (small (by omega)) (fun i ys H' h => (ha.mono h.1.tp).sq) ?_ ?_⟩
  · rintro i y ys H2 M hi ⟨g2, ns, rfl⟩ hN' hyl
    obtain ⟨nd, hn, hax⟩ := hx.at hi
    have hax := hax.mono g2.tp
    obtain ⟨ty, hty, ek⟩ := tyk_of hax
    refine ⟨_, rfl, _, "tuple", ty, _, rfl, hty, ek, _, rfl, ?_⟩
    refine ite2 (fun c => ?_) (fun c => ?_)
    · rcases List.mem_cons.mp (List.mem_of_getElem? hn) with e | nm
      · rw [e] at c; cases c
      rcases hc nd nm with ⟨k', e⟩ | ⟨r', e, hg'⟩
      · rw [e] at c; cases c
      subst e
      refine ⟨_, rfl, y, r', rfl, hax, by omega, fun m H3 g3 => ?_⟩
      exact hN' _ _ (by rw [List.length_append, List.length_singleton]; exact Nat.succ_le_succ hyl) ⟨g2.trans g3, ns ++ [m], by simp⟩
    · exact hN' _ _ (Nat.le_succ_of_le hyl) ⟨g2, ns, rfl⟩
  · rintro ys H2 hyl ⟨g2, ns, rfl⟩ D hD
    have kD := same_new hD (.lst (ns.map V.int))
    obtain ⟨r0, rfl⟩ := hx0
    refine ⟨_, rfl, a, _, _, _, rfl, rfl, (ha.mono (g2.trans kD).tp).sq, atI_nat (j := 0) rfl, rfl, .inr ⟨_, rfl, _, rfl, D, ns, 0, rfl, rfl, SqL.of upd_same, _, _, rfl, rfl, q _ _ (g2.trans kD)⟩⟩
theorem deep_all (F : FunM K mg "_law_deep" ["_law_part"] s__law_deep) (T : Txt mg) : ∀ n : Nat, Callee P w K mg base n "_law_deep" ["_law_part"] (spDeep K n)
  | 0 => F.zero (sp := spDeep K 0) fun vs H Q E ⟨v, r, _, _, hh, _⟩ => absurd hh (Nat.not_le_of_gt r.hg_pos)
  | n + 1 => ok_deep F T (deep_all F T n)
end

end My
end

section
set_option Elab.async false
set_option linter.all false
set_option maxRecDepth 100000
set_option maxHeartbeats 4000000
namespace My
open PySem L2
section
variable {P : Program} {w : World} {K : PySem.W.Frag} {mg : Str → Option Value} {base : Heap}
theorem len0 {l : List Rp} {xs : List V} {F : Rp → V → Prop} (h : PySem.Paired F l xs) (c : ¬ (xs.length : Int) = 0) : ¬ l = [] := by
  rintro rfl
  cases h
  exact c rfl
theorem hw_at {x y : Str} (m : Int) : ∃ z, (z = x ∨ z = y) ∧ atI [V.str x, V.str y] (m % 2) = some (.str z) := by
  have h1 := Int.emod_nonneg m (show (2 : Int) ≠ 0 by decide)
  have h2 := Int.emod_lt_of_pos m (show (0 : Int) < 2 by decide)
  have : m % 2 = 0 ∨ m % 2 = 1 := by omega
  rcases this with e | e
  · exact ⟨x, .inl rfl, by rw [e]; exact atI_nat (j := 0) rfl⟩
  · exact ⟨y, .inr rfl, by rw [e]; exact atI_nat (j := 1) rfl⟩
set_option maxHeartbeats 32000000 in
theorem ok_gr (F : FunM K mg "_law_grown" ["_law_stack", "_law_seed", "_law_signs"] s__law_grown) (T : Txt mg) (C__law_deep : Callee P w K mg base 30 "_law_deep" ["_law_part"] (spDeep K 30)) : Callee P w K mg base 31 "_law_grown" ["_law_stack", "_law_seed", "_law_signs"] (spGr K) := by
  refine F.ok sc__law_grown (fun vs H Q E h => ?_) (fun f cdv A outer s H vs Q E hr h => ?_)
  · obtain ⟨seed, sg, r, l, xs, rfl, _⟩ := h; rfl
  obtain ⟨seed, sg, r, l, xs, rfl, hsg, hv, pv1, hne, okl, h30, q⟩ := h
  refine ⟨_, (pss_cons (ps_set (i := 3) sc__law_grown.nd rfl (Or.inl rfl) (pe_op op_mod (pv 1) pe_int))
    (pss_cons (ps_set (i := 4) sc__law_grown.nd rfl (Or.inl rfl) (pe_op op_mod (pe_op op_fdiv (pv 1) pe_int) (pv 2)))
    (pss_cons (ps_set (i := 5) sc__law_grown.nd rfl (Or.inl rfl) (pe_bm0 PySem.F.plainAttrs_list PySem.F.slot_list_pop PySem.F.type_list_pop mt_pop (pv 0)))
    (pss_cons (ps_if (pt_cmpR op_eq (pv 3) pe_int (nomark _))
      (pss_one (ps_ret (pe_tup (pa_cons pe_str (pa_cons (pv 5) pa_nil)))))
      pss_nil)
    (pss_cons (ps_if (pt_cmpR op_eq (pv 3) pe_int (nomark _))
      (pss_one (ps_ret (pe_tup (pa_cons (pe_ix ix_list (pe_lst (pa_cons pe_str (pa_cons pe_str pa_nil))) (pe_op op_mod (pe_op op_fdiv (pv 1) pe_int) pe_int) (fun _ _ => rfl)) (pa_cons (pv 4) (pa_cons (pv 5) pa_nil))))))
      pss_nil)
    (pss_cons (ps_if (PW.pt (pw_and (pt_cmpR op_eq (pv 3) pe_int (nomark _)) (pw_and1 (pt_cmpR op_lt (pe_callC C__law_deep hr rfl pass0 (pa_cons (pv 5) pa_nil)) pe_int (nomark _)))))
      (pss_one (ps_ret (pe_tup (pa_cons pe_str (pa_cons (pv 5) pa_nil)))))
      pss_nil)
    (pss_cons (ps_if (PW.pt (pw_or (pt_cmpR op_eq (pe_callB call_lenK rfl T.n_len PySem.boot_len (pa_cons (pv 0) pa_nil)) pe_int (nomark _)) (pw_or1 (pt_cmpR op_eq (pv 3) pe_int (nomark _)))))
      (pss_one (ps_ret (pe_tup (pa_cons pe_str (pa_cons (pv 4) (pa_cons (pv 5) (pa_cons (pe_tup (pa_cons pe_str pa_nil)) pa_nil)))))))
      pss_nil)
    (pss_cons (ps_set (i := 6) sc__law_grown.nd rfl (Or.inl rfl) (pe_bm0 PySem.F.plainAttrs_list PySem.F.slot_list_pop PySem.F.type_list_pop mt_pop (pv 0)))
    (pss_cons (ps_if (pt_cmpR op_eq (pv 3) pe_int (nomark _))
      (pss_one (ps_ret (pe_tup (pa_cons pe_str (pa_cons (pv 4) (pa_cons (pv 6) (pa_cons (pv 5) pa_nil)))))))
      pss_nil)
    (pss_cons (ps_if (pt_cmpR op_eq (pv 3) pe_int (nomark _))
      (pss_one (ps_ret (pe_tup (pa_cons pe_str (pa_cons (pv 6) (pa_cons (pv 5) pa_nil))))))
      pss_nil)
    (pss_one (ps_ret (pe_tup (pa_cons pe_str (pa_cons (pv 6) (pa_cons (pv 5) pa_nil)))))))))))))))), ?_⟩
  obtain ⟨l0, p, ws, v, rfl, rfl, pv0, ap⟩ := prR_last pv1 hne
  have op : p.ok sg := okl p (by simp)
  have hm : 0 ≤ seed / 16 % sg ∧ seed / 16 % sg < sg := ⟨Int.emod_nonneg _ (by omega), Int.emod_lt_of_pos _ hsg⟩
  have ok0 : ∀ q ∈ l0, q.ok sg := fun q hq => okl q (List.mem_append_left _ hq)
  have pp := Rp.hg_pos p
  rw [wH_snoc] at h30
  rw [wH_snoc, wR_snoc] at q
  refine ⟨_, rfl, _, _, rfl, rfl, (by show (0 : Int) < 16; decide), _, rfl, _, _, rfl, rfl, ⟨by decide, by decide⟩, _, rfl, _, _, rfl, rfl, hsg, ?_⟩
  refine ⟨_, rfl, .inl ⟨rfl, _, SqL.of hv⟩, r, _, v, rfl, rfl, hv, by simp, ?_⟩
  have e0 : (ws ++ [v]).dropLast = ws := by simp
  have T0 : Tp H (upd H r (.lst (ws ++ [v]).dropLast)) := Tp.lst hv
  have k0 : Kp r H (upd H r (.lst (ws ++ [v]).dropLast)) := Kp.upd
  have hv0 : (upd H r (.lst (ws ++ [v]).dropLast)) r = some (.lst ws) := by rw [upd_same, e0]
  have pv2 := prR_mono T0 pv0
  have ap2 := ap.mono T0
  generalize (upd H r (.lst (ws ++ [v]).dropLast)) = H1 at hv0 pv2 ap2 k0
  have one : ∀ (H2 : Hp) (t : Addr) (o : List V) (p' : Rp), Same H1 H2 → H2 t = none → PAt K (upd H2 t (.tup o)) (Rp.nd p') (.ref t) → p'.ok sg → p'.hg ≤ p.hg + 1 → p'.wt ≤ p.wt + 1 → Q (.ref t) (upd H2 t (.tup o)) := by
    intro H2 t o p' g2 ht a o' h1 h2
    have g := g2.trans (same_new ht (.tup o))
    exact q _ p' l0 ws _ (k0.trans (Same.kp g)) (g _ _ hv0) (prR_mono g.tp pv2) a o' ok0 (by omega) (by omega) (by simp)
  refine ⟨_, rfl, rfl, _, rfl, ite2 (fun c => ?_) fun c => ?_⟩
  · exact ⟨_, rfl, (by show 2 ≤ sizeLine; decide), fun t ht => one H1 t _ (.again p) (Same.refl _) ht (.t (.inl upd_same) (.cons .s (.cons (ap2.mono (same_new ht _).tp) .nil))) op (by simp only [Rp.hg]; omega) (by simp only [Rp.wt]; omega)⟩
  refine ⟨_, rfl, rfl, _, rfl, ite2 (fun c => ?_) fun c => ?_⟩
  · obtain ⟨z, hz, ez⟩ := hw_at (x := "hold") (y := "watch") (seed / 500)
    refine ⟨(by show 2 ≤ sizeLine; decide), fun l5 hl5 => ?_⟩
    have k5 := same_new hl5 (.lst [V.str "hold", .str "watch"])
    refine ⟨_, rfl, _, _, rfl, rfl, ⟨by decide, by decide⟩, _, _, rfl, rfl, (by show (0 : Int) < 2; decide), l5, _, _, .str z, rfl, rfl, SqL.of upd_same, ez, _, rfl, _, rfl, (by show 3 ≤ sizeLine; decide), fun t ht => ?_⟩
    have ax := ap2.mono (k5.trans (same_new ht (.tup [V.str z, .int (seed / 16 % sg), v]))).tp
    rcases hz with rfl | rfl
    · exact one _ t _ (.hold (seed / 16 % sg) p) k5 ht (.t (.inl upd_same) (.cons .s (.cons .i (.cons ax .nil)))) ⟨hm, op⟩ (by simp only [Rp.hg]; omega) (by simp only [Rp.wt]; omega)
    · exact one _ t _ (.watch (seed / 16 % sg) p) k5 ht (.t (.inl upd_same) (.cons .s (.cons .i (.cons ax .nil)))) ⟨hm, op⟩ (by simp only [Rp.hg]; omega) (by simp only [Rp.wt]; omega)
  dsimp only [gName, tSeq, tAsg, tC, tNext]
  refine if_cases (fun b H' => Same H1 H') (fun Q' k => ?_) ?_ ?_
  · refine ⟨_, rfl, rfl, _, rfl, ite2 (fun c => ?_) fun c => k _ _ (Same.refl _)⟩
    exact ⟨_, rfl, v, p, rfl, ap2, by omega, fun m H2 g2 => ⟨_, _, rfl, rfl, _, rfl, k _ _ g2⟩⟩
  · intro H2 g2
    exact ⟨_, rfl, (by show 2 ≤ sizeLine; decide), fun t ht => one H2 t _ (.trap p) g2 ht (.t (.inl upd_same) (.cons .s (.cons (ap2.mono (g2.trans (same_new ht _)).tp) .nil))) op (by simp only [Rp.hg]; omega) (by simp only [Rp.wt]; omega)⟩
  intro H2 g2
  have hv2 := g2 _ _ hv0
  have pv3 := prR_mono g2.tp pv2
  have ap3 := ap2.mono g2.tp
  have k1 := k0.trans (Same.kp g2)
  have hxl := PySem.Paired.length pv3
  dsimp only [gName, tSeq, tAsg, tC, tNext]
  refine if_cases (fun b H' => H' = H2 ∧ (b = false → ¬ l0 = [])) (fun Q' k => ?_) ?_ ?_
  · refine ⟨_, rfl, r, _, rfl, .inl (SqL.of hv2), rfl, _, rfl, ite2 (fun c => k _ _ ⟨rfl, fun z => nomatch z⟩) fun c => ?_⟩
    have hne2 : ¬ l0 = [] := len0 pv3 (fun z => c (decide_eq_true (by rw [z])))
    exact ⟨_, rfl, rfl, _, rfl, k _ _ ⟨rfl, fun _ => hne2⟩⟩
  · rintro H3 ⟨rfl, _⟩
    refine ⟨_, rfl, _, rfl, (by show 1 ≤ sizeLine; decide), fun t1 ht1 => ⟨(by show 4 ≤ sizeLine; decide), fun t ht => ?_⟩⟩
    obtain ⟨g, n1, n2⟩ := new2 (a := .tup [V.str "nothing"]) (b := .tup [V.str "if", .int (seed / 16 % sg), v, .ref t1]) ht1 ht
    exact q _ (.iff (seed / 16 % sg) p .nothing) l0 ws _ (k1.trans (Same.kp g)) (g _ _ hv2) (prR_mono g.tp pv3) (.t (.inl n2) (.cons .s (.cons .i (.cons (ap3.mono g.tp) (.cons (.t (.inl n1) (.cons .s .nil)) .nil))))) ⟨hm, op, trivial⟩ ok0 (by simp only [Rp.hg]; omega) (by simp only [Rp.wt]; omega) (by simp)
  rintro H3 ⟨rfl, hne2⟩
  obtain ⟨l1, p2, ws1, v2, rfl, rfl, pv4, ap4⟩ := prR_last pv3 (hne2 rfl)
  have op2 : p2.ok sg := ok0 p2 (by simp)
  have ok1 : ∀ q ∈ l1, q.ok sg := fun q hq => ok0 q (List.mem_append_left _ hq)
  have pp2 := Rp.hg_pos p2
  rw [wH_snoc, wR_snoc] at q
  refine ⟨_, rfl, .inl ⟨rfl, _, SqL.of hv2⟩, r, _, v2, rfl, rfl, hv2, by simp, ?_⟩
  have T2 : Tp H3 (upd H3 r (.lst (ws1 ++ [v2]).dropLast)) := Tp.lst hv2
  have k2 : Kp r H3 (upd H3 r (.lst (ws1 ++ [v2]).dropLast)) := Kp.upd
  have hv5 : (upd H3 r (.lst (ws1 ++ [v2]).dropLast)) r = some (.lst ws1) := by rw [upd_same]; simp
  have pv5 := prR_mono T2 pv4
  have ap5 := ap3.mono T2
  have aq5 := ap4.mono T2
  have k3 := k1.trans k2
  generalize (upd H3 r (.lst (ws1 ++ [v2]).dropLast)) = H4 at hv5 pv5 ap5 aq5 k3
  have two : ∀ (t : Addr) (o : List V) (p' : Rp) (ht : H4 t = none), PAt K (upd H4 t (.tup o)) (Rp.nd p') (.ref t) → p'.ok sg → p'.hg ≤ p.hg + p2.hg → p'.wt ≤ p.wt + p2.wt → Q (.ref t) (upd H4 t (.tup o)) := by
    intro t o p' ht a o' h1 h2
    have g := same_new ht (.tup o)
    exact q _ p' l1 ws1 _ (k3.trans (Same.kp g)) (g _ _ hv5) (prR_mono g.tp pv5) a o' ok1 (by omega) (by omega) (by simp)
  refine ⟨_, rfl, rfl, _, rfl, ite2 (fun c => ?_) fun c => ⟨_, rfl, rfl, _, rfl, ite2 (fun c => ?_) fun c => ?_⟩⟩
  · exact ⟨_, rfl, _, rfl, _, rfl, (by show 4 ≤ sizeLine; decide), fun t ht => two t _ (.iff (seed / 16 % sg) p2 p) ht (.t (.inl upd_same) (.cons .s (.cons .i (.cons (aq5.mono (same_new ht _).tp) (.cons (ap5.mono (same_new ht _).tp) .nil))))) ⟨hm, op2, op⟩ (by simp only [Rp.hg]; omega) (by simp only [Rp.wt]; omega)⟩
  · exact ⟨_, rfl, _, rfl, (by show 3 ≤ sizeLine; decide), fun t ht => two t _ (.thn p2 p) ht (.t (.inl upd_same) (.cons .s (.cons (aq5.mono (same_new ht _).tp) (.cons (ap5.mono (same_new ht _).tp) .nil)))) ⟨op2, op⟩ (by simp only [Rp.hg]; omega) (by simp only [Rp.wt]; omega)⟩
  · exact ⟨_, rfl, _, rfl, (by show 3 ≤ sizeLine; decide), fun t ht => two t _ (.bes p2 p) ht (.t (.inl upd_same) (.cons .s (.cons (aq5.mono (same_new ht _).tp) (.cons (ap5.mono (same_new ht _).tp) .nil)))) ⟨op2, op⟩ (by simp only [Rp.hg]; omega) (by simp only [Rp.wt]; omega)⟩
set_option maxHeartbeats 64000000 in
theorem ok_body (F : FunM K mg "_law_body" ["_law_cells", "_law_signs"] s__law_body) (T : Txt mg) (C__law_mixed : Callee P w K mg base 1 "_law_mixed" ["_law_cell"] spMixed) (C__law_leaf : Callee P w K mg base 1 "_law_leaf" ["_law_seed", "_law_signs"] (spLf K)) (C__law_grown : Callee P w K mg base 31 "_law_grown" ["_law_stack", "_law_seed", "_law_signs"] (spGr K)) : Callee P w K mg base 32 "_law_body" ["_law_cells", "_law_signs"] (spBody K) := by
  refine F.ok sc__law_body (fun vs H Q E h => ?_) (fun f cdv A outer s H vs Q E hr h => ?_)
  · obtain ⟨c, cs, sg, rfl, _⟩ := h; rfl
  obtain ⟨c, cs, sg, rfl, hS, hn, hsg, q⟩ := h
  refine ⟨_, (pss_cons (ps_set (i := 2) sc__law_body.nd rfl (Or.inl rfl) (pe_lst (pa_cons (pe_tup (pa_cons pe_str pa_nil)) pa_nil)))
    (pss_cons (ps_for PassesOwn.never rfl (pi_list (pv 0)) (pg_name (i := 3) sc__law_body.nd rfl (Or.inl rfl))
      (pss_cons (ps_set (i := 4) sc__law_body.nd rfl (Or.inl rfl) (pe_callC C__law_mixed hr rfl pass0 (pa_cons (pv 3) pa_nil)))
    (pss_one (ps_if (PW.pt (pw_or (pt_cmpR op_lt (pe_op op_mod (pv 4) pe_int) pe_int (nomark _)) (pw_or1 (pt_cmpR op_eq (pe_callB call_lenK rfl T.n_len PySem.boot_len (pa_cons (pv 2) pa_nil)) pe_int (nomark _)))))
      (pss_one (ps_expr (pe_bm PySem.F.plainAttrs_list PySem.F.slot_list_append PySem.F.type_list_append mt_append (pv 2) (pa_cons (pe_callC C__law_leaf hr rfl pass0 (pa_cons (pe_op op_fdiv (pv 4) pe_int) (pa_cons (pv 1) pa_nil))) pa_nil))))
      (pss_one (ps_expr (pe_bm PySem.F.plainAttrs_list PySem.F.slot_list_append PySem.F.type_list_append mt_append (pv 2) (pa_cons (pe_callC C__law_grown hr rfl pass0 (pa_cons (pv 2) (pa_cons (pv 4) (pa_cons (pv 1) pa_nil)))) pa_nil))))))))
    (pss_cons (ps_while PassesOwn.never (pt_cmpR op_gt (pe_callB call_lenK rfl T.n_len PySem.boot_len (pa_cons (pv 2) pa_nil)) pe_int (nomark _))
      (pss_cons (ps_set (i := 5) sc__law_body.nd rfl (Or.inl rfl) (pe_bm0 PySem.F.plainAttrs_list PySem.F.slot_list_pop PySem.F.type_list_pop mt_pop (pv 2)))
    (pss_cons (ps_set (i := 6) sc__law_body.nd rfl (Or.inl rfl) (pe_bm0 PySem.F.plainAttrs_list PySem.F.slot_list_pop PySem.F.type_list_pop mt_pop (pv 2)))
    (pss_one (ps_expr (pe_bm PySem.F.plainAttrs_list PySem.F.slot_list_append PySem.F.type_list_append mt_append (pv 2) (pa_cons (pe_tup (pa_cons (pe_ix ix_list (pe_lst (pa_cons pe_str (pa_cons pe_str pa_nil))) (pe_op op_mod (pe_callB call_lenK rfl T.n_len PySem.boot_len (pa_cons (pv 2) pa_nil)) pe_int) (fun _ _ => rfl)) (pa_cons (pv 6) (pa_cons (pv 5) pa_nil)))) pa_nil)))))))
    (pss_one (ps_ret (pe_tup (pa_cons pe_str (pa_cons (pe_tup (pa_cons pe_str (pa_cons (pe_ix ix_list (pv 2) pe_int (fun _ _ => rfl)) pa_nil))) pa_nil)))))))), ?_⟩
  refine ⟨(by show 1 ≤ sizeLine; decide), fun t0 ht0 => ⟨(by show 1 ≤ sizeLine; decide), fun r hr0 => ?_⟩⟩
  obtain ⟨g0, n0, nr⟩ := new2 (a := .tup [V.str "rest"]) (b := .lst [.ref t0]) ht0 hr0
  have hr1 : H r = none := (same_new ht0 _).free hr0
  refine ⟨_, rfl, c, rfl, ⟨_, g0.seq hS⟩, for_list (K := K) (a := c) (xs := cs.map V.int)
    (fun i σ H1 => ∃ (l : List Rp) (xs : List V) (x3 x4 : Option V), σ = [some (.ref c), some (.int sg), some (.ref r), x3, x4, none, none] ∧ Same H H1 ∧ H1 r = some (.lst xs) ∧ PrR K H1 l xs ∧ ¬ l = [] ∧ (∀ p ∈ l, p.ok sg) ∧ wH l ≤ 2 * i + 1 ∧ wR l ≤ i + 1 ∧ l.length ≤ i + 1)
    ⟨[.rest], [.ref t0], none, none, rfl, g0, nr, .cons (.t (.inl n0) (.cons .s .nil)) .nil, by simp, fun p hp => by rw [List.mem_singleton.mp hp]; trivial, by simp [wH, Rp.hg], by simp [wR, Rp.wt], by simp⟩ (fun i σ H1 _ ⟨_, _, _, _, _, g, _⟩ => g.seq hS) ?_ ?_⟩
  · rintro i y σ H1 hi ⟨l, xs, x3, x4, rfl, g1, hv, pv1, hne, okl, h1, h2, h3⟩
    have hil : i < (cs.map V.int).length := (List.getElem?_eq_some_iff.mp hi).1
    rw [List.length_map] at hil
    obtain ⟨z, rfl⟩ : ∃ z, y = V.int z := by
      rw [List.getElem?_map] at hi
      cases e : cs[i]? with
      | none => rw [e] at hi; cases hi
      | some z => rw [e] at hi; exact ⟨z, (Option.some.inj hi).symm⟩
    refine ⟨_, rfl, z, rfl, ?_⟩
    have hm := mixV_pos z
    generalize mixV z = m at hm
    dsimp only [gName]
    have hxl := PySem.Paired.length pv1
    refine if_cases (fun b H' => H' = H1) (fun Q' k => ?_) ?_ ?_
    · exact ⟨_, rfl, _, _, rfl, rfl, (by show (0 : Int) < 16; decide), _, _, rfl, rfl, _, rfl, ite2 (fun c => k _ _ rfl) fun c => ⟨_, rfl, r, _, rfl, .inl (SqL.of hv), rfl, _, rfl, k _ _ rfl⟩⟩
    · rintro H2 rfl
      refine ⟨_, rfl, .inl ⟨rfl, _, SqL.of hv⟩, _, rfl, _, _, rfl, rfl, ⟨by decide, by decide⟩, _, rfl, m / 16, sg, rfl, hsg, fun v p H3 g3 P3 e1 e2 e3 => ?_⟩
      have hv3 := g3 _ _ hv
      refine ⟨r, _, _, rfl, rfl, hv3, small1000 (by omega), ?_⟩
      have T3 : Tp H3 (upd H3 r (.lst (xs ++ [v]))) := Tp.lst hv3
      refine ⟨l ++ [p], xs ++ [v], _, _, rfl, (g1.trans g3).young hr1 _, upd_same, (prR_mono T3 (prR_mono g3.tp pv1)).snoc (P3.mono T3), by simp, fun q hq => ?_, by rw [wH_snoc]; omega, by rw [wR_snoc]; omega, by simp; omega⟩
      rcases List.mem_append.mp hq with z | z
      · exact okl q z
      · rw [List.mem_singleton.mp z]; exact e3
    · rintro H2 rfl
      refine ⟨_, rfl, .inl ⟨rfl, _, SqL.of hv⟩, _, rfl, _, rfl, _, rfl, m, sg, r, l, xs, rfl, hsg, hv, pv1, hne, okl, by omega, fun v p l' xs' H3 k3 hv3 pv3 P3 op ok3 e1 e2 e3 => ?_⟩
      have hxl' := PySem.Paired.length pv3
      refine ⟨r, _, _, rfl, rfl, hv3, small1000 (by omega), ?_⟩
      have T3 : Tp H3 (upd H3 r (.lst (xs' ++ [v]))) := Tp.lst hv3
      refine ⟨l' ++ [p], xs' ++ [v], _, _, rfl, (g1.byKp hr1 k3).young hr1 _, upd_same, (prR_mono T3 pv3).snoc (P3.mono T3), by simp, fun q hq => ?_, by rw [wH_snoc]; omega, by rw [wR_snoc]; omega, by simp; omega⟩
      rcases List.mem_append.mp hq with z | z
      · exact ok3 q z
      · rw [List.mem_singleton.mp z]; exact op
  · rintro σ H1 ⟨l, xs, x3, x4, rfl, g1, hv, pv1, hne, okl, h1, h2, h3⟩
    rw [List.length_map] at h1 h2 h3
    refine while_by (fun σ H1 => ∃ (l : List Rp) (xs : List V) (x5 x6 : Option V), σ = [some (.ref c), some (.int sg), some (.ref r), x3, x4, x5, x6] ∧ Same H H1 ∧ H1 r = some (.lst xs) ∧ PrR K H1 l xs ∧ ¬ l = [] ∧ (∀ p ∈ l, p.ok sg) ∧ wH l ≤ 2 * cs.length + 1 ∧ wR l ≤ cs.length + 1 ∧ l.length ≤ cs.length + 1)
        (fun σ H1 => match H1 r with | some (.lst us) => us.length | _ => 0) ⟨l, xs, none, none, rfl, g1, hv, pv1, hne, okl, h1, h2, h3⟩ ?_ ?_
    · rintro σ H1 ⟨l, xs, x5, x6, rfl, g1, hv, pv1, hne, okl, h1, h2, h3⟩
      have hxl := PySem.Paired.length pv1
      refine ⟨_, rfl, r, _, rfl, .inl (SqL.of hv), _, _, rfl, rfl, _, rfl, ite2 (fun c => ?_) fun c => ?_⟩
      · have hl2 : 2 ≤ xs.length := by have := of_decide_eq_true c; omega
        obtain ⟨l0, p, ws, v, rfl, rfl, pv0, ap⟩ := prR_last pv1 hne
        have hne2 : ¬ l0 = [] := by
          rintro rfl
          cases pv0
          simp at hl2
        obtain ⟨l1, p2, ws1, v2, rfl, rfl, pv4, ap4⟩ := prR_last pv0 hne2
        rw [wH_snoc, wH_snoc] at h1
        rw [wR_snoc, wR_snoc] at h2
        have h3' : l1.length + 1 + 1 ≤ cs.length + 1 := by simpa using h3
        have hxl' := PySem.Paired.length pv4
        have pp := Rp.hg_pos p
        have pp2 := Rp.hg_pos p2
        refine ⟨_, rfl, .inl ⟨rfl, _, SqL.of hv⟩, r, _, v, rfl, rfl, hv, by simp, ?_⟩
        have T0 : Tp H1 (upd H1 r (.lst (ws1 ++ [v2] ++ [v]).dropLast)) := Tp.lst hv
        have hv0 : (upd H1 r (.lst (ws1 ++ [v2] ++ [v]).dropLast)) r = some (.lst (ws1 ++ [v2])) := by rw [upd_same]; simp
        have gz : Same H (upd H1 r (.lst (ws1 ++ [v2] ++ [v]).dropLast)) := g1.young hr1 _
        refine ⟨_, rfl, .inl ⟨rfl, _, SqL.of hv0⟩, r, _, v2, rfl, rfl, hv0, by simp, ?_⟩
        have T1 := T0.trans (Tp.lst (o := .lst (ws1 ++ [v2]).dropLast) hv0)
        have hv1 : (upd (upd H1 r (.lst (ws1 ++ [v2] ++ [v]).dropLast)) r (.lst (ws1 ++ [v2]).dropLast)) r = some (.lst ws1) := by rw [upd_same]; simp
        have gz2 : Same H (upd (upd H1 r (.lst (ws1 ++ [v2] ++ [v]).dropLast)) r (.lst (ws1 ++ [v2]).dropLast)) := gz.young hr1 _
        generalize (upd (upd H1 r (.lst (ws1 ++ [v2] ++ [v]).dropLast)) r (.lst (ws1 ++ [v2]).dropLast)) = H2 at hv1 gz2 T1
        obtain ⟨z, hz, ez⟩ := hw_at (x := "then") (y := "beside") (ws1.length : Int)
        refine ⟨_, rfl, .inl ⟨rfl, _, SqL.of hv1⟩, (by show 2 ≤ sizeLine; decide), fun l5 hl5 => ?_⟩
        have k5 := same_new hl5 (.lst [V.str "then", .str "beside"])
        have hv2 := k5 _ _ hv1
        refine ⟨_, rfl, r, _, rfl, .inl (SqL.of hv2), _, _, rfl, rfl, (by show (0 : Int) < 2; decide), l5, _, _, .str z, rfl, rfl, SqL.of upd_same, ez, _, rfl, _, rfl, (by show 3 ≤ sizeLine; decide), fun t ht => ?_⟩
        have g3 := k5.trans (same_new ht (.tup [V.str z, v2, v]))
        have hv3 := g3 _ _ hv1
        refine ⟨r, _, _, rfl, rfl, hv3, small1000 (by omega), ?_⟩
        have T3 := Tp.lst (o := .lst (ws1 ++ [.ref t])) hv3
        have T4 := T1.trans (g3.tp.trans T3)
        obtain ⟨pz, az, oz, hz1, hz2⟩ : ∃ pz : Rp, PAt K (upd (upd (upd H2 l5 (.lst [V.str "then", .str "beside"])) t (.tup [V.str z, v2, v])) r (.lst (ws1 ++ [.ref t]))) (Rp.nd pz) (.ref t) ∧ pz.ok sg ∧ pz.hg ≤ p2.hg + p.hg ∧ pz.wt ≤ p2.wt + p.wt := by
          rcases hz with rfl | rfl
          · exact ⟨.thn p2 p, .t (.inl (T3 _ _ upd_same)) (.cons .s (.cons (ap4.mono T4) (.cons (ap.mono T4) .nil))), ⟨okl p2 (by simp), okl p (by simp)⟩, by simp only [Rp.hg]; omega, by simp only [Rp.wt]; omega⟩
          · exact ⟨.bes p2 p, .t (.inl (T3 _ _ upd_same)) (.cons .s (.cons (ap4.mono T4) (.cons (ap.mono T4) .nil))), ⟨okl p2 (by simp), okl p (by simp)⟩, by simp only [Rp.hg]; omega, by simp only [Rp.wt]; omega⟩
        refine ⟨⟨l1 ++ [pz], ws1 ++ [.ref t], _, _, rfl, (gz2.trans g3).young hr1 _, upd_same, PySem.Paired.snoc (a := pz) (prR_mono T4 pv4) az, by simp, fun q hq => ?_, ?_, ?_, by simp; omega⟩, ?_⟩
        · rcases List.mem_append.mp hq with z | z
          · exact okl q (by simp [z])
          · rw [List.mem_singleton.mp z]; exact oz
        · rw [wH_snoc]; omega
        · rw [wR_snoc]; omega
        · show (match (upd (upd (upd H2 l5 (.lst [V.str "then", .str "beside"])) t (.tup [V.str z, v2, v])) r (.lst (ws1 ++ [.ref t]))) r with | some (.lst us) => us.length | _ => 0) < (match H1 r with | some (.lst us) => us.length | _ => 0)
          rw [upd_same, hv]
          simp
      · have hl1 : ¬ 1 < xs.length := fun z => c (decide_eq_true (by omega))
        obtain ⟨l0, p, ws, v, rfl, rfl, pv0, ap⟩ := prR_last pv1 hne
        have e0 : ws = [] := by
          cases ws with
          | nil => rfl
          | cons _ _ => simp at hl1
        subst e0
        cases pv0
        refine ⟨_, rfl, r, _, _, v, rfl, rfl, SqL.of hv, atI_nat (j := 0) rfl, (by show 2 ≤ sizeLine; decide), fun t1 ht1 => ⟨(by show 2 ≤ sizeLine; decide), fun t2 ht2 => ?_⟩⟩
        obtain ⟨g3, n1, n2⟩ := new2 (a := .tup [V.str "trap", v]) (b := .tup [V.str "trap", .ref t1]) ht1 ht2
        have eH : wH ([] ++ [p]) = p.hg := by simp [wH]
        have eR : wR ([] ++ [p]) = p.wt := by simp [wR]
        rw [eH] at h1
        rw [eR] at h2
        exact q _ (.trap (.trap p)) _ (g1.trans g3) (.t (.inl n2) (.cons .s (.cons (.t (.inl n1) (.cons .s (.cons (ap.mono g3.tp) .nil))) .nil))) (okl p (by simp)) (by simp only [Rp.hg]; omega) (by simp only [Rp.wt]; omega)
    · rintro σ H Q Q' h ⟨v, e, p, xs, e2, s, i, j, e3, e4, k, e5, q⟩
      exact ⟨v, e, p, xs, e2, s, i, j, e3, e4, k, e5, h _ _ q⟩
end

end My
end

section
set_option Elab.async false
set_option linter.all false
set_option maxRecDepth 100000
set_option maxHeartbeats 4000000
namespace My
open PySem L2
theorem star_name {x : Str} {pos : Pos} {rest : List Expr} {env : Env} : starEach (.Name x pos :: rest) env = (false, eval (.Name x pos) env) :: starEach rest env := rfl
theorem star_const {c : Const} {k : Nat} {pos : Pos} {rest : List Expr} {env : Env} : starEach (.Constant c k pos :: rest) env = (false, eval (.Constant c k pos) env) :: starEach rest env := rfl
structure QE (X : Cx) (e : Expr) (t : TE) : Prop where
  of : PE X e t
structure QA (X : Cx) (es : List Expr) (t : TA) : Prop where
  of : PA X es t
theorem qe {X : Cx} {e : Expr} {t : TE} (h : PE X e t) : QE X e t := ⟨h⟩
theorem qa_nil {X : Cx} : QA X [] tNil := ⟨pa_nil⟩
theorem qa_cons {X : Cx} {e : Expr} {es : List Expr} {te : TE} {t : TA} (h : QE X e te) (hr : QA X es t) (hs : starEach (e :: es) X.env = (false, eval e X.env) :: starEach es X.env) : QA X (e :: es) (tCons te t) := ⟨pa_cons h.of hr.of hs⟩
theorem qe_tup {X : Cx} {es : List Expr} {x1 : Nat} {pos : Pos} {t : TA} (h : QA X es t) : QE X (.Tuple es x1 pos) (tTup t) := ⟨pe_tup h.of⟩
theorem pe_tupQ {X : Cx} {es : List Expr} {x1 : Nat} {pos : Pos} {t : TA} (h : QA X es t) : PE X (.Tuple es x1 pos) (tTup t) := pe_tup h.of
theorem star_tup {es : List Expr} {k : Nat} {pos : Pos} {rest : List Expr} {env : Env} : starEach (.Tuple es k pos :: rest) env = (false, eval (.Tuple es k pos) env) :: starEach rest env := rfl
theorem patl_un {K : PySem.W.Frag} {H : Hp} {x : Nd} {xs : List Nd} {vs : List V} (h : PAtL K H (x :: xs) vs) : ∃ v r, vs = v :: r ∧ PAt K H x v ∧ PAtL K H xs r := by unfold PAtL at h; exact h
theorem patl_un0 {K : PySem.W.Frag} {H : Hp} {vs : List V} (h : PAtL K H [] vs) : vs = [] := by unfold PAtL at h; exact h
section
variable {P : Program} {w : World} {K : PySem.W.Frag} {mg : Str → Option Value} {base : Heap}
set_option maxHeartbeats 32000000 in
theorem ok_num {n : Nat} (F : FunM K mg "_law_numbered" ["_law_part", "_law_k"] s__law_numbered) (T : Txt mg) (C__law_numbered : Callee P w K mg base n "_law_numbered" ["_law_part", "_law_k"] (spNum K n)) : Callee P w K mg base (n + 1) "_law_numbered" ["_law_part", "_law_k"] (spNum K (n + 1)) := by
  refine F.ok sc__law_numbered (fun vs H Q E h => ?_) (fun f cdv A outer s H vs Q E hr h => ?_)
  · obtain ⟨v, r, k, rfl, _⟩ := h; rfl
  obtain ⟨v, r, k, rfl, av, hh, q⟩ := h
  refine ⟨_, (pss_cons (ps_set (i := 2) sc__law_numbered.nd rfl (Or.inl rfl) (pe_ix ix_tup (pv 0) pe_int (fun _ _ => rfl)))
    (pss_cons (ps_if (pt_cmpR op_eq (pv 2) pe_str (nomark _))
      (pss_one (ps_ret (pe_tup (pa_cons (pe_tup (pa_cons pe_str (pa_cons (pv 1) pa_nil))) (pa_cons (pe_op op_add (pv 1) pe_int) pa_nil)))))
      pss_nil)
    (pss_cons (ps_if (PW.pt (pw_or (pt_cmpR op_eq (pv 2) pe_str (nomark _)) (pw_or (pt_cmpR op_eq (pv 2) pe_str (nomark _)) (pw_or1 (pt_cmpR op_eq (pv 2) pe_str (nomark _))))))
      (pss_one (ps_ret (pe_tup (pa_cons (pv 0) (pa_cons (pv 1) pa_nil)))))
      pss_nil)
    (pss_cons (ps_if (pt_cmpR op_eq (pv 2) pe_str (nomark _))
      (pss_cons (ps_asg (pe_callC C__law_numbered hr rfl pass0 (pa_cons (pe_ix ix_tup (pv 0) pe_int (fun _ _ => rfl)) (pa_cons (pv 1) pa_nil))) (pg_tup rfl (pgs_cons (pg_name (i := 3) sc__law_numbered.nd rfl (Or.inl rfl)) (pgs_cons (pg_name (i := 1) sc__law_numbered.nd rfl (Or.inl rfl)) pgs_nil))))
    (pss_one (ps_ret (pe_tup (pa_cons (pe_tup (pa_cons pe_str (pa_cons (pv 1) (pa_cons (pv 3) pa_nil)))) (pa_cons (pe_op op_add (pv 1) pe_int) pa_nil))))))
      pss_nil)
    (pss_cons (ps_if (pt_cmpR op_eq (pv 2) pe_str (nomark _))
      (pss_cons (ps_asg (pe_callC C__law_numbered hr rfl pass0 (pa_cons (pe_ix ix_tup (pv 0) pe_int (fun _ _ => rfl)) (pa_cons (pv 1) pa_nil))) (pg_tup rfl (pgs_cons (pg_name (i := 3) sc__law_numbered.nd rfl (Or.inl rfl)) (pgs_cons (pg_name (i := 1) sc__law_numbered.nd rfl (Or.inl rfl)) pgs_nil))))
    (pss_one (ps_ret (pe_tup (pa_cons (pe_tup (pa_cons pe_str (pa_cons (pv 3) pa_nil))) (pa_cons (pv 1) pa_nil))))))
      pss_nil)
    (pss_cons (ps_if (PW.pt (pw_or (pt_cmpR op_eq (pv 2) pe_str (nomark _)) (pw_or1 (pt_cmpR op_eq (pv 2) pe_str (nomark _)))))
      (pss_cons (ps_asg (pe_callC C__law_numbered hr rfl pass0 (pa_cons (pe_ix ix_tup (pv 0) pe_int (fun _ _ => rfl)) (pa_cons (pv 1) pa_nil))) (pg_tup rfl (pgs_cons (pg_name (i := 3) sc__law_numbered.nd rfl (Or.inl rfl)) (pgs_cons (pg_name (i := 1) sc__law_numbered.nd rfl (Or.inl rfl)) pgs_nil))))
    (pss_one (ps_ret (pe_tup (pa_cons (pe_tup (pa_cons (pv 2) (pa_cons (pe_ix ix_tup (pv 0) pe_int (fun _ _ => rfl)) (pa_cons (pv 3) pa_nil)))) (pa_cons (pv 1) pa_nil))))))
      pss_nil)
    (pss_cons (ps_asg (pe_callC C__law_numbered hr rfl pass0 (pa_cons (pe_ix ix_tup (pv 0) (pe_un un_neg pe_int) (fun _ _ => rfl)) (pa_cons (pv 1) pa_nil))) (pg_tup rfl (pgs_cons (pg_name (i := 3) sc__law_numbered.nd rfl (Or.inl rfl)) (pgs_cons (pg_name (i := 1) sc__law_numbered.nd rfl (Or.inl rfl)) pgs_nil))))
    (pss_cons (ps_asg (pe_callC C__law_numbered hr rfl pass0 (pa_cons (pe_ix ix_tup (pv 0) (pe_un un_neg pe_int) (fun _ _ => rfl)) (pa_cons (pv 1) pa_nil))) (pg_tup rfl (pgs_cons (pg_name (i := 4) sc__law_numbered.nd rfl (Or.inl rfl)) (pgs_cons (pg_name (i := 1) sc__law_numbered.nd rfl (Or.inl rfl)) pgs_nil))))
    (pss_one (ps_ret (pe_tup (pa_cons (pe_op op_catT (pe_slice sl_tup (pv 0) po_none (po_some (pe_un un_neg pe_int))) (pe_tup (pa_cons (pv 3) (pa_cons (pv 4) pa_nil)))) (pa_cons (pv 1) pa_nil))))))))))))), ?_⟩
  cases r with
  | nothing =>
    obtain ⟨a, vs, rfl, ha, hx⟩ := av.get
    obtain ⟨v0, r0, rfl, h0, hx0⟩ := patl_un hx
    cases h0.str
    cases patl_un0 hx0
    refine ⟨_, rfl, a, _, _, _, rfl, rfl, ha.sq, atI_nat (j := 0) rfl, ?_⟩
    refine ⟨_, rfl, rfl, _, rfl, ite2 (fun c => absurd c (by decide +kernel)) fun _ => ⟨_, rfl, rfl, _, rfl, ite2 (fun _ => iteT ⟨_, rfl, _, rfl, (by show 2 ≤ sizeLine; decide), fun t ht => ?_⟩) fun c => absurd (by decide +kernel) c⟩⟩
    exact q t _ _ (same_new ht _) upd_same (.t (ha.mono (same_new ht _).tp) (.cons .s .nil))
  | rest =>
    obtain ⟨a, vs, rfl, ha, hx⟩ := av.get
    obtain ⟨v0, r0, rfl, h0, hx0⟩ := patl_un hx
    cases h0.str
    cases patl_un0 hx0
    refine ⟨_, rfl, a, _, _, _, rfl, rfl, ha.sq, atI_nat (j := 0) rfl, ?_⟩
    refine ⟨_, rfl, rfl, _, rfl, ite2 (fun _ => ⟨_, rfl, (by show 2 ≤ sizeLine; decide), fun t1 ht1 => ⟨_, rfl, _, _, rfl, rfl, (by show 2 ≤ sizeLine; decide), fun t ht => ?_⟩⟩) fun c => absurd (by decide +kernel) c⟩
    obtain ⟨g, n1, n2⟩ := new2 (a := .tup [V.str "rest", .int k]) (b := .tup [.ref t1, .int (k + 1)]) ht1 ht
    exact q t _ _ g n2 (.t (.inl n1) (.cons .s (.cons .i .nil)))
  | send s =>
    obtain ⟨a, vs, rfl, ha, hx⟩ := av.get
    obtain ⟨v0, r0, rfl, h0, hx0⟩ := patl_un hx
    cases h0.str
    obtain ⟨w1, r1, rfl, h1, hx1⟩ := patl_un hx0
    cases h1.int
    cases patl_un0 hx1
    refine ⟨_, rfl, a, _, _, _, rfl, rfl, ha.sq, atI_nat (j := 0) rfl, ?_⟩
    refine ⟨_, rfl, rfl, _, rfl, ite2 (fun c => absurd c (by decide +kernel)) fun _ => ⟨_, rfl, rfl, _, rfl, ite2 (fun c => absurd c (by decide +kernel)) fun _ => ⟨_, rfl, rfl, _, rfl, ite2 (fun _ => iteT ⟨_, rfl, _, rfl, (by show 2 ≤ sizeLine; decide), fun t ht => ?_⟩) fun c => absurd (by decide +kernel) c⟩⟩⟩
    exact q t _ _ (same_new ht _) upd_same (.t (ha.mono (same_new ht _).tp) (.cons .s (.cons .i .nil)))
  | exit d =>
    obtain ⟨a, vs, rfl, ha, hx⟩ := av.get
    obtain ⟨v0, r0, rfl, h0, hx0⟩ := patl_un hx
    cases h0.str
    obtain ⟨w1, r1, rfl, h1, hx1⟩ := patl_un hx0
    cases h1.int
    cases patl_un0 hx1
    refine ⟨_, rfl, a, _, _, _, rfl, rfl, ha.sq, atI_nat (j := 0) rfl, ?_⟩
    refine ⟨_, rfl, rfl, _, rfl, ite2 (fun c => absurd c (by decide +kernel)) fun _ => ⟨_, rfl, rfl, _, rfl, ite2 (fun c => absurd c (by decide +kernel)) fun _ => ⟨_, rfl, rfl, _, rfl, ite2 (fun c => absurd c (by decide +kernel)) fun _ => ⟨_, rfl, rfl, _, rfl, ite2 (fun _ => ⟨_, rfl, _, rfl, (by show 2 ≤ sizeLine; decide), fun t ht => ?_⟩) fun c => absurd (by decide +kernel) c⟩⟩⟩⟩
    exact q t _ _ (same_new ht _) upd_same (.t (ha.mono (same_new ht _).tp) (.cons .s (.cons .i .nil)))
  | again p =>
    obtain ⟨a, vs, rfl, ha, hx⟩ := av.get
    obtain ⟨v0, r0, rfl, h0, hx0⟩ := patl_un hx
    cases h0.str
    obtain ⟨w1, r1, rfl, h1, hx1⟩ := patl_un hx0
    cases patl_un0 hx1
    refine ⟨_, rfl, a, _, _, _, rfl, rfl, ha.sq, atI_nat (j := 0) rfl, ?_⟩
    refine ⟨_, rfl, rfl, _, rfl, ite2 (fun c => absurd c (by decide +kernel)) fun _ => ⟨_, rfl, rfl, _, rfl, ite2 (fun c => absurd c (by decide +kernel)) fun _ => ⟨_, rfl, rfl, _, rfl, ite2 (fun c => absurd c (by decide +kernel)) fun _ => ⟨_, rfl, rfl, _, rfl, ite2 (fun c => absurd c (by decide +kernel)) fun _ => ⟨_, rfl, rfl, _, rfl, ite2 (fun _ => ⟨_, rfl, a, _, _, _, rfl, rfl, ha.sq, atI_nat (j := 1) rfl, _, rfl, _, p, k, rfl, h1, (by simp only [Rp.hg] at hh; omega), fun t1 u1 H1 g1 e1 P1 => ?_⟩) fun c => absurd (by decide +kernel) c⟩⟩⟩⟩⟩
    refine ⟨t1, _, rfl, SqT.of e1, rfl, _, _, rfl, _, _, rfl, rfl, ?_⟩
    refine ⟨_, rfl, _, rfl, (by show 3 ≤ sizeLine; decide), fun t2 ht2 => ⟨_, rfl, _, _, rfl, rfl, (by show 2 ≤ sizeLine; decide), fun t ht => ?_⟩⟩
    obtain ⟨g, n1, n2⟩ := new2 (a := .tup [V.str "again", .int (num p k).2, u1]) (b := .tup [.ref t2, .int ((num p k).2 + 1)]) ht2 ht
    exact q t _ _ (g1.trans g) n2 (.t (.inl n1) (.cons .s (.cons .i (.cons (P1.mono g.tp) .nil))))
  | trap p =>
    obtain ⟨a, vs, rfl, ha, hx⟩ := av.get
    obtain ⟨v0, r0, rfl, h0, hx0⟩ := patl_un hx
    cases h0.str
    obtain ⟨w1, r1, rfl, h1, hx1⟩ := patl_un hx0
    cases patl_un0 hx1
    refine ⟨_, rfl, a, _, _, _, rfl, rfl, ha.sq, atI_nat (j := 0) rfl, ?_⟩
    refine ⟨_, rfl, rfl, _, rfl, ite2 (fun c => absurd c (by decide +kernel)) fun _ => ⟨_, rfl, rfl, _, rfl, ite2 (fun c => absurd c (by decide +kernel)) fun _ => ⟨_, rfl, rfl, _, rfl, ite2 (fun c => absurd c (by decide +kernel)) fun _ => ⟨_, rfl, rfl, _, rfl, ite2 (fun c => absurd c (by decide +kernel)) fun _ => ⟨_, rfl, rfl, _, rfl, ite2 (fun c => absurd c (by decide +kernel)) fun _ => ⟨_, rfl, rfl, _, rfl, ite2 (fun _ => ⟨_, rfl, a, _, _, _, rfl, rfl, ha.sq, atI_nat (j := 1) rfl, _, rfl, _, p, k, rfl, h1, (by simp only [Rp.hg] at hh; omega), fun t1 u1 H1 g1 e1 P1 => ?_⟩) fun c => absurd (by decide +kernel) c⟩⟩⟩⟩⟩⟩
    refine ⟨t1, _, rfl, SqT.of e1, rfl, _, _, rfl, _, _, rfl, rfl, ?_⟩
    refine ⟨_, rfl, (by show 2 ≤ sizeLine; decide), fun t2 ht2 => ⟨_, rfl, (by show 2 ≤ sizeLine; decide), fun t ht => ?_⟩⟩
    obtain ⟨g, n1, n2⟩ := new2 (a := .tup [V.str "trap", u1]) (b := .tup [.ref t2, .int (num p k).2]) ht2 ht
    exact q t _ _ (g1.trans g) n2 (.t (.inl n1) (.cons .s (.cons (P1.mono g.tp) .nil)))
  | hold s p =>
    obtain ⟨a, vs, rfl, ha, hx⟩ := av.get
    obtain ⟨v0, r0, rfl, h0, hx0⟩ := patl_un hx
    cases h0.str
    obtain ⟨w1, r1, rfl, h1, hx1⟩ := patl_un hx0
    cases h1.int
    obtain ⟨w2, r2, rfl, h2, hx2⟩ := patl_un hx1
    cases patl_un0 hx2
    refine ⟨_, rfl, a, _, _, _, rfl, rfl, ha.sq, atI_nat (j := 0) rfl, ?_⟩
    refine ⟨_, rfl, rfl, _, rfl, ite2 (fun c => absurd c (by decide +kernel)) fun _ => ⟨_, rfl, rfl, _, rfl, ite2 (fun c => absurd c (by decide +kernel)) fun _ => ⟨_, rfl, rfl, _, rfl, ite2 (fun c => absurd c (by decide +kernel)) fun _ => ⟨_, rfl, rfl, _, rfl, ite2 (fun c => absurd c (by decide +kernel)) fun _ => ⟨_, rfl, rfl, _, rfl, ite2 (fun c => absurd c (by decide +kernel)) fun _ => ⟨_, rfl, rfl, _, rfl, ite2 (fun c => absurd c (by decide +kernel)) fun _ => ⟨_, rfl, rfl, _, rfl, ite2 (fun _ => iteT ⟨_, rfl, a, _, _, _, rfl, rfl, ha.sq, atI_nat (j := 2) rfl, _, rfl, _, p, k, rfl, h2, (by simp only [Rp.hg] at hh; omega), fun t1 u1 H1 g1 e1 P1 => ?_⟩) fun c => absurd (by decide +kernel) c⟩⟩⟩⟩⟩⟩⟩
    have ha1 := ha.mono g1.tp
    refine ⟨t1, _, rfl, SqT.of e1, rfl, _, _, rfl, _, _, rfl, rfl, ?_⟩
    refine ⟨_, rfl, _, rfl, a, _, _, _, rfl, rfl, ha1.sq, atI_nat (j := 1) rfl, _, rfl, (by show 3 ≤ sizeLine; decide), fun t2 ht2 => ⟨_, rfl, (by show 2 ≤ sizeLine; decide), fun t ht => ?_⟩⟩
    obtain ⟨g, n1, n2⟩ := new2 (a := .tup [V.str "hold", .int s, u1]) (b := .tup [.ref t2, .int (num p k).2]) ht2 ht
    exact q t _ _ (g1.trans g) n2 (.t (.inl n1) (.cons .s (.cons .i (.cons (P1.mono g.tp) .nil))))
  | watch s p =>
    obtain ⟨a, vs, rfl, ha, hx⟩ := av.get
    obtain ⟨v0, r0, rfl, h0, hx0⟩ := patl_un hx
    cases h0.str
    obtain ⟨w1, r1, rfl, h1, hx1⟩ := patl_un hx0
    cases h1.int
    obtain ⟨w2, r2, rfl, h2, hx2⟩ := patl_un hx1
    cases patl_un0 hx2
    refine ⟨_, rfl, a, _, _, _, rfl, rfl, ha.sq, atI_nat (j := 0) rfl, ?_⟩
    refine ⟨_, rfl, rfl, _, rfl, ite2 (fun c => absurd c (by decide +kernel)) fun _ => ⟨_, rfl, rfl, _, rfl, ite2 (fun c => absurd c (by decide +kernel)) fun _ => ⟨_, rfl, rfl, _, rfl, ite2 (fun c => absurd c (by decide +kernel)) fun _ => ⟨_, rfl, rfl, _, rfl, ite2 (fun c => absurd c (by decide +kernel)) fun _ => ⟨_, rfl, rfl, _, rfl, ite2 (fun c => absurd c (by decide +kernel)) fun _ => ⟨_, rfl, rfl, _, rfl, ite2 (fun c => absurd c (by decide +kernel)) fun _ => ⟨_, rfl, rfl, _, rfl, ite2 (fun c => absurd c (by decide +kernel)) fun _ => ⟨_, rfl, rfl, _, rfl, ite2 (fun _ => ⟨_, rfl, a, _, _, _, rfl, rfl, ha.sq, atI_nat (j := 2) rfl, _, rfl, _, p, k, rfl, h2, (by simp only [Rp.hg] at hh; omega), fun t1 u1 H1 g1 e1 P1 => ?_⟩) fun c => absurd (by decide +kernel) c⟩⟩⟩⟩⟩⟩⟩⟩
    have ha1 := ha.mono g1.tp
    refine ⟨t1, _, rfl, SqT.of e1, rfl, _, _, rfl, _, _, rfl, rfl, ?_⟩
    refine ⟨_, rfl, _, rfl, a, _, _, _, rfl, rfl, ha1.sq, atI_nat (j := 1) rfl, _, rfl, (by show 3 ≤ sizeLine; decide), fun t2 ht2 => ⟨_, rfl, (by show 2 ≤ sizeLine; decide), fun t ht => ?_⟩⟩
    obtain ⟨g, n1, n2⟩ := new2 (a := .tup [V.str "watch", .int s, u1]) (b := .tup [.ref t2, .int (num p k).2]) ht2 ht
    exact q t _ _ (g1.trans g) n2 (.t (.inl n1) (.cons .s (.cons .i (.cons (P1.mono g.tp) .nil))))
  | iff s p p2 =>
    obtain ⟨a, vs, rfl, ha, hx⟩ := av.get
    obtain ⟨v0, r0, rfl, h0, hx0⟩ := patl_un hx
    cases h0.str
    obtain ⟨w1, r1, rfl, h1, hx1⟩ := patl_un hx0
    cases h1.int
    obtain ⟨w2, r2, rfl, h2, hx2⟩ := patl_un hx1
    obtain ⟨w3, r3, rfl, h3, hx3⟩ := patl_un hx2
    cases patl_un0 hx3
    refine ⟨_, rfl, a, _, _, _, rfl, rfl, ha.sq, atI_nat (j := 0) rfl, ?_⟩
    refine ⟨_, rfl, rfl, _, rfl, ite2 (fun c => absurd c (by decide +kernel)) fun _ => ⟨_, rfl, rfl, _, rfl, ite2 (fun c => absurd c (by decide +kernel)) fun _ => ⟨_, rfl, rfl, _, rfl, ite2 (fun c => absurd c (by decide +kernel)) fun _ => ⟨_, rfl, rfl, _, rfl, ite2 (fun c => absurd c (by decide +kernel)) fun _ => ⟨_, rfl, rfl, _, rfl, ite2 (fun c => absurd c (by decide +kernel)) fun _ => ⟨_, rfl, rfl, _, rfl, ite2 (fun c => absurd c (by decide +kernel)) fun _ => ⟨_, rfl, rfl, _, rfl, ite2 (fun c => absurd c (by decide +kernel)) fun _ => ⟨_, rfl, rfl, _, rfl, ite2 (fun c => absurd c (by decide +kernel)) fun _ => ⟨_, rfl, _, rfl, a, _, _, _, rfl, rfl, ha.sq, atI_neg2 (v := w2) (by show 2 ≤ 4; decide) rfl, _, rfl, _, p, k, rfl, h2, (by simp only [Rp.hg] at hh; omega), fun t1 u1 H1 g1 e1 P1 => ?_⟩⟩⟩⟩⟩⟩⟩⟩⟩
    have ha1 := ha.mono g1.tp
    refine ⟨t1, _, rfl, SqT.of e1, rfl, _, _, rfl, _, _, rfl, rfl, ?_⟩
    refine ⟨_, rfl, _, rfl, a, _, _, _, rfl, rfl, ha1.sq, atI_neg1 (v := w3) rfl, _, rfl, _, p2, (num p k).2, rfl, h3.mono g1.tp, (by simp only [Rp.hg] at hh; omega), fun t2 u2 H2 g2 e2 P2 => ?_⟩
    have ha2 := ha1.mono g2.tp
    refine ⟨t2, _, rfl, SqT.of e2, rfl, _, _, rfl, _, _, rfl, rfl, ?_⟩
    refine ⟨_, rfl, _, rfl, _, rfl, a, _, rfl, ha2.sq, (fun z => absurd (show HT.sIx 4 4 (some (-2)) = 4 from z.2) (by decide)), fun p1 hp1 => ⟨_, rfl, _, rfl, (by show 2 ≤ sizeLine; decide), fun q1 hq1 => ?_⟩⟩
    have k1 := same_new hp1 (.tup (cutV [V.str "if", .int s, w2, w3] none (some (-2))))
    have k2 := same_new hq1 (.tup [u1, u2])
    refine ⟨p1, q1, [V.str "if", .int s], [u1, u2], rfl, rfl, SqT.of (k2 _ _ upd_same), SqT.of upd_same, (fun z => nomatch z), (by show 4 ≤ sizeLine; decide), (fun z => nomatch z), fun _ q2 hq2 => ⟨_, rfl, (by show 2 ≤ sizeLine; decide), fun t ht => ?_⟩⟩
    have k3 := same_new hq2 (.tup ([V.str "if", .int s] ++ [u1, u2]))
    have k4 := same_new ht (.tup [.ref q2, .int (num p2 (num p k).2).2])
    have gg := ((k1.trans k2).trans k3).trans k4
    exact q t _ _ ((g1.trans g2).trans gg) upd_same (.t (.inl (k4 _ _ upd_same)) (.cons .s (.cons .i (.cons ((P1.mono g2.tp).mono gg.tp) (.cons (P2.mono gg.tp) .nil)))))
  | thn p p2 =>
    obtain ⟨a, vs, rfl, ha, hx⟩ := av.get
    obtain ⟨v0, r0, rfl, h0, hx0⟩ := patl_un hx
    cases h0.str
    obtain ⟨w1, r1, rfl, h1, hx1⟩ := patl_un hx0
    obtain ⟨w2, r2, rfl, h2, hx2⟩ := patl_un hx1
    cases patl_un0 hx2
    refine ⟨_, rfl, a, _, _, _, rfl, rfl, ha.sq, atI_nat (j := 0) rfl, ?_⟩
    refine ⟨_, rfl, rfl, _, rfl, ite2 (fun c => absurd c (by decide +kernel)) fun _ => ⟨_, rfl, rfl, _, rfl, ite2 (fun c => absurd c (by decide +kernel)) fun _ => ⟨_, rfl, rfl, _, rfl, ite2 (fun c => absurd c (by decide +kernel)) fun _ => ⟨_, rfl, rfl, _, rfl, ite2 (fun c => absurd c (by decide +kernel)) fun _ => ⟨_, rfl, rfl, _, rfl, ite2 (fun c => absurd c (by decide +kernel)) fun _ => ⟨_, rfl, rfl, _, rfl, ite2 (fun c => absurd c (by decide +kernel)) fun _ => ⟨_, rfl, rfl, _, rfl, ite2 (fun c => absurd c (by decide +kernel)) fun _ => ⟨_, rfl, rfl, _, rfl, ite2 (fun c => absurd c (by decide +kernel)) fun _ => ⟨_, rfl, _, rfl, a, _, _, _, rfl, rfl, ha.sq, atI_neg2 (v := w1) (by show 2 ≤ 3; decide) rfl, _, rfl, _, p, k, rfl, h1, (by simp only [Rp.hg] at hh; omega), fun t1 u1 H1 g1 e1 P1 => ?_⟩⟩⟩⟩⟩⟩⟩⟩⟩
    have ha1 := ha.mono g1.tp
    refine ⟨t1, _, rfl, SqT.of e1, rfl, _, _, rfl, _, _, rfl, rfl, ?_⟩
    refine ⟨_, rfl, _, rfl, a, _, _, _, rfl, rfl, ha1.sq, atI_neg1 (v := w2) rfl, _, rfl, _, p2, (num p k).2, rfl, h2.mono g1.tp, (by simp only [Rp.hg] at hh; omega), fun t2 u2 H2 g2 e2 P2 => ?_⟩
    have ha2 := ha1.mono g2.tp
    refine ⟨t2, _, rfl, SqT.of e2, rfl, _, _, rfl, _, _, rfl, rfl, ?_⟩
    refine ⟨_, rfl, _, rfl, _, rfl, a, _, rfl, ha2.sq, (fun z => absurd (show HT.sIx 3 3 (some (-2)) = 3 from z.2) (by decide)), fun p1 hp1 => ⟨_, rfl, _, rfl, (by show 2 ≤ sizeLine; decide), fun q1 hq1 => ?_⟩⟩
    have k1 := same_new hp1 (.tup (cutV [V.str "then", w1, w2] none (some (-2))))
    have k2 := same_new hq1 (.tup [u1, u2])
    refine ⟨p1, q1, [V.str "then"], [u1, u2], rfl, rfl, SqT.of (k2 _ _ upd_same), SqT.of upd_same, (fun z => nomatch z), (by show 3 ≤ sizeLine; decide), (fun z => nomatch z), fun _ q2 hq2 => ⟨_, rfl, (by show 2 ≤ sizeLine; decide), fun t ht => ?_⟩⟩
    have k3 := same_new hq2 (.tup ([V.str "then"] ++ [u1, u2]))
    have k4 := same_new ht (.tup [.ref q2, .int (num p2 (num p k).2).2])
    have gg := ((k1.trans k2).trans k3).trans k4
    exact q t _ _ ((g1.trans g2).trans gg) upd_same (.t (.inl (k4 _ _ upd_same)) (.cons .s (.cons ((P1.mono g2.tp).mono gg.tp) (.cons (P2.mono gg.tp) .nil))))
  | bes p p2 =>
    obtain ⟨a, vs, rfl, ha, hx⟩ := av.get
    obtain ⟨v0, r0, rfl, h0, hx0⟩ := patl_un hx
    cases h0.str
    obtain ⟨w1, r1, rfl, h1, hx1⟩ := patl_un hx0
    obtain ⟨w2, r2, rfl, h2, hx2⟩ := patl_un hx1
    cases patl_un0 hx2
    refine ⟨_, rfl, a, _, _, _, rfl, rfl, ha.sq, atI_nat (j := 0) rfl, ?_⟩
    refine ⟨_, rfl, rfl, _, rfl, ite2 (fun c => absurd c (by decide +kernel)) fun _ => ⟨_, rfl, rfl, _, rfl, ite2 (fun c => absurd c (by decide +kernel)) fun _ => ⟨_, rfl, rfl, _, rfl, ite2 (fun c => absurd c (by decide +kernel)) fun _ => ⟨_, rfl, rfl, _, rfl, ite2 (fun c => absurd c (by decide +kernel)) fun _ => ⟨_, rfl, rfl, _, rfl, ite2 (fun c => absurd c (by decide +kernel)) fun _ => ⟨_, rfl, rfl, _, rfl, ite2 (fun c => absurd c (by decide +kernel)) fun _ => ⟨_, rfl, rfl, _, rfl, ite2 (fun c => absurd c (by decide +kernel)) fun _ => ⟨_, rfl, rfl, _, rfl, ite2 (fun c => absurd c (by decide +kernel)) fun _ => ⟨_, rfl, _, rfl, a, _, _, _, rfl, rfl, ha.sq, atI_neg2 (v := w1) (by show 2 ≤ 3; decide) rfl, _, rfl, _, p, k, rfl, h1, (by simp only [Rp.hg] at hh; omega), fun t1 u1 H1 g1 e1 P1 => ?_⟩⟩⟩⟩⟩⟩⟩⟩⟩
    have ha1 := ha.mono g1.tp
    refine ⟨t1, _, rfl, SqT.of e1, rfl, _, _, rfl, _, _, rfl, rfl, ?_⟩
    refine ⟨_, rfl, _, rfl, a, _, _, _, rfl, rfl, ha1.sq, atI_neg1 (v := w2) rfl, _, rfl, _, p2, (num p k).2, rfl, h2.mono g1.tp, (by simp only [Rp.hg] at hh; omega), fun t2 u2 H2 g2 e2 P2 => ?_⟩
    have ha2 := ha1.mono g2.tp
    refine ⟨t2, _, rfl, SqT.of e2, rfl, _, _, rfl, _, _, rfl, rfl, ?_⟩
    refine ⟨_, rfl, _, rfl, _, rfl, a, _, rfl, ha2.sq, (fun z => absurd (show HT.sIx 3 3 (some (-2)) = 3 from z.2) (by decide)), fun p1 hp1 => ⟨_, rfl, _, rfl, (by show 2 ≤ sizeLine; decide), fun q1 hq1 => ?_⟩⟩
    have k1 := same_new hp1 (.tup (cutV [V.str "beside", w1, w2] none (some (-2))))
    have k2 := same_new hq1 (.tup [u1, u2])
    refine ⟨p1, q1, [V.str "beside"], [u1, u2], rfl, rfl, SqT.of (k2 _ _ upd_same), SqT.of upd_same, (fun z => nomatch z), (by show 3 ≤ sizeLine; decide), (fun z => nomatch z), fun _ q2 hq2 => ⟨_, rfl, (by show 2 ≤ sizeLine; decide), fun t ht => ?_⟩⟩
    have k3 := same_new hq2 (.tup ([V.str "beside"] ++ [u1, u2]))
    have k4 := same_new ht (.tup [.ref q2, .int (num p2 (num p k).2).2])
    have gg := ((k1.trans k2).trans k3).trans k4
    exact q t _ _ ((g1.trans g2).trans gg) upd_same (.t (.inl (k4 _ _ upd_same)) (.cons .s (.cons ((P1.mono g2.tp).mono gg.tp) (.cons (P2.mono gg.tp) .nil))))
theorem num_all (F : FunM K mg "_law_numbered" ["_law_part", "_law_k"] s__law_numbered) (T : Txt mg) : ∀ n : Nat, Callee P w K mg base n "_law_numbered" ["_law_part", "_law_k"] (spNum K n)
  | 0 => F.zero (sp := spNum K 0) fun vs H Q E ⟨v, r, k, _, _, hh, _⟩ => absurd hh (Nat.not_le_of_gt r.hg_pos)
  | n + 1 => ok_num F T (num_all F T n)
theorem cut_from1 (xs : List V) (j : Nat) : (cutV xs (some 1) (some (1 + (j : Int)))) = (xs.drop 1).take j := by
  unfold cutV
  rw [show (some (1 : Int)) = some ((1 : Nat) : Int) from rfl, show (some (1 + (j : Int))) = some ((1 + j : Nat) : Int) by simp, HT.sIx_nat, HT.sIx_nat]
  rcases Nat.le_total xs.length 1 with h | h
  · have e : xs.drop 1 = [] := List.drop_eq_nil_of_le h
    rw [Nat.min_eq_right h, List.drop_eq_nil_of_le (Nat.le_refl _), e]
    simp
  · rw [Nat.min_eq_left h]
    rcases Nat.le_total (1 + j) xs.length with h2 | h2
    · rw [Nat.min_eq_left h2, Nat.add_sub_cancel_left]
    · rw [Nat.min_eq_right h2, List.take_of_length_le (by simp), List.take_of_length_le (by simp; omega)]
set_option maxHeartbeats 16000000 in
theorem ok_prog (F : FunM K mg "_law_program" ["_law_script", "_law_most"] s__law_program) (T : Txt mg) (C__law_at : Callee P w K mg base 2 "_law_at" ["_law_script", "_law_k"] (spAt K)) (C__law_body : Callee P w K mg base 32 "_law_body" ["_law_cells", "_law_signs"] (spBody K)) (C__law_numbered : Callee P w K mg base 24 "_law_numbered" ["_law_part", "_law_k"] (spNum K 24)) : Callee P w K mg base 33 "_law_program" ["_law_script", "_law_most"] (spProg K) := by
  refine F.ok sc__law_program (fun vs H Q E h => ?_) (fun f cdv A outer s H vs Q E hr h => ?_)
  · obtain ⟨a, ns, rfl, _⟩ := h; rfl
  obtain ⟨a, ns, rfl, hS, q⟩ := h
  refine ⟨_, (pss_cons (ps_set (i := 2) sc__law_program.nd rfl (Or.inl rfl) (pe_callC C__law_at hr rfl pass0 (pa_cons (pv 0) (pa_cons pe_int pa_nil))))
    (pss_cons (ps_set (i := 3) sc__law_program.nd rfl (Or.inl rfl) (pe_op op_mod (pv 2) pe_int))
    (pss_cons (ps_set (i := 4) sc__law_program.nd rfl (Or.inl rfl) (pe_op op_mod (pe_op op_fdiv (pv 2) pe_int) pe_int))
    (pss_cons (ps_set (i := 5) sc__law_program.nd rfl (Or.inl rfl) (pe_callB (call_max2 rfl) rfl T.n_max (by decide +kernel) (pa_cons pe_int (pa_cons (pe_op op_add (pe_op op_add (pv 3) (pv 4)) (pe_op op_mod (pe_op op_fdiv (pv 2) pe_int) pe_int)) pa_nil))))
    (pss_cons (ps_asg (pe_callC C__law_numbered hr rfl pass0 (pa_cons (pe_callC C__law_body hr rfl pass0 (pa_cons (pe_slice sl_list (pv 0) (po_some pe_int) (po_some (pe_op op_add pe_int (pv 1)))) (pa_cons (pv 5) pa_nil))) (pa_cons pe_int pa_nil))) (pg_tup rfl (pgs_cons (pg_name (i := 6) sc__law_program.nd rfl (Or.inl rfl)) (pgs_cons (pg_name (i := 7) sc__law_program.nd rfl (Or.inl rfl)) pgs_nil))))
    (pss_one (ps_ret (pe_tupQ (qa_cons (qe_tup (qa_cons (qe (pv 3)) (qa_cons (qe (pv 4)) (qa_cons (qe (pv 5)) (qa_cons (qe (pv 6)) qa_nil star_name) star_name) star_name) star_name)) (qa_cons (qe (pv 7)) qa_nil star_name) star_tup))))))))), ?_⟩
  refine ⟨_, rfl, a, ns, 0, rfl, hS, Int.le_refl _, fun m hm => ?_⟩
  refine ⟨_, rfl, _, _, rfl, rfl, (by show (0 : Int) < 4; decide), ?_⟩
  refine ⟨_, rfl, _, _, rfl, rfl, ⟨by decide, by decide⟩, _, _, rfl, rfl, (by show (0 : Int) < 3; decide), ?_⟩
  refine ⟨_, rfl, _, rfl, _, _, rfl, rfl, _, rfl, _, _, rfl, rfl, ⟨by decide, by decide⟩, _, _, rfl, rfl, (by show (0 : Int) < 3; decide), _, _, rfl, rfl, _, _, rfl, ?_⟩
  obtain ⟨c, ec⟩ := Int.eq_ofNat_of_zero_le (Int.emod_nonneg m (show (4 : Int) ≠ 0 by decide))
  have b1 := Int.emod_lt_of_pos m (show (0 : Int) < 4 by decide)
  have b2 := Int.emod_nonneg (m / 4) (show (3 : Int) ≠ 0 by decide)
  have b3 := Int.emod_lt_of_pos (m / 4) (show (0 : Int) < 3 by decide)
  have b4 := Int.emod_nonneg (m / 12) (show (3 : Int) ≠ 0 by decide)
  have b5 := Int.emod_lt_of_pos (m / 12) (show (0 : Int) < 3 by decide)
  obtain ⟨n, en, n1, n2, n3⟩ : ∃ n : Nat, (if m % 4 + m / 4 % 3 + m / 12 % 3 > 1 then m % 4 + m / 4 % 3 + m / 12 % 3 else 1) = (n : Int) ∧ 1 ≤ n ∧ n ≤ 10 ∧ c ≤ n := by
    split
    · exact ⟨(m % 4 + m / 4 % 3 + m / 12 % 3).toNat, by omega, by omega, by omega, by omega⟩
    · exact ⟨1, rfl, by omega, by omega, by omega⟩
  rw [en]
  dsimp only [gName]
  rw [ec]
  refine ⟨_, rfl, _, rfl, _, rfl, _, _, rfl, rfl, _, rfl, a, _, rfl, hS, fun c1 hc1 => ?_⟩
  rw [show cutV (ns.map V.int) (some 1) (some (1 + 10)) = ((ns.map V.int).drop 1).take 10 from cut_from1 _ 10, ← List.map_drop, ← List.map_take]
  have k1 := same_new hc1 (.lst (((ns.drop 1).take 10).map V.int))
  refine ⟨_, rfl, c1, _, (n : Int), rfl, SqL.of upd_same, by rw [List.length_take]; omega, by omega, fun v r H1 g1 P1 ok1 h1 w1 => ?_⟩
  refine ⟨v, r, 0, rfl, P1, by omega, fun t1 u1 H2 g2 e2 P2 => ?_⟩
  refine ⟨t1, _, rfl, SqT.of e2, rfl, _, _, rfl, _, _, rfl, rfl, ?_⟩
  refine ⟨_, rfl, _, rfl, _, rfl, _, rfl, (by show 4 ≤ sizeLine; decide), fun pr hpr => ⟨_, rfl, (by show 2 ≤ sizeLine; decide), fun t ht => ?_⟩⟩
  obtain ⟨g, a1, a2⟩ := new2 (a := .tup [.int (c : Int), .int (m / 4 % 3), .int (n : Int), u1]) (b := .tup [.ref pr, .int (num r 0).2]) hpr ht
  obtain ⟨o1, o2, o3⟩ := num_ok n r 0
  have gg := k1.trans (g1.trans (g2.trans g))
  exact q t pr c n _ _ u1 (num r 0).1 _ gg a2 a1 n3 ⟨⟨_, _, u1, a1, P2.mono g.tp⟩, by omega, by omega, by omega, o3 ok1, by omega⟩
theorem ok_come (F : FunM K mg "_law_coming" ["_law_cell", "_law_came"] s__law_coming) (T : Txt mg) (C__law_mixed : Callee P w K mg base 1 "_law_mixed" ["_law_cell"] spMixed) : Callee P w K mg base 2 "_law_coming" ["_law_cell", "_law_came"] spCome := by
  refine F.ok sc__law_coming (fun vs H Q E h => ?_) (fun f cdv A outer s H vs Q E hr h => ?_)
  · obtain ⟨m, n, rfl, _⟩ := h; rfl
  obtain ⟨m, n, rfl, hn, q⟩ := h
  refine ⟨_, (pss_cons (ps_set (i := 2) sc__law_coming.nd rfl (Or.inr rfl) (pe_callC C__law_mixed hr rfl pass0 (pa_cons (pv 0) pa_nil)))
    (pss_one (ps_ret (pe_comp (g := (gName 0)) (tc := (tTest (tOp rEq (tOp (rI (fun _ j => 0 < j) fun i j => .int (i % j)) (tOp (rI CDiv fun i j => .int (i / j)) (tOp (rI CDiv fun i j => .int (i / j)) (tVar 1) (tC (.int 7))) (tOp (rI CPow fun i j => .int (i * 2 ^ j.toNat)) (tC (.int 1)) (tVar 0))) (tC (.int 2))) (tC (.int 1))))) (te := (tVar 0)) ["_law_sign"] [("_law_seed", 2)] rfl (compOk (defScope s__law_coming) ["_law_cell", "_law_came", "_law_seed"] (by decide +kernel)) (pi_range1 rfl T.n_range (pa_cons (pv 1) pa_nil)) (fun s2 H2 fp cl C => pg_name (i := 0) (show List.Nodup [("_law_sign" : Str), ("_law_seed" : Str)] from by decide +kernel) rfl (Or.inl rfl)) (gkeep_name (by decide)) (fun s2 H2 fp cl C => pif_one (pt_cmpR op_eq (pe_op op_mod (pe_op op_fdiv (pe_op op_fdiv (pv 1) pe_int) (pe_op op_shl pe_int (pv 0))) pe_int) pe_int (nomark _))) (fun s2 H2 fp cl C => (pv 0)))))), ?_⟩
  refine ⟨_, rfl, m, rfl, ?_⟩
  refine ⟨_, rfl, _, rfl, by omega, by omega, ?_⟩
  dsimp only
  rw [Int.toNat_natCast]
  refine comp_range (fun i ys H' => H' = H ∧ ys = ((List.range i).filter (comeB (mixV m))).map fun (i : Nat) => V.int (i : Int)) ⟨rfl, rfl⟩ (small (by omega)) ?_ ?_
  · rintro i ys H' N hi ⟨rfl, rfl⟩ hN hyl
    have p1 : (0 : Int) < 1 * 2 ^ ((0 : Int) + (i : Int)).toNat := by
      rw [Int.one_mul]; exact Int.pow_pos (by decide)
    have p2 : (1 : Int) * 2 ^ ((0 : Int) + (i : Int)).toNat < 1073741824 := by
      rw [Int.one_mul, show ((0 : Int) + (i : Int)).toNat = i by omega]
      have h1 : (2 : Nat) ^ i < 1073741824 := Nat.lt_of_lt_of_le (Nat.pow_lt_pow_right (by decide) (show i < 30 by omega)) (by decide)
      have h2 : ((2 ^ i : Nat) : Int) < ((1073741824 : Nat) : Int) := Int.ofNat_lt.mpr h1
      rw [Int.natCast_pow] at h2
      exact h2
    refine ⟨_, rfl, _, _, rfl, rfl, ⟨by decide, by decide⟩, _, rfl, _, _, rfl, rfl, ⟨by show (0 : Int) ≤ 0 + i; omega, by show (0 : Int) + i ≤ 1000000; omega, by decide⟩, _, _, rfl, rfl, ⟨p1, p2⟩, _, _, rfl, rfl, (by show (0 : Int) < 2; decide), rfl, _, rfl, ?_⟩
    have fl : (List.range (i + 1)).filter (comeB (mixV m)) = (List.range i).filter (comeB (mixV m)) ++ (if comeB (mixV m) i = true then [i] else []) := by
      rw [List.range_succ, List.filter_append]
      simp only [List.filter_cons, List.filter_nil]
    refine ite2 (fun c => ?_) (fun c => ?_)
    · refine ⟨_, rfl, hN _ _ ?_ ⟨rfl, ?_⟩⟩
      · rw [List.length_append, List.length_singleton]; omega
      · rw [fl, if_pos (show comeB (mixV m) i = true from c), List.map_append]
        show _ ++ [V.int (0 + (i : Int))] = _ ++ [V.int (i : Int)]
        rw [Int.zero_add]
    · refine hN _ _ (by omega) ⟨rfl, ?_⟩
      rw [fl, if_neg (show ¬ comeB (mixV m) i = true from c), List.append_nil]
  · rintro ys H' hyl ⟨rfl, rfl⟩ D hD
    have := q D hD
    unfold comeV at this
    rw [List.map_map] at this
    exact this
end

end My
end

section
set_option Elab.async false
set_option linter.all false
set_option maxRecDepth 100000
set_option maxHeartbeats 4000000
namespace My
open PySem L2
theorem cut_to (xs : List V) (j : Nat) : cutV xs none (some (j : Int)) = xs.take j := by
  unfold cutV
  rw [HT.sIx_none, HT.sIx_nat, List.drop_zero, Nat.sub_zero]
  rcases Nat.le_total j xs.length with h | h
  · rw [Nat.min_eq_left h]
  · rw [Nat.min_eq_right h, List.take_length, List.take_of_length_le h]
/-! ### a runner that is stuck -/
def pStk : Pt := .iff 0 (.send 0) .nothing
theorem stk_none : none ∈ knW pStk none 1 (nub []) := by decide +kernel
structure ErrU (mg : Str → Option Value) (cNN cNP cNR cNT cTM cTw : Addr) : Prop where
  mNN : mg "NoName" = some (.ref cNN)
  mNP : mg "NoProgram" = some (.ref cNP)
  mNR : mg "NoRow" = some (.ref cNR)
  mNT : mg "NoText" = some (.ref cNT)
  mTM : mg "TooMany" = some (.ref cTM)
  mTw : mg "Twice" = some (.ref cTw)
structure IsU (K : PySem.W.Frag) (cNN cNP cNR cNT cTM cTw cUn cWE : Addr) : Prop where
  ce : ClsE K cUn
  k1 : PySem.W.kitOne K (.ref cUn) (.ref cNN) = some false
  k2 : PySem.W.kitOne K (.ref cUn) (.ref cNP) = some false
  k3 : PySem.W.kitOne K (.ref cUn) (.ref cNR) = some false
  k4 : PySem.W.kitOne K (.ref cUn) (.ref cNT) = some false
  k5 : PySem.W.kitOne K (.ref cUn) (.ref cTM) = some false
  k6 : PySem.W.kitOne K (.ref cUn) (.ref cTw) = some false
  k7 : PySem.W.kitOne K (.ref cUn) (.ref cUn) = some true
  k8 : PySem.W.kitOne K (.ref cUn) (.type "ValueError") = some true
  we : PySem.W.exmOne K (.ref cUn) (.ref cWE) = some true
def rIsiO (K : PySem.W.Frag) : List V → Hp → VK → Prop := fun xs H Q => ∃ x D t b, xs = [x, .ref D] ∧ TyOf K H x t ∧ PySem.W.kitOne K t (.ref D) = some b ∧ Q (.bl b) H
theorem call_isinstO {X : Cx} : CallR X (.builtin "isinstance") (rIsiO X.K) := by
  intro pins s σ H xs us Q I r h
  obtain ⟨x, D, t, b, rfl, ty, e, q⟩ := h
  obtain ⟨u, v, rfl, ru, rv⟩ := r.two
  cases rv
  exact isinst_ok I ru ty e fun tk => ⟨.bl b, H, I.tok _, rfl, q⟩
def spRefu (K : PySem.W.Frag) (cW : Addr) : Sp := fun vs H Q _ => ∃ (o dx pr : Addr), vs = [.ref o] ∧ H o = some (.ins cW dx (flR .non pr)) ∧ PgAt K H pr 1 pStk ∧ ∀ H', Same H H' → Q (.bl true) H'
section
variable {P : Program} {w : World} {K : PySem.W.Frag} {mg : Str → Option Value} {base : Heap} {cW cR cUn cNN cNP cNR cNT cTM cTw cWE : Addr}
set_option maxHeartbeats 16000000 in
theorem ok_refu (F : FunM K mg "_law_refused" ["_law_runner"] s__law_refused) (T : TxtN K mg cW cR cUn) (M : ErrU mg cNN cNP cNR cNT cTM cTw) (U : IsU K cNN cNP cNR cNT cTM cTw cUn cWE) (hWE : mg "WiseError" = some (.ref cWE)) (M_tick : MethX P w K mg base 49 cW "tick" ["self", "coming"] (spTick K cW cUn)) (M_state : MethM P w K mg base 1 cW "state" ["self"] (spState K cW)) : Callee P w K mg base 50 "_law_refused" ["_law_runner"] (spRefu K cW) := by
  refine F.ok sc__law_refused (fun vs H Q E h => ?_) (fun f cdv A outer s H vs Q E hr h => ?_)
  · obtain ⟨o, dx, pr, rfl, _⟩ := h; rfl
  obtain ⟨o, dx, pr, rfl, ho, hP, q⟩ := h
  refine ⟨_, (pss_cons (ps_set (i := 1) sc__law_refused.nd rfl (Or.inl rfl) pe_bl)
    (pss_cons (ps_tryA (pxs_expr (px_meth M_tick hr (pv 0) (pa_cons (pe_lst pa_nil) pa_nil))) (pha_cons (i := 2) hWE rfl sc__law_refused.nd rfl rfl (Or.inl rfl) (fun u => pss_cons (ps_set (i := 3) sc__law_refused.nd rfl (Or.inl rfl) (pe_lst (pa_cons (pe_callB (show CallR _ (.builtin "isinstance") (rIsiE K) from call_isinstE) rfl T.n_isinstance PyProof.Rows.boot_isinstance (pa_cons (pv 2) (pa_cons (pe_glob (v := .ref cNN) rfl M.mNN rfl) pa_nil))) (pa_cons (pe_callB (show CallR _ (.builtin "isinstance") (rIsiE K) from call_isinstE) rfl T.n_isinstance PyProof.Rows.boot_isinstance (pa_cons (pv 2) (pa_cons (pe_glob (v := .ref cNP) rfl M.mNP rfl) pa_nil))) (pa_cons (pe_callB (show CallR _ (.builtin "isinstance") (rIsiE K) from call_isinstE) rfl T.n_isinstance PyProof.Rows.boot_isinstance (pa_cons (pv 2) (pa_cons (pe_glob (v := .ref cNR) rfl M.mNR rfl) pa_nil))) (pa_cons (pe_callB (show CallR _ (.builtin "isinstance") (rIsiE K) from call_isinstE) rfl T.n_isinstance PyProof.Rows.boot_isinstance (pa_cons (pv 2) (pa_cons (pe_glob (v := .ref cNT) rfl M.mNT rfl) pa_nil))) pa_nil))))))
      (pss_cons (ps_set (i := 3) sc__law_refused.nd rfl (Or.inl rfl) (pe_op op_cat (pv 3) (pe_lst (pa_cons (pe_callB (show CallR _ (.builtin "isinstance") (rIsiE K) from call_isinstE) rfl T.n_isinstance PyProof.Rows.boot_isinstance (pa_cons (pv 2) (pa_cons (pe_glob (v := .ref cTM) rfl M.mTM rfl) pa_nil))) (pa_cons (pe_callB (show CallR _ (.builtin "isinstance") (rIsiE K) from call_isinstE) rfl T.n_isinstance PyProof.Rows.boot_isinstance (pa_cons (pv 2) (pa_cons (pe_glob (v := .ref cTw) rfl M.mTw rfl) pa_nil))) pa_nil)))))
      (pss_one (ps_set (i := 1) sc__law_refused.nd rfl (Or.inl rfl) (pe_and (pe_callB (show CallR _ (.builtin "isinstance") (rIsiE K) from call_isinstE) rfl T.n_isinstance PyProof.Rows.boot_isinstance (pa_cons (pv 2) (pa_cons (pe_glob (v := .ref cUn) rfl T.m_Un rfl) pa_nil))) (pe_and (pe_callB (show CallR _ (.builtin "isinstance") (rIsiV K) from call_isinstV) rfl T.n_isinstance PyProof.Rows.boot_isinstance (pa_cons (pv 2) (pa_cons (pe_bltn rfl T.n_ValueError (by decide +kernel) (v := .ty "ValueError") rfl) pa_nil))) (pe_one (pe_cmpR (show OpR _ (compareOp .NotIn) (rIn K true) from op_notIn_seq) pe_bl (pv 3) (by rfl))))))))) pha_nil) rfl rfl)
    (pss_one (ps_ret (pe_and (pv 1) (pe_one (pe_cmpR op_isN (pe_methC0 M_state hr pass0 (pv 0)) pe_non (nomark _)))))))), ?_⟩
  refine ⟨_, rfl, o, dx, _, rfl, ho, rfl, (by show 0 ≤ sizeLine; decide), fun c1 hc1 => ?_⟩
  have k1 := same_new hc1 (.lst [])
  refine ⟨o, dx, pr, c1, .non, none, 1, pStk, [], rfl, k1 _ _ ho, hP.mono k1, rfl, SqL.of upd_same, by decide, .inl ⟨stk_none, fun H2 g2 => ⟨cUn, rfl, .inl ⟨U.we, fun ea hea => ?_⟩⟩⟩⟩
  have k2 := same_new hea (ExO cUn ea)
  have he : (upd H2 ea (ExO cUn ea)) ea = some (ExO cUn ea) := upd_same
  have ho2 := k2 _ _ (g2 _ _ (k1 _ _ ho))
  have g02 := (k1.trans g2).trans k2
  generalize (upd H2 ea (ExO cUn ea)) = H3 at he ho2 g02
  refine ⟨_, rfl, ea, cUn, cNN, false, rfl, he, U.ce, U.k1, _, rfl, ea, cUn, cNP, false, rfl, he, U.ce, U.k2, _, rfl, ea, cUn, cNR, false, rfl, he, U.ce, U.k3, _, rfl, ea, cUn, cNT, false, rfl, he, U.ce, U.k4, (by show 4 ≤ sizeLine; decide), fun p1 hp1 => ?_⟩
  have k3 := same_new hp1 (.lst [V.bl false, .bl false, .bl false, .bl false])
  have e1 := upd_same (H := H3) (a := p1) (o := .lst [V.bl false, .bl false, .bl false, .bl false])
  have he1 := k3 _ _ he
  refine ⟨_, rfl, _, rfl, ea, cUn, cTM, false, rfl, he1, U.ce, U.k5, _, rfl, ea, cUn, cTw, false, rfl, he1, U.ce, U.k6, (by show 2 ≤ sizeLine; decide), fun p2 hp2 => ?_⟩
  have k4 := same_new hp2 (.lst [V.bl false, .bl false])
  refine ⟨p1, p2, _, _, rfl, rfl, k4 _ _ e1, upd_same, (by show 6 ≤ sizeLine; decide), fun p3 hp3 => ?_⟩
  have k5 := same_new hp3 (.lst ([V.bl false, .bl false, .bl false, .bl false] ++ [V.bl false, .bl false]))
  have gg := (k3.trans k4).trans k5
  have he3 := gg _ _ he
  have ho3 := gg _ _ ho2
  refine ⟨_, rfl, ea, cUn, cUn, true, rfl, he3, U.ce, U.k7, true, rfl, iteT ⟨_, rfl, ea, cUn, "ValueError", true, rfl, he3, U.ce, U.k8, true, rfl, iteT ⟨_, rfl, p3, _, rfl, .inl (SqL.of upd_same), rfl, rfl, ?_⟩⟩⟩
  refine ⟨_, rfl, true, rfl, iteT ⟨_, rfl, o, dx, _, rfl, ho3, rfl, o, dx, pr, .non, none, rfl, ho3, rfl, fun v H6 g6 cp => ?_⟩⟩
  cases (show v = .non from cp)
  exact ⟨rfl, q _ ((g02.trans gg).trans g6)⟩
end
/-! ### what the law keeps: rows, held ones, copies -/
def KpS (S : List Addr) (H H' : Hp) : Prop := ∀ b u, b ∉ S → H b = some u → H' b = some u
theorem KpS.refl (S : List Addr) (H : Hp) : KpS S H H := fun _ _ _ h => h
theorem KpS.trans {S : List Addr} {H H1 H2 : Hp} (a : KpS S H H1) (b : KpS S H1 H2) : KpS S H H2 := fun c u h e => b c u h (a c u h e)
theorem Same.kpS {S : List Addr} {H H' : Hp} (g : Same H H') : KpS S H H' := fun b u _ e => g b u e
theorem Kp.kpS {S : List Addr} {o : Addr} {H H' : Hp} (k : Kp o H H') (h : o ∈ S) : KpS S H H' := fun b u n e => k b u (fun z => n (z ▸ h)) e
theorem KpS.upd {S : List Addr} {r : Addr} {H : Hp} {u : HO} (h : r ∈ S) : KpS S H (L2.upd H r u) := fun b v n e => by
  have hb : b ≠ r := fun z => n (by rw [z]; exact h)
  rw [upd_ne hb]
  exact e
/-- none of these is a tuple, each is there -/
def Mut (S : List Addr) (H : Hp) : Prop := ∀ b ∈ S, ∃ u, H b = some u ∧ ∀ xs, u ≠ .tup xs
theorem Mut.tp {S : List Addr} {H H' : Hp} (m : Mut S H) (k : KpS S H H') : Tp H H' := fun b xs e => k b _ (fun z => by
  obtain ⟨u, e1, n⟩ := m b z
  rw [e] at e1
  cases e1
  exact n xs rfl) e
theorem Mut.off {S : List Addr} {H : Hp} (m : Mut S H) {x : Addr} (h : H x = none) : x ∉ S := fun z => by
  obtain ⟨u, e, _⟩ := m x z
  rw [h] at e
  cases e
theorem Mut.offT {S : List Addr} {H : Hp} (m : Mut S H) {x : Addr} {xs : List V} (h : H x = some (.tup xs)) : x ∉ S := fun z => by
  obtain ⟨u, e, n⟩ := m x z
  rw [h] at e
  cases e
  exact n xs rfl
theorem Mut.mono {S : List Addr} {H H' : Hp} (m : Mut S H) (g : Same H H') : Mut S H' := fun b hb => by
  obtain ⟨u, e, n⟩ := m b hb
  exact ⟨u, g _ _ e, n⟩
theorem PgAt.kpS {K : PySem.W.Frag} {S : List Addr} {H H' : Hp} {pr : Addr} {n : Nat} {p : Pt} (m : Mut S H) (k : KpS S H H') (h : PgAt K H pr n p) : PgAt K H' pr n p := by
  obtain ⟨⟨x0, x1, v, e, a⟩, h1, h2, h3, h4, h5⟩ := h
  exact ⟨⟨x0, x1, v, m.tp k _ _ e, a.mono (m.tp k)⟩, h1, h2, h3, h4, h5⟩
theorem eqd_ints {K : PySem.W.Frag} {H : Hp} {ns : List Int} {d : Nat} : ∀ (i : Nat) (x y : V), (ns.map V.int)[i]? = some x → (ns.map V.int)[i]? = some y → EqD K H d x y := fun i x y hx hy => by
  rw [hx] at hy
  cases hy
  rw [List.getElem?_map] at hx
  cases e : ns[i]? with
  | none => rw [e] at hx; cases hx
  | some z =>
    rw [e] at hx
    cases hx
    exact .flat rfl rfl (by show (z == z) = true; simp)
/-- None, or a list that is not among those -/
def OAt (S : List Addr) (H : Hp) : Option (List Int) → V → Prop
  | none, v => v = .non
  | some ns, v => ∃ r, v = .ref r ∧ r ∉ S ∧ H r = some (.lst (ns.map V.int))
theorem OAt.kp {S : List Addr} {H H' : Hp} {f : Option (List Int)} {v : V} (k : KpS S H H') (h : OAt S H f v) : OAt S H' f v := by
  cases f with
  | none => exact h
  | some ns => obtain ⟨r, e, n, e2⟩ := h; exact ⟨r, e, n, k _ _ n e2⟩
theorem OAt.eqd {K : PySem.W.Frag} {S S' : List Addr} {H : Hp} {f : Option (List Int)} {v u : V} {d : Nat} (h : OAt S H f v) (k : OAt S' H f u) : EqD K H (d + 1) v u := by
  cases f with
  | none =>
    cases (show v = .non from h)
    cases (show u = .non from k)
    exact .flat rfl rfl rfl
  | some ns =>
    obtain ⟨r, rfl, _, e⟩ := h
    obtain ⟨r2, rfl, _, e2⟩ := k
    exact .lst (SqL.of e) (SqL.of e2) rfl eqd_ints
abbrev En := Option (List Int) × Option (List Int)
def wdE (e : En) : Str := if e.1 = none then "unsettled" else "done"
def RowAt (S : List Addr) (H : Hp) (e : En) (v : V) : Prop := ∃ t1 t2 fv sv, v = .ref t2 ∧ t1 ∉ S ∧ t2 ∉ S ∧ H t2 = some (.tup [.ref t1, sv]) ∧ H t1 = some (.tup [.str (wdE e), fv]) ∧ OAt S H e.1 fv ∧ OAt S H e.2 sv
def PrAt (S : List Addr) (H : Hp) (e : En) (v : V) : Prop := ∃ t fv sv, v = .ref t ∧ t ∉ S ∧ H t = some (.tup [fv, sv]) ∧ OAt S H e.1 fv ∧ OAt S H e.2 sv
theorem RowAt.kp {S : List Addr} {H H' : Hp} {e : En} {v : V} (k : KpS S H H') (h : RowAt S H e v) : RowAt S H' e v := by
  obtain ⟨t1, t2, fv, sv, e1, n1, n2, a1, a2, o1, o2⟩ := h
  exact ⟨t1, t2, fv, sv, e1, n1, n2, k _ _ n2 a1, k _ _ n1 a2, o1.kp k, o2.kp k⟩
theorem PrAt.kp {S : List Addr} {H H' : Hp} {e : En} {v : V} (k : KpS S H H') (h : PrAt S H e v) : PrAt S H' e v := by
  obtain ⟨t, fv, sv, e1, n, a, o1, o2⟩ := h
  exact ⟨t, fv, sv, e1, n, k _ _ n a, o1.kp k, o2.kp k⟩
/-- what an instant tells, and the state behind it -/
def stepW (p : Pt) (n : Nat) (st : Option (List Int)) (cs : List Int) : En := if none ∈ knW p st n cs then (none, st) else (some (areL (some true) (knW p st n cs)), some (instD p st (areL (some true) (knW p st n cs))).2.2)
def stA (p : Pt) (n c : Nat) (xs : List Int) : Nat → Option (List Int)
  | 0 => none
  | i + 1 => (stepW p n (stA p n c xs i) (comeV (xs.getD i 0) c)).2
def enA (p : Pt) (n c : Nat) (xs : List Int) (i : Nat) : En := stepW p n (stA p n c xs i) (comeV (xs.getD i 0) c)
abbrev PrE (R : En → V → Prop) (f : Nat → En) (i : Nat) (vs : List V) : Prop := PySem.Paired (fun j v => R (f j) v) (List.range i) vs
theorem prE_snoc {R : En → V → Prop} {f : Nat → En} {i : Nat} {vs : List V} {v : V} (h : PrE R f i vs) (r : R (f i) v) : PrE R f (i + 1) (vs ++ [v]) := by
  show PySem.Paired _ (List.range (i + 1)) _
  rw [List.range_succ]
  exact PySem.Paired.snoc h r
theorem prE_len {R : En → V → Prop} {f : Nat → En} {i : Nat} {vs : List V} (h : PrE R f i vs) : vs.length = i := by
  have := PySem.Paired.length h
  rw [List.length_range] at this
  exact this.symm
theorem paired_at {α : Type} {F : α → V → Prop} : ∀ {l : List α} {vs : List V} {i : Nat} {v : V}, PySem.Paired F l vs → vs[i]? = some v → ∃ a, l[i]? = some a ∧ F a v
  | _, _, _, _, .nil, e => by simp at e
  | _, _, 0, _, .cons (a := a) f t, e => ⟨a, rfl, by cases e; exact f⟩
  | _, _, i + 1, _, .cons f t, e => paired_at (i := i) t e
theorem prE_at {R : En → V → Prop} {f : Nat → En} {i : Nat} {vs : List V} (h : PrE R f i vs) {k : Nat} {v : V} (e : vs[k]? = some v) : R (f k) v := by
  obtain ⟨a, e1, r⟩ := paired_at h e
  obtain ⟨hk, e2⟩ := List.getElem?_eq_some_iff.mp e1
  rw [List.getElem_range] at e2
  rw [e2]
  exact r
theorem ta_via {t : TA} {σ : St} {H : Hp} {Q : List V → Hp → Prop} (S : List V → Hp → Prop) (h1 : ∀ Q' : List V → Hp → Prop, (∀ vs H, S vs H → Q' vs H) → t σ H Q') (h2 : ∀ vs H, S vs H → Q vs H) : t σ H Q := h1 Q h2
theorem nub_id {a : List Int} (h : a.Pairwise (· < ·)) : nub a = a := (nub_eq h fun k => Iff.rfl).symm
theorem mem4 {a b c d : Addr} : a ∈ [a, b, c, d] ∧ b ∈ [a, b, c, d] ∧ c ∈ [a, b, c, d] ∧ d ∈ [a, b, c, d] := by simp

end My
end

section
set_option Elab.async false
set_option linter.all false
set_option maxRecDepth 100000
set_option maxHeartbeats 4000000
namespace My
open PySem L2
theorem OAt.st {K : PySem.W.Frag} {S : List Addr} {H : Hp} {f : Option (List Int)} {v : V} (h : OAt S H f v) : StAt K H f v := by
  cases f with
  | none => exact h
  | some ns => obtain ⟨r, e, _, e2⟩ := h; exact ⟨r, e, SqL.of e2⟩
theorem CpAt.o {S : List Addr} {H H' : Hp} {f : Option (List Int)} {v : V} (m : Mut S H) (h : CpAt H H' f v) : OAt S H' f v := by
  cases f with
  | none => exact h
  | some ns => obtain ⟨r, e, n, e2⟩ := h; exact ⟨r, e, m.off n, e2⟩
theorem mut4 {rl hl cl o C dx : Addr} {fs : List (Str × V)} {a b c : List V} {H : Hp} (h1 : H rl = some (.lst a)) (h2 : H hl = some (.lst b)) (h3 : H cl = some (.lst c)) (h4 : H o = some (.ins C dx fs)) : Mut [rl, hl, cl, o] H := fun x hx => by
  simp only [List.mem_cons, List.not_mem_nil, or_false] at hx
  rcases hx with rfl | rfl | rfl | rfl
  · exact ⟨_, h1, fun xs z => nomatch z⟩
  · exact ⟨_, h2, fun xs z => nomatch z⟩
  · exact ⟨_, h3, fun xs z => nomatch z⟩
  · exact ⟨_, h4, fun xs z => nomatch z⟩
inductive G1 (K : PySem.W.Frag) (H3 : Hp) (cW a pr o1 o2 o3 rl hl cl : Addr) (x2 : V) (p : Pt) (n c : Nat) (xs : List Int) (i : Nat) (σ : St) (H' : Hp) : Prop
  | mk (dx1 : Addr) (sv : V) (rvs hvs cvs : List V) (x9 x10 x11 x12 : Option V) (e : σ = [some (.ref a), some (.ref pr), some x2, some (.ref o1), some (.ref o2), some (.ref o3), some (.ref rl), some (.ref hl), some (.ref cl), x9, x10, x11, x12, none, none]) (k : KpS [rl, hl, cl, o1] H3 H') (er : H' rl = some (.lst rvs)) (eh : H' hl = some (.lst hvs)) (ec : H' cl = some (.lst cvs)) (eo : H' o1 = some (.ins cW dx1 (flR sv pr))) (hs : OAt [rl, hl, cl, o1] H' (stA p n c xs i) sv)
    (pR : PrE (RowAt [rl, hl, cl, o1] H') (enA p n c xs) i rvs) (pH : PrE (PrAt [rl, hl, cl, o1] H') (enA p n c xs) i hvs) (pC : PrE (PrAt [rl, hl, cl, o1] H') (enA p n c xs) i cvs) : G1 K H3 cW a pr o1 o2 o3 rl hl cl x2 p n c xs i σ H'
inductive G2 (K : PySem.W.Frag) (H3 : Hp) (cW a pr o1 o2 o3 rl hl cl : Addr) (x2 : V) (p : Pt) (n c : Nat) (xs : List Int) (i : Nat) (σ : St) (H' : Hp) : Prop
  | mk (dx2 : Addr) (sv : V) (x9 x10 x11 x12 x14 : Option V) (e : σ = [some (.ref a), some (.ref pr), some x2, some (.ref o1), some (.ref o2), some (.ref o3), some (.ref rl), some (.ref hl), some (.ref cl), x9, x10, x11, x12, some (.int (i : Int)), x14]) (k : KpS [o2] H3 H') (eo : H' o2 = some (.ins cW dx2 (flR sv pr))) (hs : OAt [o2] H' (stA p n c xs i) sv) : G2 K H3 cW a pr o1 o2 o3 rl hl cl x2 p n c xs i σ H'
theorem prE_mono {R R' : En → V → Prop} {f : Nat → En} {i : Nat} {vs : List V} (h : PrE R f i vs) (k : ∀ e v, R e v → R' e v) : PrE R' f i vs := Paired.mapP h fun _ _ a => k _ _ a
theorem stepW_no {p : Pt} {n : Nat} {st : Option (List Int)} {cs : List Int} (h : none ∈ knW p st n cs) : stepW p n st cs = (none, st) := if_pos h
theorem stepW_ok {p : Pt} {n : Nat} {st : Option (List Int)} {cs : List Int} (h : ¬ none ∈ knW p st n cs) : stepW p n st cs = (some (areL (some true) (knW p st n cs)), some (instD p st (areL (some true) (knW p st n cs))).2.2) := if_neg h
theorem te_via {t : TE} {σ : St} {H : Hp} {Q : VK} (S : V → Hp → Prop) (h1 : ∀ Q' : VK, (∀ v H, S v H → Q' v H) → t σ H Q') (h2 : ∀ v H, S v H → Q v H) : t σ H Q := h1 Q h2
section
variable {P : Program} {w : World} {K : PySem.W.Frag} {mg : Str → Option Value} {base : Heap} {cW cR cUn : Addr}
set_option maxHeartbeats 128000000 in
theorem ok_law {f fI : Addr} {fd fdI : FuncData} (F : Fun K "law" "law" s_law f fd) (T : TxtN K mg cW cR cUn) (MkW : Mk K cW fI) (GI : FnOk P w K mg base CX0 2 fI fdI ["self", "program"] (spWI cW)) (bI : Binds K fdI ["self", "program"] []) (M_state : MethM P w K mg base 1 cW "state" ["self"] (spState K cW)) (C__law_tick : Callee P w K mg base 50 "_law_tick" ["_law_runner", "_law_coming_here"] (spTk K cW))
    (C__law_refused : Callee P w K mg base 50 "_law_refused" ["_law_runner"] (spRefu K cW)) (hIs : PySem.W.kitOne K (.ref cW) (.ref cR) = some true) (hcl : PySem.W.findIn K (.ref cW) "__class__" = some (some (.builtin "object.__class__"))) (hgs : PySem.W.specialIn K (.builtin "object.__class__") "__get__" = some (some (.builtin "getset_descriptor.__get__"))) (htk : PySem.W.takesIn K (.builtin "object.__class__") = some true) (hmr : PySem.W.mroIn K cW (.type "object") = some true)
    (C__law_program : Callee P w K mg base 33 "_law_program" ["_law_script", "_law_most"] (spProg K)) (C__law_mixed : Callee P w K mg base 1 "_law_mixed" ["_law_cell"] spMixed) (C__law_coming : Callee P w K mg base 2 "_law_coming" ["_law_cell", "_law_came"] spCome) : FnOk P w K mg base CX0 60 f fd ["_law_script"] (spLaw K) := by
  refine F.ok sc_law (fun vs H Q E h => ?_) (fun cdv A outer s H vs Q E hr h => ?_)
  · obtain ⟨a, ns, rfl, _⟩ := h; rfl
  obtain ⟨a, ns, rfl, hS, h63, q⟩ := h
  refine ⟨_, (pss_cons (ps_asg (pe_callC C__law_program hr rfl pass0 (pa_cons (pv 0) (pa_cons pe_int pa_nil))) (pg_tup rfl (pgs_cons (pg_name (i := 1) sc_law.nd rfl (Or.inl rfl)) (pgs_cons (pg_name (i := 2) sc_law.nd rfl (Or.inl rfl)) pgs_nil))))
    (pss_cons (ps_set (i := 3) sc_law.nd rfl (Or.inl rfl) (pe_make MkW GI (hr.mono (by decide)) rfl T.m_Walker bI .nil pass0 (pa_cons (pv 1) pa_nil)))
    (pss_cons (ps_set (i := 4) sc_law.nd rfl (Or.inl rfl) (pe_make MkW GI (hr.mono (by decide)) rfl T.m_Walker bI .nil pass0 (pa_cons (pv 1) pa_nil)))
    (pss_cons (ps_set (i := 5) sc_law.nd rfl (Or.inl rfl) (pe_make MkW GI (hr.mono (by decide)) rfl T.m_Walker bI .nil pass0 (pa_cons (pe_tupQ (qa_cons (qe pe_int) (qa_cons (qe pe_int) (qa_cons (qe pe_int) (qa_cons (qe_tup (qa_cons (qe pe_str) (qa_cons (qe pe_int) (qa_cons (qe_tup (qa_cons (qe pe_str) (qa_cons (qe pe_int) qa_nil star_const) star_const)) (qa_cons (qe_tup (qa_cons (qe pe_str) qa_nil star_const)) qa_nil star_tup) star_tup) star_const) star_const)) qa_nil star_tup) star_const) star_const) star_const)) pa_nil)))
    (pss_cons (ps_if (PW.pt (pw_or (pt_not (pt_val (pe_callB call_isinstO rfl T.n_isinstance PyProof.Rows.boot_isinstance (pa_cons (pv 3) (pa_cons (pe_glob (v := .ref cR) rfl T.m_Runner rfl) pa_nil))))) (pw_or1 (pt_not (pt_val (pe_callB call_isinstO rfl T.n_isinstance PyProof.Rows.boot_isinstance (pa_cons (pv 5) (pa_cons (pe_glob (v := .ref cR) rfl T.m_Runner rfl) pa_nil))))))))
      (pss_one (ps_ret pe_bl))
      pss_nil)
    (pss_cons (ps_set (i := 6) sc_law.nd rfl (Or.inl rfl) (pe_lst pa_nil))
    (pss_cons (ps_set (i := 7) sc_law.nd rfl (Or.inl rfl) (pe_lst pa_nil))
    (pss_cons (ps_set (i := 8) sc_law.nd rfl (Or.inl rfl) (pe_lst pa_nil))
    (pss_cons (ps_for PassesOwn.never rfl (pi_list (pe_op op_cat (pe_lst (pa_cons pe_int pa_nil)) (pe_slice sl_list (pv 0) po_none (po_some pe_int)))) (pg_name (i := 9) sc_law.nd rfl (Or.inl rfl))
      (pss_cons (ps_set (i := 10) sc_law.nd rfl (Or.inl rfl) (pe_callC C__law_coming hr rfl pass0 (pa_cons (pv 9) (pa_cons (pe_ix ix_tup (pv 1) pe_int (fun _ _ => rfl)) pa_nil))))
    (pss_cons (ps_expr (pe_bm PySem.F.plainAttrs_list PySem.F.slot_list_append PySem.F.type_list_append mt_append (pv 6) (pa_cons (pe_tup (pa_cons (pe_callC C__law_tick hr rfl pass0 (pa_cons (pv 3) (pa_cons (pe_callTy call_list_of rfl T.n_list (by decide +kernel) (pa_cons (pv 10) pa_nil)) pa_nil))) (pa_cons (pe_methC0 M_state hr pass0 (pv 3)) pa_nil))) pa_nil)))
    (pss_cons (ps_par (i := 11) (j := 12) rfl sc_law.nd rfl rfl (by decide) rfl rfl (pa_cons (pe_ix ix_tup (pe_ix ix_tup (pe_ix ix_list (pv 6) (pe_un un_neg pe_int) (fun _ _ => rfl)) pe_int (fun _ _ => rfl)) pe_int (fun _ _ => rfl)) (pa_cons (pe_ix ix_tup (pe_ix ix_list (pv 6) (pe_un un_neg pe_int) (fun _ _ => rfl)) pe_int (fun _ _ => rfl)) pa_nil)) rfl)
    (pss_cons (ps_expr (pe_bm PySem.F.plainAttrs_list PySem.F.slot_list_append PySem.F.type_list_append mt_append (pv 7) (pa_cons (pe_tup (pa_cons (pv 11) (pa_cons (pv 12) pa_nil))) pa_nil)))
    (pss_cons (ps_expr (pe_bm PySem.F.plainAttrs_list PySem.F.slot_list_append PySem.F.type_list_append mt_append (pv 8) (pa_cons (pe_tup (pa_cons (pe_ifExp (pt_cmpR op_isN (pv 11) pe_non (nomark _)) pe_non (pe_callTy call_list_of rfl T.n_list (by decide +kernel) (pa_cons (pv 11) pa_nil))) (pa_cons (pe_ifExp (pt_cmpR op_isN (pv 12) pe_non (nomark _)) pe_non (pe_callTy call_list_of rfl T.n_list (by decide +kernel) (pa_cons (pv 12) pa_nil))) pa_nil))) pa_nil)))
    (pss_one (ps_if (PW.pt (pw_and (pt_cmpR op_eq (pe_op op_mod (pe_op op_fdiv (pe_callC C__law_mixed hr rfl pass0 (pa_cons (pv 9) pa_nil)) pe_int) pe_int) pe_int (nomark _)) (pw_and1 (pt_not (pt_val (pe_callC C__law_refused hr rfl pass0 (pa_cons (pv 5) pa_nil)))))))
      (pss_one (ps_ret pe_bl))
      pss_nil))))))))
    (pss_cons (ps_if (PW.pt (pw_or (pt_not (pt_val (pe_callC C__law_refused hr rfl pass0 (pa_cons (pv 5) pa_nil)))) (pw_or1 (pt_cmpR op_notN (pe_methC0 M_state hr pass0 (pv 4)) pe_non (nomark _)))))
      (pss_one (ps_ret pe_bl))
      pss_nil)
    (pss_cons (ps_set (i := 13) sc_law.nd rfl (Or.inl rfl) pe_int)
    (pss_cons (ps_for PassesOwn.never rfl (pi_list (pe_op op_cat (pe_lst (pa_cons pe_int pa_nil)) (pe_slice sl_list (pv 0) po_none (po_some pe_int)))) (pg_name (i := 9) sc_law.nd rfl (Or.inl rfl))
      (pss_cons (ps_asg (pe_callC C__law_tick hr rfl pass0 (pa_cons (pv 4) (pa_cons (pe_callC C__law_coming hr rfl pass0 (pa_cons (pv 9) (pa_cons (pe_ix ix_tup (pv 1) pe_int (fun _ _ => rfl)) pa_nil))) pa_nil))) (pg_tup rfl (pgs_cons (pg_name (i := 14) sc_law.nd rfl (Or.inl rfl)) (pgs_cons (pg_name (i := 11) sc_law.nd rfl (Or.inl rfl)) pgs_nil))))
    (pss_cons (ps_if (pt_cmpR (op_neT hr.units) (pe_tup (pa_cons (pe_tup (pa_cons (pv 14) (pa_cons (pv 11) pa_nil))) (pa_cons (pe_methC0 M_state hr pass0 (pv 4)) pa_nil))) (pe_ix ix_list (pv 6) (pv 13) (fun _ _ => rfl)) (nomark _))
      (pss_one (ps_ret pe_bl))
      pss_nil)
    (pss_one (ps_set (i := 13) sc_law.nd rfl (Or.inl rfl) (pe_op op_add (pv 13) pe_int))))))
    (pss_one (ps_ret (pe_cmpR (op_eqLD hr.units) (pv 7) (pv 8) (nomark _)))))))))))))))), ?_⟩
  refine ⟨_, rfl, a, ns, rfl, hS, fun t pr c n x1 x2 vb p H1 g1 e1 e2 hc hP => ⟨t, _, rfl, SqT.of e1, rfl, _, _, rfl, _, _, rfl, rfl, ?_⟩⟩
  -- three runners
  refine ⟨_, rfl, fun o1 dx1 f1 fx1 ne1 => ⟨o1, dx1, pr, rfl, upd_same, fun H2 k2 eo1 => ⟨rfl, ?_⟩⟩⟩
  have g2 : Same H1 H2 := ((same_new fx1 _).trans (same_new (by rw [upd_ne (Ne.symm ne1)]; exact f1) _)).byKp f1 k2
  refine ⟨_, rfl, fun o2 dx2 f2 fx2 ne2 => ⟨o2, dx2, pr, rfl, upd_same, fun H3 k3 eo2 => ⟨rfl, ?_⟩⟩⟩
  have g3 : Same H2 H3 := ((same_new fx2 _).trans (same_new (by rw [upd_ne (Ne.symm ne2)]; exact f2) _)).byKp f2 k3
  refine ⟨(by show 2 ≤ sizeLine; decide), fun q1 hq1 => ⟨(by show 1 ≤ sizeLine; decide), fun q2 hq2 => ⟨(by show 4 ≤ sizeLine; decide), fun q3 hq3 => ⟨(by show 4 ≤ sizeLine; decide), fun q4 hq4 => ?_⟩⟩⟩⟩
  obtain ⟨gq, b1, b2, b3⟩ := new3 (a := .tup [V.str "send", .int 0]) (b := .tup [V.str "nothing"]) (c := .tup [V.str "if", .int 0, .ref q1, .ref q2]) hq1 hq2 hq3
  have gq4 := same_new hq4 (.tup [V.int 0, .int 1, .int 1, .ref q3])
  have eq4 := upd_same (H := upd (upd (upd H3 q1 (.tup [V.str "send", .int 0])) q2 (.tup [V.str "nothing"])) q3 (.tup [V.str "if", .int 0, .ref q1, .ref q2])) (a := q4) (o := .tup [V.int 0, .int 1, .int 1, .ref q3])
  have b1' := gq4 _ _ b1
  have b2' := gq4 _ _ b2
  have b3' := gq4 _ _ b3
  have g4 := g3.trans (gq.trans gq4)
  have eo2' := (gq.trans gq4) _ _ eo2
  generalize (upd (upd (upd (upd H3 q1 (.tup [V.str "send", .int 0])) q2 (.tup [V.str "nothing"])) q3 (.tup [V.str "if", .int 0, .ref q1, .ref q2])) q4 (.tup [V.int 0, .int 1, .int 1, .ref q3])) = H4 at eq4 b1' b2' b3' g4 eo2'
  have hPs : PgAt K H4 q4 1 pStk := ⟨⟨_, _, _, eq4, .t (.inl b3') (.cons .s (.cons .i (.cons (.t (.inl b1') (.cons .s (.cons .i .nil))) (.cons (.t (.inl b2') (.cons .s .nil)) .nil))))⟩, by decide, by decide, by decide, ⟨⟨by decide, by decide⟩, ⟨by decide, by decide⟩, trivial⟩, by decide⟩
  refine fun o3 dx3 f3 fx3 ne3 => ⟨o3, dx3, q4, rfl, upd_same, fun H5 k5 eo3 => ⟨rfl, ?_⟩⟩
  have g5 : Same H4 H5 := ((same_new fx3 _).trans (same_new (by rw [upd_ne (Ne.symm ne3)]; exact f3) _)).byKp f3 k5
  have eo1a := g5 _ _ (g4 _ _ eo1)
  have eo2a := g5 _ _ eo2'
  have n12 : o1 ≠ o2 := fun z => by rw [z, f2] at eo1; cases eo1
  have n13 : o1 ≠ o3 := fun z => by have := g4 _ _ eo1; rw [z, f3] at this; cases this
  have n23 : o2 ≠ o3 := fun z => by rw [z, f3] at eo2'; cases eo2'
  have hP5 := (hP.mono g2).mono (g4.trans g5)
  have hpr5 := (g4.trans g5) _ _ (g2 _ _ e2)
  have hPs5 := hPs.mono g5
  have gH5 := (g1.trans g2).trans (g4.trans g5)
  clear k2 k3 k5 eq4 b1' b2' b3' b1 b2 b3 gq gq4 hq1 hq2 hq3 hq4 hPs eo2' eo1 eo2 f1 f2 f3 fx1 fx2 fx3 ne1 ne2 ne3 g4 g5 g3 g2
  -- each is a runner
  have is1 : ∀ o dx fs, H5 o = some (.ins cW dx fs) → TyOf K H5 (.ref o) (.ref cW) := fun o dx fs e => .ins e T.cl hcl hgs htk hmr
  refine ⟨_, rfl, _, cR, _, true, rfl, is1 _ _ _ eo1a, hIs, _, rfl, ite2 (fun c => by cases c) fun _ => ⟨_, rfl, _, cR, _, true, rfl, is1 _ _ _ eo3, hIs, _, rfl, ite2 (fun c => by cases c) fun _ => ?_⟩⟩
  refine ⟨(by show 0 ≤ sizeLine; decide), fun rl hrl => ⟨(by show 0 ≤ sizeLine; decide), fun hl hhl => ⟨(by show 0 ≤ sizeLine; decide), fun cl hcl' => ?_⟩⟩⟩
  obtain ⟨gl, er, eh, ec⟩ := new3 (a := .lst []) (b := .lst []) (c := .lst []) hrl hhl hcl'
  have nr1 : ∀ x u, H5 x = some u → x ≠ rl := fun x u e z => by rw [z, hrl] at e; cases e
  have nh1 : ∀ x u, (upd H5 rl (.lst [])) x = some u → x ≠ hl := fun x u e z => by rw [z, hhl] at e; cases e
  have nc1 : ∀ x u, (upd (upd H5 rl (.lst [])) hl (.lst [])) x = some u → x ≠ cl := fun x u e z => by rw [z, hcl'] at e; cases e
  have s1 := same_new hrl (.lst [])
  have s2 := same_new hhl (.lst [])
  have offS : ∀ x u, H5 x = some u → x ≠ o1 → x ∉ [rl, hl, cl, o1] := fun x u e n z => by
    simp only [List.mem_cons, List.not_mem_nil, or_false] at z
    rcases z with z | z | z | z
    · exact nr1 x u e z
    · exact nh1 x u (s1 _ _ e) z
    · exact nc1 x u (s2 _ _ (s1 _ _ e)) z
    · exact n z
  have aSeq : ∀ H7 H', Same H5 H7 → KpS [rl, hl, cl, o1] H7 H' → SqL K H' a (ns.map V.int) := fun H7 H' g k => by
    rcases gH5.seq hS with (h | ⟨ob, h⟩) | h
    · exact .inl (.inl (k _ _ (offS _ _ h (fun z => by rw [z, eo1a] at h; cases h)) (g _ _ h)))
    · exact .inl (.inr ⟨ob, k _ _ (offS _ _ h (fun z => by rw [z, eo1a] at h; cases h)) (g _ _ h)⟩)
    · exact .inr h
  have nrh : rl ≠ hl := nh1 rl _ upd_same
  have nrc : rl ≠ cl := nc1 rl _ (s2 _ _ upd_same)
  have nhc : hl ≠ cl := nc1 hl _ upd_same
  have nro : rl ≠ o1 := fun z => nr1 o1 _ eo1a z.symm
  have nho : hl ≠ o1 := fun z => nh1 o1 _ (s1 _ _ eo1a) z.symm
  have nco : cl ≠ o1 := fun z => nc1 o1 _ (s2 _ _ (s1 _ _ eo1a)) z.symm
  have o2S := offS _ _ eo2a (Ne.symm n12)
  have o3S := offS _ _ eo3 (Ne.symm n13)
  have eo1b := gl _ _ eo1a
  have eo2b := gl _ _ eo2a
  have eo3b := gl _ _ eo3
  have hP6 := hP5.mono gl
  have hpr6 := gl _ _ hpr5
  have hPs6 := hPs5.mono gl
  have gH6 := gH5.trans gl
  generalize (upd (upd (upd H5 rl (.lst [])) hl (.lst [])) cl (.lst [])) = H6 at gl er eh ec eo1b eo2b eo3b hP6 hpr6 hPs6 gH6
  clear offS nr1 nh1 nc1 s1 s2 hrl hhl hcl' eo1a eo2a eo3 hP5 hpr5 hPs5 is1
  -- the cells
  refine ⟨(by show 1 ≤ sizeLine; decide), fun l0 hl0 => ?_⟩
  have k0 := same_new hl0 (.lst [V.int 0])
  have el0 := upd_same (H := H6) (a := l0) (o := .lst [V.int 0])
  refine ⟨_, rfl, _, rfl, a, _, rfl, (gH6.trans k0).seq hS, fun l1 hl1 => ?_⟩
  rw [show cutV (ns.map V.int) none (some 10) = (ns.map V.int).take 10 from cut_to _ 10, ← List.map_take]
  have k1 := same_new hl1 (.lst ((ns.take 10).map V.int))
  have len10 : (ns.take 10).length ≤ 10 := by rw [List.length_take]; omega
  refine ⟨l0, l1, _, _, rfl, rfl, k1 _ _ el0, upd_same, small (by rw [List.length_map]; show 1 + _ ≤ _; omega), fun l2 hl2 => ?_⟩
  have k2 := same_new hl2 (.lst ([V.int 0] ++ (ns.take 10).map V.int))
  have g7 := (k0.trans k1).trans k2
  have hlst : (upd (upd (upd H6 l0 (.lst [V.int 0])) l1 (.lst ((ns.take 10).map V.int))) l2 (.lst ([V.int 0] ++ (ns.take 10).map V.int))) l2 = some (.lst ((0 :: ns.take 10).map V.int)) := upd_same
  have mut6 := mut4 er eh ec eo1b
  have l2S : l2 ∉ [rl, hl, cl, o1] := ((mut6.mono k0).mono k1).off hl2
  have er7 := g7 _ _ er
  have eh7 := g7 _ _ eh
  have ec7 := g7 _ _ ec
  have eo1c := g7 _ _ eo1b
  have eo2c := g7 _ _ eo2b
  have eo3c := g7 _ _ eo3b
  have hP7 := hP6.mono g7
  have hpr7 := g7 _ _ hpr6
  have hPs7 := hPs6.mono g7
  have mut7 := mut6.mono g7
  have gH7 := gH6.trans g7
  have g57 := gl.trans g7
  generalize (upd (upd (upd H6 l0 (.lst [V.int 0])) l1 (.lst ((ns.take 10).map V.int))) l2 (.lst ([V.int 0] ++ (ns.take 10).map V.int))) = H7 at hlst er7 eh7 ec7 eo1c eo2c eo3c hP7 hpr7 hPs7 mut7 gH7 g57
  have prS : pr ∉ [rl, hl, cl, o1] := mut7.offT hpr7
  clear gl er eh ec eo1b eo2b eo3b hP6 hpr6 hPs6 mut6 g7 k0 k1 k2 hl0 hl1 hl2 el0 gH6 gH5
  have cells : ∀ {i : Nat} {y : V}, ((0 :: ns.take 10).map V.int)[i]? = some y → y = V.int ((0 :: ns.take 10).getD i 0) ∧ i < 11 := fun {i y} hi => by
    rw [List.getElem?_map] at hi
    cases e : (0 :: ns.take 10)[i]? with
    | none => rw [e] at hi; cases hi
    | some c =>
      rw [e] at hi
      refine ⟨?_, ?_⟩
      · rw [List.getD_eq_getElem?_getD, e]; exact (Option.some.inj hi).symm
      · have := (List.getElem?_eq_some_iff.mp e).1
        rw [List.length_cons] at this
        omega
  generalize hxs : (0 :: ns.take 10) = xs at cells hlst
  have lxs : xs.length ≤ 11 := by rw [← hxs, List.length_cons]; omega
  refine ⟨l2, rfl, ⟨_, SqL.of hlst⟩, for_list (K := K) (a := l2) (xs := xs.map V.int) (fun i σ H' => G1 K H7 cW a pr o1 o2 o3 rl hl cl x2 p n c xs i σ H') ⟨dx1, .non, [], [], [], none, none, none, none, rfl, KpS.refl _ _, er7, eh7, ec7, eo1c, rfl, .nil, .nil, .nil⟩ (fun i σ H' _ z => by obtain ⟨_, _, _, _, _, _, _, _, _, _, k, _⟩ := z; exact SqL.of (k _ _ l2S hlst)) ?_ ?_⟩
  · -- one cell
    rintro i y σ H8 hi ⟨dx1, sv, rvs, hvs, cvs, x9, x10, x11, x12, rfl, k8, er8, eh8, ec8, eo8, hs8, pR, pH, pC⟩
    obtain ⟨rfl, i11⟩ := cells hi
    have m8 := mut4 er8 eh8 ec8 eo8
    have hP8 := hP7.kpS mut7 k8
    have hpr8 := k8 _ _ prS hpr7
    have lr := prE_len pR
    have lh := prE_len pH
    have lc := prE_len pC
    refine ⟨_, rfl, _, rfl, pr, _, _, _, rfl, rfl, SqT.of hpr8, atI_nat (j := 0) rfl, _, c, rfl, Nat.le_trans hc hP8.nb, fun rc hrc => ?_⟩
    have gc := same_new hrc (.lst ((comeV (xs.getD i 0) c).map V.int))
    have erc := upd_same (H := H8) (a := rc) (o := .lst ((comeV (xs.getD i 0) c).map V.int))
    have lcs : (comeV (xs.getD i 0) c).length ≤ 30 := Nat.le_trans (comeV_len _ _) (Nat.le_trans hc hP8.nb)
    have hnub := nub_id (comeV_rise (xs.getD i 0) c)
    refine ⟨_, rfl, .inl ⟨rfl, _, SqL.of (gc _ _ er8)⟩, ta_via (fun vs H9 => ∃ t9 sv', vs = [.ref t9] ∧ KpS [rl, hl, cl, o1] H8 H9 ∧ H9 rl = some (.lst rvs) ∧ H9 hl = some (.lst hvs) ∧ H9 cl = some (.lst cvs) ∧ H9 o1 = some (.ins cW dx1 (flR sv' pr)) ∧ OAt [rl, hl, cl, o1] H9 (stA p n c xs (i + 1)) sv' ∧ RowAt [rl, hl, cl, o1] H9 (enA p n c xs i) (.ref t9)) (fun Q' k => ?_) ?_⟩
    · refine ⟨_, rfl, _, rfl, rc, _, rfl, .inl (SqL.of erc), fun l5 hl5 => ?_⟩
      have g5 := gc.trans (same_new hl5 (.lst ((comeV (xs.getD i 0) c).map V.int)))
      have m5 := m8.mono g5
      have eo5 := g5 _ _ eo8
      refine ⟨o1, dx1, pr, l5, sv, stA p n c xs i, n, p, comeV (xs.getD i 0) c, rfl, eo5, hP8.mono g5, (hs8.kp (Same.kpS g5)).st, SqL.of upd_same, by omega, fun hn t7 H9 g9 et9 => ?_, fun hn t7 r7 b7 H9 k9 eo9 et9 fr9 fb9 ne9 er9 eb9 => ?_⟩
      · rw [hnub] at hn
        have eE : enA p n c xs i = (none, stA p n c xs i) := stepW_no hn
        have eo9 := g9 _ _ eo5
        have g59 := g5.trans g9
        refine ⟨_, rfl, o1, dx1, _, rfl, eo9, rfl, o1, dx1, pr, sv, stA p n c xs i, rfl, eo9, (hs8.kp (Same.kpS g59)).st, fun v8 HA gA cp => ⟨(by show 2 ≤ sizeLine; decide), fun t9 ht9 => ?_⟩⟩
        have k9 := same_new ht9 (.tup [.ref t7, v8])
        have gg := (g59.trans gA).trans k9
        have mA := (m8.mono g59).mono gA
        refine k _ _ ⟨t9, sv, rfl, Same.kpS gg, gg _ _ er8, gg _ _ eh8, gg _ _ ec8, gg _ _ eo8, ?_, t7, t9, .non, v8, rfl, (m8.mono g59).offT et9, mA.off ht9, upd_same, ?_, ?_, ?_⟩
        · show OAt _ _ (enA p n c xs i).2 sv
          rw [eE]
          exact hs8.kp (Same.kpS gg)
        · rw [eE]; exact k9 _ _ (gA _ _ et9)
        · rw [eE]; rfl
        · rw [eE]; exact (CpAt.o (m8.mono g59) cp).kp (Same.kpS k9)
      · rw [hnub] at hn er9 eb9
        have eE := stepW_ok hn
        have eE : enA p n c xs i = _ := eE
        have m5' : Mut [rl, hl, cl, o1] H9 := mut4 (k9 _ _ nro (g5 _ _ er8)) (k9 _ _ nho (g5 _ _ eh8)) (k9 _ _ nco (g5 _ _ ec8)) eo9
        refine ⟨_, rfl, o1, dx1, _, rfl, eo9, rfl, o1, dx1, pr, .ref b7, some (instD p (stA p n c xs i) (areL (some true) (knW p (stA p n c xs i) n (comeV (xs.getD i 0) c)))).2.2, rfl, eo9, ⟨b7, rfl, SqL.of eb9⟩, fun v8 HA gA cp => ⟨(by show 2 ≤ sizeLine; decide), fun t9 ht9 => ?_⟩⟩
        have kt := same_new ht9 (.tup [.ref t7, v8])
        have gg := gA.trans kt
        have kk : KpS [rl, hl, cl, o1] H8 (upd HA t9 (.tup [.ref t7, v8])) := ((Same.kpS g5).trans (Kp.kpS k9 mem4.2.2.2)).trans (Same.kpS gg)
        refine k _ _ ⟨t9, .ref b7, rfl, kk, gg _ _ (k9 _ _ nro (g5 _ _ er8)), gg _ _ (k9 _ _ nho (g5 _ _ eh8)), gg _ _ (k9 _ _ nco (g5 _ _ ec8)), gg _ _ eo9, ?_, t7, t9, .ref r7, v8, rfl, m5'.offT et9, (m5'.mono gA).off ht9, upd_same, ?_, ?_, ?_⟩
        · show OAt _ _ (enA p n c xs i).2 (.ref b7)
          rw [eE]
          exact ⟨b7, rfl, m5.off fb9, gg _ _ eb9⟩
        · rw [eE]; exact gg _ _ et9
        · rw [eE]; exact ⟨r7, rfl, m5.off fr9, gg _ _ er9⟩
        · rw [eE]; exact (CpAt.o m5' cp).kp (Same.kpS kt)
    rintro _ H9 ⟨t9, sv', rfl, k9, er9, eh9, ec9, eo9, hs9, row⟩
    refine ⟨rl, _, _, rfl, rfl, er9, small1000 (by omega), ?_⟩
    have kA : KpS [rl, hl, cl, o1] H9 (upd H9 rl (.lst (rvs ++ [.ref t9]))) := KpS.upd mem4.1
    have erA := upd_same (H := H9) (a := rl) (o := .lst (rvs ++ [.ref t9]))
    have ehA : (upd H9 rl (.lst (rvs ++ [.ref t9]))) hl = some (.lst hvs) := by rw [upd_ne (Ne.symm nrh)]; exact eh9
    have ecA : (upd H9 rl (.lst (rvs ++ [.ref t9]))) cl = some (.lst cvs) := by rw [upd_ne (Ne.symm nrc)]; exact ec9
    have eoA : (upd H9 rl (.lst (rvs ++ [.ref t9]))) o1 = some (.ins cW dx1 (flR sv' pr)) := by rw [upd_ne (Ne.symm nro)]; exact eo9
    have hsA := hs9.kp kA
    have rowA := row.kp kA
    have k8A := k9.trans kA
    generalize (upd H9 rl (.lst (rvs ++ [.ref t9]))) = HA at erA ehA ecA eoA hsA rowA k8A
    obtain ⟨t1, t2, fv, sw, e0, n1, n2, a1, a2, of, os⟩ := rowA
    cases e0
    have eN : ∀ z : Nat, (rvs ++ [V.ref t9])[(rvs ++ [V.ref t9]).length - 1]? = some (V.ref t9) := fun _ => by simp
    refine ⟨_, rfl, _, rfl, rl, _, _, _, rfl, rfl, SqL.of erA, atI_neg1 (eN 0), t9, _, _, _, rfl, rfl, SqT.of a1, atI_nat (j := 0) rfl, t1, _, _, _, rfl, rfl, SqT.of a2, atI_nat (j := 1) rfl, _, rfl, _, rfl, rl, _, _, _, rfl, rfl, SqL.of erA, atI_neg1 (eN 0), t9, _, _, _, rfl, rfl, SqT.of a1, atI_nat (j := 1) rfl, _, _, rfl, ?_⟩
    -- held
    refine ⟨_, rfl, .inl ⟨rfl, _, SqL.of ehA⟩, _, rfl, _, rfl, (by show 2 ≤ sizeLine; decide), fun tB htB => ?_⟩
    have kB := same_new htB (.tup [fv, sw])
    have mA := mut4 erA ehA ecA eoA
    refine ⟨hl, _, _, rfl, rfl, kB _ _ ehA, small1000 (by omega), ?_⟩
    have kC : KpS [rl, hl, cl, o1] HA (upd (upd HA tB (.tup [fv, sw])) hl (.lst (hvs ++ [.ref tB]))) := (Same.kpS kB).trans (KpS.upd mem4.2.1)
    have erC : (upd (upd HA tB (.tup [fv, sw])) hl (.lst (hvs ++ [.ref tB]))) rl = some (.lst (rvs ++ [.ref t9])) := by rw [upd_ne nrh]; exact kB _ _ erA
    have ehC := upd_same (H := upd HA tB (.tup [fv, sw])) (a := hl) (o := .lst (hvs ++ [.ref tB]))
    have ecC : (upd (upd HA tB (.tup [fv, sw])) hl (.lst (hvs ++ [.ref tB]))) cl = some (.lst cvs) := by rw [upd_ne (Ne.symm nhc)]; exact kB _ _ ecA
    have eoC : (upd (upd HA tB (.tup [fv, sw])) hl (.lst (hvs ++ [.ref tB]))) o1 = some (.ins cW dx1 (flR sv' pr)) := by rw [upd_ne (Ne.symm nho)]; exact kB _ _ eoA
    have tBS := mA.off htB
    have etB : (upd (upd HA tB (.tup [fv, sw])) hl (.lst (hvs ++ [.ref tB]))) tB = some (.tup [fv, sw]) := by rw [upd_ne (show tB ≠ hl from fun z => tBS (by rw [z]; exact mem4.2.1))]; exact upd_same
    have ofC := of.kp kC
    have osC := os.kp kC
    have hsC := hsA.kp kC
    have rowC : RowAt [rl, hl, cl, o1] _ (enA p n c xs i) (.ref t9) := RowAt.kp kC ⟨t1, t9, fv, sw, rfl, n1, n2, a1, a2, of, os⟩
    have heldC : PrAt [rl, hl, cl, o1] _ (enA p n c xs i) (.ref tB) := ⟨tB, fv, sw, rfl, tBS, etB, ofC, osC⟩
    have k8C := k8A.trans kC
    generalize (upd (upd HA tB (.tup [fv, sw])) hl (.lst (hvs ++ [.ref tB]))) = HC at erC ehC ecC eoC ofC osC hsC rowC heldC k8C
    clear a1 a2 of os etB kB mA erA ehA ecA eoA hsA kC kA
    have mC := mut4 erC ehC ecC eoC
    -- copies
    refine ⟨_, rfl, .inl ⟨rfl, _, SqL.of ecC⟩, ta_via (fun vs HE => ∃ tE, vs = [.ref tE] ∧ Same HC HE ∧ PrAt [rl, hl, cl, o1] HE (enA p n c xs i) (.ref tE)) (fun Q' k => ?_) ?_⟩
    · have two : ∀ (u1 : V) (HD : Hp), Same HC HD → OAt [rl, hl, cl, o1] HD (enA p n c xs i).1 u1 → (tIf (tTest (tOp (fun x y H Q => y = .non ∧ Q (.bl (decide (x = .non))) H) (tVar 12) (tC .non))) (tC .non) (tCB (fun xs H Q => ∃ p ys, xs = [.ref p] ∧ (SqL K H p ys ∨ SqT K H p ys) ∧ ∀ l, H l = none → Q (.ref l) (upd H l (.lst ys))) (tCons (tVar 12) tNil))) [some (.ref a), some (.ref pr), some x2, some (.ref o1), some (.ref o2), some (.ref o3), some (.ref rl), some (.ref hl), some (.ref cl), some (.int (xs.getD i 0)), some (.ref rc), some fv, some sw, none, none] HD (fun x H1 => tNil [some (.ref a), some (.ref pr), some x2, some (.ref o1), some (.ref o2), some (.ref o3), some (.ref rl), some (.ref hl), some (.ref cl), some (.int (xs.getD i 0)), some (.ref rc), some fv, some sw, none, none] H1 (fun ys H2 => (u1 :: x :: ys).length ≤ sizeLine ∧ ∀ q, H2 q = none → tNil [some (.ref a), some (.ref pr), some x2, some (.ref o1), some (.ref o2), some (.ref o3), some (.ref rl), some (.ref hl), some (.ref cl), some (.int (xs.getD i 0)), some (.ref rc), some fv, some sw, none, none] (upd H2 q (.tup (u1 :: x :: ys))) (fun zs H3 => Q' (.ref q :: zs) H3))) := by
        intro u1 HD gD o1'
        cases eS : (enA p n c xs i).2 with
        | none =>
          rw [eS] at osC
          cases (show sw = .non from osC)
          refine ⟨_, rfl, rfl, _, rfl, iteT ⟨(by show 2 ≤ sizeLine; decide), fun q hq => k _ _ ⟨q, rfl, gD.trans (same_new hq _), q, u1, .non, rfl, (mC.mono gD).off hq, upd_same, o1'.kp (Same.kpS (same_new hq _)), by rw [eS]; rfl⟩⟩⟩
        | some ms =>
          rw [eS] at osC
          obtain ⟨r, rfl, nS, es⟩ := osC
          refine ⟨_, rfl, rfl, _, rfl, iteF ⟨_, rfl, r, _, rfl, .inl (SqL.of (gD _ _ es)), fun l hl' => ⟨(by show 2 ≤ sizeLine; decide), fun q hq => ?_⟩⟩⟩
          have kl := same_new hl' (.lst (ms.map V.int))
          have kq := same_new hq (.tup [u1, .ref l])
          exact k _ _ ⟨q, rfl, (gD.trans kl).trans kq, q, u1, .ref l, rfl, ((mC.mono gD).mono kl).off hq, upd_same, o1'.kp (Same.kpS (kl.trans kq)), by rw [eS]; exact ⟨l, rfl, (mC.mono gD).off hl', kq _ _ upd_same⟩⟩
      cases eF : (enA p n c xs i).1 with
      | none =>
        rw [eF] at ofC
        cases (show fv = .non from ofC)
        exact ⟨_, rfl, rfl, _, rfl, iteT (two .non HC (Same.refl _) (by rw [eF]; rfl))⟩
      | some ms =>
        rw [eF] at ofC
        obtain ⟨r, rfl, nS, es⟩ := ofC
        refine ⟨_, rfl, rfl, _, rfl, iteF ⟨_, rfl, r, _, rfl, .inl (SqL.of es), fun l hl' => ?_⟩⟩
        exact two (.ref l) _ (same_new hl' _) (by rw [eF]; exact ⟨l, rfl, mC.off hl', upd_same⟩)
    rintro _ HE ⟨tE, rfl, gE, copyE⟩
    refine ⟨cl, _, _, rfl, rfl, gE _ _ ecC, small1000 (by omega), ?_⟩
    have kF : KpS [rl, hl, cl, o1] HC (upd HE cl (.lst (cvs ++ [.ref tE]))) := (Same.kpS gE).trans (KpS.upd mem4.2.2.1)
    have kF' : KpS [rl, hl, cl, o1] HE (upd HE cl (.lst (cvs ++ [.ref tE]))) := KpS.upd mem4.2.2.1
    have erF : (upd HE cl (.lst (cvs ++ [.ref tE]))) rl = some (.lst (rvs ++ [.ref t9])) := by rw [upd_ne nrc]; exact gE _ _ erC
    have ehF : (upd HE cl (.lst (cvs ++ [.ref tE]))) hl = some (.lst (hvs ++ [.ref tB])) := by rw [upd_ne nhc]; exact gE _ _ ehC
    have ecF := upd_same (H := HE) (a := cl) (o := .lst (cvs ++ [.ref tE]))
    have eoF : (upd HE cl (.lst (cvs ++ [.ref tE]))) o1 = some (.ins cW dx1 (flR sv' pr)) := by rw [upd_ne (Ne.symm nco)]; exact gE _ _ eoC
    have hsF := hsC.kp kF
    have rowF := rowC.kp kF
    have heldF := heldC.kp kF
    have copyF := copyE.kp kF'
    have k8F := k8C.trans kF
    generalize (upd HE cl (.lst (cvs ++ [.ref tE]))) = HF at erF ehF ecF eoF hsF rowF heldF copyF k8F
    have pRF := prE_snoc (prE_mono pR fun _ _ z => z.kp k8F) rowF
    have pHF := prE_snoc (prE_mono pH fun _ _ z => z.kp k8F) heldF
    have pCF := prE_snoc (prE_mono pC fun _ _ z => z.kp k8F) copyF
    have k7F := k8.trans k8F
    have fin : ∀ HG, Same HF HG → G1 K H7 cW a pr o1 o2 o3 rl hl cl x2 p n c xs (i + 1) [some (.ref a), some (.ref pr), some x2, some (.ref o1), some (.ref o2), some (.ref o3), some (.ref rl), some (.ref hl), some (.ref cl), some (.int (xs.getD i 0)), some (.ref rc), some fv, some sw, none, none] HG := fun HG g => ⟨dx1, sv', _, _, _, _, _, _, _, rfl, k7F.trans (Same.kpS g), g _ _ erF, g _ _ ehF, g _ _ ecF, g _ _ eoF, hsF.kp (Same.kpS g), prE_mono pRF fun _ _ z => z.kp (Same.kpS g), prE_mono pHF fun _ _ z => z.kp (Same.kpS g), prE_mono pCF fun _ _ z => z.kp (Same.kpS g)⟩
    refine ⟨_, rfl, _, rfl, _, _, rfl, rfl, ⟨by decide, by decide⟩, _, _, rfl, rfl, (by show (0 : Int) < 4; decide), rfl, _, rfl, ite2 (fun _ => ?_) fun _ => iteF (fin _ (Same.refl _))⟩
    exact ⟨_, rfl, o3, dx3, q4, rfl, k7F _ _ o3S eo3c, hPs7.kpS mut7 k7F, fun HG gG => ⟨_, rfl, iteF (fin _ gG)⟩⟩
  · -- behind the cells
    rintro σ H8 ⟨dx1, sv, rvs, hvs, cvs, x9, x10, x11, x12, rfl, k8, er8, eh8, ec8, eo8, hs8, pR, pH, pC⟩
    rw [List.length_map] at pR pH pC
    have eo2d := k8 _ _ o2S eo2c
    refine ⟨_, rfl, o3, dx3, q4, rfl, k8 _ _ o3S eo3c, hPs7.kpS mut7 k8, fun H9 g9 => ⟨_, rfl, ite2 (fun c => by cases c) fun _ => ?_⟩⟩
    have eo2e := g9 _ _ eo2d
    refine ⟨_, rfl, o2, dx2, _, rfl, eo2e, rfl, o2, dx2, pr, .non, none, rfl, eo2e, rfl, fun v H10 g10 cp => ?_⟩
    cases (show v = .non from cp)
    refine ⟨rfl, _, rfl, ite2 (fun c => absurd c (by decide +kernel)) fun _ => ?_⟩
    have g810 := g9.trans g10
    have k10 := k8.trans (Same.kpS g810)
    have hP10 := hP7.kpS mut7 k10
    have hpr10 := k10 _ _ prS hpr7
    have eo2f := g810 _ _ eo2d
    have er10 := g810 _ _ er8
    have eh10 := g810 _ _ eh8
    have ec10 := g810 _ _ ec8
    have pR10 := prE_mono pR fun _ _ z => z.kp (Same.kpS g810)
    have pH10 := prE_mono pH fun _ _ z => z.kp (Same.kpS g810)
    have pC10 := prE_mono pC fun _ _ z => z.kp (Same.kpS g810)
    have m8 := mut4 er10 eh10 ec10 (g810 _ _ eo8)
    have sSeq : SqL K H10 a (ns.map V.int) := aSeq H7 H10 g57 k10
    have n2r : rl ≠ o2 := fun z => o2S (z ▸ mem4.1)
    have n2h : hl ≠ o2 := fun z => o2S (z ▸ mem4.2.1)
    have n2c : cl ≠ o2 := fun z => o2S (z ▸ mem4.2.2.1)
    have npo : pr ≠ o2 := fun z => by rw [z, eo2f] at hpr10; cases hpr10
    have sub2 : ∀ {e : En} {v : V} {H : Hp}, RowAt [rl, hl, cl, o1] H e v → H o2 = some (.ins cW dx2 (flR .non pr)) → RowAt [o2] H e v := fun {e v H} h ho => by
      obtain ⟨t1, t2, fv, sw, e1, m1, m2, a1, a2, of, os⟩ := h
      have off : ∀ {r : Addr} {u : HO}, H r = some u → (∀ C dx fs, u ≠ .ins C dx fs) → r ∉ [o2] := fun {r u} e n z => by
        rw [List.mem_singleton.mp z, ho] at e
        cases e
        exact n _ _ _ rfl
      have oo : ∀ {f : Option (List Int)} {v : V}, OAt [rl, hl, cl, o1] H f v → OAt [o2] H f v := fun {f v} h => by
        cases f with
        | none => exact h
        | some ns => obtain ⟨r, e, _, e2⟩ := h; exact ⟨r, e, off e2 (fun _ _ _ z => nomatch z), e2⟩
      exact ⟨t1, t2, fv, sw, e1, off a2 (fun _ _ _ z => nomatch z), off a1 (fun _ _ _ z => nomatch z), a1, a2, oo of, oo os⟩
    have pR11 : PrE (RowAt [o2] H10) (enA p n c xs) xs.length rvs := prE_mono pR10 fun _ _ z => sub2 z eo2f
    have held : ∀ {H' : Hp}, KpS [o2] H10 H' → ∀ (i : Nat) (x y : V), hvs[i]? = some x → cvs[i]? = some y → EqD K H' 2 x y := fun {H'} k i x y h1 h2 => by
      obtain ⟨u1, f1, w1, rfl, _, b1, c1, d1⟩ := prE_at pH10 h1
      obtain ⟨u2, f2, w2, rfl, _, b2, c2, d2⟩ := prE_at pC10 h2
      have off : ∀ {r : Addr} {u : HO}, H10 r = some u → (∀ C dx fs, u ≠ .ins C dx fs) → r ∉ [o2] := fun {r u} e n z => by
        rw [List.mem_singleton.mp z, eo2f] at e
        cases e
        exact n _ _ _ rfl
      have oo : ∀ {f : Option (List Int)} {v : V}, OAt [rl, hl, cl, o1] H10 f v → OAt [o2] H' f v := fun {f v} h => by
        cases f with
        | none => exact h
        | some ns => obtain ⟨r, e, _, e2⟩ := h; exact ⟨r, e, off e2 (fun _ _ _ z => nomatch z), k _ _ (off e2 (fun _ _ _ z => nomatch z)) e2⟩
      have a1 := k _ _ (off b1 (fun _ _ _ z => nomatch z)) b1
      have a2 := k _ _ (off b2 (fun _ _ _ z => nomatch z)) b2
      refine .tup (SqT.of a1) (SqT.of a2) rfl fun j x y hx hy => ?_
      match j, hx, hy with
      | 0, hx, hy => cases hx; cases hy; exact OAt.eqd (oo c1) (oo c2)
      | 1, hx, hy => cases hx; cases hy; exact OAt.eqd (oo d1) (oo d2)
      | j + 2, hx, hy => simp at hx
    have eh12 : ∀ {H' : Hp}, KpS [o2] H10 H' → H' hl = some (.lst hvs) ∧ H' cl = some (.lst cvs) ∧ H' rl = some (.lst rvs) := fun {H'} k => ⟨k _ _ (fun z => n2h (List.mem_singleton.mp z)) eh10, k _ _ (fun z => n2c (List.mem_singleton.mp z)) ec10, k _ _ (fun z => n2r (List.mem_singleton.mp z)) er10⟩
    have lh := prE_len pH10
    have lc := prE_len pC10
    have mo : Mut [o2] H10 := fun b hb => by rw [List.mem_singleton.mp hb]; exact ⟨_, eo2f, fun xs z => nomatch z⟩
    -- the cells again
    refine ⟨(by show 1 ≤ sizeLine; decide), fun l0 hl0 => ?_⟩
    have k0 := same_new hl0 (.lst [V.int 0])
    have el0 := upd_same (H := H10) (a := l0) (o := .lst [V.int 0])
    refine ⟨_, rfl, _, rfl, a, _, rfl, k0.seq sSeq, fun l1 hl1 => ?_⟩
    rw [show cutV (ns.map V.int) none (some 10) = (ns.map V.int).take 10 from cut_to _ 10, ← List.map_take]
    have k1 := same_new hl1 (.lst ((ns.take 10).map V.int))
    refine ⟨l0, l1, _, _, rfl, rfl, k1 _ _ el0, upd_same, small (by rw [List.length_map]; show 1 + _ ≤ _; omega), fun l3 hl3 => ?_⟩
    have k2 := same_new hl3 (.lst ([V.int 0] ++ (ns.take 10).map V.int))
    have g11 := (k0.trans k1).trans k2
    have hl3S : l3 ∉ [o2] := ((mo.mono k0).mono k1).off hl3
    have hlst3 : (upd (upd (upd H10 l0 (.lst [V.int 0])) l1 (.lst ((ns.take 10).map V.int))) l3 (.lst ([V.int 0] ++ (ns.take 10).map V.int))) l3 = some (.lst (xs.map V.int)) := by rw [← hxs]; exact upd_same
    have eo11 := g11 _ _ eo2f
    have mo11 := mo.mono g11
    have hP11 := hP10.mono g11
    have hpr11 := g11 _ _ hpr10
    have kb : KpS [o2] H10 _ := Same.kpS g11
    generalize (upd (upd (upd H10 l0 (.lst [V.int 0])) l1 (.lst ((ns.take 10).map V.int))) l3 (.lst ([V.int 0] ++ (ns.take 10).map V.int))) = H11 at hlst3 eo11 mo11 hP11 hpr11 kb
    refine ⟨l3, rfl, ⟨_, SqL.of hlst3⟩, for_list (K := K) (a := l3) (xs := xs.map V.int) (fun i σ H' => G2 K H11 cW a pr o1 o2 o3 rl hl cl x2 p n c xs i σ H') ⟨dx2, .non, _, _, _, _, _, rfl, KpS.refl _ _, eo11, rfl⟩ (fun i σ H' _ z => by obtain ⟨_, _, _, _, _, _, _, _, k, _⟩ := z; exact SqL.of (k _ _ hl3S hlst3)) ?_ ?_⟩
    · rintro i y σ H12 hi ⟨dx2, sv, y9, y10, y11, y12, y14, rfl, k12, eo12, hs12⟩
      have hil : i < xs.length := by have := (List.getElem?_eq_some_iff.mp hi).1; rwa [List.length_map] at this
      obtain ⟨rfl, i11⟩ := cells hi
      have hP12 := hP11.kpS mo11 k12
      have hpr12 := k12 _ _ (fun z => npo (List.mem_singleton.mp z)) hpr11
      have mo12 : Mut [o2] H12 := fun b hb => by rw [List.mem_singleton.mp hb]; exact ⟨_, eo12, fun xs z => nomatch z⟩
      have lcs : (comeV (xs.getD i 0) c).length ≤ 30 := Nat.le_trans (comeV_len _ _) (Nat.le_trans hc hP12.nb)
      have hnub := nub_id (comeV_rise (xs.getD i 0) c)
      dsimp only [gName, tSeq, tAsg, tC]
      refine te_via (fun v H' => ∃ t fv sv', v = .ref t ∧ KpS [o2] H12 H' ∧ H' t = some (.tup [.str (wdE (enA p n c xs i)), fv]) ∧ OAt [o2] H' (enA p n c xs i).1 fv ∧ H' o2 = some (.ins cW dx2 (flR sv' pr)) ∧ OAt [o2] H' (stA p n c xs (i + 1)) sv') (fun Q' k => ?_) ?_
      · refine ⟨_, rfl, _, rfl, _, rfl, pr, _, _, _, rfl, rfl, SqT.of hpr12, atI_nat (j := 0) rfl, _, c, rfl, Nat.le_trans hc hP12.nb, fun rc hrc => ?_⟩
        have gc := same_new hrc (.lst ((comeV (xs.getD i 0) c).map V.int))
        have eoc := gc _ _ eo12
        refine ⟨o2, dx2, pr, rc, sv, stA p n c xs i, n, p, comeV (xs.getD i 0) c, rfl, eoc, hP12.mono gc, (hs12.kp (Same.kpS gc)).st, SqL.of upd_same, by omega, fun hn t7 H9 g9 et9 => ?_, fun hn t7 r7 b7 H9 k9 eo9 et9 fr9 fb9 ne9 er9 eb9 => ?_⟩
        · rw [hnub] at hn
          have eE : enA p n c xs i = (none, stA p n c xs i) := stepW_no hn
          have gg := gc.trans g9
          refine k _ _ ⟨t7, .non, sv, rfl, Same.kpS gg, by rw [eE]; exact et9, by rw [eE]; rfl, gg _ _ eo12, ?_⟩
          show OAt _ _ (enA p n c xs i).2 sv
          rw [eE]
          exact hs12.kp (Same.kpS gg)
        · rw [hnub] at hn er9 eb9
          have eE : enA p n c xs i = _ := stepW_ok hn
          have moc := mo12.mono gc
          refine k _ _ ⟨t7, .ref r7, .ref b7, rfl, (Same.kpS gc).trans (Kp.kpS k9 (List.mem_singleton.mpr rfl)), by rw [eE]; exact et9, by rw [eE]; exact ⟨r7, rfl, moc.off fr9, er9⟩, eo9, ?_⟩
          show OAt _ _ (enA p n c xs i).2 (.ref b7)
          rw [eE]
          exact ⟨b7, rfl, moc.off fb9, eb9⟩
      rintro _ H13 ⟨t, fv, sv', rfl, k13, et, of, eo13, hs13⟩
      refine ⟨t, _, rfl, SqT.of et, rfl, _, _, rfl, _, _, rfl, rfl, ?_⟩
      have k1013 := (kb.trans k12).trans k13
      obtain ⟨_, _, er13⟩ := eh12 k1013
      have lr := prE_len pR11
      obtain ⟨rv, erv⟩ : ∃ rv, rvs[i]? = some rv := ⟨_, List.getElem?_eq_getElem (by omega)⟩
      obtain ⟨t1, t2, fw, sw, rfl, m1, m2, a1, a2, of2, os2⟩ := (prE_at pR11 erv).kp k1013
      refine ⟨_, rfl, _, rfl, (by show 2 ≤ sizeLine; decide), fun u1 hu1 => ?_⟩
      have j1 := same_new hu1 (.tup [.str (wdE (enA p n c xs i)), fv])
      refine ⟨_, rfl, o2, dx2, _, rfl, j1 _ _ eo13, rfl, o2, dx2, pr, sv', stA p n c xs (i + 1), rfl, j1 _ _ eo13, (hs13.kp (Same.kpS j1)).st, fun v8 H14 g14 cp => ⟨(by show 2 ≤ sizeLine; decide), fun u2 hu2 => ?_⟩⟩
      have j2 := same_new hu2 (.tup [.ref u1, v8])
      have mo13 : Mut [o2] (upd H13 u1 (.tup [.str (wdE (enA p n c xs i)), fv])) := fun b hb => by rw [List.mem_singleton.mp hb]; exact ⟨_, j1 _ _ eo13, fun xs z => nomatch z⟩
      have jj := (j1.trans g14).trans j2
      have eu1 := (g14.trans j2) _ _ (upd_same (H := H13) (a := u1) (o := .tup [.str (wdE (enA p n c xs i)), fv]))
      have cp2 : OAt [o2] _ (enA p n c xs i).2 v8 := (CpAt.o mo13 cp).kp (Same.kpS j2)
      have of' := of.kp (Same.kpS jj)
      have of2' := of2.kp (Same.kpS jj)
      have os2' := os2.kp (Same.kpS jj)
      refine ⟨_, rfl, _, rfl, rl, _, _, _, rfl, rfl, SqL.of (jj _ _ er13), atI_nat erv, 2, u2, t2, _, _, by decide, rfl, rfl, SqT.of upd_same, SqT.of (jj _ _ a1), rfl, fun j x y hx hy => ?_, _, rfl, iteF ?_⟩
      · match j, hx, hy with
        | 0, hx, hy =>
          cases hx
          cases hy
          refine .tup (SqT.of eu1) (SqT.of (jj _ _ a2)) rfl fun j x y hx hy => ?_
          match j, hx, hy with
          | 0, hx, hy => cases hx; cases hy; exact .flat rfl rfl (by show (wdE (enA p n c xs i) == wdE (enA p n c xs i)) = true; simp)
          | 1, hx, hy => cases hx; cases hy; exact OAt.eqd of' of2'
          | j + 2, hx, hy => simp at hx
        | 1, hx, hy => cases hx; cases hy; exact OAt.eqd cp2 os2'
        | j + 2, hx, hy => simp at hx
      refine ⟨_, rfl, _, _, rfl, rfl, ?_⟩
      exact ⟨dx2, sv', _, _, _, _, _, rfl, (k12.trans k13).trans (Same.kpS jj), jj _ _ eo13, hs13.kp (Same.kpS jj)⟩
    · rintro σ H12 ⟨dx2, sv, y9, y10, y11, y12, y14, rfl, k12, eo12, hs12⟩
      obtain ⟨e1, e2', _⟩ := eh12 (kb.trans k12)
      exact ⟨_, rfl, _, rfl, 2, hl, cl, hvs, cvs, by decide, rfl, rfl, SqL.of e1, SqL.of e2', by omega, held (kb.trans k12), q _⟩
end

end My
end

section
set_option Elab.async false
set_option linter.all false
set_option maxRecDepth 100000
set_option maxHeartbeats 4000000
namespace My
open PySem L2
theorem clsE_some {K : PySem.W.Frag} {D : Addr} (h : PySem.W.hasDictIn K D = true) : (PySem.W.clsIn K D).isSome = true := by
  obtain ⟨cd, e, _⟩ := PySem.W.any_some h
  rw [e]
  rfl
theorem len_1 {α : Type} {Q : List α → Prop} (h : ∀ x0, Q [x0]) : ∀ us : List α, us.length = 1 → Q us
  | [x0], _ => h x0
theorem len_2 {α : Type} {Q : List α → Prop} (h : ∀ x0 x1, Q [x0, x1]) : ∀ us : List α, us.length = 2 → Q us
  | [x0, x1], _ => h x0 x1
theorem len_3 {α : Type} {Q : List α → Prop} (h : ∀ x0 x1 x2, Q [x0, x1, x2]) : ∀ us : List α, us.length = 3 → Q us
  | [x0, x1, x2], _ => h x0 x1 x2
theorem len_4 {α : Type} {Q : List α → Prop} (h : ∀ x0 x1 x2 x3, Q [x0, x1, x2, x3]) : ∀ us : List α, us.length = 4 → Q us
  | [x0, x1, x2, x3], _ => h x0 x1 x2 x3
theorem all_mk {l : PySem.W.OpenLaw} {w : World} {K : PySem.W.Frag} {h : Heap} {mg : Str → Option Value} {fa f0 f1 f2 f3 f4 f5 f6 f7 f8 f9 f10 f11 f12 f13 f14 f15 f16 f17 f18 f19 f20 f21 f22 f23 f24 f25 f26 f27 f28 f29 f30 f31 f32 f33 f34 f35 f36 f37 f38 f39 f40 f41 C h0 h1 h2 h3 a_NOTHING a_PAIRS a_ROUND c_Unsettled c_Runner hR c_NoName c_NoProgram c_NoRow c_NoText c_TooMany c_Twice c_WiseError : Addr} (X : K.In h) (G : h.Ns mainGlobals mg) (hfa : mg "law" = some (.ref fa))
    {od0 an0 : Option Addr} {sl0 : Array (Option Value)} {oc0 kV0 dc0 pm0 cd0 ct0 : Value}
    {od1 an1 : Option Addr} {sl1 : Array (Option Value)} {oc1 kV1 dc1 pm1 cd1 ct1 : Value}
    {od2 an2 : Option Addr} {sl2 : Array (Option Value)} {oc2 kV2 dc2 pm2 cd2 ct2 : Value}
    {od3 an3 : Option Addr} {sl3 : Array (Option Value)} {oc3 kV3 dc3 pm3 cd3 ct3 : Value}
    {od4 an4 : Option Addr} {sl4 : Array (Option Value)} {oc4 kV4 dc4 pm4 cd4 ct4 : Value}
    {od5 an5 : Option Addr} {sl5 : Array (Option Value)} {oc5 kV5 dc5 pm5 cd5 ct5 : Value}
    {od6 an6 : Option Addr} {sl6 : Array (Option Value)} {oc6 kV6 dc6 pm6 cd6 ct6 : Value}
    {od7 an7 : Option Addr} {sl7 : Array (Option Value)} {oc7 kV7 dc7 pm7 cd7 ct7 : Value}
    {od8 an8 : Option Addr} {sl8 : Array (Option Value)} {oc8 kV8 dc8 pm8 cd8 ct8 : Value}
    {od9 an9 : Option Addr} {sl9 : Array (Option Value)} {oc9 kV9 dc9 pm9 cd9 ct9 : Value}
    {od10 an10 : Option Addr} {sl10 : Array (Option Value)} {oc10 kV10 dc10 pm10 cd10 ct10 : Value}
    {od11 an11 : Option Addr} {sl11 : Array (Option Value)} {oc11 kV11 dc11 pm11 cd11 ct11 : Value}
    {od12 an12 : Option Addr} {sl12 : Array (Option Value)} {oc12 kV12 dc12 pm12 cd12 ct12 : Value}
    {od13 an13 : Option Addr} {sl13 : Array (Option Value)} {oc13 kV13 dc13 pm13 cd13 ct13 : Value}
    {od14 an14 : Option Addr} {sl14 : Array (Option Value)} {oc14 kV14 dc14 pm14 cd14 ct14 : Value}
    {od15 an15 : Option Addr} {sl15 : Array (Option Value)} {oc15 kV15 dc15 pm15 cd15 ct15 : Value}
    {od16 an16 : Option Addr} {sl16 : Array (Option Value)} {oc16 kV16 dc16 pm16 cd16 ct16 : Value}
    {od17 an17 : Option Addr} {sl17 : Array (Option Value)} {oc17 kV17 dc17 pm17 cd17 ct17 : Value}
    {od18 an18 : Option Addr} {sl18 : Array (Option Value)} {oc18 kV18 dc18 pm18 cd18 ct18 : Value}
    {od19 an19 : Option Addr} {sl19 : Array (Option Value)} {oc19 kV19 dc19 pm19 cd19 ct19 : Value}
    {od20 an20 : Option Addr} {sl20 : Array (Option Value)} {oc20 kV20 dc20 pm20 cd20 ct20 : Value}
    {od21 an21 : Option Addr} {sl21 : Array (Option Value)} {oc21 kV21 dc21 pm21 cd21 ct21 : Value}
    {od22 an22 : Option Addr} {sl22 : Array (Option Value)} {oc22 kV22 dc22 pm22 cd22 ct22 : Value}
    {od23 an23 : Option Addr} {sl23 : Array (Option Value)} {oc23 kV23 dc23 pm23 cd23 ct23 : Value}
    {od24 an24 : Option Addr} {sl24 : Array (Option Value)} {oc24 kV24 dc24 pm24 cd24 ct24 : Value}
    {od25 an25 : Option Addr} {sl25 : Array (Option Value)} {oc25 kV25 dc25 pm25 cd25 ct25 : Value}
    {od26 an26 : Option Addr} {sl26 : Array (Option Value)} {oc26 kV26 dc26 pm26 cd26 ct26 : Value}
    {od27 an27 : Option Addr} {sl27 : Array (Option Value)} {oc27 kV27 dc27 pm27 cd27 ct27 : Value}
    {od28 an28 : Option Addr} {sl28 : Array (Option Value)} {oc28 kV28 dc28 pm28 cd28 ct28 : Value}
    {od29 an29 : Option Addr} {sl29 : Array (Option Value)} {oc29 kV29 dc29 pm29 cd29 ct29 : Value}
    {od30 an30 : Option Addr} {sl30 : Array (Option Value)} {oc30 kV30 dc30 pm30 cd30 ct30 : Value}
    {od31 an31 : Option Addr} {sl31 : Array (Option Value)} {oc31 kV31 dc31 pm31 cd31 ct31 : Value}
    {od32 an32 : Option Addr} {sl32 : Array (Option Value)} {oc32 kV32 dc32 pm32 cd32 ct32 : Value}
    {od33 an33 : Option Addr} {sl33 : Array (Option Value)} {oc33 kV33 dc33 pm33 cd33 ct33 : Value}
    {od34 an34 : Option Addr} {sl34 : Array (Option Value)} {oc34 kV34 dc34 pm34 cd34 ct34 : Value}
    {od35 an35 : Option Addr} {sl35 : Array (Option Value)} {oc35 kV35 dc35 pm35 cd35 ct35 : Value}
    {od36 an36 : Option Addr} {sl36 : Array (Option Value)} {oc36 kV36 dc36 pm36 cd36 ct36 : Value}
    {od37 an37 : Option Addr} {sl37 : Array (Option Value)} {oc37 kV37 dc37 pm37 cd37 ct37 : Value}
    {od38 an38 : Option Addr} {sl38 : Array (Option Value)} {oc38 kV38 dc38 pm38 cd38 ct38 : Value}
    {od39 an39 : Option Addr} {sl39 : Array (Option Value)} {oc39 kV39 dc39 pm39 cd39 ct39 : Value}
    {od40 an40 : Option Addr} {sl40 : Array (Option Value)} {oc40 kV40 dc40 pm40 cd40 ct40 : Value}
    {od41 an41 : Option Addr} {sl41 : Array (Option Value)} {oc41 kV41 dc41 pm41 cd41 ct41 : Value}
    {mod0 man0 : Option Addr} {msl0 : Array (Option Value)} {moc0 mkV0 mdc0 mpm0 mcd0 mct0 : Value}
    {mod1 man1 : Option Addr} {msl1 : Array (Option Value)} {moc1 mkV1 mdc1 mpm1 mcd1 mct1 : Value}
    {mod2 man2 : Option Addr} {msl2 : Array (Option Value)} {moc2 mkV2 mdc2 mpm2 mcd2 mct2 : Value}
    {mod3 man3 : Option Addr} {msl3 : Array (Option Value)} {moc3 mkV3 mdc3 mpm3 mcd3 mct3 : Value}
    {od_NOTHING : Option Addr} {it_NOTHING : Array Value} {n_NOTHING : Nat} {sl_NOTHING : Array (Option Value)}
    {od_PAIRS : Option Addr} {it_PAIRS : Array Value} {n_PAIRS : Nat} {sl_PAIRS : Array (Option Value)}
    {od_ROUND : Option Addr} {it_ROUND : Array Value} {n_ROUND : Nat} {sl_ROUND : Array (Option Value)}
    {tk_ENDED : Tok}
    {tk_RESTS : Tok}
    {tk_LEAVES : Tok}
    {rod ran : Option Addr} {rsl : Array (Option Value)} {roc rkV rdc rpm rcd rct : Value}
    (a0 : PySem.W.nsIn K mainGlobals "leaf_code" = some (some (.ref f0))) (l0 : K.lookup f0 = some ⟨oc0, od0, .func (PySem.W.fnOf "leaf_code" "leaf_code" (defArgs s_leaf_code) (defBody s_leaf_code) (defScope s_leaf_code) .none kV0 dc0 pm0 an0 cd0 ct0), sl0⟩) (c0 : PySem.W.codeIn K cd0 "leaf_code" = true) (k0 : PySem.W.keepIn K (.ref f0) = true)
    (a1 : PySem.W.nsIn K mainGlobals "code_of_again" = some (some (.ref f1))) (l1 : K.lookup f1 = some ⟨oc1, od1, .func (PySem.W.fnOf "code_of_again" "code_of_again" (defArgs s_code_of_again) (defBody s_code_of_again) (defScope s_code_of_again) .none kV1 dc1 pm1 an1 cd1 ct1), sl1⟩) (c1 : PySem.W.codeIn K cd1 "code_of_again" = true) (k1 : PySem.W.keepIn K (.ref f1) = true)
    (a2 : PySem.W.nsIn K mainGlobals "code_of_trap" = some (some (.ref f2))) (l2 : K.lookup f2 = some ⟨oc2, od2, .func (PySem.W.fnOf "code_of_trap" "code_of_trap" (defArgs s_code_of_trap) (defBody s_code_of_trap) (defScope s_code_of_trap) .none kV2 dc2 pm2 an2 cd2 ct2), sl2⟩) (c2 : PySem.W.codeIn K cd2 "code_of_trap" = true) (k2 : PySem.W.keepIn K (.ref f2) = true)
    (a3 : PySem.W.nsIn K mainGlobals "part_to_begin" = some (some (.ref f3))) (l3 : K.lookup f3 = some ⟨oc3, od3, .func (PySem.W.fnOf "part_to_begin" "part_to_begin" (defArgs s_part_to_begin) (defBody s_part_to_begin) (defScope s_part_to_begin) .none kV3 dc3 pm3 an3 cd3 ct3), sl3⟩) (c3 : PySem.W.codeIn K cd3 "part_to_begin" = true) (k3 : PySem.W.keepIn K (.ref f3) = true)
    (a4 : PySem.W.nsIn K mainGlobals "remaining" = some (some (.ref f4))) (l4 : K.lookup f4 = some ⟨oc4, od4, .func (PySem.W.fnOf "remaining" "remaining" (defArgs s_remaining) (defBody s_remaining) (defScope s_remaining) .none kV4 dc4 pm4 an4 cd4 ct4), sl4⟩) (c4 : PySem.W.codeIn K cd4 "remaining" = true) (k4 : PySem.W.keepIn K (.ref f4) = true)
    (a5 : PySem.W.nsIn K mainGlobals "left_of_pair" = some (some (.ref f5))) (l5 : K.lookup f5 = some ⟨oc5, od5, .func (PySem.W.fnOf "left_of_pair" "left_of_pair" (defArgs s_left_of_pair) (defBody s_left_of_pair) (defScope s_left_of_pair) .none kV5 dc5 pm5 an5 cd5 ct5), sl5⟩) (c5 : PySem.W.codeIn K cd5 "left_of_pair" = true) (k5 : PySem.W.keepIn K (.ref f5) = true)
    (a6 : PySem.W.nsIn K mainGlobals "left_of_round" = some (some (.ref f6))) (l6 : K.lookup f6 = some ⟨oc6, od6, .func (PySem.W.fnOf "left_of_round" "left_of_round" (defArgs s_left_of_round) (defBody s_left_of_round) (defScope s_left_of_round) .none kV6 dc6 pm6 an6 cd6 ct6), sl6⟩) (c6 : PySem.W.codeIn K cd6 "left_of_round" = true) (k6 : PySem.W.keepIn K (.ref f6) = true)
    (a7 : PySem.W.nsIn K mainGlobals "ran" = some (some (.ref f7))) (l7 : K.lookup f7 = some ⟨oc7, od7, .func (PySem.W.fnOf "ran" "ran" (defArgs s_ran) (defBody s_ran) (defScope s_ran) .none kV7 dc7 pm7 an7 cd7 ct7), sl7⟩) (c7 : PySem.W.codeIn K cd7 "ran" = true) (k7 : PySem.W.keepIn K (.ref f7) = true)
    (a8 : PySem.W.nsIn K mainGlobals "begun_instants" = some (some (.ref f8))) (l8 : K.lookup f8 = some ⟨oc8, od8, .func (PySem.W.fnOf "begun" "begun" (defArgs s_begun_instants) (defBody s_begun_instants) (defScope s_begun_instants) .none kV8 dc8 pm8 an8 cd8 ct8), sl8⟩) (c8 : PySem.W.codeIn K cd8 "begun" = true) (k8 : PySem.W.keepIn K (.ref f8) = true)
    (a9 : PySem.W.nsIn K mainGlobals "begun_leaf_instants" = some (some (.ref f9))) (l9 : K.lookup f9 = some ⟨oc9, od9, .func (PySem.W.fnOf "begun_leaf" "begun_leaf" (defArgs s_begun_leaf_instants) (defBody s_begun_leaf_instants) (defScope s_begun_leaf_instants) .none kV9 dc9 pm9 an9 cd9 ct9), sl9⟩) (c9 : PySem.W.codeIn K cd9 "begun_leaf" = true) (k9 : PySem.W.keepIn K (.ref f9) = true)
    (a10 : PySem.W.nsIn K mainGlobals "rests_left" = some (some (.ref f10))) (l10 : K.lookup f10 = some ⟨oc10, od10, .func (PySem.W.fnOf "rests_left" "rests_left" (defArgs s_rests_left) (defBody s_rests_left) (defScope s_rests_left) .none kV10 dc10 pm10 an10 cd10 ct10), sl10⟩) (c10 : PySem.W.codeIn K cd10 "rests_left" = true) (k10 : PySem.W.keepIn K (.ref f10) = true)
    (a11 : PySem.W.nsIn K mainGlobals "in_turn_instants" = some (some (.ref f11))) (l11 : K.lookup f11 = some ⟨oc11, od11, .func (PySem.W.fnOf "in_turn" "in_turn" (defArgs s_in_turn_instants) (defBody s_in_turn_instants) (defScope s_in_turn_instants) .none kV11 dc11 pm11 an11 cd11 ct11), sl11⟩) (c11 : PySem.W.codeIn K cd11 "in_turn" = true) (k11 : PySem.W.keepIn K (.ref f11) = true)
    (a12 : PySem.W.nsIn K mainGlobals "side_by_side_instants" = some (some (.ref f12))) (l12 : K.lookup f12 = some ⟨oc12, od12, .func (PySem.W.fnOf "side_by_side" "side_by_side" (defArgs s_side_by_side_instants) (defBody s_side_by_side_instants) (defScope s_side_by_side_instants) .none kV12 dc12 pm12 an12 cd12 ct12), sl12⟩) (c12 : PySem.W.codeIn K cd12 "side_by_side" = true) (k12 : PySem.W.keepIn K (.ref f12) = true)
    (a13 : PySem.W.nsIn K mainGlobals "repeated" = some (some (.ref f13))) (l13 : K.lookup f13 = some ⟨oc13, od13, .func (PySem.W.fnOf "repeated" "repeated" (defArgs s_repeated) (defBody s_repeated) (defScope s_repeated) .none kV13 dc13 pm13 an13 cd13 ct13), sl13⟩) (c13 : PySem.W.codeIn K cd13 "repeated" = true) (k13 : PySem.W.keepIn K (.ref f13) = true)
    (a14 : PySem.W.nsIn K mainGlobals "walked" = some (some (.ref f14))) (l14 : K.lookup f14 = some ⟨oc14, od14, .func (PySem.W.fnOf "walked" "walked" (defArgs s_walked) (defBody s_walked) (defScope s_walked) .none kV14 dc14 pm14 an14 cd14 ct14), sl14⟩) (c14 : PySem.W.codeIn K cd14 "walked" = true) (k14 : PySem.W.keepIn K (.ref f14) = true)
    (a15 : PySem.W.nsIn K mainGlobals "begun_walking" = some (some (.ref f15))) (l15 : K.lookup f15 = some ⟨oc15, od15, .func (PySem.W.fnOf "begun" "begun" (defArgs s_begun_walking) (defBody s_begun_walking) (defScope s_begun_walking) .none kV15 dc15 pm15 an15 cd15 ct15), sl15⟩) (c15 : PySem.W.codeIn K cd15 "begun" = true) (k15 : PySem.W.keepIn K (.ref f15) = true)
    (a16 : PySem.W.nsIn K mainGlobals "begun_leaf_walking" = some (some (.ref f16))) (l16 : K.lookup f16 = some ⟨oc16, od16, .func (PySem.W.fnOf "begun_leaf" "begun_leaf" (defArgs s_begun_leaf_walking) (defBody s_begun_leaf_walking) (defScope s_begun_leaf_walking) .none kV16 dc16 pm16 an16 cd16 ct16), sl16⟩) (c16 : PySem.W.codeIn K cd16 "begun_leaf" = true) (k16 : PySem.W.keepIn K (.ref f16) = true)
    (a17 : PySem.W.nsIn K mainGlobals "in_turn_walking" = some (some (.ref f17))) (l17 : K.lookup f17 = some ⟨oc17, od17, .func (PySem.W.fnOf "in_turn" "in_turn" (defArgs s_in_turn_walking) (defBody s_in_turn_walking) (defScope s_in_turn_walking) .none kV17 dc17 pm17 an17 cd17 ct17), sl17⟩) (c17 : PySem.W.codeIn K cd17 "in_turn" = true) (k17 : PySem.W.keepIn K (.ref f17) = true)
    (a18 : PySem.W.nsIn K mainGlobals "side_by_side_walking" = some (some (.ref f18))) (l18 : K.lookup f18 = some ⟨oc18, od18, .func (PySem.W.fnOf "side_by_side" "side_by_side" (defArgs s_side_by_side_walking) (defBody s_side_by_side_walking) (defScope s_side_by_side_walking) .none kV18 dc18 pm18 an18 cd18 ct18), sl18⟩) (c18 : PySem.W.codeIn K cd18 "side_by_side" = true) (k18 : PySem.W.keepIn K (.ref f18) = true)
    (a19 : PySem.W.nsIn K mainGlobals "one_of" = some (some (.ref f19))) (l19 : K.lookup f19 = some ⟨oc19, od19, .func (PySem.W.fnOf "one_of" "one_of" (defArgs s_one_of) (defBody s_one_of) (defScope s_one_of) .none kV19 dc19 pm19 an19 cd19 ct19), sl19⟩) (c19 : PySem.W.codeIn K cd19 "one_of" = true) (k19 : PySem.W.keepIn K (.ref f19) = true)
    (a20 : PySem.W.nsIn K mainGlobals "recoded" = some (some (.ref f20))) (l20 : K.lookup f20 = some ⟨oc20, od20, .func (PySem.W.fnOf "recoded" "recoded" (defArgs s_recoded) (defBody s_recoded) (defScope s_recoded) .none kV20 dc20 pm20 an20 cd20 ct20), sl20⟩) (c20 : PySem.W.codeIn K cd20 "recoded" = true) (k20 : PySem.W.keepIn K (.ref f20) = true)
    (a21 : PySem.W.nsIn K mainGlobals "body_to_begin" = some (some (.ref f21))) (l21 : K.lookup f21 = some ⟨oc21, od21, .func (PySem.W.fnOf "body_to_begin" "body_to_begin" (defArgs s_body_to_begin) (defBody s_body_to_begin) (defScope s_body_to_begin) .none kV21 dc21 pm21 an21 cd21 ct21), sl21⟩) (c21 : PySem.W.codeIn K cd21 "body_to_begin" = true) (k21 : PySem.W.keepIn K (.ref f21) = true)
    (a22 : PySem.W.nsIn K mainGlobals "instant" = some (some (.ref f22))) (l22 : K.lookup f22 = some ⟨oc22, od22, .func (PySem.W.fnOf "instant" "instant" (defArgs s_instant) (defBody s_instant) (defScope s_instant) .none kV22 dc22 pm22 an22 cd22 ct22), sl22⟩) (c22 : PySem.W.codeIn K cd22 "instant" = true) (k22 : PySem.W.keepIn K (.ref f22) = true)
    (a23 : PySem.W.nsIn K mainGlobals "rounds" = some (some (.ref f23))) (l23 : K.lookup f23 = some ⟨oc23, od23, .func (PySem.W.fnOf "rounds" "rounds" (defArgs s_rounds) (defBody s_rounds) (defScope s_rounds) .none kV23 dc23 pm23 an23 cd23 ct23), sl23⟩) (c23 : PySem.W.codeIn K cd23 "rounds" = true) (k23 : PySem.W.keepIn K (.ref f23) = true)
    (a24 : PySem.W.nsIn K mainGlobals "settled" = some (some (.ref f24))) (l24 : K.lookup f24 = some ⟨oc24, od24, .func (PySem.W.fnOf "settled" "settled" (defArgs s_settled) (defBody s_settled) (defScope s_settled) .none kV24 dc24 pm24 an24 cd24 ct24), sl24⟩) (c24 : PySem.W.codeIn K cd24 "settled" = true) (k24 : PySem.W.keepIn K (.ref f24) = true)
    (a25 : PySem.W.nsIn K mainGlobals "signs_that_are" = some (some (.ref f25))) (l25 : K.lookup f25 = some ⟨oc25, od25, .func (PySem.W.fnOf "signs_that_are" "signs_that_are" (defArgs s_signs_that_are) (defBody s_signs_that_are) (defScope s_signs_that_are) .none kV25 dc25 pm25 an25 cd25 ct25), sl25⟩) (c25 : PySem.W.codeIn K cd25 "signs_that_are" = true) (k25 : PySem.W.keepIn K (.ref f25) = true)
    (a26 : PySem.W.nsIn K mainGlobals "known_at_first" = some (some (.ref f26))) (l26 : K.lookup f26 = some ⟨oc26, od26, .func (PySem.W.fnOf "known_at_first" "known_at_first" (defArgs s_known_at_first) (defBody s_known_at_first) (defScope s_known_at_first) .none kV26 dc26 pm26 an26 cd26 ct26), sl26⟩) (c26 : PySem.W.codeIn K cd26 "known_at_first" = true) (k26 : PySem.W.keepIn K (.ref f26) = true)
    (a27 : PySem.W.nsIn K mainGlobals "known_behind" = some (some (.ref f27))) (l27 : K.lookup f27 = some ⟨oc27, od27, .func (PySem.W.fnOf "known_behind" "known_behind" (defArgs s_known_behind) (defBody s_known_behind) (defScope s_known_behind) .none kV27 dc27 pm27 an27 cd27 ct27), sl27⟩) (c27 : PySem.W.codeIn K cd27 "known_behind" = true) (k27 : PySem.W.keepIn K (.ref f27) = true)
    (a28 : PySem.W.nsIn K mainGlobals "changes_by" = some (some (.ref f28))) (l28 : K.lookup f28 = some ⟨oc28, od28, .func (PySem.W.fnOf "changes_by" "changes_by" (defArgs s_changes_by) (defBody s_changes_by) (defScope s_changes_by) .none kV28 dc28 pm28 an28 cd28 ct28), sl28⟩) (c28 : PySem.W.codeIn K cd28 "changes_by" = true) (k28 : PySem.W.keepIn K (.ref f28) = true)
    (a29 : PySem.W.nsIn K mainGlobals "signs_there" = some (some (.ref f29))) (l29 : K.lookup f29 = some ⟨oc29, od29, .func (PySem.W.fnOf "signs_there" "signs_there" (defArgs s_signs_there) (defBody s_signs_there) (defScope s_signs_there) .none kV29 dc29 pm29 an29 cd29 ct29), sl29⟩) (c29 : PySem.W.codeIn K cd29 "signs_there" = true) (k29 : PySem.W.keepIn K (.ref f29) = true)
    (a30 : PySem.W.nsIn K mainGlobals "_law_mixed" = some (some (.ref f30))) (l30 : K.lookup f30 = some ⟨oc30, od30, .func (PySem.W.fnOf "_law_mixed" "_law_mixed" (defArgs s__law_mixed) (defBody s__law_mixed) (defScope s__law_mixed) .none kV30 dc30 pm30 an30 cd30 ct30), sl30⟩) (c30 : PySem.W.codeIn K cd30 "_law_mixed" = true) (k30 : PySem.W.keepIn K (.ref f30) = true)
    (a31 : PySem.W.nsIn K mainGlobals "_law_at" = some (some (.ref f31))) (l31 : K.lookup f31 = some ⟨oc31, od31, .func (PySem.W.fnOf "_law_at" "_law_at" (defArgs s__law_at) (defBody s__law_at) (defScope s__law_at) .none kV31 dc31 pm31 an31 cd31 ct31), sl31⟩) (c31 : PySem.W.codeIn K cd31 "_law_at" = true) (k31 : PySem.W.keepIn K (.ref f31) = true)
    (a32 : PySem.W.nsIn K mainGlobals "_law_leaf" = some (some (.ref f32))) (l32 : K.lookup f32 = some ⟨oc32, od32, .func (PySem.W.fnOf "_law_leaf" "_law_leaf" (defArgs s__law_leaf) (defBody s__law_leaf) (defScope s__law_leaf) .none kV32 dc32 pm32 an32 cd32 ct32), sl32⟩) (c32 : PySem.W.codeIn K cd32 "_law_leaf" = true) (k32 : PySem.W.keepIn K (.ref f32) = true)
    (a33 : PySem.W.nsIn K mainGlobals "_law_deep" = some (some (.ref f33))) (l33 : K.lookup f33 = some ⟨oc33, od33, .func (PySem.W.fnOf "_law_deep" "_law_deep" (defArgs s__law_deep) (defBody s__law_deep) (defScope s__law_deep) .none kV33 dc33 pm33 an33 cd33 ct33), sl33⟩) (c33 : PySem.W.codeIn K cd33 "_law_deep" = true) (k33 : PySem.W.keepIn K (.ref f33) = true)
    (a34 : PySem.W.nsIn K mainGlobals "_law_grown" = some (some (.ref f34))) (l34 : K.lookup f34 = some ⟨oc34, od34, .func (PySem.W.fnOf "_law_grown" "_law_grown" (defArgs s__law_grown) (defBody s__law_grown) (defScope s__law_grown) .none kV34 dc34 pm34 an34 cd34 ct34), sl34⟩) (c34 : PySem.W.codeIn K cd34 "_law_grown" = true) (k34 : PySem.W.keepIn K (.ref f34) = true)
    (a35 : PySem.W.nsIn K mainGlobals "_law_body" = some (some (.ref f35))) (l35 : K.lookup f35 = some ⟨oc35, od35, .func (PySem.W.fnOf "_law_body" "_law_body" (defArgs s__law_body) (defBody s__law_body) (defScope s__law_body) .none kV35 dc35 pm35 an35 cd35 ct35), sl35⟩) (c35 : PySem.W.codeIn K cd35 "_law_body" = true) (k35 : PySem.W.keepIn K (.ref f35) = true)
    (a36 : PySem.W.nsIn K mainGlobals "_law_numbered" = some (some (.ref f36))) (l36 : K.lookup f36 = some ⟨oc36, od36, .func (PySem.W.fnOf "_law_numbered" "_law_numbered" (defArgs s__law_numbered) (defBody s__law_numbered) (defScope s__law_numbered) .none kV36 dc36 pm36 an36 cd36 ct36), sl36⟩) (c36 : PySem.W.codeIn K cd36 "_law_numbered" = true) (k36 : PySem.W.keepIn K (.ref f36) = true)
    (a37 : PySem.W.nsIn K mainGlobals "_law_program" = some (some (.ref f37))) (l37 : K.lookup f37 = some ⟨oc37, od37, .func (PySem.W.fnOf "_law_program" "_law_program" (defArgs s__law_program) (defBody s__law_program) (defScope s__law_program) .none kV37 dc37 pm37 an37 cd37 ct37), sl37⟩) (c37 : PySem.W.codeIn K cd37 "_law_program" = true) (k37 : PySem.W.keepIn K (.ref f37) = true)
    (a38 : PySem.W.nsIn K mainGlobals "_law_coming" = some (some (.ref f38))) (l38 : K.lookup f38 = some ⟨oc38, od38, .func (PySem.W.fnOf "_law_coming" "_law_coming" (defArgs s__law_coming) (defBody s__law_coming) (defScope s__law_coming) .none kV38 dc38 pm38 an38 cd38 ct38), sl38⟩) (c38 : PySem.W.codeIn K cd38 "_law_coming" = true) (k38 : PySem.W.keepIn K (.ref f38) = true)
    (a39 : PySem.W.nsIn K mainGlobals "_law_tick" = some (some (.ref f39))) (l39 : K.lookup f39 = some ⟨oc39, od39, .func (PySem.W.fnOf "_law_tick" "_law_tick" (defArgs s__law_tick) (defBody s__law_tick) (defScope s__law_tick) .none kV39 dc39 pm39 an39 cd39 ct39), sl39⟩) (c39 : PySem.W.codeIn K cd39 "_law_tick" = true) (k39 : PySem.W.keepIn K (.ref f39) = true)
    (a40 : PySem.W.nsIn K mainGlobals "_law_refused" = some (some (.ref f40))) (l40 : K.lookup f40 = some ⟨oc40, od40, .func (PySem.W.fnOf "_law_refused" "_law_refused" (defArgs s__law_refused) (defBody s__law_refused) (defScope s__law_refused) .none kV40 dc40 pm40 an40 cd40 ct40), sl40⟩) (c40 : PySem.W.codeIn K cd40 "_law_refused" = true) (k40 : PySem.W.keepIn K (.ref f40) = true)
    (a41 : PySem.W.nsIn K mainGlobals "law" = some (some (.ref f41))) (l41 : K.lookup f41 = some ⟨oc41, od41, .func (PySem.W.fnOf "law" "law" (defArgs s_law) (defBody s_law) (defScope s_law) .none kV41 dc41 pm41 an41 cd41 ct41), sl41⟩) (c41 : PySem.W.codeIn K cd41 "law" = true) (k41 : PySem.W.keepIn K (.ref f41) = true)
    (aC : PySem.W.nsIn K mainGlobals "Walker" = some (some (.ref C)))
    (ma0 : PySem.W.findIn K (.ref C) "__init__" = some (some (.ref h0))) (mi0 : PySem.W.isFn K (.ref h0) = true) (ml0 : K.lookup h0 = some ⟨moc0, mod0, .func (PySem.W.fnOf "__init__" "Walker.__init__" (defArgs s_Winit) (defBody s_Winit) (defScope s_Winit) .none mkV0 mdc0 mpm0 man0 mcd0 mct0), msl0⟩) (mc0 : PySem.W.codeIn K mcd0 "Walker.__init__" = true) (mk0 : PySem.W.keepIn K (.ref h0) = true)
    (ma1 : PySem.W.findIn K (.ref C) "done_with" = some (some (.ref h1))) (mi1 : PySem.W.isFn K (.ref h1) = true) (ml1 : K.lookup h1 = some ⟨moc1, mod1, .func (PySem.W.fnOf "done_with" "Walker.done_with" (defArgs s_done) (defBody s_done) (defScope s_done) .none mkV1 mdc1 mpm1 man1 mcd1 mct1), msl1⟩) (mc1 : PySem.W.codeIn K mcd1 "Walker.done_with" = true) (mk1 : PySem.W.keepIn K (.ref h1) = true)
    (ma2 : PySem.W.findIn K (.ref C) "tick" = some (some (.ref h2))) (mi2 : PySem.W.isFn K (.ref h2) = true) (ml2 : K.lookup h2 = some ⟨moc2, mod2, .func (PySem.W.fnOf "tick" "Runner.tick" (defArgs s_tick) (defBody s_tick) (defScope s_tick) .none mkV2 mdc2 mpm2 man2 mcd2 mct2), msl2⟩) (mc2 : PySem.W.codeIn K mcd2 "Runner.tick" = true) (mk2 : PySem.W.keepIn K (.ref h2) = true)
    (ma3 : PySem.W.findIn K (.ref C) "state" = some (some (.ref h3))) (mi3 : PySem.W.isFn K (.ref h3) = true) (ml3 : K.lookup h3 = some ⟨moc3, mod3, .func (PySem.W.fnOf "state" "Runner.state" (defArgs s_state) (defBody s_state) (defScope s_state) .none mkV3 mdc3 mpm3 man3 mcd3 mct3), msl3⟩) (mc3 : PySem.W.codeIn K mcd3 "Runner.state" = true) (mk3 : PySem.W.keepIn K (.ref h3) = true)
    (pg : PySem.W.plainGet K C Str.empty = true) (hd : PySem.W.hasDictIn K C = true) (po : PySem.W.plainOver K C = true) (sa : PySem.W.findIn K (.ref C) "__setattr__" = some (some (.builtin "object.__setattr__"))) (mk : PySem.W.makesIn K C = true) (kc : PySem.W.keepIn K (.ref C) = true)
    (nA_reached : PySem.W.findIn K (.ref C) "reached" = some none)
    (nA_program : PySem.W.findIn K (.ref C) "program" = some none)
    (ca_NOTHING : PySem.W.nsIn K mainGlobals "NOTHING" = some (some (.ref a_NOTHING))) (cl_NOTHING : K.lookup a_NOTHING = some ⟨Value.type "tuple", od_NOTHING, .seq it_NOTHING n_NOTHING, sl_NOTHING⟩) (cs_NOTHING : it_NOTHING.size ≤ sizeLine) (cv_NOTHING : Vals [V.str "nothing"] it_NOTHING.toList)
    (ca_PAIRS : PySem.W.nsIn K mainGlobals "PAIRS" = some (some (.ref a_PAIRS))) (cl_PAIRS : K.lookup a_PAIRS = some ⟨Value.type "tuple", od_PAIRS, .seq it_PAIRS n_PAIRS, sl_PAIRS⟩) (cs_PAIRS : it_PAIRS.size ≤ sizeLine) (cv_PAIRS : Vals [V.str "then", V.str "if", V.str "beside"] it_PAIRS.toList)
    (ca_ROUND : PySem.W.nsIn K mainGlobals "ROUND" = some (some (.ref a_ROUND))) (cl_ROUND : K.lookup a_ROUND = some ⟨Value.type "tuple", od_ROUND, .seq it_ROUND n_ROUND, sl_ROUND⟩) (cs_ROUND : it_ROUND.size ≤ sizeLine) (cv_ROUND : Vals [V.str "again", V.str "hold", V.str "watch", V.str "trap"] it_ROUND.toList)
    (cn_ENDED : PySem.W.nsIn K mainGlobals "ENDED" = some (some (.int 0 tk_ENDED)))
    (cn_RESTS : PySem.W.nsIn K mainGlobals "RESTS" = some (some (.int 1 tk_RESTS)))
    (cn_LEAVES : PySem.W.nsIn K mainGlobals "LEAVES" = some (some (.int 2 tk_LEAVES)))
    (ea_Unsettled : PySem.W.nsIn K mainGlobals "Unsettled" = some (some (.ref c_Unsettled))) (ex_Unsettled : PySem.W.excIn K c_Unsettled veM "ValueError.__new__" = true)
    (em_Unsettled_Unsettled : PySem.W.exmOne K (.ref c_Unsettled) (.ref c_Unsettled) = some true)
    (ea_Runner : PySem.W.nsIn K mainGlobals "Runner" = some (some (.ref c_Runner)))
    (rga : PySem.W.specialIn K (.ref c_Runner) "__getattribute__" = some (some (.builtin "type.__getattribute__")))
    (rrd : PySem.W.readsIn K c_Runner (.type "type") = true)
    (rfc : PySem.W.findCls K (.ref c_Runner) (.type "type") "__init__" = some (.val (.ref hR)))
    (rkp : PySem.W.keepIn K (.ref hR) = true)
    (rl : K.lookup hR = some ⟨roc, rod, .func (PySem.W.fnOf "__init__" "Runner.__init__" (defArgs s_Rinit) (defBody s_Rinit) (defScope s_Rinit) .none rkV rdc rpm ran rcd rct), rsl⟩)
    (rcc : PySem.W.codeIn K rcd "Runner.__init__" = true)
    (ea_NoName : PySem.W.nsIn K mainGlobals "NoName" = some (some (.ref c_NoName)))
    (ea_NoProgram : PySem.W.nsIn K mainGlobals "NoProgram" = some (some (.ref c_NoProgram)))
    (ea_NoRow : PySem.W.nsIn K mainGlobals "NoRow" = some (some (.ref c_NoRow)))
    (ea_NoText : PySem.W.nsIn K mainGlobals "NoText" = some (some (.ref c_NoText)))
    (ea_TooMany : PySem.W.nsIn K mainGlobals "TooMany" = some (some (.ref c_TooMany)))
    (ea_Twice : PySem.W.nsIn K mainGlobals "Twice" = some (some (.ref c_Twice)))
    (ea_WiseError : PySem.W.nsIn K mainGlobals "WiseError" = some (some (.ref c_WiseError)))
    (hgU : PySem.W.findIn K (.ref c_Unsettled) "__getattribute__" = some (some (.builtin "BaseException.__getattribute__")))
    (gnU : PySem.W.findIn K (.ref c_Unsettled) "__getattr__" = some none)
    (beU : PySem.W.subIn K (.ref c_Unsettled) (.type "BaseException") = some true)
    (hdU : PySem.W.hasDictIn K c_Unsettled = true)
    (haU : PySem.W.findIn K (.ref c_Unsettled) "__class__" = some (some (.builtin "object.__class__")))
    (hmU : PySem.W.mroIn K c_Unsettled (.type "object") = some true)
    (weU : PySem.W.exmOne K (.ref c_Unsettled) (.ref c_WiseError) = some true)
    (kt_NoName : PySem.W.kitOne K (.ref c_Unsettled) (.ref c_NoName) = some false)
    (kt_NoProgram : PySem.W.kitOne K (.ref c_Unsettled) (.ref c_NoProgram) = some false)
    (kt_NoRow : PySem.W.kitOne K (.ref c_Unsettled) (.ref c_NoRow) = some false)
    (kt_NoText : PySem.W.kitOne K (.ref c_Unsettled) (.ref c_NoText) = some false)
    (kt_TooMany : PySem.W.kitOne K (.ref c_Unsettled) (.ref c_TooMany) = some false)
    (kt_Twice : PySem.W.kitOne K (.ref c_Unsettled) (.ref c_Twice) = some false)
    (kt_U : PySem.W.kitOne K (.ref c_Unsettled) (.ref c_Unsettled) = some true)
    (kt_V : PySem.W.kitOne K (.ref c_Unsettled) (.type "ValueError") = some true)
    (hnC : PySem.W.specialIn K (.builtin "object.__class__") "__get__" = some (some (.builtin "getset_descriptor.__get__")))
    (htC : PySem.W.takesIn K (.builtin "object.__class__") = some true)
    (ktW : PySem.W.kitOne K (.ref C) (.ref c_Runner) = some true)
    (haW : PySem.W.findIn K (.ref C) "__class__" = some (some (.builtin "object.__class__")))
    (hmW : PySem.W.mroIn K C (.type "object") = some true)
    (z_ValueError : PySem.W.nsIn K mainGlobals "ValueError" = some none)
    (z_enumerate : PySem.W.nsIn K mainGlobals "enumerate" = some none)
    (z_int : PySem.W.nsIn K mainGlobals "int" = some none)
    (z_isinstance : PySem.W.nsIn K mainGlobals "isinstance" = some none)
    (z_len : PySem.W.nsIn K mainGlobals "len" = some none)
    (z_list : PySem.W.nsIn K mainGlobals "list" = some none)
    (z_max : PySem.W.nsIn K mainGlobals "max" = some none)
    (z_min : PySem.W.nsIn K mainGlobals "min" = some none)
    (z_range : PySem.W.nsIn K mainGlobals "range" = some none)
    (z_set : PySem.W.nsIn K mainGlobals "set" = some none)
    (z_sorted : PySem.W.nsIn K mainGlobals "sorted" = some none)
    (z_tuple : PySem.W.nsIn K mainGlobals "tuple" = some none)
    : ∃ fd : FuncData, (∀ (s : Shared) (v : Value), BindsTo s fd ⟨[v], []⟩ [("_law_script", v)]) ∧ ∀ base : Heap, K.In base → base.Ns mainGlobals mg → FnOk l.prog w K mg base CX0 60 fa fd ["_law_script"] (spLaw K) := by
  have e := hfa.symm.trans (PySem.W.mg_of X G a41)
  cases e
  have T : Txt mg := ⟨PySem.W.mg_none_of X G z_ValueError, PySem.W.mg_none_of X G z_enumerate, PySem.W.mg_none_of X G z_int, PySem.W.mg_none_of X G z_isinstance, PySem.W.mg_none_of X G z_len, PySem.W.mg_none_of X G z_list, PySem.W.mg_none_of X G z_max, PySem.W.mg_none_of X G z_min, PySem.W.mg_none_of X G z_range, PySem.W.mg_none_of X G z_set, PySem.W.mg_none_of X G z_sorted, PySem.W.mg_none_of X G z_tuple⟩
  have Cl : Cls K C := ⟨pg, hd, po, sa⟩
  have mC := PySem.W.mg_of X G aC
  have cm_NOTHING := PySem.W.mg_of X G ca_NOTHING
  have cst_NOTHING : ModT K a_NOTHING [V.str "nothing"] := ⟨_, _, _, cl_NOTHING, rfl, rfl, cs_NOTHING, cv_NOTHING⟩
  have cm_PAIRS := PySem.W.mg_of X G ca_PAIRS
  have cst_PAIRS : ModT K a_PAIRS [V.str "then", V.str "if", V.str "beside"] := ⟨_, _, _, cl_PAIRS, rfl, rfl, cs_PAIRS, cv_PAIRS⟩
  have cm_ROUND := PySem.W.mg_of X G ca_ROUND
  have cst_ROUND : ModT K a_ROUND [V.str "again", V.str "hold", V.str "watch", V.str "trap"] := ⟨_, _, _, cl_ROUND, rfl, rfl, cs_ROUND, cv_ROUND⟩
  have nm_ENDED := PySem.W.mg_of X G cn_ENDED
  have nm_RESTS := PySem.W.mg_of X G cn_RESTS
  have nm_LEAVES := PySem.W.mg_of X G cn_LEAVES
  have mm_Unsettled := PySem.W.mg_of X G ea_Unsettled
  have Fm_init := fun_mk (st := s_Winit) ml0 mc0 mk0
  have bm_init := Fm_init.binds (ps := ["self", "program"]) fun _ _ _ _ _ _ us hl => len_2 (Q := fun us => bindArgs _ ⟨us, []⟩ = pure (List.zip _ us)) (fun _ _ => rfl) us hl
  have MkC : Mk K C h0 := ⟨mk, ma0, mi0, kc⟩
  have Fm_done_with := fun_mk (st := s_done) ml1 mc1 mk1
  have bm_done_with := Fm_done_with.binds (ps := ["self", "coming"]) fun _ _ _ _ _ _ us hl => len_2 (Q := fun us => bindArgs _ ⟨us, []⟩ = pure (List.zip _ us)) (fun _ _ => rfl) us hl
  have mm_done_with : Meth K C "done_with" h1 := ⟨ma1, mi1, mk1⟩
  have Fm_tick := fun_mk (st := s_tick) ml2 mc2 mk2
  have bm_tick := Fm_tick.binds (ps := ["self", "coming"]) fun _ _ _ _ _ _ us hl => len_2 (Q := fun us => bindArgs _ ⟨us, []⟩ = pure (List.zip _ us)) (fun _ _ => rfl) us hl
  have mm_tick : Meth K C "tick" h2 := ⟨ma2, mi2, mk2⟩
  have Fm_state := fun_mk (st := s_state) ml3 mc3 mk3
  have bm_state := Fm_state.binds (ps := ["self"]) fun _ _ _ _ _ _ us hl => len_1 (Q := fun us => bindArgs _ ⟨us, []⟩ = pure (List.zip _ us)) (fun _ => rfl) us hl
  have mm_state : Meth K C "state" h3 := ⟨ma3, mi3, mk3⟩
  have F_leaf_code : FunM K mg "leaf_code" ["part"] s_leaf_code := ⟨_, _, fun_mk (st := s_leaf_code) l0 c0 k0, PySem.W.mg_of X G a0, (fun_mk (st := s_leaf_code) l0 c0 k0).binds (ps := ["part"]) fun _ _ _ _ _ _ us hl => len_1 (Q := fun us => bindArgs _ ⟨us, []⟩ = pure (List.zip _ us)) (fun _ => rfl) us hl⟩
  have F_code_of_again : FunM K mg "code_of_again" ["code"] s_code_of_again := ⟨_, _, fun_mk (st := s_code_of_again) l1 c1 k1, PySem.W.mg_of X G a1, (fun_mk (st := s_code_of_again) l1 c1 k1).binds (ps := ["code"]) fun _ _ _ _ _ _ us hl => len_1 (Q := fun us => bindArgs _ ⟨us, []⟩ = pure (List.zip _ us)) (fun _ => rfl) us hl⟩
  have F_code_of_trap : FunM K mg "code_of_trap" ["code"] s_code_of_trap := ⟨_, _, fun_mk (st := s_code_of_trap) l2 c2 k2, PySem.W.mg_of X G a2, (fun_mk (st := s_code_of_trap) l2 c2 k2).binds (ps := ["code"]) fun _ _ _ _ _ _ us hl => len_1 (Q := fun us => bindArgs _ ⟨us, []⟩ = pure (List.zip _ us)) (fun _ => rfl) us hl⟩
  have F_part_to_begin : FunM K mg "part_to_begin" ["part", "state"] s_part_to_begin := ⟨_, _, fun_mk (st := s_part_to_begin) l3 c3 k3, PySem.W.mg_of X G a3, (fun_mk (st := s_part_to_begin) l3 c3 k3).binds (ps := ["part", "state"]) fun _ _ _ _ _ _ us hl => len_2 (Q := fun us => bindArgs _ ⟨us, []⟩ = pure (List.zip _ us)) (fun _ _ => rfl) us hl⟩
  have F_remaining : FunM K mg "remaining" ["part", "state"] s_remaining := ⟨_, _, fun_mk (st := s_remaining) l4 c4 k4, PySem.W.mg_of X G a4, (fun_mk (st := s_remaining) l4 c4 k4).binds (ps := ["part", "state"]) fun _ _ _ _ _ _ us hl => len_2 (Q := fun us => bindArgs _ ⟨us, []⟩ = pure (List.zip _ us)) (fun _ _ => rfl) us hl⟩
  have F_left_of_pair : FunM K mg "left_of_pair" ["part", "first", "second"] s_left_of_pair := ⟨_, _, fun_mk (st := s_left_of_pair) l5 c5 k5, PySem.W.mg_of X G a5, (fun_mk (st := s_left_of_pair) l5 c5 k5).binds (ps := ["part", "first", "second"]) fun _ _ _ _ _ _ us hl => len_3 (Q := fun us => bindArgs _ ⟨us, []⟩ = pure (List.zip _ us)) (fun _ _ _ => rfl) us hl⟩
  have F_left_of_round : FunM K mg "left_of_round" ["part", "inner"] s_left_of_round := ⟨_, _, fun_mk (st := s_left_of_round) l6 c6 k6, PySem.W.mg_of X G a6, (fun_mk (st := s_left_of_round) l6 c6 k6).binds (ps := ["part", "inner"]) fun _ _ _ _ _ _ us hl => len_2 (Q := fun us => bindArgs _ ⟨us, []⟩ = pure (List.zip _ us)) (fun _ _ => rfl) us hl⟩
  have F_ran : FunM K mg "ran" ["part", "state", "there"] s_ran := ⟨_, _, fun_mk (st := s_ran) l7 c7 k7, PySem.W.mg_of X G a7, (fun_mk (st := s_ran) l7 c7 k7).binds (ps := ["part", "state", "there"]) fun _ _ _ _ _ _ us hl => len_3 (Q := fun us => bindArgs _ ⟨us, []⟩ = pure (List.zip _ us)) (fun _ _ _ => rfl) us hl⟩
  have F_begun_instants : FunA K mg "begun_instants" "begun" ["part", "there"] s_begun_instants := ⟨_, _, fun_mk (st := s_begun_instants) l8 c8 k8, PySem.W.mg_of X G a8, (fun_mk (st := s_begun_instants) l8 c8 k8).binds (ps := ["part", "there"]) fun _ _ _ _ _ _ us hl => len_2 (Q := fun us => bindArgs _ ⟨us, []⟩ = pure (List.zip _ us)) (fun _ _ => rfl) us hl⟩
  have F_begun_leaf_instants : FunA K mg "begun_leaf_instants" "begun_leaf" ["part"] s_begun_leaf_instants := ⟨_, _, fun_mk (st := s_begun_leaf_instants) l9 c9 k9, PySem.W.mg_of X G a9, (fun_mk (st := s_begun_leaf_instants) l9 c9 k9).binds (ps := ["part"]) fun _ _ _ _ _ _ us hl => len_1 (Q := fun us => bindArgs _ ⟨us, []⟩ = pure (List.zip _ us)) (fun _ => rfl) us hl⟩
  have F_rests_left : FunM K mg "rests_left" ["part"] s_rests_left := ⟨_, _, fun_mk (st := s_rests_left) l10 c10 k10, PySem.W.mg_of X G a10, (fun_mk (st := s_rests_left) l10 c10 k10).binds (ps := ["part"]) fun _ _ _ _ _ _ us hl => len_1 (Q := fun us => bindArgs _ ⟨us, []⟩ = pure (List.zip _ us)) (fun _ => rfl) us hl⟩
  have F_in_turn_instants : FunA K mg "in_turn_instants" "in_turn" ["first", "second"] s_in_turn_instants := ⟨_, _, fun_mk (st := s_in_turn_instants) l11 c11 k11, PySem.W.mg_of X G a11, (fun_mk (st := s_in_turn_instants) l11 c11 k11).binds (ps := ["first", "second"]) fun _ _ _ _ _ _ us hl => len_2 (Q := fun us => bindArgs _ ⟨us, []⟩ = pure (List.zip _ us)) (fun _ _ => rfl) us hl⟩
  have F_side_by_side_instants : FunA K mg "side_by_side_instants" "side_by_side" ["first", "second"] s_side_by_side_instants := ⟨_, _, fun_mk (st := s_side_by_side_instants) l12 c12 k12, PySem.W.mg_of X G a12, (fun_mk (st := s_side_by_side_instants) l12 c12 k12).binds (ps := ["first", "second"]) fun _ _ _ _ _ _ us hl => len_2 (Q := fun us => bindArgs _ ⟨us, []⟩ = pure (List.zip _ us)) (fun _ _ => rfl) us hl⟩
  have F_repeated : FunM K mg "repeated" ["rest", "inner"] s_repeated := ⟨_, _, fun_mk (st := s_repeated) l13 c13 k13, PySem.W.mg_of X G a13, (fun_mk (st := s_repeated) l13 c13 k13).binds (ps := ["rest", "inner"]) fun _ _ _ _ _ _ us hl => len_2 (Q := fun us => bindArgs _ ⟨us, []⟩ = pure (List.zip _ us)) (fun _ _ => rfl) us hl⟩
  have F_walked : FunM K mg "walked" ["part", "state", "sure", "known"] s_walked := ⟨_, _, fun_mk (st := s_walked) l14 c14 k14, PySem.W.mg_of X G a14, (fun_mk (st := s_walked) l14 c14 k14).binds (ps := ["part", "state", "sure", "known"]) fun _ _ _ _ _ _ us hl => len_4 (Q := fun us => bindArgs _ ⟨us, []⟩ = pure (List.zip _ us)) (fun _ _ _ _ => rfl) us hl⟩
  have F_begun_walking : FunA K mg "begun_walking" "begun" ["part", "sure", "known"] s_begun_walking := ⟨_, _, fun_mk (st := s_begun_walking) l15 c15 k15, PySem.W.mg_of X G a15, (fun_mk (st := s_begun_walking) l15 c15 k15).binds (ps := ["part", "sure", "known"]) fun _ _ _ _ _ _ us hl => len_3 (Q := fun us => bindArgs _ ⟨us, []⟩ = pure (List.zip _ us)) (fun _ _ _ => rfl) us hl⟩
  have F_begun_leaf_walking : FunA K mg "begun_leaf_walking" "begun_leaf" ["part", "sure"] s_begun_leaf_walking := ⟨_, _, fun_mk (st := s_begun_leaf_walking) l16 c16 k16, PySem.W.mg_of X G a16, (fun_mk (st := s_begun_leaf_walking) l16 c16 k16).binds (ps := ["part", "sure"]) fun _ _ _ _ _ _ us hl => len_2 (Q := fun us => bindArgs _ ⟨us, []⟩ = pure (List.zip _ us)) (fun _ _ => rfl) us hl⟩
  have F_in_turn_walking : FunA K mg "in_turn_walking" "in_turn" ["first", "second"] s_in_turn_walking := ⟨_, _, fun_mk (st := s_in_turn_walking) l17 c17 k17, PySem.W.mg_of X G a17, (fun_mk (st := s_in_turn_walking) l17 c17 k17).binds (ps := ["first", "second"]) fun _ _ _ _ _ _ us hl => len_2 (Q := fun us => bindArgs _ ⟨us, []⟩ = pure (List.zip _ us)) (fun _ _ => rfl) us hl⟩
  have F_side_by_side_walking : FunA K mg "side_by_side_walking" "side_by_side" ["first", "second"] s_side_by_side_walking := ⟨_, _, fun_mk (st := s_side_by_side_walking) l18 c18 k18, PySem.W.mg_of X G a18, (fun_mk (st := s_side_by_side_walking) l18 c18 k18).binds (ps := ["first", "second"]) fun _ _ _ _ _ _ us hl => len_2 (Q := fun us => bindArgs _ ⟨us, []⟩ = pure (List.zip _ us)) (fun _ _ => rfl) us hl⟩
  have F_one_of : FunM K mg "one_of" ["first", "second"] s_one_of := ⟨_, _, fun_mk (st := s_one_of) l19 c19 k19, PySem.W.mg_of X G a19, (fun_mk (st := s_one_of) l19 c19 k19).binds (ps := ["first", "second"]) fun _ _ _ _ _ _ us hl => len_2 (Q := fun us => bindArgs _ ⟨us, []⟩ = pure (List.zip _ us)) (fun _ _ => rfl) us hl⟩
  have F_recoded : FunM K mg "recoded" ["inner", "codes"] s_recoded := ⟨_, _, fun_mk (st := s_recoded) l20 c20 k20, PySem.W.mg_of X G a20, (fun_mk (st := s_recoded) l20 c20 k20).binds (ps := ["inner", "codes"]) fun _ _ _ _ _ _ us hl => len_2 (Q := fun us => bindArgs _ ⟨us, []⟩ = pure (List.zip _ us)) (fun _ _ => rfl) us hl⟩
  have F_body_to_begin : FunM K mg "body_to_begin" ["program", "state"] s_body_to_begin := ⟨_, _, fun_mk (st := s_body_to_begin) l21 c21 k21, PySem.W.mg_of X G a21, (fun_mk (st := s_body_to_begin) l21 c21 k21).binds (ps := ["program", "state"]) fun _ _ _ _ _ _ us hl => len_2 (Q := fun us => bindArgs _ ⟨us, []⟩ = pure (List.zip _ us)) (fun _ _ => rfl) us hl⟩
  have F_instant : FunM K mg "instant" ["program", "state", "there"] s_instant := ⟨_, _, fun_mk (st := s_instant) l22 c22 k22, PySem.W.mg_of X G a22, (fun_mk (st := s_instant) l22 c22 k22).binds (ps := ["program", "state", "there"]) fun _ _ _ _ _ _ us hl => len_3 (Q := fun us => bindArgs _ ⟨us, []⟩ = pure (List.zip _ us)) (fun _ _ _ => rfl) us hl⟩
  have F_rounds : FunM K mg "rounds" ["program", "state", "coming"] s_rounds := ⟨_, _, fun_mk (st := s_rounds) l23 c23 k23, PySem.W.mg_of X G a23, (fun_mk (st := s_rounds) l23 c23 k23).binds (ps := ["program", "state", "coming"]) fun _ _ _ _ _ _ us hl => len_3 (Q := fun us => bindArgs _ ⟨us, []⟩ = pure (List.zip _ us)) (fun _ _ _ => rfl) us hl⟩
  have F_settled : FunM K mg "settled" ["program", "state", "coming"] s_settled := ⟨_, _, fun_mk (st := s_settled) l24 c24 k24, PySem.W.mg_of X G a24, (fun_mk (st := s_settled) l24 c24 k24).binds (ps := ["program", "state", "coming"]) fun _ _ _ _ _ _ us hl => len_3 (Q := fun us => bindArgs _ ⟨us, []⟩ = pure (List.zip _ us)) (fun _ _ _ => rfl) us hl⟩
  have F_signs_that_are : FunM K mg "signs_that_are" ["value", "known"] s_signs_that_are := ⟨_, _, fun_mk (st := s_signs_that_are) l25 c25 k25, PySem.W.mg_of X G a25, (fun_mk (st := s_signs_that_are) l25 c25 k25).binds (ps := ["value", "known"]) fun _ _ _ _ _ _ us hl => len_2 (Q := fun us => bindArgs _ ⟨us, []⟩ = pure (List.zip _ us)) (fun _ _ => rfl) us hl⟩
  have F_known_at_first : FunM K mg "known_at_first" ["program", "coming"] s_known_at_first := ⟨_, _, fun_mk (st := s_known_at_first) l26 c26 k26, PySem.W.mg_of X G a26, (fun_mk (st := s_known_at_first) l26 c26 k26).binds (ps := ["program", "coming"]) fun _ _ _ _ _ _ us hl => len_2 (Q := fun us => bindArgs _ ⟨us, []⟩ = pure (List.zip _ us)) (fun _ _ => rfl) us hl⟩
  have F_known_behind : FunM K mg "known_behind" ["known", "changes"] s_known_behind := ⟨_, _, fun_mk (st := s_known_behind) l27 c27 k27, PySem.W.mg_of X G a27, (fun_mk (st := s_known_behind) l27 c27 k27).binds (ps := ["known", "changes"]) fun _ _ _ _ _ _ us hl => len_2 (Q := fun us => bindArgs _ ⟨us, []⟩ = pure (List.zip _ us)) (fun _ _ => rfl) us hl⟩
  have F_changes_by : FunM K mg "changes_by" ["body", "known"] s_changes_by := ⟨_, _, fun_mk (st := s_changes_by) l28 c28 k28, PySem.W.mg_of X G a28, (fun_mk (st := s_changes_by) l28 c28 k28).binds (ps := ["body", "known"]) fun _ _ _ _ _ _ us hl => len_2 (Q := fun us => bindArgs _ ⟨us, []⟩ = pure (List.zip _ us)) (fun _ _ => rfl) us hl⟩
  have F_signs_there : FunM K mg "signs_there" ["known"] s_signs_there := ⟨_, _, fun_mk (st := s_signs_there) l29 c29 k29, PySem.W.mg_of X G a29, (fun_mk (st := s_signs_there) l29 c29 k29).binds (ps := ["known"]) fun _ _ _ _ _ _ us hl => len_1 (Q := fun us => bindArgs _ ⟨us, []⟩ = pure (List.zip _ us)) (fun _ => rfl) us hl⟩
  have F__law_mixed : FunM K mg "_law_mixed" ["_law_cell"] s__law_mixed := ⟨_, _, fun_mk (st := s__law_mixed) l30 c30 k30, PySem.W.mg_of X G a30, (fun_mk (st := s__law_mixed) l30 c30 k30).binds (ps := ["_law_cell"]) fun _ _ _ _ _ _ us hl => len_1 (Q := fun us => bindArgs _ ⟨us, []⟩ = pure (List.zip _ us)) (fun _ => rfl) us hl⟩
  have F__law_at : FunM K mg "_law_at" ["_law_script", "_law_k"] s__law_at := ⟨_, _, fun_mk (st := s__law_at) l31 c31 k31, PySem.W.mg_of X G a31, (fun_mk (st := s__law_at) l31 c31 k31).binds (ps := ["_law_script", "_law_k"]) fun _ _ _ _ _ _ us hl => len_2 (Q := fun us => bindArgs _ ⟨us, []⟩ = pure (List.zip _ us)) (fun _ _ => rfl) us hl⟩
  have F__law_leaf : FunM K mg "_law_leaf" ["_law_seed", "_law_signs"] s__law_leaf := ⟨_, _, fun_mk (st := s__law_leaf) l32 c32 k32, PySem.W.mg_of X G a32, (fun_mk (st := s__law_leaf) l32 c32 k32).binds (ps := ["_law_seed", "_law_signs"]) fun _ _ _ _ _ _ us hl => len_2 (Q := fun us => bindArgs _ ⟨us, []⟩ = pure (List.zip _ us)) (fun _ _ => rfl) us hl⟩
  have F__law_deep : FunM K mg "_law_deep" ["_law_part"] s__law_deep := ⟨_, _, fun_mk (st := s__law_deep) l33 c33 k33, PySem.W.mg_of X G a33, (fun_mk (st := s__law_deep) l33 c33 k33).binds (ps := ["_law_part"]) fun _ _ _ _ _ _ us hl => len_1 (Q := fun us => bindArgs _ ⟨us, []⟩ = pure (List.zip _ us)) (fun _ => rfl) us hl⟩
  have F__law_grown : FunM K mg "_law_grown" ["_law_stack", "_law_seed", "_law_signs"] s__law_grown := ⟨_, _, fun_mk (st := s__law_grown) l34 c34 k34, PySem.W.mg_of X G a34, (fun_mk (st := s__law_grown) l34 c34 k34).binds (ps := ["_law_stack", "_law_seed", "_law_signs"]) fun _ _ _ _ _ _ us hl => len_3 (Q := fun us => bindArgs _ ⟨us, []⟩ = pure (List.zip _ us)) (fun _ _ _ => rfl) us hl⟩
  have F__law_body : FunM K mg "_law_body" ["_law_cells", "_law_signs"] s__law_body := ⟨_, _, fun_mk (st := s__law_body) l35 c35 k35, PySem.W.mg_of X G a35, (fun_mk (st := s__law_body) l35 c35 k35).binds (ps := ["_law_cells", "_law_signs"]) fun _ _ _ _ _ _ us hl => len_2 (Q := fun us => bindArgs _ ⟨us, []⟩ = pure (List.zip _ us)) (fun _ _ => rfl) us hl⟩
  have F__law_numbered : FunM K mg "_law_numbered" ["_law_part", "_law_k"] s__law_numbered := ⟨_, _, fun_mk (st := s__law_numbered) l36 c36 k36, PySem.W.mg_of X G a36, (fun_mk (st := s__law_numbered) l36 c36 k36).binds (ps := ["_law_part", "_law_k"]) fun _ _ _ _ _ _ us hl => len_2 (Q := fun us => bindArgs _ ⟨us, []⟩ = pure (List.zip _ us)) (fun _ _ => rfl) us hl⟩
  have F__law_program : FunM K mg "_law_program" ["_law_script", "_law_most"] s__law_program := ⟨_, _, fun_mk (st := s__law_program) l37 c37 k37, PySem.W.mg_of X G a37, (fun_mk (st := s__law_program) l37 c37 k37).binds (ps := ["_law_script", "_law_most"]) fun _ _ _ _ _ _ us hl => len_2 (Q := fun us => bindArgs _ ⟨us, []⟩ = pure (List.zip _ us)) (fun _ _ => rfl) us hl⟩
  have F__law_coming : FunM K mg "_law_coming" ["_law_cell", "_law_came"] s__law_coming := ⟨_, _, fun_mk (st := s__law_coming) l38 c38 k38, PySem.W.mg_of X G a38, (fun_mk (st := s__law_coming) l38 c38 k38).binds (ps := ["_law_cell", "_law_came"]) fun _ _ _ _ _ _ us hl => len_2 (Q := fun us => bindArgs _ ⟨us, []⟩ = pure (List.zip _ us)) (fun _ _ => rfl) us hl⟩
  have F__law_tick : FunM K mg "_law_tick" ["_law_runner", "_law_coming_here"] s__law_tick := ⟨_, _, fun_mk (st := s__law_tick) l39 c39 k39, PySem.W.mg_of X G a39, (fun_mk (st := s__law_tick) l39 c39 k39).binds (ps := ["_law_runner", "_law_coming_here"]) fun _ _ _ _ _ _ us hl => len_2 (Q := fun us => bindArgs _ ⟨us, []⟩ = pure (List.zip _ us)) (fun _ _ => rfl) us hl⟩
  have F__law_refused : FunM K mg "_law_refused" ["_law_runner"] s__law_refused := ⟨_, _, fun_mk (st := s__law_refused) l40 c40 k40, PySem.W.mg_of X G a40, (fun_mk (st := s__law_refused) l40 c40 k40).binds (ps := ["_law_runner"]) fun _ _ _ _ _ _ us hl => len_1 (Q := fun us => bindArgs _ ⟨us, []⟩ = pure (List.zip _ us)) (fun _ => rfl) us hl⟩
  have F_law := fun_mk (st := s_law) l41 c41 k41
  refine ⟨PySem.W.fnOf "law" "law" (defArgs s_law) (defBody s_law) (defScope s_law) .none kV41 dc41 pm41 an41 cd41 ct41, fun s v => .of_eq rfl, fun base _ _ => ?_⟩
  have nr_ENDED : RelV (.int 0) (Value.int 0 tk_ENDED) := ⟨_, rfl⟩
  have nr_RESTS : RelV (.int 1) (Value.int 1 tk_RESTS) := ⟨_, rfl⟩
  have nr_LEAVES : RelV (.int 2) (Value.int 2 tk_LEAVES) := ⟨_, rfl⟩
  have TR : TxtR K mg a_NOTHING a_PAIRS a_ROUND (Value.int 0 tk_ENDED) (Value.int 1 tk_RESTS) (Value.int 2 tk_LEAVES) := { toTxt := T, m_ENDED := nm_ENDED, r_ENDED := nr_ENDED, m_RESTS := nm_RESTS, r_RESTS := nr_RESTS, m_LEAVES := nm_LEAVES, r_LEAVES := nr_LEAVES, m_NOTHING := cm_NOTHING, r_NOTHING := rfl, mN := cst_NOTHING, m_PAIRS := cm_PAIRS, r_PAIRS := rfl, mP := cst_PAIRS, m_ROUND := cm_ROUND, r_ROUND := rfl, mR := cst_ROUND }
  have CRem := rem_all (P := l.prog) (w := w) (base := base) F_remaining TR (ok_LP F_left_of_pair TR) (ok_LR F_left_of_round TR) 40
  have CBeg := beg_all (P := l.prog) (w := w) (base := base) F_begun_instants TR (ok_bl F_begun_leaf_instants TR (ok_leafCode F_leaf_code TR) (ok_rl F_rests_left TR)) (ok_turn F_in_turn_instants TR) (ok_side F_side_by_side_instants TR) (ok_rep F_repeated TR (ok_agC F_code_of_again TR)) (ok_trC F_code_of_trap TR) 40
  have CPtb := ok_ptb F_part_to_begin TR CRem
  have CRanG := ok_ranG F_ran TR CPtb CBeg
  have CMix := ok_mixed (P := l.prog) (w := w) (base := base) F__law_mixed
  have CWb := wb_all (P := l.prog) (w := w) (base := base) F_begun_walking TR (ok_leafW F_begun_leaf_walking TR (ok_leafCode F_leaf_code TR)) (ok_turnW F_in_turn_walking TR) (ok_sideW F_side_by_side_walking TR) (ok_oneW F_one_of TR) (ok_recW F_recoded TR) (ok_agC F_code_of_again TR) (ok_trC F_code_of_trap TR) 40
  have CWalkG := ok_walkG F_walked TR CPtb CWb
  have CWalk := ok_walk CWalkG
  have CBtb := ok_btb (P := l.prog) (w := w) (base := base) F_body_to_begin TR CRem
  have CInst := ok_inst F_instant TR CBtb (ok_ran0 CRanG)
  have CWalk0 := ok_walk0 CWalkG
  have CFirst := ok_first (P := l.prog) (w := w) (base := base) F_known_at_first T
  have CBeh := ok_beh (P := l.prog) (w := w) (base := base) F_known_behind T
  have CRnd := ok_rnd F_rounds T CBtb CFirst CBeh (ok_chg F_changes_by T CWalk0 (ok_are F_signs_that_are T))
  have CSet := ok_set F_settled T CFirst CBeh CRnd
  have TN : TxtN K mg C c_Runner c_Unsettled := { toTxt := T, cl := Cl, nR := nA_reached, nP := nA_program, m_Runner := PySem.W.mg_of X G ea_Runner, m_Walker := mC, m_Un := mm_Unsettled, excU := ex_Unsettled }
  have FR := fun_mk (st := s_Rinit) rl rcc rkp
  have bR := FR.binds (ps := ["self"]) fun _ _ _ _ _ _ us hl => len_1 (Q := fun us => bindArgs _ ⟨us, []⟩ = pure (List.zip _ us)) (fun _ => rfl) us hl
  have GR := ok_Rinit (P := l.prog) (w := w) (base := base) FR TN
  have GI := ok_Winit Fm_init TN ⟨rga, rrd, rfc, rkp⟩ GR bR
  have CST := ok_sthere (P := l.prog) (w := w) (base := base) F_signs_there TN (ok_are F_signs_that_are T)
  have MDone : MethX l.prog w K mg base 48 C "done_with" ["self", "coming"] (spDone K C c_Unsettled) := ⟨_, _, ok_done Fm_done_with TN CST CSet CInst, bm_done_with, mm_done_with, Cl⟩
  have MTick : MethX l.prog w K mg base 49 C "tick" ["self", "coming"] (spTick K C c_Unsettled) := ⟨_, _, ok_tick Fm_tick TN MDone, bm_tick, mm_tick, Cl⟩
  have MState : MethM l.prog w K mg base 1 C "state" ["self"] (spState K C) := ⟨_, _, ok_state Fm_state TN, bm_state, mm_state, Cl⟩
  have CTk := ok_tk F__law_tick TN em_Unsettled_Unsettled MTick
  have CProg := ok_prog F__law_program T (ok_at F__law_at T CMix) (ok_body F__law_body T CMix (ok_lf F__law_leaf) (ok_gr F__law_grown T (deep_all F__law_deep T 30))) (num_all F__law_numbered T 24)
  have CCome := ok_come F__law_coming T CMix
  have mm_NoName := PySem.W.mg_of X G ea_NoName
  have mm_NoProgram := PySem.W.mg_of X G ea_NoProgram
  have mm_NoRow := PySem.W.mg_of X G ea_NoRow
  have mm_NoText := PySem.W.mg_of X G ea_NoText
  have mm_TooMany := PySem.W.mg_of X G ea_TooMany
  have mm_Twice := PySem.W.mg_of X G ea_Twice
  have mm_WiseError := PySem.W.mg_of X G ea_WiseError
  have EU : ErrU mg c_NoName c_NoProgram c_NoRow c_NoText c_TooMany c_Twice := ⟨mm_NoName, mm_NoProgram, mm_NoRow, mm_NoText, mm_TooMany, mm_Twice⟩
  have IU : IsU K c_NoName c_NoProgram c_NoRow c_NoText c_TooMany c_Twice c_Unsettled c_WiseError := ⟨⟨hgU, gnU, beU, clsE_some hdU, haU, hnC, htC, hmU⟩, kt_NoName, kt_NoProgram, kt_NoRow, kt_NoText, kt_TooMany, kt_Twice, kt_U, kt_V, weU⟩
  have CRf := ok_refu F__law_refused TN EU IU mm_WiseError MTick MState
  exact ok_law F_law TN MkC GI bm_init MState CTk CRf ktW haW hnC htC hmW CProg CMix CCome
theorem walk {l : PySem.W.OpenLaw} {q : Program} {loose : List Str} {XP : (Str → Option Value) → Heap → Prop} {YP : World → Heap → Prop} {d : DefRec} {K : Params → PySem.W.Frag} (hn : l.most = some 63) (hdf : d.params.defaults = [])
    (hY : ∀ (w : World) (h : Heap), YP w h → (K w.params).In h)
    (F : ∀ (w : World) (mg : Str → Option Value) (fa : Addr) (h : Heap), (K w.params).In h → h.Ns mainGlobals mg → mg d.name = some (.ref fa) →
      ∃ fd : FuncData, (∀ (s : Shared) (u : Value), BindsTo s fd ⟨[u], []⟩ [("_law_script", u)]) ∧ ∀ base : Heap, (K w.params).In base → base.Ns mainGlobals mg → FnOk l.prog w (K w.params) mg base CX0 60 fa fd ["_law_script"] (spLaw (K w.params))) :
    PySem.W.WalkO q loose XP YP l.row.toRowW d [] (fun f vs => PySem.call f vs) :=
  L2.walk_of (n := 63) (k := 60) (x := "_law_script") (CX := fun _ => CX0) (sp := fun w => spLaw (K w.params)) hn (by decide) hdf ⟨rfl, by decide, by decide⟩ hY F (fun _ _ a ns hl _ hS => ⟨a, ns, rfl, hS, hl, fun _ => rfl⟩) fun _ _ _ _ _ z => z
end My
end
set_option Elab.async false
open PySem PySem.W PyProof.Rows L2
def PySem.W.Fast.tw17883150526701702542 : PySem.Program := PySem.Challenge.pw_signalwise_k54_runners_apart
theorem PySem.W.Fast.te17883150526701702542 : PySem.Challenge.pw_signalwise_k54_runners_apart = PySem.W.Fast.tw17883150526701702542 := rfl
def PySem.W.Fast.tw6329817029686575414 : Unit := ()
def PySem.W.Fast.tw4663314397853344305 : Unit := ()
def PySem.W.Fast.tw1396135170604755080 : Unit := ()
def PySem.W.Fast.tw3287270358402689414 : Unit := ()
def PySem.W.Fast.tw11482250661956086860 : Unit := ()
def PySem.W.Fast.tw5902362542800631205 : Unit := ()
def PySem.W.Fast.tw3038143055326572596 : Unit := ()
def PySem.W.Fast.tw14393563903872076179 : Unit := ()
def PySem.W.Fast.tw16068878407766406887 : Unit := ()
def PySem.W.Fast.tw4138721279984160063 : Unit := ()
set_option maxRecDepth 100000 in
set_option maxHeartbeats 0 in
theorem PySem.Challenge.cw_signalwise_k54_runners_apart_holds : PySem.Challenge.rw_signalwise_k54_runners_apart.Holds := by
  w_on; o_law; k_head; (case hw => w_witness2)
  k_fill
  refine My.walk (l := PySem.Challenge.rw_signalwise_k54_runners_apart) rfl rfl (fun w h Y => PySem.W.kIn_of Y) ?F
  case F =>
    intro w mg fa h KX G hmg
    refine' My.all_mk KX G hmg ?a0 ?l0 ?c0 ?k0 ?a1 ?l1 ?c1 ?k1 ?a2 ?l2 ?c2 ?k2 ?a3 ?l3 ?c3 ?k3 ?a4 ?l4 ?c4 ?k4 ?a5 ?l5 ?c5 ?k5 ?a6 ?l6 ?c6 ?k6 ?a7 ?l7 ?c7 ?k7 ?a8 ?l8 ?c8 ?k8 ?a9 ?l9 ?c9 ?k9 ?a10 ?l10 ?c10 ?k10 ?a11 ?l11 ?c11 ?k11 ?a12 ?l12 ?c12 ?k12 ?a13 ?l13 ?c13 ?k13 ?a14 ?l14 ?c14 ?k14 ?a15 ?l15 ?c15 ?k15 ?a16 ?l16 ?c16 ?k16 ?a17 ?l17 ?c17 ?k17 ?a18 ?l18 ?c18 ?k18 ?a19 ?l19 ?c19 ?k19 ?a20 ?l20 ?c20 ?k20 ?a21 ?l21 ?c21 ?k21 ?a22 ?l22 ?c22 ?k22 ?a23 ?l23 ?c23 ?k23 ?a24 ?l24 ?c24 ?k24 ?a25 ?l25 ?c25 ?k25 ?a26 ?l26 ?c26 ?k26 ?a27 ?l27 ?c27 ?k27 ?a28 ?l28 ?c28 ?k28 ?a29 ?l29 ?c29 ?k29 ?a30 ?l30 ?c30 ?k30 ?a31 ?l31 ?c31 ?k31 ?a32 ?l32 ?c32 ?k32 ?a33 ?l33 ?c33 ?k33 ?a34 ?l34 ?c34 ?k34 ?a35 ?l35 ?c35 ?k35 ?a36 ?l36 ?c36 ?k36 ?a37 ?l37 ?c37 ?k37 ?a38 ?l38 ?c38 ?k38 ?a39 ?l39 ?c39 ?k39 ?a40 ?l40 ?c40 ?k40 ?a41 ?l41 ?c41 ?k41 ?aC ?ma0 ?mi0 ?ml0 ?mc0 ?mk0 ?ma1 ?mi1 ?ml1 ?mc1 ?mk1 ?ma2 ?mi2 ?ml2 ?mc2 ?mk2 ?ma3 ?mi3 ?ml3 ?mc3 ?mk3 ?pg ?hd ?po ?sa ?mk ?kc ?nA_reached ?nA_program ?ca_NOTHING ?cl_NOTHING ?cs_NOTHING ?cv_NOTHING ?ca_PAIRS ?cl_PAIRS ?cs_PAIRS ?cv_PAIRS ?ca_ROUND ?cl_ROUND ?cs_ROUND ?cv_ROUND ?cn_ENDED ?cn_RESTS ?cn_LEAVES ?ea_Unsettled ?ex_Unsettled ?em_Unsettled_Unsettled ?ea_Runner ?rga ?rrd ?rfc ?rkp ?rl ?rcc ?ea_NoName ?ea_NoProgram ?ea_NoRow ?ea_NoText ?ea_TooMany ?ea_Twice ?ea_WiseError ?hgU ?gnU ?beU ?hdU ?haU ?hmU ?weU ?kt_NoName ?kt_NoProgram ?kt_NoRow ?kt_NoText ?kt_TooMany ?kt_Twice ?kt_U ?kt_V ?hnC ?htC ?ktW ?haW ?hmW ?z_ValueError ?z_enumerate ?z_int ?z_isinstance ?z_len ?z_list ?z_max ?z_min ?z_range ?z_set ?z_sorted ?z_tuple
    (case a0 => k_is)
    (case l0 => k_is)
    (case c0 => k_is)
    (case k0 => k_is)
    (case a1 => k_is)
    (case l1 => k_is)
    (case c1 => k_is)
    (case k1 => k_is)
    (case a2 => k_is)
    (case l2 => k_is)
    (case c2 => k_is)
    (case k2 => k_is)
    (case a3 => k_is)
    (case l3 => k_is)
    (case c3 => k_is)
    (case k3 => k_is)
    (case a4 => k_is)
    (case l4 => k_is)
    (case c4 => k_is)
    (case k4 => k_is)
    (case a5 => k_is)
    (case l5 => k_is)
    (case c5 => k_is)
    (case k5 => k_is)
    (case a6 => k_is)
    (case l6 => k_is)
    (case c6 => k_is)
    (case k6 => k_is)
    (case a7 => k_is)
    (case l7 => k_is)
    (case c7 => k_is)
    (case k7 => k_is)
    (case a8 => k_is)
    (case l8 => k_is)
    (case c8 => k_is)
    (case k8 => k_is)
    (case a9 => k_is)
    (case l9 => k_is)
    (case c9 => k_is)
    (case k9 => k_is)
    (case a10 => k_is)
    (case l10 => k_is)
    (case c10 => k_is)
    (case k10 => k_is)
    (case a11 => k_is)
    (case l11 => k_is)
    (case c11 => k_is)
    (case k11 => k_is)
    (case a12 => k_is)
    (case l12 => k_is)
    (case c12 => k_is)
    (case k12 => k_is)
    (case a13 => k_is)
    (case l13 => k_is)
    (case c13 => k_is)
    (case k13 => k_is)
    (case a14 => k_is)
    (case l14 => k_is)
    (case c14 => k_is)
    (case k14 => k_is)
    (case a15 => k_is)
    (case l15 => k_is)
    (case c15 => k_is)
    (case k15 => k_is)
    (case a16 => k_is)
    (case l16 => k_is)
    (case c16 => k_is)
    (case k16 => k_is)
    (case a17 => k_is)
    (case l17 => k_is)
    (case c17 => k_is)
    (case k17 => k_is)
    (case a18 => k_is)
    (case l18 => k_is)
    (case c18 => k_is)
    (case k18 => k_is)
    (case a19 => k_is)
    (case l19 => k_is)
    (case c19 => k_is)
    (case k19 => k_is)
    (case a20 => k_is)
    (case l20 => k_is)
    (case c20 => k_is)
    (case k20 => k_is)
    (case a21 => k_is)
    (case l21 => k_is)
    (case c21 => k_is)
    (case k21 => k_is)
    (case a22 => k_is)
    (case l22 => k_is)
    (case c22 => k_is)
    (case k22 => k_is)
    (case a23 => k_is)
    (case l23 => k_is)
    (case c23 => k_is)
    (case k23 => k_is)
    (case a24 => k_is)
    (case l24 => k_is)
    (case c24 => k_is)
    (case k24 => k_is)
    (case a25 => k_is)
    (case l25 => k_is)
    (case c25 => k_is)
    (case k25 => k_is)
    (case a26 => k_is)
    (case l26 => k_is)
    (case c26 => k_is)
    (case k26 => k_is)
    (case a27 => k_is)
    (case l27 => k_is)
    (case c27 => k_is)
    (case k27 => k_is)
    (case a28 => k_is)
    (case l28 => k_is)
    (case c28 => k_is)
    (case k28 => k_is)
    (case a29 => k_is)
    (case l29 => k_is)
    (case c29 => k_is)
    (case k29 => k_is)
    (case a30 => k_is)
    (case l30 => k_is)
    (case c30 => k_is)
    (case k30 => k_is)
    (case a31 => k_is)
    (case l31 => k_is)
    (case c31 => k_is)
    (case k31 => k_is)
    (case a32 => k_is)
    (case l32 => k_is)
    (case c32 => k_is)
    (case k32 => k_is)
    (case a33 => k_is)
    (case l33 => k_is)
    (case c33 => k_is)
    (case k33 => k_is)
    (case a34 => k_is)
    (case l34 => k_is)
    (case c34 => k_is)
    (case k34 => k_is)
    (case a35 => k_is)
    (case l35 => k_is)
    (case c35 => k_is)
    (case k35 => k_is)
    (case a36 => k_is)
    (case l36 => k_is)
    (case c36 => k_is)
    (case k36 => k_is)
    (case a37 => k_is)
    (case l37 => k_is)
    (case c37 => k_is)
    (case k37 => k_is)
    (case a38 => k_is)
    (case l38 => k_is)
    (case c38 => k_is)
    (case k38 => k_is)
    (case a39 => k_is)
    (case l39 => k_is)
    (case c39 => k_is)
    (case k39 => k_is)
    (case a40 => k_is)
    (case l40 => k_is)
    (case c40 => k_is)
    (case k40 => k_is)
    (case a41 => k_is)
    (case l41 => k_is)
    (case c41 => k_is)
    (case k41 => k_is)
    (case aC => k_is)
    (case ma0 => k_is)
    (case mi0 => k_is)
    (case ml0 => k_is)
    (case mc0 => k_is)
    (case mk0 => k_is)
    (case ma1 => k_is)
    (case mi1 => k_is)
    (case ml1 => k_is)
    (case mc1 => k_is)
    (case mk1 => k_is)
    (case ma2 => k_is)
    (case mi2 => k_is)
    (case ml2 => k_is)
    (case mc2 => k_is)
    (case mk2 => k_is)
    (case ma3 => k_is)
    (case mi3 => k_is)
    (case ml3 => k_is)
    (case mc3 => k_is)
    (case mk3 => k_is)
    (case pg => k_is)
    (case hd => k_is)
    (case po => k_is)
    (case sa => k_is)
    (case mk => k_is)
    (case kc => k_is)
    (case nA_reached => k_is)
    (case nA_program => k_is)
    (case ca_NOTHING => k_is)
    (case cl_NOTHING => k_is)
    (case cs_NOTHING => decide)
    (case cv_NOTHING => exact .cons ⟨_, rfl⟩ (.nil))
    (case ca_PAIRS => k_is)
    (case cl_PAIRS => k_is)
    (case cs_PAIRS => decide)
    (case cv_PAIRS => exact .cons ⟨_, rfl⟩ (.cons ⟨_, rfl⟩ (.cons ⟨_, rfl⟩ (.nil))))
    (case ca_ROUND => k_is)
    (case cl_ROUND => k_is)
    (case cs_ROUND => decide)
    (case cv_ROUND => exact .cons ⟨_, rfl⟩ (.cons ⟨_, rfl⟩ (.cons ⟨_, rfl⟩ (.cons ⟨_, rfl⟩ (.nil)))))
    (case cn_ENDED => k_is)
    (case cn_RESTS => k_is)
    (case cn_LEAVES => k_is)
    (case ea_Unsettled => k_is)
    (case ex_Unsettled => k_exc)
    (case em_Unsettled_Unsettled => kts_exm)
    (case ea_Runner => k_is)
    (case rga => k_is)
    (case rrd => k_is)
    (case rfc => k_is)
    (case rkp => k_is)
    (case rl => k_is)
    (case rcc => k_is)
    (case ea_NoName => k_is)
    (case ea_NoProgram => k_is)
    (case ea_NoRow => k_is)
    (case ea_NoText => k_is)
    (case ea_TooMany => k_is)
    (case ea_Twice => k_is)
    (case ea_WiseError => k_is)
    (case hgU => k_is)
    (case gnU => k_is)
    (case beU => k_is)
    (case hdU => k_is)
    (case haU => k_is)
    (case hmU => k_is)
    (case weU => kts_exm)
    (case kt_NoName => kit_is)
    (case kt_NoProgram => kit_is)
    (case kt_NoRow => kit_is)
    (case kt_NoText => kit_is)
    (case kt_TooMany => kit_is)
    (case kt_Twice => kit_is)
    (case kt_U => kit_is)
    (case kt_V => kit_is)
    (case hnC => k_is)
    (case htC => k_is)
    (case ktW => kit_is)
    (case haW => k_is)
    (case hmW => k_is)
    (case z_ValueError => k_is)
    (case z_enumerate => k_is)
    (case z_int => k_is)
    (case z_isinstance => k_is)
    (case z_len => k_is)
    (case z_list => k_is)
    (case z_max => k_is)
    (case z_min => k_is)
    (case z_range => k_is)
    (case z_set => k_is)
    (case z_sorted => k_is)
    (case z_tuple => k_is)
#print axioms PySem.Challenge.cw_signalwise_k54_runners_apart_holds
