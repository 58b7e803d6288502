/- The kit of this proof: the frame 'Kd' of a call that may turn blocks of a set D alone, and rows that lie in D. -/
import Derived.Test.YtakipjofboipmaaGreatDoorJ1
namespace Go.Proofs.YtakipjofboipmaaGreatDoor
open Go.RowKit

/-- Of what was there, only blocks of D whose elements are of one of the types ts may have turned. -/
structure Kd (D : Nat → Prop) (ts : List Nat) (w w' : World) : Prop where
  os : w'.os = w.os
  tape : w'.tape = w.tape
  output : w'.output = w.output
  size : w.heap.size ≤ w'.heap.size
  block : ∀ k, k < w.heap.size → (¬ D k ∨ ∀ c e f, w.heap[k]? = some (.cells c e f) → e ∉ ts) → w'.heap[k]? = w.heap[k]?

/-- All blocks that are not there yet are D's. -/
def Opn (D : Nat → Prop) (w : World) : Prop := ∀ k, w.heap.size ≤ k → D k

theorem Opn.later {D : Nat → Prop} {w w' : World} (h : Opn D w) (hs : w.heap.size ≤ w'.heap.size) : Opn D w' := fun k hk => h k (Nat.le_trans hs hk)

/-- An owned row that lies in D. -/
def OwnsIn (w : World) (D : Nat → Prop) (e : TypeId) (size : Nat) (v : Value) (n : Nat) (xs : List Value) : Prop :=
  w.ownsRow 0 e size v n xs ∧ ∀ g, v.ownBlock = some g → D g

theorem OwnsIn.own {w : World} {D : Nat → Prop} {e : TypeId} {size : Nat} {v : Value} {n : Nat} {xs : List Value} (h : OwnsIn w D e size v n xs) : w.ownsRow 0 e size v n xs := h.1

theorem OwnsIn.dom {w : World} {D : Nat → Prop} {e : TypeId} {size : Nat} {v : Value} {n : Nat} {xs : List Value} (h : OwnsIn w D e size v n xs) : ∀ g, v.ownBlock = some g → D g := h.2

theorem Kd.refl (D : Nat → Prop) (ts : List Nat) (w : World) : Kd D ts w w := ⟨rfl, rfl, rfl, Nat.le_refl _, fun _ _ _ => rfl⟩

theorem Kd.trans {D : Nat → Prop} {ts : List Nat} {a b c : World} (h : Kd D ts a b) (k : Kd D ts b c) : Kd D ts a c :=
  ⟨k.os.trans h.os, k.tape.trans h.tape, k.output.trans h.output, Nat.le_trans h.size k.size, fun i hi hor => by
    have e1 := h.block i hi hor
    rw [k.block i (Nat.lt_of_lt_of_le hi h.size) (by rw [e1]; exact hor), e1]⟩

theorem Kd.mono {D : Nat → Prop} {ts ts' : List Nat} {w w' : World} (h : Kd D ts w w') (hs : ∀ t, t ∈ ts → t ∈ ts') : Kd D ts' w w' :=
  ⟨h.os, h.tape, h.output, h.size, fun k hk hor => h.block k hk (hor.imp id fun g c e f hc hm => g c e f hc (hs e hm))⟩

theorem Kd.wider {D D' : Nat → Prop} {ts : List Nat} {w w' : World} (h : Kd D ts w w') (hs : ∀ k, k < w.heap.size → D k → D' k) : Kd D' ts w w' :=
  ⟨h.os, h.tape, h.output, h.size, fun k hk hor => h.block k hk (hor.imp (fun g d => g (hs k hk d)) id)⟩

theorem Kd.of_below {D : Nat → Prop} {ts : List Nat} {w w' : World} (h : Below w.heap.size w w') : Kd D ts w w' :=
  ⟨h.os, h.tape, h.output, h.size, fun k hk _ => h.block k hk⟩

theorem Kd.of_belowB {D : Nat → Prop} {ts : List Nat} {B : Nat} {w w' : World} (h : Below B w w') (hB : B = w.heap.size) : Kd D ts w w' :=
  ⟨h.os, h.tape, h.output, h.size, fun k hk _ => h.block k (by omega)⟩

theorem Kd.of_kp {D : Nat → Prop} {ts : List Nat} {B : Nat} {w w' : World} (h : Kp B ts w w') (hB : w.heap.size ≤ B) : Kd D [] w w' :=
  ⟨h.os, h.tape, h.output, h.size, fun k hk _ => h.block k hk (.inl (by omega))⟩

/-- Nothing of what was there below N has turned, where D lies from N on. -/
theorem Kd.belowN {D : Nat → Prop} {ts : List Nat} {N : Nat} {w w' : World} (h : Kd D ts w w') (hN : N ≤ w.heap.size) (hD : ∀ k, D k → N ≤ k) : Below N w w' :=
  ⟨h.os, h.tape, h.output, h.size, fun k hk => h.block k (by omega) (.inl fun d => by have := hD k d; omega)⟩

theorem Kd.drew {D : Nat → Prop} {ts : List Nat} {a w : World} (h : Kd D ts a w) : Kd D ts a w.drew := ⟨h.os, h.tape, h.output, h.size, h.block⟩

theorem Kd.drewN {D : Nat → Prop} {ts : List Nat} {a w : World} (h : Kd D ts a w) (n : Nat) : Kd D ts a (w.drewN n) := ⟨h.os, h.tape, h.output, h.size, h.block⟩

theorem Kd.alloc {D : Nat → Prop} {ts : List Nat} {a w : World} (h : Kd D ts a w) (o : Obj) : Kd D ts a (w.alloc o) :=
  h.trans (Kd.of_below ((Below.refl _ _).alloc (Nat.le_refl _) o))

/-- A block that may not have turned. -/
theorem Kd.keep {D : Nat → Prop} {ts : List Nat} {w w' : World} (h : Kd D ts w w') {k : Nat} {c : Array Value} {e : TypeId} {f : Nat × Nat} (hk : w.heap[k]? = some (.cells c e f)) (he : e ∉ ts) : w'.heap[k]? = some (.cells c e f) := by
  rw [h.block k (lt_of_block hk) (.inr fun c' e' f' hc => by rw [hk] at hc; simp only [Option.some.injEq, Obj.cells.injEq] at hc; rw [← hc.2.1]; exact he)]
  exact hk

/-- A block that is not D's. -/
theorem Kd.keepN {D : Nat → Prop} {ts : List Nat} {w w' : World} (h : Kd D ts w w') {k : Nat} {o : Obj} (hk : w.heap[k]? = some o) (he : ¬ D k) : w'.heap[k]? = some o := by
  rw [h.block k (Array.getElem?_eq_some_iff.1 hk).1 (.inl he)]
  exact hk

theorem Kd.owns {D : Nat → Prop} {ts : List Nat} {w w' : World} (h : Kd D ts w w') {base : Nat} {e : TypeId} {size : Nat} {v : Value} {n : Nat} {xs : List Value} (ho : w.ownsRow base e size v n xs) (he : e ∉ ts) : w'.ownsRow base e size v n xs := by
  refine ⟨ho.1, ?_⟩
  rcases ho.2 with hn | ⟨g, cap, cur, rfl, hb, hg, r⟩
  · exact .inl hn
  · exact .inr ⟨g, cap, cur, rfl, hb, h.keep hg he, r⟩

theorem Kd.ownsN {D : Nat → Prop} {ts : List Nat} {w w' : World} (h : Kd D ts w w') {base : Nat} {e : TypeId} {size : Nat} {v : Value} {n : Nat} {xs : List Value} (ho : w.ownsRow base e size v n xs) (he : ∀ g, v.ownBlock = some g → ¬ D g) : w'.ownsRow base e size v n xs := by
  refine ⟨ho.1, ?_⟩
  rcases ho.2 with hn | ⟨g, cap, cur, rfl, hb, hg, r⟩
  · exact .inl hn
  · exact .inr ⟨g, cap, cur, rfl, hb, h.keepN hg (he g rfl), r⟩

theorem Kd.ownsIn {D D' : Nat → Prop} {ts : List Nat} {w w' : World} (h : Kd D ts w w') {e : TypeId} {size : Nat} {v : Value} {n : Nat} {xs : List Value} (ho : OwnsIn w D' e size v n xs) (he : e ∉ ts) : OwnsIn w' D' e size v n xs :=
  ⟨h.owns ho.own he, ho.dom⟩

theorem OwnsIn.alloc {w : World} {D : Nat → Prop} {e : TypeId} {size : Nat} {v : Value} {n : Nat} {xs : List Value} (ho : OwnsIn w D e size v n xs) (o : Obj) : OwnsIn (w.alloc o) D e size v n xs := ⟨ho.own.alloc o, ho.dom⟩

theorem OwnsIn.below {w w' : World} {D : Nat → Prop} {e : TypeId} {size : Nat} {v : Value} {n : Nat} {xs : List Value} (ho : OwnsIn w D e size v n xs) (hb : Below w.heap.size w w') : OwnsIn w' D e size v n xs :=
  (Kd.of_below (D := D) (ts := []) hb).ownsIn ho (by simp)

theorem Kd.setCell {D : Nat → Prop} {ts : List Nat} {a w : World} (h : Kd D ts a w) {k o : Nat} {c : Array Value} {e : TypeId} {f : Nat × Nat} (hB : D k) (hk : w.heap[k]? = some (.cells c e f)) (he : e ∈ ts) (v : Value) : Kd D ts a (w.setCell ⟨k, o, none⟩ v) :=
  h.trans ⟨rfl, rfl, rfl, by simp [World.setCell], fun i hi hor => by
    refine Below.heap_setCell _ _ _ _ (fun hik => ?_)
    have hik' : i = k := hik
    subst hik'
    rcases hor with h1 | h1
    · exact h1 hB
    · exact h1 _ _ _ hk he⟩

/-- Behind a law that ends in 'grownBy'. -/
theorem Kd.grown {D : Nat → Prop} {ts : List Nat} {a w w' : World} (h : Kd D ts a w) {e : TypeId} {size : Nat} {v : Value} {n : Nat} {xs : List Value} (ho : OwnsIn w D e size v n xs) (hg : w.grownBy w' v.ownBlock) (he : e ∈ ts) : Kd D ts a w' :=
  h.trans ⟨hg.os, hg.tape, hg.output, hg.size, fun i hi hor => by
    refine hg.block i hi (fun hik => ?_)
    have hd := ho.dom i hik.symm
    rcases ho.own.2 with ⟨rfl, _⟩ | ⟨g, cap, cur, rfl, hb, hgg, _⟩
    · simp [Value.ownBlock] at hik
    · simp only [Value.ownBlock, Option.some.injEq] at hik
      subst hik
      rcases hor with h1 | h1
      · exact h1 hd
      · exact h1 _ _ _ hgg he⟩

/-- What append left lies in D. -/
theorem OwnsIn.lies {w w' : World} {D : Nat → Prop} {e : TypeId} {size : Nat} {v : Value} {n : Nat} {xs : List Value} (ho : OwnsIn w D e size v n xs) (hD : Opn D w) {g cap m : Nat} {ys : List Value}
    (h : w'.ownsRow 0 e size (.slice (some ⟨g, 0, none⟩) m cap) m ys) (hat : v.ownBlock = some g ∨ g = w.heap.size) : OwnsIn w' D e size (.slice (some ⟨g, 0, none⟩) m cap) m ys :=
  ⟨h, fun g' hg' => by
    simp only [Value.ownBlock, Option.some.injEq] at hg'
    subst hg'
    rcases hat with h1 | h1
    · exact ho.dom _ h1
    · exact hD _ (by omega)⟩

/-- The same, the row's place said otherwise. -/
theorem OwnsIn.put {w0 w w' : World} {D : Nat → Prop} {e : TypeId} {size : Nat} {v : Value} {n : Nat} {xs : List Value} (ho : OwnsIn w0 D e size v n xs) (hD : Opn D w) {g cap m : Nat} {ys : List Value}
    (h : w'.ownsRow 0 e size (.slice (some ⟨g, 0, none⟩) m cap) m ys) (hat : v.ownBlock = some g ∨ w.heap.size ≤ g) : OwnsIn w' D e size (.slice (some ⟨g, 0, none⟩) m cap) m ys :=
  ⟨h, fun g' hg' => by
    simp only [Value.ownBlock, Option.some.injEq] at hg'
    subst hg'
    rcases hat with h1 | h1
    · exact ho.dom _ h1
    · exact hD _ h1⟩

/-- A new row. -/
theorem OwnsIn.fresh {w w' : World} {D : Nat → Prop} {base : Nat} {e : TypeId} {size : Nat} {v : Value} {n : Nat} {xs : List Value} (h : w'.ownsRow base e size v n xs) (hD : Opn D w) (hb : w.heap.size ≤ base) : OwnsIn w' D e size v n xs :=
  ⟨owns_base h (Nat.zero_le _), fun g hg => hD g (by have := (h.lt g hg).1; omega)⟩

theorem Kd.field {D : Nat → Prop} {w : World} {sb : Nat} {a : Array Value} {t : TypeId} (hB : D sb) (h : w.heap[sb]? = some (.cells a t (0, 0))) (i : Nat) (v : Value) : Kd D [t] w (w.setCell ⟨sb, i, none⟩ v) :=
  (Kd.refl D [t] w).setCell hB h (by simp) v

end Go.Proofs.YtakipjofboipmaaGreatDoor
