/- The kit of this proof: the frame 'Kp' of a call, and small facts on worlds, whatever the program. -/
import Derived.WalkKit
import Derived.WalkSpells
import Derived.WalkLawsBesides
import Derived.Lib.QuietBelow
import Derived.Lib.Bytealg
import Derived.BigQuiet
import Derived.Deep.QuietTactic
import Derived.Deep.LoopGhost
import Derived.Test.YtakipjofboipmaaGreatDoorChecked
namespace Go.Proofs.YtakipjofboipmaaGreatDoor
open Go.RowKit

/-- Of what was there, only blocks from B on whose elements are of one of the types ts may have turned. -/
structure Kp (B : Nat) (ts : List Nat) (w w' : World) : Prop where
  os : w'.os = w.os
  tape : w'.tape = w.tape
  output : w'.output = w.output
  size : w.heap.size ≤ w'.heap.size
  block : ∀ k, k < w.heap.size → (k < B ∨ ∀ c e f, w.heap[k]? = some (.cells c e f) → e ∉ ts) → w'.heap[k]? = w.heap[k]?

theorem Kp.refl (B : Nat) (ts : List Nat) (w : World) : Kp B ts w w := ⟨rfl, rfl, rfl, Nat.le_refl _, fun _ _ _ => rfl⟩

theorem Kp.trans {B : Nat} {ts : List Nat} {a b c : World} (h : Kp B ts a b) (k : Kp B ts b c) : Kp B ts a c :=
  ⟨k.os.trans h.os, k.tape.trans h.tape, k.output.trans h.output, Nat.le_trans h.size k.size, fun i hi hor => by
    have e1 := h.block i hi hor
    rw [k.block i (Nat.lt_of_lt_of_le hi h.size) (by rw [e1]; exact hor), e1]⟩

theorem Kp.mono {B : Nat} {ts ts' : List Nat} {w w' : World} (h : Kp B ts w w') (hs : ∀ t, t ∈ ts → t ∈ ts') : Kp B ts' w w' :=
  ⟨h.os, h.tape, h.output, h.size, fun k hk hor => h.block k hk (hor.imp id fun g c e f hc hm => g c e f hc (hs e hm))⟩

theorem Kp.of_below {B : Nat} {ts : List Nat} {w w' : World} (h : Below w.heap.size w w') : Kp B ts w w' :=
  ⟨h.os, h.tape, h.output, h.size, fun k hk _ => h.block k hk⟩

theorem Kp.below {B : Nat} {w w' : World} (h : Kp B [] w w') : Below w.heap.size w w' :=
  ⟨h.os, h.tape, h.output, h.size, fun k hk => h.block k hk (.inr fun _ _ _ _ => by simp)⟩

theorem Kp.belowB {B : Nat} {ts : List Nat} {w w' : World} (h : Kp B ts w w') (hB : B ≤ w.heap.size) : Below B w w' :=
  ⟨h.os, h.tape, h.output, h.size, fun k hk => h.block k (Nat.lt_of_lt_of_le hk hB) (.inl hk)⟩

theorem Kp.drew {B : Nat} {ts : List Nat} {a w : World} (h : Kp B ts a w) : Kp B ts a w.drew := ⟨h.os, h.tape, h.output, h.size, h.block⟩

theorem Kp.drewN {B : Nat} {ts : List Nat} {a w : World} (h : Kp B ts a w) (n : Nat) : Kp B ts a (w.drewN n) := ⟨h.os, h.tape, h.output, h.size, h.block⟩

theorem Kp.alloc {B : Nat} {ts : List Nat} {a w : World} (h : Kp B ts a w) (o : Obj) : Kp B ts a (w.alloc o) :=
  h.trans (Kp.of_below ((Below.refl _ _).alloc (Nat.le_refl _) o))

/-- A block that may not have turned. -/
theorem Kp.keep {B : Nat} {ts : List Nat} {w w' : World} (h : Kp B ts w w') {k : Nat} {c : Array Value} {e : TypeId} {f : Nat × Nat} (hk : w.heap[k]? = some (.cells c e f)) (he : e ∉ ts) : w'.heap[k]? = some (.cells c e f) := by
  rw [h.block k (lt_of_block hk) (.inr fun c' e' f' hc => by rw [hk] at hc; simp only [Option.some.injEq, Obj.cells.injEq] at hc; rw [← hc.2.1]; exact he)]
  exact hk

theorem Kp.owns {B : Nat} {ts : List Nat} {w w' : World} (h : Kp B ts w w') {base : Nat} {e : TypeId} {size : Nat} {v : Value} {n : Nat} {xs : List Value} (ho : w.ownsRow base e size v n xs) (he : e ∉ ts) : w'.ownsRow base e size v n xs := by
  refine ⟨ho.1, ?_⟩
  rcases ho.2 with hn | ⟨g, cap, cur, rfl, hb, hg, r⟩
  · exact .inl hn
  · exact .inr ⟨g, cap, cur, rfl, hb, h.keep hg he, r⟩

theorem Kp.setCell {B : Nat} {ts : List Nat} {a w : World} (h : Kp B ts a w) {k o : Nat} {c : Array Value} {e : TypeId} {f : Nat × Nat} (hB : B ≤ k) (hk : w.heap[k]? = some (.cells c e f)) (he : e ∈ ts) (v : Value) : Kp B ts a (w.setCell ⟨k, o, none⟩ v) :=
  h.trans ⟨rfl, rfl, rfl, by simp [World.setCell], fun i hi hor => by
    refine Below.heap_setCell _ _ _ _ (fun hik => ?_)
    have hik' : i = k := hik
    subst hik'
    rcases hor with h1 | h1
    · omega
    · exact h1 _ _ _ hk he⟩

/-- Behind a law that ends in 'grownBy'. -/
theorem Kp.grown {B : Nat} {ts : List Nat} {a w w' : World} (h : Kp B ts a w) {base : Nat} {e : TypeId} {size : Nat} {v : Value} {n : Nat} {xs : List Value} (ho : w.ownsRow base e size v n xs) (hg : w.grownBy w' v.ownBlock) (hB : B ≤ base) (he : e ∈ ts) : Kp B ts a w' :=
  h.trans ⟨hg.os, hg.tape, hg.output, hg.size, fun i hi hor => by
    refine hg.block i hi (fun hik => ?_)
    rcases ho.2 with ⟨rfl, _⟩ | ⟨g, cap, cur, rfl, hb, hgg, _⟩
    · simp [Value.ownBlock] at hik
    · simp only [Value.ownBlock, Option.some.injEq] at hik
      subst hik
      rcases hor with h1 | h1
      · omega
      · exact h1 _ _ _ hgg he⟩

/-- An owned row under another base. -/
theorem owns_base {w : World} {base base' : Nat} {e : TypeId} {size : Nat} {v : Value} {n : Nat} {xs : List Value} (ho : w.ownsRow base e size v n xs) (hb : base' ≤ base) : w.ownsRow base' e size v n xs :=
  ⟨ho.1, ho.2.imp id fun ⟨g, cap, cur, hv, hg, r⟩ => ⟨g, cap, cur, hv, Nat.le_trans hb hg, r⟩⟩

theorem below_trans' {a b c : World} (h : Below a.heap.size a b) (k : Below b.heap.size b c) : Below a.heap.size a c := h.trans (k.mono h.size)

theorem str_eq {a b : ByteArray} (h : a.toList = b.toList) : a = b := by
  rw [ByteArray.toList_eq, ByteArray.toList_eq] at h
  cases a; cases b
  congr 1
  exact Array.toList_inj.1 h
/-- Go's '==' on strings, as the walk writes it. -/
theorem str_ne {a b : ByteArray} (h : a ≠ b) : (a.toList == b.toList) = false := by
  rw [beq_eq_false_iff_ne]
  exact fun g => h (str_eq g)
theorem str_same (a : ByteArray) : (a.toList == a.toList) = true := by simp

end Go.Proofs.YtakipjofboipmaaGreatDoor
