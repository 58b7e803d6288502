/- The kit of this proof: the frame 'Kp' of a call, and small facts on worlds, whatever the program. -/
import Derived.Test.YtakipjofboipmaaGreatRows
import Derived.WalkKit
import Derived.WalkSpells
import Derived.WalkLawsBesides
import Derived.Lib.QuietBelow
import Derived.Lib.Bytealg
import Derived.BigQuiet
import Derived.Deep.QuietTactic
import Derived.Deep.LoopGhost
namespace Go.Proofs.YtakipjofboipmaaGreat
open Go.RowKit

/-- Of what was there, only blocks from B on whose elements are of one of the types ts may have turned. -/
structure Kp (B : Nat) (ts : List Nat) (w w' : World) : Prop where
  os : w'.os = w.os
  tape : w'.tape = w.tape
  output : w'.output = w.output
  size : w.heap.size ≤ w'.heap.size
  block : ∀ k, k < w.heap.size → (k < B ∨ ∀ c e f, w.heap[k]? = some (.cells c e f) → e ∉ ts) → w'.heap[k]? = w.heap[k]?

theorem Kp.refl (B : Nat) (ts : List Nat) (w : World) : Kp B ts w w := ⟨rfl, rfl, rfl, Nat.le_refl _, fun _ _ _ => rfl⟩

theorem Kp.trans {B : Nat} {ts : List Nat} {a b c : World} (h : Kp B ts a b) (k : Kp B ts b c) : Kp B ts a c :=
  ⟨k.os.trans h.os, k.tape.trans h.tape, k.output.trans h.output, Nat.le_trans h.size k.size, fun i hi hor => by
    have e1 := h.block i hi hor
    rw [k.block i (Nat.lt_of_lt_of_le hi h.size) (by rw [e1]; exact hor), e1]⟩

theorem Kp.mono {B : Nat} {ts ts' : List Nat} {w w' : World} (h : Kp B ts w w') (hs : ∀ t, t ∈ ts → t ∈ ts') : Kp B ts' w w' :=
  ⟨h.os, h.tape, h.output, h.size, fun k hk hor => h.block k hk (hor.imp id fun g c e f hc hm => g c e f hc (hs e hm))⟩

theorem Kp.of_below {B : Nat} {ts : List Nat} {w w' : World} (h : Below w.heap.size w w') : Kp B ts w w' :=
  ⟨h.os, h.tape, h.output, h.size, fun k hk _ => h.block k hk⟩

theorem Kp.below {B : Nat} {w w' : World} (h : Kp B [] w w') : Below w.heap.size w w' :=
  ⟨h.os, h.tape, h.output, h.size, fun k hk => h.block k hk (.inr fun _ _ _ _ => by simp)⟩

theorem Kp.belowB {B : Nat} {ts : List Nat} {w w' : World} (h : Kp B ts w w') (hB : B ≤ w.heap.size) : Below B w w' :=
  ⟨h.os, h.tape, h.output, h.size, fun k hk => h.block k (Nat.lt_of_lt_of_le hk hB) (.inl hk)⟩

theorem Kp.drew {B : Nat} {ts : List Nat} {a w : World} (h : Kp B ts a w) : Kp B ts a w.drew := ⟨h.os, h.tape, h.output, h.size, h.block⟩

theorem Kp.drewN {B : Nat} {ts : List Nat} {a w : World} (h : Kp B ts a w) (n : Nat) : Kp B ts a (w.drewN n) := ⟨h.os, h.tape, h.output, h.size, h.block⟩

theorem Kp.alloc {B : Nat} {ts : List Nat} {a w : World} (h : Kp B ts a w) (o : Obj) : Kp B ts a (w.alloc o) :=
  h.trans (Kp.of_below ((Below.refl _ _).alloc (Nat.le_refl _) o))

/-- A block that may not have turned. -/
theorem Kp.keep {B : Nat} {ts : List Nat} {w w' : World} (h : Kp B ts w w') {k : Nat} {c : Array Value} {e : TypeId} {f : Nat × Nat} (hk : w.heap[k]? = some (.cells c e f)) (he : e ∉ ts) : w'.heap[k]? = some (.cells c e f) := by
  rw [h.block k (lt_of_block hk) (.inr fun c' e' f' hc => by rw [hk] at hc; simp only [Option.some.injEq, Obj.cells.injEq] at hc; rw [← hc.2.1]; exact he)]
  exact hk

theorem Kp.owns {B : Nat} {ts : List Nat} {w w' : World} (h : Kp B ts w w') {base : Nat} {e : TypeId} {size : Nat} {v : Value} {n : Nat} {xs : List Value} (ho : w.ownsRow base e size v n xs) (he : e ∉ ts) : w'.ownsRow base e size v n xs := by
  refine ⟨ho.1, ?_⟩
  rcases ho.2 with hn | ⟨g, cap, cur, rfl, hb, hg, r⟩
  · exact .inl hn
  · exact .inr ⟨g, cap, cur, rfl, hb, h.keep hg he, r⟩

theorem Kp.setCell {B : Nat} {ts : List Nat} {a w : World} (h : Kp B ts a w) {k o : Nat} {c : Array Value} {e : TypeId} {f : Nat × Nat} (hB : B ≤ k) (hk : w.heap[k]? = some (.cells c e f)) (he : e ∈ ts) (v : Value) : Kp B ts a (w.setCell ⟨k, o, none⟩ v) :=
  h.trans ⟨rfl, rfl, rfl, by simp [World.setCell], fun i hi hor => by
    refine Below.heap_setCell _ _ _ _ (fun hik => ?_)
    have hik' : i = k := hik
    subst hik'
    rcases hor with h1 | h1
    · omega
    · exact h1 _ _ _ hk he⟩

/-- Behind a law that ends in 'grownBy'. -/
theorem Kp.grown {B : Nat} {ts : List Nat} {a w w' : World} (h : Kp B ts a w) {base : Nat} {e : TypeId} {size : Nat} {v : Value} {n : Nat} {xs : List Value} (ho : w.ownsRow base e size v n xs) (hg : w.grownBy w' v.ownBlock) (hB : B ≤ base) (he : e ∈ ts) : Kp B ts a w' :=
  h.trans ⟨hg.os, hg.tape, hg.output, hg.size, fun i hi hor => by
    refine hg.block i hi (fun hik => ?_)
    rcases ho.2 with ⟨rfl, _⟩ | ⟨g, cap, cur, rfl, hb, hgg, _⟩
    · simp [Value.ownBlock] at hik
    · simp only [Value.ownBlock, Option.some.injEq] at hik
      subst hik
      rcases hor with h1 | h1
      · omega
      · exact h1 _ _ _ hgg he⟩

/-- An owned row under another base. -/
theorem owns_base {w : World} {base base' : Nat} {e : TypeId} {size : Nat} {v : Value} {n : Nat} {xs : List Value} (ho : w.ownsRow base e size v n xs) (hb : base' ≤ base) : w.ownsRow base' e size v n xs :=
  ⟨ho.1, ho.2.imp id fun ⟨g, cap, cur, hv, hg, r⟩ => ⟨g, cap, cur, hv, Nat.le_trans hb hg, r⟩⟩

theorem below_trans' {a b c : World} (h : Below a.heap.size a b) (k : Below b.heap.size b c) : Below a.heap.size a c := h.trans (k.mono h.size)

theorem str_eq {a b : ByteArray} (h : a.toList = b.toList) : a = b := by
  rw [ByteArray.toList_eq, ByteArray.toList_eq] at h
  cases a; cases b
  congr 1
  exact Array.toList_inj.1 h
/-- Go's '==' on strings, as the walk writes it. -/
theorem str_ne {a b : ByteArray} (h : a ≠ b) : (a.toList == b.toList) = false := by
  rw [beq_eq_false_iff_ne]
  exact fun g => h (str_eq g)
theorem str_same (a : ByteArray) : (a.toList == a.toList) = true := by simp

end Go.Proofs.YtakipjofboipmaaGreat

/- Plain mathematics of this proof: the order of keys and of entries, what batches make of a key. -/
namespace Go.Proofs.YtakipjofboipmaaGreat
open Go.Lib (compareBytes)

theorem cb_self : ∀ a : List UInt8, compareBytes a a = 0
  | [] => rfl
  | x :: a => by simp [compareBytes, cb_self a, UInt8.lt_irrefl]

theorem cb_zero : ∀ {a b : List UInt8}, compareBytes a b = 0 → a = b
  | [], [], _ => rfl
  | [], _ :: _, h => by simp [compareBytes] at h
  | _ :: _, [], h => by simp [compareBytes] at h
  | x :: a, y :: b, h => by
    unfold compareBytes at h
    split at h
    · simp at h
    · split at h
      · simp at h
      · rename_i h1 h2
        have : x = y := UInt8.le_antisymm (UInt8.not_lt.1 h2) (UInt8.not_lt.1 h1)
        rw [this, cb_zero h]

theorem cb_neg : ∀ (a b : List UInt8), compareBytes b a = - compareBytes a b
  | [], [] => rfl
  | [], _ :: _ => rfl
  | _ :: _, [] => rfl
  | x :: a, y :: b => by
    unfold compareBytes
    by_cases h1 : x < y
    · have h2 : ¬ y < x := UInt8.not_lt.2 (UInt8.le_of_lt h1)
      simp [h1, h2]
    · by_cases h2 : y < x
      · simp [h1, h2]
      · simp [h1, h2, cb_neg a b]

theorem cb_trans : ∀ {a b c : List UInt8}, compareBytes a b < 0 → compareBytes b c < 0 → compareBytes a c < 0
  | [], [], _, h, _ => by simp [compareBytes] at h
  | [], _ :: _, [], _, h => by simp [compareBytes] at h
  | [], _ :: _, _ :: _, _, _ => by simp [compareBytes]
  | _ :: _, [], _, h, _ => by simp [compareBytes] at h
  | _ :: _, _ :: _, [], _, h => by simp [compareBytes] at h
  | x :: a, y :: b, z :: c, h1, h2 => by
    unfold compareBytes at h1 h2 ⊢
    by_cases c1 : x < y
    · by_cases c2 : y < z
      · simp [UInt8.lt_trans c1 c2]
      · by_cases c3 : z < y
        · simp [c2, c3] at h2
        · have : y = z := UInt8.le_antisymm (UInt8.not_lt.1 c3) (UInt8.not_lt.1 c2)
          subst this
          simp [c1]
    · by_cases c1' : y < x
      · simp [c1, c1'] at h1
      · have e : x = y := UInt8.le_antisymm (UInt8.not_lt.1 c1') (UInt8.not_lt.1 c1)
        subst e
        simp only [UInt8.lt_irrefl, if_false] at h1
        by_cases c2 : x < z
        · simp [c2]
        · by_cases c3 : z < x
          · simp [c2, c3] at h2
          · simp only [c2, c3, if_false] at h2 ⊢
            exact cb_trans h1 h2

/-- Keys by their bytes. -/
def kc (a b : ByteArray) : Int := compareBytes a.data.toList b.data.toList
theorem kc_self (a : ByteArray) : kc a a = 0 := cb_self _
theorem kc_zero {a b : ByteArray} (h : kc a b = 0) : a = b := by
  have := cb_zero h
  cases a; cases b
  congr 1
  exact Array.toList_inj.1 this
theorem kc_neg (a b : ByteArray) : kc b a = - kc a b := cb_neg _ _
theorem kc_trans {a b c : ByteArray} (h1 : kc a b < 0) (h2 : kc b c < 0) : kc a c < 0 := cb_trans h1 h2

/-- An entry. -/
structure En where
  k : ByteArray
  s : Int
  g : Bool
  v : ByteArray

/-- The order of entries: by keys; of one key the greatest number first. -/
def oc (k1 : ByteArray) (s1 : Int) (k2 : ByteArray) (s2 : Int) : Int :=
  if kc k1 k2 ≠ 0 then kc k1 k2 else if s2 < s1 then -1 else if s1 < s2 then 1 else 0

theorem oc_lt {k1 k2 : ByteArray} {s1 s2 : Int} : oc k1 s1 k2 s2 < 0 ↔ kc k1 k2 < 0 ∨ (k1 = k2 ∧ s2 < s1) := by
  unfold oc
  by_cases h : kc k1 k2 = 0
  · have e := kc_zero h
    subst e
    simp only [h, ne_eq, not_true_eq_false, if_false, true_and]
    constructor
    · intro g; right; revert g; split
      · intro _; assumption
      · split <;> simp
    · rintro (g | g)
      · omega
      · simp [g]
  · rw [if_pos h]
    constructor
    · intro g; exact .inl g
    · rintro (g | ⟨rfl, _⟩)
      · exact g
      · exact absurd (kc_self _) h

theorem oc_trans {k1 k2 k3 : ByteArray} {s1 s2 s3 : Int} (h1 : oc k1 s1 k2 s2 < 0) (h2 : oc k2 s2 k3 s3 < 0) : oc k1 s1 k3 s3 < 0 := by
  rw [oc_lt] at *
  rcases h1 with h1 | ⟨rfl, h1⟩
  · rcases h2 with h2 | ⟨rfl, h2⟩
    · exact .inl (kc_trans h1 h2)
    · exact .inl h1
  · rcases h2 with h2 | ⟨rfl, h2⟩
    · exact .inl h2
    · exact .inr ⟨rfl, by omega⟩

/-- What does not stand ahead of another, and is not it, stands behind. -/
theorem oc_total {k1 k2 : ByteArray} {s1 s2 : Int} (h1 : ¬ oc k1 s1 k2 s2 < 0) (h2 : ¬ (k1 = k2 ∧ s1 = s2)) : oc k2 s2 k1 s1 < 0 := by
  rw [oc_lt] at *
  by_cases h : kc k1 k2 = 0
  · have e := kc_zero h
    subst e
    right
    refine ⟨rfl, ?_⟩
    have a : ¬ s2 < s1 := fun g => h1 (.inr ⟨rfl, g⟩)
    have b : ¬ s1 = s2 := fun g => h2 ⟨rfl, g⟩
    omega
  · left
    rw [kc_neg]
    have a : ¬ kc k1 k2 < 0 := fun g => h1 (.inl g)
    omega

def elt (a b : En) : Prop := oc a.k a.s b.k b.s < 0
/-- Entries in order. -/
def Sorted (E : List En) : Prop := E.Pairwise elt

theorem sorted_lt {E : List En} (h : Sorted E) {i j : Nat} (hij : i < j) (hj : j < E.length) : elt (E[i]'(by omega)) E[j] := List.pairwise_iff_getElem.1 h i j (by omega) hj hij

/-- The place of a key and a number among entries: what is ahead of it stands ahead. -/
def IsPlace (E : List En) (k : ByteArray) (s : Int) (i : Nat) : Prop :=
  i ≤ E.length ∧ ∀ j e, E[j]? = some e → (j < i → oc e.k e.s k s < 0) ∧ (i ≤ j → 0 ≤ oc e.k e.s k s)

theorem sorted_mono {E : List En} (h : Sorted E) {k : ByteArray} {s : Int} {i j : Nat} {a b : En} (hij : i ≤ j) (ha : E[i]? = some a) (hb : E[j]? = some b) (hl : oc b.k b.s k s < 0) : oc a.k a.s k s < 0 := by
  obtain ⟨hi, rfl⟩ := List.getElem?_eq_some_iff.1 ha
  obtain ⟨hj, rfl⟩ := List.getElem?_eq_some_iff.1 hb
  rcases Nat.eq_or_lt_of_le hij with rfl | hlt
  · exact hl
  · exact oc_trans (sorted_lt h hlt hj) hl

/-- What is found of a key at a number: the first in order that fits. -/
def fnd (E : List En) (k : ByteArray) (q : Int) : Option En := E.find? fun e => decide (e.k = k ∧ e.s ≤ q)

theorem oc_ge {k1 k2 : ByteArray} {s1 s2 : Int} (h : 0 ≤ oc k1 s1 k2 s2) : 0 < kc k1 k2 ∨ (k1 = k2 ∧ s1 ≤ s2) := by
  have h' : ¬ oc k1 s1 k2 s2 < 0 := by omega
  rw [oc_lt] at h'
  by_cases e : kc k1 k2 = 0
  · have e := kc_zero e
    subst e
    exact .inr ⟨rfl, Int.not_lt.1 fun g => h' (.inr ⟨rfl, g⟩)⟩
  · exact .inl (by have : ¬ kc k1 k2 < 0 := fun g => h' (.inl g); omega)

theorem fnd_hit {E : List En} {k : ByteArray} {q : Int} {i : Nat} {e : En} (h : IsPlace E k q i) (he : E[i]? = some e) (hk : e.k = k) : fnd E k q = some e := by
  obtain ⟨hi, hE⟩ := List.getElem?_eq_some_iff.1 he
  refine List.find?_eq_some_iff_getElem.2 ⟨?_, i, hi, hE, fun j hj => ?_⟩
  · rcases oc_ge ((h.2 i e he).2 (Nat.le_refl _)) with g | g
    · rw [hk, kc_self] at g; omega
    · simp [hk, g.2]
  · have := (h.2 j _ (List.getElem?_eq_getElem (by omega))).1 hj
    rw [oc_lt] at this
    simp only [Bool.not_eq_true', decide_eq_false_iff_not, not_and]
    intro e1 e2
    rcases this with g | g
    · rw [e1, kc_self] at g; omega
    · omega

theorem fnd_end {E : List En} {k : ByteArray} {q : Int} (h : IsPlace E k q E.length) : fnd E k q = none := by
  refine List.find?_eq_none.2 fun x hx => ?_
  obtain ⟨j, hj, rfl⟩ := List.getElem_of_mem hx
  have := (h.2 j _ (List.getElem?_eq_getElem hj)).1 hj
  rw [oc_lt] at this
  simp only [decide_eq_true_eq, not_and]
  intro e1 e2
  rcases this with g | g
  · rw [e1, kc_self] at g; omega
  · omega

theorem fnd_miss {E : List En} (hs : Sorted E) {k : ByteArray} {q : Int} {i : Nat} {e : En} (h : IsPlace E k q i) (he : E[i]? = some e) (hk : e.k ≠ k) : fnd E k q = none := by
  refine List.find?_eq_none.2 fun x hx => ?_
  obtain ⟨j, hj, rfl⟩ := List.getElem_of_mem hx
  simp only [decide_eq_true_eq, not_and]
  intro e1 e2
  rcases Nat.lt_or_ge j i with hji | hji
  · have := (h.2 j _ (List.getElem?_eq_getElem hj)).1 hji
    rw [oc_lt] at this
    rcases this with g | g
    · rw [e1, kc_self] at g; omega
    · omega
  · obtain ⟨hi, rfl⟩ := List.getElem?_eq_some_iff.1 he
    rcases Nat.eq_or_lt_of_le hji with rfl | hlt
    · exact hk e1
    · have h1 := sorted_lt hs hlt hj
      unfold elt at h1
      rw [oc_lt, e1] at h1
      have h2 := oc_ge ((h.2 i _ (List.getElem?_eq_getElem hi)).2 (Nat.le_refl _))
      rcases h1 with g | g
      · rcases h2 with g2 | g2
        · omega
        · exact hk g2.1
      · exact hk g.1

/-- The first entry from a text on. -/
def nxt (E : List En) (f : ByteArray) : Option En := E.find? fun e => decide (0 ≤ kc e.k f)

theorem nxt_hit {E : List En} {f : ByteArray} {i : Nat} {q : Int} (hq : ∀ e ∈ E, e.s ≤ q) {e : En} (h : IsPlace E f q i) (he : E[i]? = some e) : nxt E f = some e := by
  obtain ⟨hi, hE⟩ := List.getElem?_eq_some_iff.1 he
  refine List.find?_eq_some_iff_getElem.2 ⟨?_, i, hi, hE, fun j hj => ?_⟩
  · rcases oc_ge ((h.2 i e he).2 (Nat.le_refl _)) with g | g
    · simp; omega
    · simp [g.1, kc_self]
  · have hj' : j < E.length := by omega
    have := (h.2 j _ (List.getElem?_eq_getElem hj')).1 hj
    rw [oc_lt] at this
    rcases this with g | g
    · simp; omega
    · have := hq _ (List.getElem_mem hj'); omega

theorem nxt_end {E : List En} {f : ByteArray} {q : Int} (hq : ∀ e ∈ E, e.s ≤ q) (h : IsPlace E f q E.length) : nxt E f = none := by
  refine List.find?_eq_none.2 fun x hx => ?_
  obtain ⟨j, hj, rfl⟩ := List.getElem_of_mem hx
  have := (h.2 j _ (List.getElem?_eq_getElem hj)).1 hj
  rw [oc_lt] at this
  rcases this with g | g
  · simp; omega
  · have := hq _ (List.getElem_mem hj); omega

/-- The least text above another. -/
def nul : ByteArray := ⟨#[0]⟩
theorem cb_nul : ∀ (k x : List UInt8), 0 ≤ compareBytes x (k ++ [0]) ↔ compareBytes k x < 0
  | [], [] => by simp [compareBytes]
  | [], a :: az => by
    have h : ¬ a < 0 := UInt8.not_lt.2 (UInt8.zero_le)
    simp only [List.nil_append, compareBytes, h, if_false]
    by_cases h2 : (0 : UInt8) < a
    · simp [h2]
    · simp only [h2, if_false]
      cases az <;> simp [compareBytes]
  | c :: cs, [] => by simp [compareBytes]
  | c :: cs, a :: az => by
    simp only [List.cons_append, compareBytes]
    by_cases h1 : a < c
    · have h2 : ¬ c < a := UInt8.not_lt.2 (UInt8.le_of_lt h1)
      simp [h1, h2]
    · by_cases h2 : c < a
      · simp [h1, h2]
      · simp [h1, h2, cb_nul cs az]

end Go.Proofs.YtakipjofboipmaaGreat

/- The walks of this proof: comparing keys and entries, looking for the place of one. -/
namespace Go.Proofs.YtakipjofboipmaaGreat
open Go.RowKit

set_option maxHeartbeats 1000000 in
set_option maxRecDepth 100000 in
theorem compareString_any (a b : ByteArray) (w : World) :
    Calls Tryz.prog 179 #[.string a, .string b] w fun e w' => e = .returned (.int .i64 (kc a b)) ∧ w' = w := by
  go_enter Tryz.func179, Tryz.ntmps179
  go_wp2
  rw [run_callFunc_extern Tryz.func204 (by kernel_rfl) (by kernel_rfl) (by kernel_rfl) (e := Extern.BytealgCompare.compare) (by kernel_rfl), Lib.run_compareString]
  simp only [Result.andThen]
  rw [Oper.upon_value]
  go_wp2
  go_ret
  exact ⟨rfl, rfl⟩

set_option maxHeartbeats 400000 in
theorem compare_any (a b : ByteArray) (w : World) :
    Calls Tryz.prog 137 #[.string a, .string b] w fun e w' => e = .returned (.int .i64 (kc a b)) ∧ w' = w := by
  go_enter Tryz.func137, Tryz.ntmps137
  go_wp2_with (go_at_call 179; refine (compareString_any _ _ _).mono ?_; rintro e w' ⟨rfl, rfl⟩)
  go_ret
  exact ⟨rfl, rfl⟩

def ci (a b : Int) : Int := if a < b then -1 else if b < a then 1 else 0

set_option maxHeartbeats 400000 in
theorem cmpint_any (a b : Int) (w : World) :
    Calls Tryz.prog 124 #[.int .i64 a, .int .i64 b] w fun e w' => e = .returned (.int .i64 (ci a b)) ∧ w' = w := by
  by_cases h1 : a < b
  · have e : ci a b = -1 := by simp [ci, h1]
    rw [e]
    go_enter Tryz.func124, Tryz.ntmps124
    go_wp2
    go_ret
    exact ⟨rfl, rfl⟩
  · by_cases h2 : b < a
    · have e : ci a b = 1 := by simp [ci, h1, h2]
      rw [e]
      go_enter Tryz.func124, Tryz.ntmps124
      go_wp2
      go_ret
      exact ⟨rfl, rfl⟩
    · have e : ci a b = 0 := by simp [ci, h1, h2]
      rw [e]
      go_enter Tryz.func124, Tryz.ntmps124
      go_wp2
      go_ret
      exact ⟨rfl, rfl⟩

/-- An entry as a value. -/
def En.val (e : En) : Value := .agg #[.string e.k, .int .i64 e.s, .bool e.g, .string e.v]

set_option maxHeartbeats 400000 in
theorem order_any (a b : En) (w : World) :
    Calls Tryz.prog 146 #[a.val, b.val] w fun e w' => e = .returned (.int .i64 (oc a.k a.s b.k b.s)) ∧ Below w.heap.size w w' := by
  obtain ⟨k1, s1, g1, v1⟩ := a
  obtain ⟨k2, s2, g2, v2⟩ := b
  unfold En.val
  generalize hn : kc k1 k2 = n
  have H : Hid (kc k1 k2 = n) := hn
  clear hn
  by_cases h0 : n = 0
  · subst h0
    have e : oc k1 s1 k2 s2 = ci s2 s1 := by simp [oc, ci, H.out]
    simp only [e]
    go_enter Tryz.func146, Tryz.ntmps146
    go_wp2_with (first
      | (go_at_call 137; refine (compare_any _ _ _).mono ?_; rintro e w' ⟨rfl, rfl⟩; rw [H.out])
      | (go_at_call 124; refine (cmpint_any _ _ _).mono ?_; rintro e w' ⟨rfl, rfl⟩))
    go_ret
    exact ⟨rfl, ((Below.refl _ _).alloc (Nat.le_refl _) _).alloc (by simp) _⟩
  · have e : oc k1 s1 k2 s2 = n := by simp [oc, H.out, h0]
    simp only [e]
    have hb : (n != 0) = true := by simp [h0]
    go_enter Tryz.func146, Tryz.ntmps146
    go_wp2_with (first
      | (go_at_call 137; refine (compare_any _ _ _).mono ?_; rintro e w' ⟨rfl, rfl⟩; rw [H.out])
      | (go_at_call 124; refine (cmpint_any _ _ _).mono ?_; rintro e w' ⟨rfl, rfl⟩))
    go_ret
    exact ⟨rfl, ((Below.refl _ _).alloc (Nat.le_refl _) _).alloc (by simp) _⟩

end Go.Proofs.YtakipjofboipmaaGreat

/- The walks of this proof: the place of a key among entries. -/
namespace Go.Proofs.YtakipjofboipmaaGreat
open Go.RowKit Go.Sort

/-- Entries that lie in a block, from its head on. -/
def EnAt (w : World) (b : Nat) (E : List En) : Prop :=
  ∀ j e, E[j]? = some e → w.cell? ⟨b, j * 4, none⟩ = some (.string e.k) ∧ w.cell? ⟨b, j * 4 + 1, none⟩ = some (.int .i64 e.s) ∧ w.cell? ⟨b, j * 4 + 2, none⟩ = some (.bool e.g) ∧ w.cell? ⟨b, j * 4 + 3, none⟩ = some (.string e.v)

theorem EnAt.below {w w' : World} {b : Nat} {E : List En} (h : EnAt w b E) (hb : Below w.heap.size w w') : EnAt w' b E := fun j e he =>
  let ⟨h0, h1, h2, h3⟩ := h j e he
  ⟨cell_later hb h0, cell_later hb h1, cell_later hb h2, cell_later hb h3⟩

theorem order_in (a b : En) (w : World) (d : Nat) (os : Array Obj) :
    Calls Tryz.prog 146 #[.agg #[.string a.k, .int .i64 a.s, .bool a.g, .string a.v], .agg #[.string b.k, .int .i64 b.s, .bool b.g, .string b.v]] (grow (redrawn w d) os) fun e w'' => e = .returned (.int .i64 (oc a.k a.s b.k b.s)) ∧ ∃ p : Regrown, w'' = grow (redrawn w p.d) p.os :=
  Calls.regrown_of (order_any a b _)

set_option maxHeartbeats 1000000 in
set_option maxRecDepth 100000 in
theorem search_any (E : List En) (t : En) (b cap : Nat) (w : World) (hn : E.length < 1000000000) (hs : Sorted E) (hc : EnAt w b E) :
    Calls Tryz.prog 167 #[.slice (some ⟨b, 0, none⟩) E.length cap, t.val, .func (.func 146) #[] #[]] w fun e w' => ∃ (i : Nat) (x : Bool), e = .returned (.tuple #[.int .i64 i, .bool x]) ∧ IsPlace E t.k t.s i ∧ Below w.heap.size w w' := by
  unfold En.val
  have HS : Hid (Sorted E) := hs
  have HC : Hid (EnAt w b E) := hc
  clear hs hc
  go_enter Tryz.func167, Tryz.ntmps167
  go_wp2
  go_loopg [9, 10] E.length (fun kx s9 s10 wr => ∃ lo hi : Nat, s9 = .int .i64 lo ∧ s10 = .int .i64 hi ∧ lo ≤ hi ∧ hi ≤ E.length ∧ hi - lo ≤ kx ∧ Hid (Below (w.heap.size + 1) (w.alloc (.cells #[.string t.k, .int .i64 t.s, .bool t.g, .string t.v] 58)) wr) ∧
    Hid (∀ j e, E[j]? = some e → (j < lo → oc e.k e.s t.k t.s < 0) ∧ (hi ≤ j → 0 ≤ oc e.k e.s t.k t.s)))
  case atStart => exact ⟨0, E.length, rfl, rfl, Nat.zero_le _, Nat.le_refl _, by omega, Below.refl _ _, fun j e he => ⟨fun h => absurd h (Nat.not_lt_zero _), fun h => absurd (List.getElem?_eq_some_iff.1 he).1 (by omega)⟩⟩
  case round =>
    obtain ⟨lo, hi, rfl, rfl, hlh, hin, hg, hbl, hI⟩ := hrel
    have hbw : Hid (Below w.heap.size w wr) := ((Below.refl _ _).alloc (Nat.le_refl _) _).trans (hbl.out.mono (Nat.le_succ _))
    have b0 := cell_regrown ((hbl.out.cell (p := ⟨w.heap.size, 0, none⟩) (Nat.lt_succ_self _)).trans (by simp : _ = some (Value.string t.k)))
    have b1 := cell_regrown ((hbl.out.cell (p := ⟨w.heap.size, 1, none⟩) (Nat.lt_succ_self _)).trans (by simp : _ = some (Value.int .i64 t.s)))
    have b2 := cell_regrown ((hbl.out.cell (p := ⟨w.heap.size, 2, none⟩) (Nat.lt_succ_self _)).trans (by simp : _ = some (Value.bool t.g)))
    have b3 := cell_regrown ((hbl.out.cell (p := ⟨w.heap.size, 3, none⟩) (Nat.lt_succ_self _)).trans (by simp : _ = some (Value.string t.v)))
    by_cases hlt : lo < hi
    · obtain ⟨e, he⟩ : ∃ e, E[(lo + hi) / 2]? = some e := ⟨_, List.getElem?_eq_getElem (by omega)⟩
      have HE : Hid (E[(lo + hi) / 2]? = some e) := he
      obtain ⟨c0, c1, c2, c3⟩ := HC.out.below hbw.out _ e he
      clear he
      have c0 := cell_regrown c0
      have c1 := cell_regrown c1
      have c2 := cell_regrown c2
      have c3 := cell_regrown c3
      have hm : (lo + hi) / 2 < E.length := by omega
      by_cases hyx : oc e.k e.s t.k t.s < 0
      · go_wp2
        refine wp_region_quiet_below (by kernel_rfl) (by kernel_rfl) ?_
        repeat (first | go_big_quiet_step (exact order_in _ _ _ _ _) | quiet_step (exact order_in _ _ _ _ _))
        refine wpQuiet_nil ?_
        intro _ hw'
        obtain ⟨⟨dq, osq⟩, hw''⟩ := hw'
        subst hw''
        go_wp2
        go_roundg (hi - ((lo + hi) / 2 + 1))
        case measure => omega
        case rel =>
          refine ⟨(lo + hi) / 2 + 1, hi, by rw [show ((lo : Int) + (hi : Int)) / 2 + 1 = (((lo + hi) / 2 + 1 : Nat) : Int) by omega], rfl, by omega, hin, Nat.le_refl _, hbl.out.trans ((below_regrown wr dq osq).mono ?_), fun j e' he' => ⟨fun h => sorted_mono HS.out (by omega) he' HE.out hyx, (hI.out j e' he').2⟩⟩
          have := hbl.out.size; simpa using this
      · go_wp2
        refine wp_region_quiet_below (by kernel_rfl) (by kernel_rfl) ?_
        repeat (first | go_big_quiet_step (exact order_in _ _ _ _ _) | quiet_step (exact order_in _ _ _ _ _))
        refine wpQuiet_nil ?_
        intro _ hw'
        obtain ⟨⟨dq, osq⟩, hw''⟩ := hw'
        subst hw''
        go_wp2
        go_roundg ((lo + hi) / 2 - lo)
        case measure => omega
        case rel =>
          refine ⟨lo, (lo + hi) / 2, rfl, by rw [show ((lo : Int) + (hi : Int)) / 2 = (((lo + hi) / 2 : Nat) : Int) by omega], by omega, by omega, Nat.le_refl _, hbl.out.trans ((below_regrown wr dq osq).mono ?_), fun j e' he' => ⟨(hI.out j e' he').1, fun h => Int.not_lt.1 fun h2 => absurd (sorted_mono HS.out h HE.out he' h2) (Int.not_lt.2 hyx)⟩⟩
          have := hbl.out.size; simpa using this
    · obtain rfl : hi = lo := by omega
      by_cases hn2 : hi < E.length
      · obtain ⟨e, he⟩ : ∃ e, E[hi]? = some e := ⟨_, List.getElem?_eq_getElem (by omega)⟩
        obtain ⟨c0, c1, c2, c3⟩ := HC.out.below hbw.out _ e he
        clear he
        have c0 := cell_regrown c0
        have c1 := cell_regrown c1
        have c2 := cell_regrown c2
        have c3 := cell_regrown c3
        go_wp2
        refine wp_region_quiet_below (by kernel_rfl) (by kernel_rfl) ?_
        repeat (first | go_big_quiet_step (exact order_in _ _ _ _ _) | quiet_step (exact order_in _ _ _ _ _))
        refine wpQuiet_nil ?_
        intro _ hw'
        obtain ⟨⟨dq, osq⟩, hw''⟩ := hw'
        subst hw''
        go_wp2
        go_ret2
        exact ⟨hi, _, rfl, ⟨hin, hI.out⟩, below_trans' hbw.out (below_regrown wr dq osq)⟩
      · have hd : decide ((hi : Int) < (E.length : Int)) = false := by simp; omega
        go_wp2
        refine wp_region_quiet_below (by kernel_rfl) (by kernel_rfl) ?_
        repeat (first | go_big_quiet_step (exact order_in _ _ _ _ _) | quiet_step (exact order_in _ _ _ _ _))
        refine wpQuiet_nil ?_
        intro _ hw'
        obtain ⟨⟨dq, osq⟩, hw''⟩ := hw'
        subst hw''
        go_wp2
        go_ret2
        exact ⟨hi, _, rfl, ⟨hin, hI.out⟩, below_trans' hbw.out (below_regrown wr dq osq)⟩
end Go.Proofs.YtakipjofboipmaaGreat

/- The walks of this proof: a run of entries: place, Find, KeyFrom; what is seen. -/
namespace Go.Proofs.YtakipjofboipmaaGreat
open Go.RowKit Go.Sort

/-- A slice value that holds these entries. -/
def EnRow (w : World) (v : Value) (E : List En) : Prop :=
  (E = [] ∧ v = .slice none 0 0) ∨ ∃ b cap, v = .slice (some ⟨b, 0, none⟩) E.length cap ∧ E.length ≤ cap ∧ EnAt w b E

theorem EnRow.below {w w' : World} {v : Value} {E : List En} (h : EnRow w v E) (hb : Below w.heap.size w w') : EnRow w' v E := by
  rcases h with h | ⟨b, cap, hv, hcap, hE⟩
  · exact .inl h
  · exact .inr ⟨b, cap, hv, hcap, hE.below hb⟩

set_option maxHeartbeats 1000000 in
set_option maxRecDepth 100000 in
theorem search_none (t : En) (ao : Option Addr) (cap : Nat) (w : World) :
    Calls Tryz.prog 167 #[.slice ao 0 cap, t.val, .func (.func 146) #[] #[]] w fun e w' => ∃ (x : Bool), e = .returned (.tuple #[.int .i64 0, .bool x]) ∧ Below w.heap.size w w' := by
  unfold En.val
  go_enter Tryz.func167, Tryz.ntmps167
  go_wp2
  refine wp_loop_rounds 1 ?_
  rw [rounds_succ]
  go_wp2
  refine wp_region_quiet_below (by kernel_rfl) (by kernel_rfl) ?_
  repeat (first | go_big_quiet_step (fail) | quiet_step (fail))
  refine wpQuiet_nil ?_
  intro _ hw'
  obtain ⟨⟨dq, osq⟩, hw''⟩ := hw'
  subst hw''
  go_wp2
  go_ret2
  exact ⟨_, rfl, below_trans' ((Below.refl _ _).alloc (Nat.le_refl _) _) (below_regrown _ dq osq)⟩

set_option maxHeartbeats 1000000 in
theorem place_any (E : List En) (v : Value) (k : ByteArray) (s : Int) (w : World) (hn : E.length < 1000000000) (hs : Sorted E) (hc : EnRow w v E) :
    Calls Tryz.prog 133 #[v, .string k, .int .i64 s] w fun e w' => ∃ i : Nat, e = .returned (.int .i64 i) ∧ IsPlace E k s i ∧ Below w.heap.size w w' := by
  rcases hc with ⟨rfl, rfl⟩ | ⟨b, cap, rfl, _, hE⟩
  · go_enter Tryz.func133, Tryz.ntmps133
    go_wp2_with (go_at_call 167; refine (search_none ⟨k, s, false, ⟨#[]⟩⟩ _ _ _).mono ?_; rintro e w' ⟨x, rfl, hb⟩)
    go_ret
    exact ⟨0, rfl, ⟨Nat.le_refl _, fun j e h => by simp at h⟩, by assumption⟩
  · have HE : Hid (EnAt w b E) := hE
    have HS : Hid (Sorted E) := hs
    clear hE hs
    go_enter Tryz.func133, Tryz.ntmps133
    go_wp2_with (go_at_call 167; refine (search_any E ⟨k, s, false, ⟨#[]⟩⟩ _ _ _ hn HS.out HE.out).mono ?_; rintro e w' ⟨i, x, rfl, hp, hb⟩; have HP : Hid (IsPlace E k s i) := hp; clear hp)
    go_ret
    exact ⟨_, rfl, Hid.out (by assumption), by assumption⟩

/-- What Find hands back. -/
def foundVal : Option En → Value
  | some e => .tuple #[.agg #[.string e.k, .int .i64 e.s, .bool e.g, .string e.v], .bool true]
  | none => .tuple #[.agg #[.string ⟨#[]⟩, .int .i64 0, .bool false, .string ⟨#[]⟩], .bool false]

theorem EnRow.form {w : World} {v : Value} {E : List En} (h : EnRow w v E) : ∃ ao cap, v = .slice ao E.length cap ∧ (0 < E.length → ∃ b, ao = some ⟨b, 0, none⟩ ∧ EnAt w b E) := by
  rcases h with ⟨rfl, rfl⟩ | ⟨b, cap, rfl, _, hE⟩
  · exact ⟨none, 0, rfl, fun h => absurd h (by simp)⟩
  · exact ⟨_, cap, rfl, fun _ => ⟨b, rfl, hE⟩⟩

set_option maxHeartbeats 1000000 in
theorem find_any (E : List En) (v : Value) (sb o : Nat) (k : ByteArray) (s : Int) (w : World) (hn : E.length < 1000000000) (hs : Sorted E) (hv : w.cell? ⟨sb, o, none⟩ = some v) (hc : EnRow w v E) :
    Calls Tryz.prog 147 #[.pointer (some ⟨sb, o, none⟩), .string k, .int .i64 s] w fun e w' => e = .returned (foundVal (fnd E k s)) ∧ Below w.heap.size w w' := by
  have hsb : sb < w.heap.size := block_lt_of_cell hv
  have HC : Hid (EnRow w v E) := hc
  have HS : Hid (Sorted E) := hs
  clear hc hs
  go_enter Tryz.func147, Tryz.ntmps147
  go_wp2_with fail
  refine (place_any E v k s _ hn HS.out (by exact HC.out.below ((Below.refl _ _).alloc (Nat.le_refl _) _))).mono ?_
  rintro e w1 ⟨i, rfl, hp, hb⟩
  have hv1 := cell_later (below_trans' ((Below.refl _ w).alloc (Nat.le_refl _) _) hb) hv
  have hc1 := HC.out.below (below_trans' ((Below.refl _ w).alloc (Nat.le_refl _) _) hb)
  have r0 := (hb.cell (p := ⟨w.heap.size, 0, none⟩) (by simp)).trans (by simp : _ = some (Value.string ⟨#[]⟩))
  have r1 := (hb.cell (p := ⟨w.heap.size, 1, none⟩) (by simp)).trans (by simp : _ = some (Value.int .i64 0))
  have r2 := (hb.cell (p := ⟨w.heap.size, 2, none⟩) (by simp)).trans (by simp : _ = some (Value.bool false))
  have r3 := (hb.cell (p := ⟨w.heap.size, 3, none⟩) (by simp)).trans (by simp : _ = some (Value.string ⟨#[]⟩))
  have f0 := (hb.frozen (p := ⟨w.heap.size, 0, none⟩) (by simp)).trans (by simp : _ = false)
  have f1 := (hb.frozen (p := ⟨w.heap.size, 1, none⟩) (by simp)).trans (by simp : _ = false)
  have f2 := (hb.frozen (p := ⟨w.heap.size, 2, none⟩) (by simp)).trans (by simp : _ = false)
  have f3 := (hb.frozen (p := ⟨w.heap.size, 3, none⟩) (by simp)).trans (by simp : _ = false)
  have HP : Hid (IsPlace E k s i) := hp
  have HB : Hid (Below w.heap.size w w1) := below_trans' ((Below.refl _ w).alloc (Nat.le_refl _) _) hb
  clear hp hb
  obtain ⟨ao, cap, rfl, hf⟩ := hc1.form
  clear hc1
  by_cases hi : i < E.length
  · obtain ⟨b, rfl, hE⟩ := hf (by omega)
    obtain ⟨e, he⟩ : ∃ e, E[i]? = some e := ⟨_, List.getElem?_eq_getElem hi⟩
    obtain ⟨c0, c1, c2, c3⟩ := hE i e he
    have HE : Hid (E[i]? = some e) := he
    clear he hE hf
    have hne : ((i : Int) == (E.length : Int)) = false := by simp; omega
    by_cases hk : e.k = k
    · have hfin : Hid (fnd E k s = some e) := fnd_hit HP.out HE.out hk
      subst hk
      go_wp2
      exact bodyPost_ret (v := foundVal (some e)) (by simp [results, Tryz.results147, go_sem, foundVal, r0, r1, r2, r3]) rfl ⟨by rw [hfin.out], (((HB.out.setCell (Nat.le_refl _) _).setCell (Nat.le_refl _) _).setCell (Nat.le_refl _) _).setCell (Nat.le_refl _) _⟩
    · have hfin : Hid (fnd E k s = none) := fnd_miss HS.out HP.out HE.out hk
      have hkb := str_ne hk
      go_wp2
      exact bodyPost_ret (v := foundVal none) (by simp [results, Tryz.results147, go_sem, foundVal, r0, r1, r2, r3]) rfl ⟨by rw [hfin.out], (((HB.out.setCell (Nat.le_refl _) _).setCell (Nat.le_refl _) _).setCell (Nat.le_refl _) _).setCell (Nat.le_refl _) _⟩
  · have hil : i = E.length := by have := HP.out.1; omega
    subst hil
    have hfin : Hid (fnd E k s = none) := fnd_end HP.out
    clear hf
    go_wp2
    exact bodyPost_ret (v := foundVal none) (by simp [results, Tryz.results147, go_sem, foundVal, r0, r1, r2, r3]) rfl ⟨by rw [hfin.out], (((HB.out.setCell (Nat.le_refl _) _).setCell (Nat.le_refl _) _).setCell (Nat.le_refl _) _).setCell (Nat.le_refl _) _⟩

/-- What KeyFrom hands back. -/
def nextVal : Option En → Value
  | some e => .tuple #[.string e.k, .bool true]
  | none => .tuple #[.string ⟨#[]⟩, .bool false]

set_option maxHeartbeats 1000000 in
theorem keyFrom_any (E : List En) (v : Value) (sb o : Nat) (k : ByteArray) (w : World) (hn : E.length < 1000000000) (hs : Sorted E) (hq : ∀ e ∈ E, e.s ≤ 9223372036854775807) (hv : w.cell? ⟨sb, o, none⟩ = some v) (hc : EnRow w v E) :
    Calls Tryz.prog 164 #[.pointer (some ⟨sb, o, none⟩), .string k] w fun e w' => e = .returned (nextVal (nxt E k)) ∧ Below w.heap.size w w' := by
  have hsb : sb < w.heap.size := block_lt_of_cell hv
  have HC : Hid (EnRow w v E) := hc
  have HS : Hid (Sorted E) := hs
  have HQ : Hid (∀ e ∈ E, e.s ≤ 9223372036854775807) := hq
  clear hc hs hq
  go_enter Tryz.func164, Tryz.ntmps164
  go_wp2_with fail
  refine (place_any E v k _ _ hn HS.out HC.out).mono ?_
  rintro e w1 ⟨i, rfl, hp, hb⟩
  have hv1 := cell_later hb hv
  have hc1 := HC.out.below hb
  have HP : Hid (IsPlace E k 9223372036854775807 i) := hp
  have HB : Hid (Below w.heap.size w w1) := hb
  clear hp hb
  obtain ⟨ao, cap, rfl, hf⟩ := hc1.form
  clear hc1
  by_cases hi : i < E.length
  · obtain ⟨b, rfl, hE⟩ := hf (by omega)
    obtain ⟨e, he⟩ : ∃ e, E[i]? = some e := ⟨_, List.getElem?_eq_getElem hi⟩
    obtain ⟨c0, c1, c2, c3⟩ := hE i e he
    have hfin : Hid (nxt E k = some e) := nxt_hit HQ.out HP.out he
    clear he hE hf c1 c2 c3
    have hne : ((i : Int) == (E.length : Int)) = false := by simp; omega
    go_wp2
    go_ret2
    exact ⟨by rw [hfin.out]; rfl, HB.out⟩
  · have hil : i = E.length := by have := HP.out.1; omega
    subst hil
    have hfin : Hid (nxt E k = none) := nxt_end HQ.out HP.out
    clear hf
    go_wp2
    go_ret2
    exact ⟨by rw [hfin.out]; rfl, HB.out⟩

set_option maxHeartbeats 1000000 in
theorem behind_any (k : ByteArray) (w : World) (hk : k.size ≤ 1000) :
    Calls Tryz.prog 127 #[.string k] w fun e w' => e = .returned (.string (k ++ nul)) ∧ w' = w := by
  go_enter Tryz.func127, Tryz.ntmps127
  go_wp2
  go_ret
  exact ⟨rfl, rfl⟩

end Go.Proofs.YtakipjofboipmaaGreat

/- Plain mathematics of this proof: what a scan gathers. -/
namespace Go.Proofs.YtakipjofboipmaaGreat

/-- A pair. -/
structure Pr where
  k : ByteArray
  v : ByteArray
  g : Bool

/-- What is seen of a key at a number. -/
def sk (E : List En) (k : ByteArray) (q : Int) : Option ByteArray :=
  match fnd E k q with
  | some e => if e.g then none else some e.v
  | none => none

theorem kc_nul (c x : ByteArray) : 0 ≤ kc x (c ++ nul) ↔ kc c x < 0 := by
  unfold kc
  rw [ByteArray.data_append, Array.toList_append]
  exact cb_nul _ _

theorem nxt_some {E : List En} (hs : Sorted E) {f : ByteArray} {e : En} (h : nxt E f = some e) : e ∈ E ∧ 0 ≤ kc e.k f ∧ ∀ x ∈ E, 0 ≤ kc x.k f → 0 ≤ kc x.k e.k := by
  obtain ⟨h1, i, hi, he, hj⟩ := List.find?_eq_some_iff_getElem.1 h
  refine ⟨by rw [← he]; exact List.getElem_mem hi, by simpa using h1, fun x hx h0 => ?_⟩
  obtain ⟨j, hj', rfl⟩ := List.getElem_of_mem hx
  rcases Nat.lt_trichotomy j i with g | g | g
  · have := hj j g; simp at this; omega
  · subst g; rw [he, kc_self]; omega
  · have := sorted_lt hs g hj'
    unfold elt at this
    rw [oc_lt, he] at this
    rcases this with g2 | g2
    · have := kc_neg e.k (E[j]).k; omega
    · rw [g2.1, kc_self]; omega

theorem nxt_none {E : List En} {f : ByteArray} (h : nxt E f = none) : ∀ x ∈ E, kc x.k f < 0 := fun x hx => by
  have := List.find?_eq_none.1 h x hx
  simp at this; omega

theorem countP_less {α : Type} (p q : α → Bool) : ∀ (l : List α), (∀ x ∈ l, p x = true → q x = true) → (∃ x ∈ l, q x = true ∧ p x = false) → l.countP p + 1 ≤ l.countP q
  | [], _, ⟨_, h, _⟩ => by simp at h
  | a :: l, h, ⟨x, hx, hq, hp⟩ => by
    have hmono : l.countP p ≤ l.countP q := List.countP_mono_left fun y hy => h y (List.mem_cons_of_mem _ hy)
    rcases List.mem_cons.1 hx with rfl | hx'
    · simp [hq, hp]; exact hmono
    · have ih := countP_less p q l (fun y hy => h y (List.mem_cons_of_mem _ hy)) ⟨x, hx', hq, hp⟩
      have ha := h a (List.mem_cons_self ..)
      simp only [List.countP_cons]
      by_cases pa : p a = true
      · simp [pa, ha pa]; omega
      · by_cases qa : q a = true <;> simp [pa, qa] <;> omega

/-- How many entries are left from a key on. -/
def cnt (E : List En) : Option ByteArray → Nat
  | some c => E.countP fun e => decide (0 ≤ kc e.k c)
  | none => 0

/-- What a scan has gathered, standing at a key. -/
structure ScanInv (E : List En) (f : ByteArray) (q : Int) (L : List Pr) (cur : Option ByteArray) : Prop where
  ord : L.Pairwise fun a b => kc a.k b.k < 0
  seen : ∀ p ∈ L, p.g = false ∧ sk E p.k q = some p.v ∧ 0 ≤ kc p.k f ∧ ∀ c, cur = some c → kc p.k c < 0
  all : ∀ e ∈ E, 0 ≤ kc e.k f → (∀ c, cur = some c → kc e.k c < 0) → ∀ x, sk E e.k q = some x → ⟨e.k, x, false⟩ ∈ L
  here : ∀ c, cur = some c → 0 ≤ kc c f ∧ ∃ e ∈ E, e.k = c
  len : L.length + cnt E cur ≤ E.length

theorem scan_start {E : List En} (hs : Sorted E) (f : ByteArray) (q : Int) : ScanInv E f q [] ((nxt E f).map (·.k)) := by
  refine ⟨List.Pairwise.nil, fun p hp => by simp at hp, fun e he h0 hlt x hx => ?_, fun c hc => ?_, ?_⟩
  · cases hn : nxt E f with
    | none => have := nxt_none hn e he; omega
    | some y =>
      have h1 := hlt y.k (by simp [hn])
      have h2 := (nxt_some hs hn).2.2 e he h0
      omega
  · cases hn : nxt E f with
    | none => simp [hn] at hc
    | some y =>
      simp [hn] at hc; subst hc
      have h := nxt_some hs hn
      exact ⟨h.2.1, y, h.1, rfl⟩
  · cases (nxt E f).map (·.k) with
    | none => simp [cnt]
    | some c => simp [cnt]; exact List.countP_le_length

/-- One key further. -/
theorem scan_step {E : List En} (hs : Sorted E) {f : ByteArray} {q : Int} {L : List Pr} {c : ByteArray} (h : ScanInv E f q L (some c)) :
    ScanInv E f q (match sk E c q with | some x => L ++ [⟨c, x, false⟩] | none => L) ((nxt E (c ++ nul)).map (·.k)) := by
  obtain ⟨hcf, e0, he0, hk0⟩ := h.here c rfl
  have hnx : ∀ c', (nxt E (c ++ nul)).map (·.k) = some c' → kc c c' < 0 ∧ (∃ e ∈ E, e.k = c') ∧ ∀ x ∈ E, kc c x.k < 0 → 0 ≤ kc x.k c' := by
    intro c' hc'
    cases hn : nxt E (c ++ nul) with
    | none => simp [hn] at hc'
    | some y =>
      simp [hn] at hc'; subst hc'
      have g := nxt_some hs hn
      exact ⟨(kc_nul c y.k).1 g.2.1, ⟨y, g.1, rfl⟩, fun x hx hlt => g.2.2 x hx ((kc_nul c x.k).2 hlt)⟩
  have hno : (nxt E (c ++ nul)).map (·.k) = none → ∀ x ∈ E, ¬ kc c x.k < 0 := by
    intro hn x hx hlt
    have hn' : nxt E (c ++ nul) = none := by simpa using hn
    have := nxt_none hn' x hx
    have := (kc_nul c x.k).2 hlt
    omega
  have hless : L.length + 1 + cnt E ((nxt E (c ++ nul)).map (·.k)) ≤ E.length := by
    have h1 := h.len
    cases hn : (nxt E (c ++ nul)).map (·.k) with
    | none =>
      simp only [cnt] at h1 ⊢
      have : 0 < E.countP fun e => decide (0 ≤ kc e.k c) := List.countP_pos_iff.2 ⟨e0, he0, by simp [hk0, kc_self]⟩
      omega
    | some c' =>
      simp only [cnt] at h1 ⊢
      have hlt := (hnx c' hn).1
      have := countP_less (fun e : En => decide (0 ≤ kc e.k c')) (fun e : En => decide (0 ≤ kc e.k c)) E (fun x hx hp => by
          simp at hp ⊢
          by_cases g : 0 ≤ kc x.k c
          · exact g
          · have := kc_trans (show kc x.k c < 0 by omega) hlt; omega) ⟨e0, he0, by simp [hk0, kc_self], by simp [hk0]; exact hlt⟩
      omega
  have hltc : ∀ e ∈ E, (∀ c', (nxt E (c ++ nul)).map (·.k) = some c' → kc e.k c' < 0) → kc e.k c < 0 ∨ e.k = c := by
    intro e he hall
    by_cases g : kc c e.k < 0
    · exfalso
      cases hn : (nxt E (c ++ nul)).map (·.k) with
      | none => exact hno hn e he g
      | some c' =>
        have := (hnx c' hn).2.2 e he g
        have := hall c' hn
        omega
    · by_cases g0 : kc c e.k = 0
      · exact .inr (kc_zero g0).symm
      · left; rw [kc_neg]; omega
  have hwas : ∀ p ∈ L, ∀ c', (nxt E (c ++ nul)).map (·.k) = some c' → kc p.k c' < 0 := fun p hp c' hc' => kc_trans ((h.seen p hp).2.2.2 c rfl) (hnx c' hc').1
  have hhere : ∀ c', (nxt E (c ++ nul)).map (·.k) = some c' → 0 ≤ kc c' f ∧ ∃ e ∈ E, e.k = c' := fun c' hc' => by
    refine ⟨?_, (hnx c' hc').2.1⟩
    by_cases g : 0 ≤ kc c' f
    · exact g
    · have := kc_trans (hnx c' hc').1 (show kc c' f < 0 by omega); omega
  cases hsk : sk E c q with
  | none =>
    refine ⟨h.ord, fun p hp => ⟨(h.seen p hp).1, (h.seen p hp).2.1, (h.seen p hp).2.2.1, hwas p hp⟩, fun e he h0 hall x hx => ?_, hhere, by simp only; omega⟩
    rcases hltc e he hall with g | g
    · exact h.all e he h0 (fun c' hc' => by simp at hc'; subst hc'; exact g) x hx
    · rw [g, hsk] at hx; cases hx
  | some y =>
    refine ⟨?_, fun p hp => ?_, fun e he h0 hall x hx => ?_, hhere, by simp only [List.length_append, List.length_cons, List.length_nil]; omega⟩
    · refine List.pairwise_append.2 ⟨h.ord, by simp, fun a ha b hb => ?_⟩
      simp at hb; subst hb
      exact (h.seen a ha).2.2.2 c rfl
    · rcases List.mem_append.1 hp with hp | hp
      · exact ⟨(h.seen p hp).1, (h.seen p hp).2.1, (h.seen p hp).2.2.1, hwas p hp⟩
      · simp at hp; subst hp
        exact ⟨rfl, hsk, hcf, fun c' hc' => (hnx c' hc').1⟩
    · rcases hltc e he hall with g | g
      · exact List.mem_append_left _ (h.all e he h0 (fun c' hc' => by simp at hc'; subst hc'; exact g) x hx)
      · rw [g, hsk] at hx; cases hx
        rw [g]; simp

/-- The cells of pairs, of entries. -/
def Pr.cells (p : Pr) : List Value := [.string p.k, .string p.v, .bool p.g]
def pcells (l : List Pr) : List Value := l.flatMap Pr.cells
def En.cells (e : En) : List Value := [.string e.k, .int .i64 e.s, .bool e.g, .string e.v]
def ecells (l : List En) : List Value := l.flatMap En.cells

theorem flat_len {α β : Type} (f : α → List β) (n : Nat) (hf : ∀ a, (f a).length = n) : ∀ l : List α, (l.flatMap f).length = l.length * n
  | [] => by simp
  | a :: l => by simp [flat_len f n hf l, hf, Nat.add_mul]; omega

theorem flat_get {α β : Type} (f : α → List β) (n : Nat) (hf : ∀ a, (f a).length = n) : ∀ (l : List α) (j : Nat) (a : α) (i : Nat), l[j]? = some a → i < n → (l.flatMap f)[j * n + i]? = (f a)[i]?
  | [], _, _, _, h, _ => by simp at h
  | b :: l, 0, a, i, h, hi => by
    simp at h; subst h
    rw [List.flatMap_cons, Nat.zero_mul, Nat.zero_add, List.getElem?_append_left (by rw [hf]; exact hi)]
  | b :: l, j + 1, a, i, h, hi => by
    rw [List.flatMap_cons, List.getElem?_append_right (by rw [hf, Nat.add_mul]; omega), hf, show (j + 1) * n + i - n = j * n + i by rw [Nat.add_mul]; omega]
    exact flat_get f n hf l j a i (by simpa using h) hi

end Go.Proofs.YtakipjofboipmaaGreat

/- Plain mathematics of this proof: several runs of entries, one above the other. -/
namespace Go.Proofs.YtakipjofboipmaaGreat

theorem fnd_nil (k : ByteArray) (q : Int) : fnd [] k q = none := rfl
theorem fnd_cons_hit {e : En} {r : List En} {k : ByteArray} {q : Int} (h : e.k = k ∧ e.s ≤ q) : fnd (e :: r) k q = some e := by
  unfold fnd; rw [List.find?_cons]; simp [h]
theorem fnd_cons_miss {e : En} {r : List En} {k : ByteArray} {q : Int} (h : ¬ (e.k = k ∧ e.s ≤ q)) : fnd (e :: r) k q = fnd r k q := by
  unfold fnd; rw [List.find?_cons]; simp only [h, decide_false]
theorem fnd_some {E : List En} {k : ByteArray} {q : Int} {e : En} (h : fnd E k q = some e) : e ∈ E ∧ e.k = k ∧ e.s ≤ q := by
  unfold fnd at h
  have h1 := List.mem_of_find?_eq_some h
  have h2 := List.find?_some h
  simp only [decide_eq_true_eq] at h2
  exact ⟨h1, h2⟩
theorem fnd_nomem {E : List En} {k : ByteArray} {q : Int} (h : fnd E k q = none) : ∀ e ∈ E, e.k = k → ¬ e.s ≤ q := by
  intro e he hk hq
  unfold fnd at h
  have := List.find?_eq_none.1 h e he
  simp [hk, hq] at this

/-- What is seen of what was found. -/
def skO : Option En → Option ByteArray
  | some e => if e.g then none else some e.v
  | none => none
theorem sk_eq (E : List En) (k : ByteArray) (q : Int) : sk E k q = skO (fnd E k q) := by unfold sk skO; rfl

/-- The first of several runs that has one. -/
def fndL (X : List (List En)) (k : ByteArray) (q : Int) : Option En := X.findSome? fun a => fnd a k q

/-- Of one key, what stands in a run further behind is older. -/
def LayX (X : List (List En)) : Prop := X.Pairwise fun a b => ∀ e ∈ a, ∀ e' ∈ b, e.k = e'.k → e'.s < e.s

theorem fndL_nil (k : ByteArray) (q : Int) : fndL [] k q = none := rfl
theorem fndL_cons (a : List En) (X : List (List En)) (k : ByteArray) (q : Int) : fndL (a :: X) k q = (fnd a k q).or (fndL X k q) := by
  unfold fndL; rw [List.findSome?_cons]; cases fnd a k q <;> rfl
theorem fndL_append (X Y : List (List En)) (k : ByteArray) (q : Int) : fndL (X ++ Y) k q = (fndL X k q).or (fndL Y k q) := by
  unfold fndL; rw [List.findSome?_append]
theorem fndL_one (a : List En) (k : ByteArray) (q : Int) : fndL [a] k q = fnd a k q := by rw [fndL_cons, fndL_nil]; cases fnd a k q <;> rfl

theorem fndL_hit {X : List (List En)} {k : ByteArray} {q : Int} {i : Nat} {e : En} (h : fndL (X.take i) k q = some e) : fndL X k q = some e := by
  rw [← List.take_append_drop i X, fndL_append, h]; rfl
theorem fndL_step {X : List (List En)} {k : ByteArray} {q : Int} {i : Nat} {a : List En} (h : fndL (X.take i) k q = none) (ha : X[i]? = some a) : fndL (X.take (i + 1)) k q = fnd a k q := by
  rw [List.take_add_one, ha, fndL_append, h]
  show (none : Option En).or (fndL [a] k q) = _
  rw [fndL_one]; rfl

/-- The least key of several runs from a text on. -/
def LeastK (X : List (List En)) (f : ByteArray) : Option ByteArray → Prop
  | none => ∀ a ∈ X, ∀ e ∈ a, kc e.k f < 0
  | some c => (∃ a ∈ X, ∃ e ∈ a, e.k = c) ∧ 0 ≤ kc c f ∧ ∀ a ∈ X, ∀ e ∈ a, 0 ≤ kc e.k f → 0 ≤ kc e.k c

theorem least_one {E : List En} (hs : Sorted E) (f : ByteArray) : LeastK [E] f ((nxt E f).map (·.k)) := by
  cases h : nxt E f with
  | none =>
    intro a ha e he
    rw [List.mem_singleton] at ha
    subst ha
    exact nxt_none h e he
  | some y =>
    obtain ⟨h1, h2, h3⟩ := nxt_some hs h
    refine ⟨⟨E, by simp, y, h1, rfl⟩, h2, fun a ha e he hf => ?_⟩
    rw [List.mem_singleton] at ha
    subst ha
    exact h3 e he hf

/-- One run more. -/
def lesser (r : Option ByteArray) : Option ByteArray → Option ByteArray
  | none => r
  | some c => match r with
    | none => some c
    | some d => if kc c d < 0 then some c else some d

theorem LeastK.step {X : List (List En)} {f : ByteArray} {r : Option ByteArray} {a : List En} (hs : Sorted a) (h : LeastK X f r) : LeastK (X ++ [a]) f (lesser r ((nxt a f).map (·.k))) := by
  have h1 := least_one hs f
  generalize (nxt a f).map (·.k) = y at h1
  have mem : ∀ {P : En → Prop}, (∀ b ∈ X ++ [a], ∀ e ∈ b, P e) ↔ (∀ b ∈ X, ∀ e ∈ b, P e) ∧ ∀ b ∈ [a], ∀ e ∈ b, P e := by
    intro P
    constructor
    · intro g; exact ⟨fun b hb => g b (List.mem_append_left _ hb), fun b hb => g b (List.mem_append_right _ hb)⟩
    · rintro ⟨g1, g2⟩ b hb
      rcases List.mem_append.1 hb with hb | hb
      · exact g1 b hb
      · exact g2 b hb
  cases y with
  | none =>
    cases r with
    | none => exact mem.2 ⟨h, h1⟩
    | some d =>
      obtain ⟨⟨b, hb, g⟩, g2, g3⟩ := h
      refine ⟨⟨b, List.mem_append_left _ hb, g⟩, g2, mem.2 ⟨g3, fun b hb e he hf => ?_⟩⟩
      have := h1 b hb e he; omega
  | some c =>
    obtain ⟨⟨b1, hb1, p⟩, p2, p3⟩ := h1
    cases r with
    | none =>
      refine ⟨⟨b1, List.mem_append_right _ hb1, p⟩, p2, mem.2 ⟨fun b hb e he hf => ?_, p3⟩⟩
      have := h b hb e he; omega
    | some d =>
      obtain ⟨⟨b, hb, g⟩, g2, g3⟩ := h
      have tr : ∀ {x y z : ByteArray}, 0 ≤ kc x y → kc z y < 0 → 0 ≤ kc x z := by
        intro x y z hx hz
        by_cases hh : kc x z < 0
        · have := kc_trans hh hz; omega
        · omega
      have tr2 : ∀ {x y z : ByteArray}, 0 ≤ kc x y → ¬ kc y z < 0 → 0 ≤ kc x z := by
        intro x y z hx hz
        by_cases hh : kc x z < 0
        · by_cases he : kc z y = 0
          · have := kc_zero he; subst this; omega
          · have hn := kc_neg z y
            have := kc_trans hh (show kc z y < 0 by omega); omega
        · omega
      by_cases hlt : kc c d < 0
      · simp only [lesser, hlt, if_true]
        exact ⟨⟨b1, List.mem_append_right _ hb1, p⟩, p2, mem.2 ⟨fun b hb e he hf => tr (g3 b hb e he hf) hlt, p3⟩⟩
      · simp only [lesser, hlt, if_false]
        exact ⟨⟨b, List.mem_append_left _ hb, g⟩, g2, mem.2 ⟨g3, fun b hb e he hf => tr2 (p3 b hb e he hf) hlt⟩⟩

theorem LeastK.same {X : List (List En)} {M : List En} {f : ByteArray} {r : Option ByteArray} (hs : Sorted M) (hm : ∀ e, e ∈ M ↔ ∃ a ∈ X, e ∈ a) (h : LeastK X f r) : (nxt M f).map (·.k) = r := by
  have h1 := least_one hs f
  generalize (nxt M f).map (·.k) = y at h1
  cases y with
  | none =>
    cases r with
    | none => rfl
    | some d =>
      obtain ⟨⟨b, hb, e, he, rfl⟩, g2, _⟩ := h
      have := h1 M (by simp) e ((hm e).2 ⟨b, hb, he⟩)
      omega
  | some c =>
    obtain ⟨⟨b1, hb1, e1, he1, rfl⟩, p2, p3⟩ := h1
    rw [List.mem_singleton] at hb1
    subst hb1
    obtain ⟨b2, hb2, he2⟩ := (hm e1).1 he1
    cases r with
    | none => have := h b2 hb2 e1 he2; omega
    | some d =>
      obtain ⟨⟨b, hb, e, he, rfl⟩, g2, g3⟩ := h
      have l1 := g3 b2 hb2 e1 he2 p2
      have l2 := p3 b1 (by simp) e ((hm e).2 ⟨b, hb, he⟩) g2
      have hn := kc_neg e1.k e.k
      rw [kc_zero (show kc e1.k e.k = 0 by omega)]

theorem fnd_eq : ∀ {E : List En} (_ : Sorted E) {k : ByteArray} {q : Int} {e : En}, e ∈ E → e.k = k → e.s ≤ q → (∀ e' ∈ E, e'.k = k → e'.s ≤ q → e'.s ≤ e.s) → fnd E k q = some e
  | [], _, _, _, _, h, _, _, _ => by cases h
  | a :: E, hs, k, q, e, h, hk, hq, hm => by
    obtain ⟨ha, hs'⟩ := List.pairwise_cons.1 hs
    unfold fnd
    rw [List.find?_cons]
    by_cases hp : a.k = k ∧ a.s ≤ q
    · simp only [hp, and_self, decide_true]
      rcases List.mem_cons.1 h with rfl | h
      · rfl
      · exfalso
        have h1 := ha e h
        have h2 := hm a List.mem_cons_self hp.1 hp.2
        unfold elt at h1
        rcases oc_lt.1 h1 with h3 | ⟨_, h3⟩
        · rw [hp.1, hk, kc_self] at h3; omega
        · omega
    · rw [decide_eq_false hp]
      rcases List.mem_cons.1 h with rfl | h
      · exact absurd ⟨hk, hq⟩ hp
      · exact fnd_eq hs' h hk hq fun e' h' => hm e' (List.mem_cons_of_mem _ h')

theorem fnd_no {E : List En} {k : ByteArray} {q : Int} (h : ∀ e ∈ E, e.k = k → ¬ e.s ≤ q) : fnd E k q = none := by
  unfold fnd
  rw [List.find?_eq_none]
  intro e he
  simp only [decide_eq_true_eq]
  exact fun hh => h e he hh.1 hh.2

theorem sorted_max : ∀ {E : List En} (_ : Sorted E) {k : ByteArray} {q : Int} {e : En}, fnd E k q = some e → ∀ x ∈ E, x.k = k → x.s ≤ q → x.s ≤ e.s
  | [], _, _, _, _, h => by simp [fnd] at h
  | a :: E, hs, k, q, e, h => by
    obtain ⟨ha, hs'⟩ := List.pairwise_cons.1 hs
    intro x hx hk hq
    by_cases hp : a.k = k ∧ a.s ≤ q
    · rw [fnd_cons_hit hp] at h
      cases h
      rcases List.mem_cons.1 hx with rfl | hx
      · exact Int.le_refl _
      · have := ha x hx
        unfold elt at this
        rw [oc_lt] at this
        rcases this with g | g
        · rw [hp.1, hk, kc_self] at g; omega
        · omega
    · rw [fnd_cons_miss hp] at h
      rcases List.mem_cons.1 hx with rfl | hx
      · exact absurd ⟨hk, hq⟩ hp
      · exact sorted_max hs' h x hx hk hq

theorem fndL_some {X : List (List En)} {k : ByteArray} {q : Int} {e : En} (h : fndL X k q = some e) : ∃ a ∈ X, fnd a k q = some e := by
  unfold fndL at h
  exact List.exists_of_findSome?_eq_some h

theorem fndL_max : ∀ {X : List (List En)} (_ : LayX X) (_ : ∀ a ∈ X, Sorted a) {k : ByteArray} {q : Int} {e : En}, fndL X k q = some e → ∀ a ∈ X, ∀ x ∈ a, x.k = k → x.s ≤ q → x.s ≤ e.s
  | [], _, _, _, _, _, h => by simp [fndL] at h
  | b :: X, hl, hs, k, q, e, h => by
    obtain ⟨hb, hl'⟩ := List.pairwise_cons.1 hl
    intro a ha x hx hk hq
    rw [fndL_cons] at h
    cases hf : fnd b k q with
    | some y =>
      rw [hf] at h
      simp at h
      subst h
      obtain ⟨h1, h2, h3⟩ := fnd_some hf
      rcases List.mem_cons.1 ha with rfl | ha
      · exact sorted_max (hs _ (List.mem_cons_self ..)) hf x hx hk hq
      · have := hb a ha y h1 x hx (h2.trans hk.symm)
        omega
    | none =>
      rw [hf] at h
      simp at h
      rcases List.mem_cons.1 ha with rfl | ha
      · exact absurd hq (fnd_nomem hf x hx hk)
      · exact fndL_max hl' (fun a ha => hs a (List.mem_cons_of_mem _ ha)) h a ha x hx hk hq

/-- Several runs, laid together. -/
theorem fnd_layers {X : List (List En)} {M : List En} (hM : Sorted M) (hm : ∀ e, e ∈ M ↔ ∃ a ∈ X, e ∈ a) (hl : LayX X) (hs : ∀ a ∈ X, Sorted a) (k : ByteArray) (q : Int) : fnd M k q = fndL X k q := by
  cases h : fndL X k q with
  | some e =>
    obtain ⟨a, ha, he⟩ := fndL_some h
    obtain ⟨h1, h2, h3⟩ := fnd_some he
    refine fnd_eq hM ((hm e).2 ⟨a, ha, h1⟩) h2 h3 fun x hx hk hq => ?_
    obtain ⟨b, hb, hxb⟩ := (hm x).1 hx
    exact fndL_max hl hs h b hb x hxb hk hq
  | none =>
    refine fnd_no fun x hx hk hq => ?_
    obtain ⟨b, hb, hxb⟩ := (hm x).1 hx
    unfold fndL at h
    exact fnd_nomem (List.findSome?_eq_none_iff.1 h b hb) x hxb hk hq

/-- Entries that differ in key or number. -/
def DistE (l : List En) : Prop := l.Pairwise fun a b => ¬ (a.k = b.k ∧ a.s = b.s)

def leE (a b : En) : Bool := !decide (oc b.k b.s a.k a.s < 0)

theorem sorted_exists {l : List En} (h : DistE l) : ∃ O : List En, Sorted O ∧ O.Perm l := by
  have hp := List.mergeSort_perm l leE
  refine ⟨l.mergeSort leE, ?_, hp⟩
  have hd : DistE (l.mergeSort leE) := hp.symm.pairwise h (fun {a b} hab hba => hab ⟨hba.1.symm, hba.2.symm⟩)
  have hs : (l.mergeSort leE).Pairwise fun a b => leE a b = true := List.pairwise_mergeSort (fun a b c h1 h2 => by
      simp only [leE, Bool.not_eq_true', decide_eq_false_iff_not] at h1 h2 ⊢
      intro h3
      by_cases hab : a.k = b.k ∧ a.s = b.s
      · rw [hab.1, hab.2] at h3; exact h2 h3
      · exact h2 (oc_trans h3 (oc_total h1 (fun e => hab ⟨e.1.symm, e.2.symm⟩)))) (fun a b => by
      simp only [leE, Bool.or_eq_true, Bool.not_eq_true', decide_eq_false_iff_not]
      by_cases h1 : oc b.k b.s a.k a.s < 0
      · exact .inr fun h2 => by
          have := oc_trans h1 h2
          rw [oc_lt, kc_self] at this
          rcases this with h | h <;> omega
      · exact .inl h1) l
  refine (hd.and hs).imp fun {a b} hab => ?_
  simp only [leE, Bool.not_eq_true', decide_eq_false_iff_not] at hab
  exact oc_total hab.2 (fun e => hab.1 ⟨e.1.symm, e.2.symm⟩)


/-- Entries put in order. -/
def srt (l : List En) : List En := l.mergeSort leE

theorem srt_mem {l : List En} {e : En} : e ∈ srt l ↔ e ∈ l := (List.mergeSort_perm l leE).mem_iff
theorem srt_len (l : List En) : (srt l).length = l.length := (List.mergeSort_perm l leE).length_eq

theorem srt_sorted {l : List En} (h : DistE l) : Sorted (srt l) := by
  have hp := List.mergeSort_perm l leE
  have hd : DistE (l.mergeSort leE) := hp.symm.pairwise h (fun {a b} hab hba => hab ⟨hba.1.symm, hba.2.symm⟩)
  have hs : (l.mergeSort leE).Pairwise fun a b => leE a b = true := List.pairwise_mergeSort (fun a b c h1 h2 => by
      simp only [leE, Bool.not_eq_true', decide_eq_false_iff_not] at h1 h2 ⊢
      intro h3
      by_cases hab : a.k = b.k ∧ a.s = b.s
      · rw [hab.1, hab.2] at h3; exact h2 h3
      · exact h2 (oc_trans h3 (oc_total h1 (fun e => hab ⟨e.1.symm, e.2.symm⟩)))) (fun a b => by
      simp only [leE, Bool.or_eq_true, Bool.not_eq_true', decide_eq_false_iff_not]
      by_cases h1 : oc b.k b.s a.k a.s < 0
      · exact .inr fun h2 => by
          have := oc_trans h1 h2
          rw [oc_lt, kc_self] at this
          rcases this with h | h <;> omega
      · exact .inl h1) l
  refine (hd.and hs).imp fun {a b} hab => ?_
  simp only [leE, Bool.not_eq_true', decide_eq_false_iff_not] at hab
  exact oc_total hab.2 (fun e => hab.1 ⟨e.1.symm, e.2.symm⟩)

theorem elt_irrefl (a : En) : ¬ elt a a := fun h => by
  unfold elt at h
  rw [oc_lt, kc_self] at h
  rcases h with h | h <;> omega

theorem sorted_dist {l : List En} (h : Sorted l) : DistE l := List.Pairwise.imp (fun {a b} hab hh => by
    unfold elt at hab
    rw [oc_lt, hh.1, kc_self] at hab
    rcases hab with h | h <;> omega) h

/-- Entries in order are told by which they are. -/
theorem sorted_ext : ∀ {A B : List En}, Sorted A → Sorted B → (∀ e, e ∈ A ↔ e ∈ B) → A = B
  | [], [], _, _, _ => rfl
  | [], b :: B, _, _, h => absurd ((h b).2 List.mem_cons_self) (by simp)
  | a :: A, [], _, _, h => absurd ((h a).1 List.mem_cons_self) (by simp)
  | a :: A, b :: B, hA, hB, h => by
    obtain ⟨ha, hA'⟩ := List.pairwise_cons.1 hA
    obtain ⟨hb, hB'⟩ := List.pairwise_cons.1 hB
    have hab : a = b := by
      rcases List.mem_cons.1 ((h a).1 List.mem_cons_self) with e | e
      · exact e
      · rcases List.mem_cons.1 ((h b).2 List.mem_cons_self) with e2 | e2
        · exact e2.symm
        · exact absurd (oc_trans (hb a e) (ha b e2)) (elt_irrefl b)
    subst hab
    congr 1
    refine sorted_ext hA' hB' fun e => ⟨fun he => ?_, fun he => ?_⟩
    · rcases List.mem_cons.1 ((h e).1 (List.mem_cons_of_mem _ he)) with rfl | g
      · exact absurd (ha e he) (elt_irrefl e)
      · exact g
    · rcases List.mem_cons.1 ((h e).2 (List.mem_cons_of_mem _ he)) with rfl | g
      · exact absurd (hb e he) (elt_irrefl e)
      · exact g

/-- Two runs laid together. -/
theorem merge_exists {E N : List En} (hE : Sorted E) (hN : Sorted N) (hd : ∀ y ∈ E, ∀ x ∈ N, ¬ (y.k = x.k ∧ y.s = x.s)) : ∃ F : List En, Sorted F ∧ (∀ x, x ∈ F ↔ x ∈ E ∨ x ∈ N) ∧ F.length = E.length + N.length := by
  have ds : ∀ {l : List En}, Sorted l → DistE l := fun {l} h => List.Pairwise.imp (fun {a b} hab hh => by
    unfold elt at hab
    rw [oc_lt, hh.1, kc_self] at hab
    rcases hab with h | h <;> omega) h
  obtain ⟨F, h1, h2⟩ := sorted_exists (l := E ++ N) (List.pairwise_append.2 ⟨ds hE, ds hN, hd⟩)
  exact ⟨F, h1, fun x => by rw [h2.mem_iff, List.mem_append], by rw [h2.length_eq, List.length_append]⟩

end Go.Proofs.YtakipjofboipmaaGreat
