/- The kit of this proof: the frame 'Kp' of a call, and small facts on worlds, whatever the program. -/
import Derived.WalkKit
import Derived.WalkSpells
import Derived.WalkLawsBesides
import Derived.Lib.QuietBelow
import Derived.Lib.Bytealg
import Derived.BigQuiet
import Derived.Deep.QuietTactic
import Derived.Deep.LoopGhost
import Derived.Test.YtakipjofboipmaaRows
import Derived.Laws.IdiomCopy
import Derived.Laws.IdiomStrings
import Derived.Deep.AppendLies
namespace Go.Proofs.Ytakipjofboipmaa
open Go.RowKit

/-- Of what was there, only blocks from B on whose elements are of one of the types ts may have turned. -/
structure Kp (B : Nat) (ts : List Nat) (w w' : World) : Prop where
  os : w'.os = w.os
  tape : w'.tape = w.tape
  output : w'.output = w.output
  size : w.heap.size ≤ w'.heap.size
  block : ∀ k, k < w.heap.size → (k < B ∨ ∀ c e f, w.heap[k]? = some (.cells c e f) → e ∉ ts) → w'.heap[k]? = w.heap[k]?

theorem Kp.refl (B : Nat) (ts : List Nat) (w : World) : Kp B ts w w := ⟨rfl, rfl, rfl, Nat.le_refl _, fun _ _ _ => rfl⟩

theorem Kp.trans {B : Nat} {ts : List Nat} {a b c : World} (h : Kp B ts a b) (k : Kp B ts b c) : Kp B ts a c :=
  ⟨k.os.trans h.os, k.tape.trans h.tape, k.output.trans h.output, Nat.le_trans h.size k.size, fun i hi hor => by
    have e1 := h.block i hi hor
    rw [k.block i (Nat.lt_of_lt_of_le hi h.size) (by rw [e1]; exact hor), e1]⟩

theorem Kp.mono {B : Nat} {ts ts' : List Nat} {w w' : World} (h : Kp B ts w w') (hs : ∀ t, t ∈ ts → t ∈ ts') : Kp B ts' w w' :=
  ⟨h.os, h.tape, h.output, h.size, fun k hk hor => h.block k hk (hor.imp id fun g c e f hc hm => g c e f hc (hs e hm))⟩

theorem Kp.of_below {B : Nat} {ts : List Nat} {w w' : World} (h : Below w.heap.size w w') : Kp B ts w w' :=
  ⟨h.os, h.tape, h.output, h.size, fun k hk _ => h.block k hk⟩

theorem Kp.below {B : Nat} {w w' : World} (h : Kp B [] w w') : Below w.heap.size w w' :=
  ⟨h.os, h.tape, h.output, h.size, fun k hk => h.block k hk (.inr fun _ _ _ _ => by simp)⟩

theorem Kp.belowB {B : Nat} {ts : List Nat} {w w' : World} (h : Kp B ts w w') (hB : B ≤ w.heap.size) : Below B w w' :=
  ⟨h.os, h.tape, h.output, h.size, fun k hk => h.block k (Nat.lt_of_lt_of_le hk hB) (.inl hk)⟩

theorem Kp.drew {B : Nat} {ts : List Nat} {a w : World} (h : Kp B ts a w) : Kp B ts a w.drew := ⟨h.os, h.tape, h.output, h.size, h.block⟩

theorem Kp.drewN {B : Nat} {ts : List Nat} {a w : World} (h : Kp B ts a w) (n : Nat) : Kp B ts a (w.drewN n) := ⟨h.os, h.tape, h.output, h.size, h.block⟩

theorem Kp.alloc {B : Nat} {ts : List Nat} {a w : World} (h : Kp B ts a w) (o : Obj) : Kp B ts a (w.alloc o) :=
  h.trans (Kp.of_below ((Below.refl _ _).alloc (Nat.le_refl _) o))

/-- A block that may not have turned. -/
theorem Kp.keep {B : Nat} {ts : List Nat} {w w' : World} (h : Kp B ts w w') {k : Nat} {c : Array Value} {e : TypeId} {f : Nat × Nat} (hk : w.heap[k]? = some (.cells c e f)) (he : e ∉ ts) : w'.heap[k]? = some (.cells c e f) := by
  rw [h.block k (lt_of_block hk) (.inr fun c' e' f' hc => by rw [hk] at hc; simp only [Option.some.injEq, Obj.cells.injEq] at hc; rw [← hc.2.1]; exact he)]
  exact hk

theorem Kp.owns {B : Nat} {ts : List Nat} {w w' : World} (h : Kp B ts w w') {base : Nat} {e : TypeId} {size : Nat} {v : Value} {n : Nat} {xs : List Value} (ho : w.ownsRow base e size v n xs) (he : e ∉ ts) : w'.ownsRow base e size v n xs := by
  refine ⟨ho.1, ?_⟩
  rcases ho.2 with hn | ⟨g, cap, cur, rfl, hb, hg, r⟩
  · exact .inl hn
  · exact .inr ⟨g, cap, cur, rfl, hb, h.keep hg he, r⟩

theorem Kp.setCell {B : Nat} {ts : List Nat} {a w : World} (h : Kp B ts a w) {k o : Nat} {c : Array Value} {e : TypeId} {f : Nat × Nat} (hB : B ≤ k) (hk : w.heap[k]? = some (.cells c e f)) (he : e ∈ ts) (v : Value) : Kp B ts a (w.setCell ⟨k, o, none⟩ v) :=
  h.trans ⟨rfl, rfl, rfl, by simp [World.setCell], fun i hi hor => by
    refine Below.heap_setCell _ _ _ _ (fun hik => ?_)
    have hik' : i = k := hik
    subst hik'
    rcases hor with h1 | h1
    · omega
    · exact h1 _ _ _ hk he⟩

/-- Behind a law that ends in 'grownBy'. -/
theorem Kp.grown {B : Nat} {ts : List Nat} {a w w' : World} (h : Kp B ts a w) {base : Nat} {e : TypeId} {size : Nat} {v : Value} {n : Nat} {xs : List Value} (ho : w.ownsRow base e size v n xs) (hg : w.grownBy w' v.ownBlock) (hB : B ≤ base) (he : e ∈ ts) : Kp B ts a w' :=
  h.trans ⟨hg.os, hg.tape, hg.output, hg.size, fun i hi hor => by
    refine hg.block i hi (fun hik => ?_)
    rcases ho.2 with ⟨rfl, _⟩ | ⟨g, cap, cur, rfl, hb, hgg, _⟩
    · simp [Value.ownBlock] at hik
    · simp only [Value.ownBlock, Option.some.injEq] at hik
      subst hik
      rcases hor with h1 | h1
      · omega
      · exact h1 _ _ _ hgg he⟩

/-- An owned row under another base. -/
theorem owns_base {w : World} {base base' : Nat} {e : TypeId} {size : Nat} {v : Value} {n : Nat} {xs : List Value} (ho : w.ownsRow base e size v n xs) (hb : base' ≤ base) : w.ownsRow base' e size v n xs :=
  ⟨ho.1, ho.2.imp id fun ⟨g, cap, cur, hv, hg, r⟩ => ⟨g, cap, cur, hv, Nat.le_trans hb hg, r⟩⟩

theorem below_trans' {a b c : World} (h : Below a.heap.size a b) (k : Below b.heap.size b c) : Below a.heap.size a c := h.trans (k.mono h.size)

theorem str_eq {a b : ByteArray} (h : a.toList = b.toList) : a = b := by
  rw [ByteArray.toList_eq, ByteArray.toList_eq] at h
  cases a; cases b
  congr 1
  exact Array.toList_inj.1 h
/-- Go's '==' on strings, as the walk writes it. -/
theorem str_ne {a b : ByteArray} (h : a ≠ b) : (a.toList == b.toList) = false := by
  rw [beq_eq_false_iff_ne]
  exact fun g => h (str_eq g)
end Go.Proofs.Ytakipjofboipmaa

/- Plain mathematics of this proof: the order of keys and of entries, what batches make of a key. -/
namespace Go.Proofs.Ytakipjofboipmaa
open Go.Lib (compareBytes)

theorem cb_self : ∀ a : List UInt8, compareBytes a a = 0
  | [] => rfl
  | x :: a => by simp [compareBytes, cb_self a, UInt8.lt_irrefl]

theorem cb_zero : ∀ {a b : List UInt8}, compareBytes a b = 0 → a = b
  | [], [], _ => rfl
  | [], _ :: _, h => by simp [compareBytes] at h
  | _ :: _, [], h => by simp [compareBytes] at h
  | x :: a, y :: b, h => by
    unfold compareBytes at h
    split at h
    · simp at h
    · split at h
      · simp at h
      · rename_i h1 h2
        have : x = y := UInt8.le_antisymm (UInt8.not_lt.1 h2) (UInt8.not_lt.1 h1)
        rw [this, cb_zero h]

theorem cb_neg : ∀ (a b : List UInt8), compareBytes b a = - compareBytes a b
  | [], [] => rfl
  | [], _ :: _ => rfl
  | _ :: _, [] => rfl
  | x :: a, y :: b => by
    unfold compareBytes
    by_cases h1 : x < y
    · have h2 : ¬ y < x := UInt8.not_lt.2 (UInt8.le_of_lt h1)
      simp [h1, h2]
    · by_cases h2 : y < x
      · simp [h1, h2]
      · simp [h1, h2, cb_neg a b]

theorem cb_trans : ∀ {a b c : List UInt8}, compareBytes a b < 0 → compareBytes b c < 0 → compareBytes a c < 0
  | [], [], _, h, _ => by simp [compareBytes] at h
  | [], _ :: _, [], _, h => by simp [compareBytes] at h
  | [], _ :: _, _ :: _, _, _ => by simp [compareBytes]
  | _ :: _, [], _, h, _ => by simp [compareBytes] at h
  | _ :: _, _ :: _, [], _, h => by simp [compareBytes] at h
  | x :: a, y :: b, z :: c, h1, h2 => by
    unfold compareBytes at h1 h2 ⊢
    by_cases c1 : x < y
    · by_cases c2 : y < z
      · simp [UInt8.lt_trans c1 c2]
      · by_cases c3 : z < y
        · simp [c2, c3] at h2
        · have : y = z := UInt8.le_antisymm (UInt8.not_lt.1 c3) (UInt8.not_lt.1 c2)
          subst this
          simp [c1]
    · by_cases c1' : y < x
      · simp [c1, c1'] at h1
      · have e : x = y := UInt8.le_antisymm (UInt8.not_lt.1 c1') (UInt8.not_lt.1 c1)
        subst e
        simp only [UInt8.lt_irrefl, if_false] at h1
        by_cases c2 : x < z
        · simp [c2]
        · by_cases c3 : z < x
          · simp [c2, c3] at h2
          · simp only [c2, c3, if_false] at h2 ⊢
            exact cb_trans h1 h2

/-- Keys by their bytes. -/
def kc (a b : ByteArray) : Int := compareBytes a.data.toList b.data.toList
theorem kc_self (a : ByteArray) : kc a a = 0 := cb_self _
theorem kc_zero {a b : ByteArray} (h : kc a b = 0) : a = b := by
  have := cb_zero h
  cases a; cases b
  congr 1
  exact Array.toList_inj.1 this
theorem kc_neg (a b : ByteArray) : kc b a = - kc a b := cb_neg _ _
theorem kc_trans {a b c : ByteArray} (h1 : kc a b < 0) (h2 : kc b c < 0) : kc a c < 0 := cb_trans h1 h2

/-- An entry. -/
structure En where
  k : ByteArray
  s : Int
  g : Bool
  v : ByteArray

/-- The order of entries: by keys; of one key the greatest number first. -/
def oc (k1 : ByteArray) (s1 : Int) (k2 : ByteArray) (s2 : Int) : Int :=
  if kc k1 k2 ≠ 0 then kc k1 k2 else if s2 < s1 then -1 else if s1 < s2 then 1 else 0

theorem oc_lt {k1 k2 : ByteArray} {s1 s2 : Int} : oc k1 s1 k2 s2 < 0 ↔ kc k1 k2 < 0 ∨ (k1 = k2 ∧ s2 < s1) := by
  unfold oc
  by_cases h : kc k1 k2 = 0
  · have e := kc_zero h
    subst e
    simp only [h, ne_eq, not_true_eq_false, if_false, true_and]
    constructor
    · intro g; right; revert g; split
      · intro _; assumption
      · split <;> simp
    · rintro (g | g)
      · omega
      · simp [g]
  · rw [if_pos h]
    constructor
    · intro g; exact .inl g
    · rintro (g | ⟨rfl, _⟩)
      · exact g
      · exact absurd (kc_self _) h

theorem oc_trans {k1 k2 k3 : ByteArray} {s1 s2 s3 : Int} (h1 : oc k1 s1 k2 s2 < 0) (h2 : oc k2 s2 k3 s3 < 0) : oc k1 s1 k3 s3 < 0 := by
  rw [oc_lt] at *
  rcases h1 with h1 | ⟨rfl, h1⟩
  · rcases h2 with h2 | ⟨rfl, h2⟩
    · exact .inl (kc_trans h1 h2)
    · exact .inl h1
  · rcases h2 with h2 | ⟨rfl, h2⟩
    · exact .inl h2
    · exact .inr ⟨rfl, by omega⟩

/-- What does not stand ahead of another, and is not it, stands behind. -/
theorem oc_total {k1 k2 : ByteArray} {s1 s2 : Int} (h1 : ¬ oc k1 s1 k2 s2 < 0) (h2 : ¬ (k1 = k2 ∧ s1 = s2)) : oc k2 s2 k1 s1 < 0 := by
  rw [oc_lt] at *
  by_cases h : kc k1 k2 = 0
  · have e := kc_zero h
    subst e
    right
    refine ⟨rfl, ?_⟩
    have a : ¬ s2 < s1 := fun g => h1 (.inr ⟨rfl, g⟩)
    have b : ¬ s1 = s2 := fun g => h2 ⟨rfl, g⟩
    omega
  · left
    rw [kc_neg]
    have a : ¬ kc k1 k2 < 0 := fun g => h1 (.inl g)
    omega

def elt (a b : En) : Prop := oc a.k a.s b.k b.s < 0
/-- Entries in order. -/
def Sorted (E : List En) : Prop := E.Pairwise elt

theorem sorted_lt {E : List En} (h : Sorted E) {i j : Nat} (hij : i < j) (hj : j < E.length) : elt (E[i]'(by omega)) E[j] := List.pairwise_iff_getElem.1 h i j (by omega) hj hij

/-- The place of a key and a number among entries: what is ahead of it stands ahead. -/
def IsPlace (E : List En) (k : ByteArray) (s : Int) (i : Nat) : Prop :=
  i ≤ E.length ∧ ∀ j e, E[j]? = some e → (j < i → oc e.k e.s k s < 0) ∧ (i ≤ j → 0 ≤ oc e.k e.s k s)

theorem sorted_mono {E : List En} (h : Sorted E) {k : ByteArray} {s : Int} {i j : Nat} {a b : En} (hij : i ≤ j) (ha : E[i]? = some a) (hb : E[j]? = some b) (hl : oc b.k b.s k s < 0) : oc a.k a.s k s < 0 := by
  obtain ⟨hi, rfl⟩ := List.getElem?_eq_some_iff.1 ha
  obtain ⟨hj, rfl⟩ := List.getElem?_eq_some_iff.1 hb
  rcases Nat.eq_or_lt_of_le hij with rfl | hlt
  · exact hl
  · exact oc_trans (sorted_lt h hlt hj) hl

/-- What is found of a key at a number: the first in order that fits. -/
def fnd (E : List En) (k : ByteArray) (q : Int) : Option En := E.find? fun e => decide (e.k = k ∧ e.s ≤ q)

end Go.Proofs.Ytakipjofboipmaa

/- The walks of this proof: comparing keys and entries, looking for the place of one. -/
namespace Go.Proofs.Ytakipjofboipmaa
open Go.RowKit

set_option maxHeartbeats 1000000 in
set_option maxRecDepth 100000 in
theorem compareString_any (a b : ByteArray) (w : World) :
    Calls Try.prog 62 #[.string a, .string b] w fun e w' => e = .returned (.int .i64 (kc a b)) ∧ w' = w := by
  go_enter Try.func62, Try.ntmps62
  go_wp2
  rw [run_callFunc_extern Try.func74 (by kernel_rfl) (by kernel_rfl) (by kernel_rfl) (e := Extern.BytealgCompare.compare) (by kernel_rfl), Lib.run_compareString]
  simp only [Result.andThen]
  rw [Oper.upon_value]
  go_wp2
  go_ret
  exact ⟨rfl, rfl⟩

set_option maxHeartbeats 400000 in
theorem compare_any (a b : ByteArray) (w : World) :
    Calls Try.prog 41 #[.string a, .string b] w fun e w' => e = .returned (.int .i64 (kc a b)) ∧ w' = w := by
  go_enter Try.func41, Try.ntmps41
  go_wp2_with (go_at_call 62; refine (compareString_any _ _ _).mono ?_; rintro e w' ⟨rfl, rfl⟩)
  go_ret
  exact ⟨rfl, rfl⟩

def ci (a b : Int) : Int := if a < b then -1 else if b < a then 1 else 0

set_option maxHeartbeats 400000 in
theorem cmpint_any (a b : Int) (w : World) :
    Calls Try.prog 47 #[.int .i64 a, .int .i64 b] w fun e w' => e = .returned (.int .i64 (ci a b)) ∧ w' = w := by
  by_cases h1 : a < b
  · have e : ci a b = -1 := by simp [ci, h1]
    rw [e]
    go_enter Try.func47, Try.ntmps47
    go_wp2
    go_ret
    exact ⟨rfl, rfl⟩
  · by_cases h2 : b < a
    · have e : ci a b = 1 := by simp [ci, h1, h2]
      rw [e]
      go_enter Try.func47, Try.ntmps47
      go_wp2
      go_ret
      exact ⟨rfl, rfl⟩
    · have e : ci a b = 0 := by simp [ci, h1, h2]
      rw [e]
      go_enter Try.func47, Try.ntmps47
      go_wp2
      go_ret
      exact ⟨rfl, rfl⟩

/-- An entry as a value. -/
def En.val (e : En) : Value := .agg #[.string e.k, .int .i64 e.s, .bool e.g, .string e.v]

set_option maxHeartbeats 400000 in
theorem order_any (a b : En) (w : World) :
    Calls Try.prog 31 #[a.val, b.val] w fun e w' => e = .returned (.int .i64 (oc a.k a.s b.k b.s)) ∧ Below w.heap.size w w' := by
  obtain ⟨k1, s1, g1, v1⟩ := a
  obtain ⟨k2, s2, g2, v2⟩ := b
  unfold En.val
  generalize hn : kc k1 k2 = n
  have H : Hid (kc k1 k2 = n) := hn
  clear hn
  by_cases h0 : n = 0
  · subst h0
    have e : oc k1 s1 k2 s2 = ci s2 s1 := by simp [oc, ci, H.out]
    simp only [e]
    go_enter Try.func31, Try.ntmps31
    go_wp2_with (first
      | (go_at_call 41; refine (compare_any _ _ _).mono ?_; rintro e w' ⟨rfl, rfl⟩; rw [H.out])
      | (go_at_call 47; refine (cmpint_any _ _ _).mono ?_; rintro e w' ⟨rfl, rfl⟩))
    go_ret
    exact ⟨rfl, ((Below.refl _ _).alloc (Nat.le_refl _) _).alloc (by simp) _⟩
  · have e : oc k1 s1 k2 s2 = n := by simp [oc, H.out, h0]
    simp only [e]
    have hb : (n != 0) = true := by simp [h0]
    go_enter Try.func31, Try.ntmps31
    go_wp2_with (first
      | (go_at_call 41; refine (compare_any _ _ _).mono ?_; rintro e w' ⟨rfl, rfl⟩; rw [H.out])
      | (go_at_call 47; refine (cmpint_any _ _ _).mono ?_; rintro e w' ⟨rfl, rfl⟩))
    go_ret
    exact ⟨rfl, ((Below.refl _ _).alloc (Nat.le_refl _) _).alloc (by simp) _⟩

end Go.Proofs.Ytakipjofboipmaa

/- The walks of this proof: the place of a key among entries. -/
namespace Go.Proofs.Ytakipjofboipmaa
open Go.RowKit Go.Sort

/-- Entries that lie in a block, from its head on. -/
def EnAt (w : World) (b : Nat) (E : List En) : Prop :=
  ∀ j e, E[j]? = some e → w.cell? ⟨b, j * 4, none⟩ = some (.string e.k) ∧ w.cell? ⟨b, j * 4 + 1, none⟩ = some (.int .i64 e.s) ∧ w.cell? ⟨b, j * 4 + 2, none⟩ = some (.bool e.g) ∧ w.cell? ⟨b, j * 4 + 3, none⟩ = some (.string e.v)

theorem EnAt.below {w w' : World} {b : Nat} {E : List En} (h : EnAt w b E) (hb : Below w.heap.size w w') : EnAt w' b E := fun j e he =>
  let ⟨h0, h1, h2, h3⟩ := h j e he
  ⟨cell_later hb h0, cell_later hb h1, cell_later hb h2, cell_later hb h3⟩

theorem order_in (a b : En) (w : World) (d : Nat) (os : Array Obj) :
    Calls Try.prog 31 #[.agg #[.string a.k, .int .i64 a.s, .bool a.g, .string a.v], .agg #[.string b.k, .int .i64 b.s, .bool b.g, .string b.v]] (grow (redrawn w d) os) fun e w'' => e = .returned (.int .i64 (oc a.k a.s b.k b.s)) ∧ ∃ p : Regrown, w'' = grow (redrawn w p.d) p.os :=
  Calls.regrown_of (order_any a b _)

set_option maxHeartbeats 1000000 in
set_option maxRecDepth 100000 in
theorem search_any (E : List En) (t : En) (b cap : Nat) (w : World) (hn : E.length < 1000000000) (hs : Sorted E) (hc : EnAt w b E) :
    Calls Try.prog 50 #[.slice (some ⟨b, 0, none⟩) E.length cap, t.val, .func (.func 31) #[] #[]] w fun e w' => ∃ (i : Nat) (x : Bool), e = .returned (.tuple #[.int .i64 i, .bool x]) ∧ IsPlace E t.k t.s i ∧ Below w.heap.size w w' := by
  unfold En.val
  have HS : Hid (Sorted E) := hs
  have HC : Hid (EnAt w b E) := hc
  clear hs hc
  go_enter Try.func50, Try.ntmps50
  go_wp2
  go_loopg [9, 10] E.length (fun kx s9 s10 wr => ∃ lo hi : Nat, s9 = .int .i64 lo ∧ s10 = .int .i64 hi ∧ lo ≤ hi ∧ hi ≤ E.length ∧ hi - lo ≤ kx ∧ Hid (Below (w.heap.size + 1) (w.alloc (.cells #[.string t.k, .int .i64 t.s, .bool t.g, .string t.v] 73)) wr) ∧
    Hid (∀ j e, E[j]? = some e → (j < lo → oc e.k e.s t.k t.s < 0) ∧ (hi ≤ j → 0 ≤ oc e.k e.s t.k t.s)))
  case atStart => exact ⟨0, E.length, rfl, rfl, Nat.zero_le _, Nat.le_refl _, by omega, Below.refl _ _, fun j e he => ⟨fun h => absurd h (Nat.not_lt_zero _), fun h => absurd (List.getElem?_eq_some_iff.1 he).1 (by omega)⟩⟩
  case round =>
    obtain ⟨lo, hi, rfl, rfl, hlh, hin, hg, hbl, hI⟩ := hrel
    have hbw : Hid (Below w.heap.size w wr) := ((Below.refl _ _).alloc (Nat.le_refl _) _).trans (hbl.out.mono (Nat.le_succ _))
    have b0 := cell_regrown ((hbl.out.cell (p := ⟨w.heap.size, 0, none⟩) (Nat.lt_succ_self _)).trans (by simp : _ = some (Value.string t.k)))
    have b1 := cell_regrown ((hbl.out.cell (p := ⟨w.heap.size, 1, none⟩) (Nat.lt_succ_self _)).trans (by simp : _ = some (Value.int .i64 t.s)))
    have b2 := cell_regrown ((hbl.out.cell (p := ⟨w.heap.size, 2, none⟩) (Nat.lt_succ_self _)).trans (by simp : _ = some (Value.bool t.g)))
    have b3 := cell_regrown ((hbl.out.cell (p := ⟨w.heap.size, 3, none⟩) (Nat.lt_succ_self _)).trans (by simp : _ = some (Value.string t.v)))
    by_cases hlt : lo < hi
    · obtain ⟨e, he⟩ : ∃ e, E[(lo + hi) / 2]? = some e := ⟨_, List.getElem?_eq_getElem (by omega)⟩
      have HE : Hid (E[(lo + hi) / 2]? = some e) := he
      obtain ⟨c0, c1, c2, c3⟩ := HC.out.below hbw.out _ e he
      clear he
      have c0 := cell_regrown c0
      have c1 := cell_regrown c1
      have c2 := cell_regrown c2
      have c3 := cell_regrown c3
      have hm : (lo + hi) / 2 < E.length := by omega
      by_cases hyx : oc e.k e.s t.k t.s < 0
      · go_wp2
        refine wp_region_quiet_below (by kernel_rfl) (by kernel_rfl) ?_
        repeat (first | go_big_quiet_step (exact order_in _ _ _ _ _) | quiet_step (exact order_in _ _ _ _ _))
        refine wpQuiet_nil ?_
        intro _ hw'
        obtain ⟨⟨dq, osq⟩, hw''⟩ := hw'
        subst hw''
        go_wp2
        go_roundg (hi - ((lo + hi) / 2 + 1))
        case measure => omega
        case rel =>
          refine ⟨(lo + hi) / 2 + 1, hi, by rw [show ((lo : Int) + (hi : Int)) / 2 + 1 = (((lo + hi) / 2 + 1 : Nat) : Int) by omega], rfl, by omega, hin, Nat.le_refl _, hbl.out.trans ((below_regrown wr dq osq).mono ?_), fun j e' he' => ⟨fun h => sorted_mono HS.out (by omega) he' HE.out hyx, (hI.out j e' he').2⟩⟩
          have := hbl.out.size; simpa using this
      · go_wp2
        refine wp_region_quiet_below (by kernel_rfl) (by kernel_rfl) ?_
        repeat (first | go_big_quiet_step (exact order_in _ _ _ _ _) | quiet_step (exact order_in _ _ _ _ _))
        refine wpQuiet_nil ?_
        intro _ hw'
        obtain ⟨⟨dq, osq⟩, hw''⟩ := hw'
        subst hw''
        go_wp2
        go_roundg ((lo + hi) / 2 - lo)
        case measure => omega
        case rel =>
          refine ⟨lo, (lo + hi) / 2, rfl, by rw [show ((lo : Int) + (hi : Int)) / 2 = (((lo + hi) / 2 : Nat) : Int) by omega], by omega, by omega, Nat.le_refl _, hbl.out.trans ((below_regrown wr dq osq).mono ?_), fun j e' he' => ⟨(hI.out j e' he').1, fun h => Int.not_lt.1 fun h2 => absurd (sorted_mono HS.out h HE.out he' h2) (Int.not_lt.2 hyx)⟩⟩
          have := hbl.out.size; simpa using this
    · obtain rfl : hi = lo := by omega
      by_cases hn2 : hi < E.length
      · obtain ⟨e, he⟩ : ∃ e, E[hi]? = some e := ⟨_, List.getElem?_eq_getElem (by omega)⟩
        obtain ⟨c0, c1, c2, c3⟩ := HC.out.below hbw.out _ e he
        clear he
        have c0 := cell_regrown c0
        have c1 := cell_regrown c1
        have c2 := cell_regrown c2
        have c3 := cell_regrown c3
        go_wp2
        refine wp_region_quiet_below (by kernel_rfl) (by kernel_rfl) ?_
        repeat (first | go_big_quiet_step (exact order_in _ _ _ _ _) | quiet_step (exact order_in _ _ _ _ _))
        refine wpQuiet_nil ?_
        intro _ hw'
        obtain ⟨⟨dq, osq⟩, hw''⟩ := hw'
        subst hw''
        go_wp2
        go_ret2
        exact ⟨hi, _, rfl, ⟨hin, hI.out⟩, below_trans' hbw.out (below_regrown wr dq osq)⟩
      · have hd : decide ((hi : Int) < (E.length : Int)) = false := by simp; omega
        go_wp2
        refine wp_region_quiet_below (by kernel_rfl) (by kernel_rfl) ?_
        repeat (first | go_big_quiet_step (exact order_in _ _ _ _ _) | quiet_step (exact order_in _ _ _ _ _))
        refine wpQuiet_nil ?_
        intro _ hw'
        obtain ⟨⟨dq, osq⟩, hw''⟩ := hw'
        subst hw''
        go_wp2
        go_ret2
        exact ⟨hi, _, rfl, ⟨hin, hI.out⟩, below_trans' hbw.out (below_regrown wr dq osq)⟩
end Go.Proofs.Ytakipjofboipmaa

/- The walks of this proof: a run of entries: place, Find, KeyFrom; what is seen. -/
namespace Go.Proofs.Ytakipjofboipmaa
open Go.RowKit Go.Sort

/-- A slice value that holds these entries. -/
def EnRow (w : World) (v : Value) (E : List En) : Prop :=
  (E = [] ∧ v = .slice none 0 0) ∨ ∃ b cap, v = .slice (some ⟨b, 0, none⟩) E.length cap ∧ E.length ≤ cap ∧ EnAt w b E

theorem EnRow.below {w w' : World} {v : Value} {E : List En} (h : EnRow w v E) (hb : Below w.heap.size w w') : EnRow w' v E := by
  rcases h with h | ⟨b, cap, hv, hcap, hE⟩
  · exact .inl h
  · exact .inr ⟨b, cap, hv, hcap, hE.below hb⟩

set_option maxHeartbeats 1000000 in
set_option maxRecDepth 100000 in
theorem search_none (t : En) (ao : Option Addr) (cap : Nat) (w : World) :
    Calls Try.prog 50 #[.slice ao 0 cap, t.val, .func (.func 31) #[] #[]] w fun e w' => ∃ (x : Bool), e = .returned (.tuple #[.int .i64 0, .bool x]) ∧ Below w.heap.size w w' := by
  unfold En.val
  go_enter Try.func50, Try.ntmps50
  go_wp2
  refine wp_loop_rounds 1 ?_
  rw [rounds_succ]
  go_wp2
  refine wp_region_quiet_below (by kernel_rfl) (by kernel_rfl) ?_
  repeat (first | go_big_quiet_step (fail) | quiet_step (fail))
  refine wpQuiet_nil ?_
  intro _ hw'
  obtain ⟨⟨dq, osq⟩, hw''⟩ := hw'
  subst hw''
  go_wp2
  go_ret2
  exact ⟨_, rfl, below_trans' ((Below.refl _ _).alloc (Nat.le_refl _) _) (below_regrown _ dq osq)⟩

set_option maxHeartbeats 1000000 in
theorem place_any (E : List En) (v : Value) (k : ByteArray) (s : Int) (w : World) (hn : E.length < 1000000000) (hs : Sorted E) (hc : EnRow w v E) :
    Calls Try.prog 37 #[v, .string k, .int .i64 s] w fun e w' => ∃ i : Nat, e = .returned (.int .i64 i) ∧ IsPlace E k s i ∧ Below w.heap.size w w' := by
  rcases hc with ⟨rfl, rfl⟩ | ⟨b, cap, rfl, _, hE⟩
  · go_enter Try.func37, Try.ntmps37
    go_wp2_with (go_at_call 50; refine (search_none ⟨k, s, false, ⟨#[]⟩⟩ _ _ _).mono ?_; rintro e w' ⟨x, rfl, hb⟩)
    go_ret
    exact ⟨0, rfl, ⟨Nat.le_refl _, fun j e h => by simp at h⟩, by assumption⟩
  · have HE : Hid (EnAt w b E) := hE
    have HS : Hid (Sorted E) := hs
    clear hE hs
    go_enter Try.func37, Try.ntmps37
    go_wp2_with (go_at_call 50; refine (search_any E ⟨k, s, false, ⟨#[]⟩⟩ _ _ _ hn HS.out HE.out).mono ?_; rintro e w' ⟨i, x, rfl, hp, hb⟩; have HP : Hid (IsPlace E k s i) := hp; clear hp)
    go_ret
    exact ⟨_, rfl, Hid.out (by assumption), by assumption⟩

theorem EnRow.form {w : World} {v : Value} {E : List En} (h : EnRow w v E) : ∃ ao cap, v = .slice ao E.length cap ∧ (0 < E.length → ∃ b, ao = some ⟨b, 0, none⟩ ∧ EnAt w b E) := by
  rcases h with ⟨rfl, rfl⟩ | ⟨b, cap, rfl, _, hE⟩
  · exact ⟨none, 0, rfl, fun h => absurd h (by simp)⟩
  · exact ⟨_, cap, rfl, fun _ => ⟨b, rfl, hE⟩⟩

end Go.Proofs.Ytakipjofboipmaa

/- Plain mathematics of this proof: what a scan gathers. -/
namespace Go.Proofs.Ytakipjofboipmaa

/-- A pair. -/
structure Pr where
  k : ByteArray
  v : ByteArray
  g : Bool

/-- The cells of pairs, of entries. -/
def Pr.cells (p : Pr) : List Value := [.string p.k, .string p.v, .bool p.g]
def pcells (l : List Pr) : List Value := l.flatMap Pr.cells
def En.cells (e : En) : List Value := [.string e.k, .int .i64 e.s, .bool e.g, .string e.v]
def ecells (l : List En) : List Value := l.flatMap En.cells

theorem flat_len {α β : Type} (f : α → List β) (n : Nat) (hf : ∀ a, (f a).length = n) : ∀ l : List α, (l.flatMap f).length = l.length * n
  | [] => by simp
  | a :: l => by simp [flat_len f n hf l, hf, Nat.add_mul]; omega

theorem flat_get {α β : Type} (f : α → List β) (n : Nat) (hf : ∀ a, (f a).length = n) : ∀ (l : List α) (j : Nat) (a : α) (i : Nat), l[j]? = some a → i < n → (l.flatMap f)[j * n + i]? = (f a)[i]?
  | [], _, _, _, h, _ => by simp at h
  | b :: l, 0, a, i, h, hi => by
    simp at h; subst h
    rw [List.flatMap_cons, Nat.zero_mul, Nat.zero_add, List.getElem?_append_left (by rw [hf]; exact hi)]
  | b :: l, j + 1, a, i, h, hi => by
    rw [List.flatMap_cons, List.getElem?_append_right (by rw [hf, Nat.add_mul]; omega), hf, show (j + 1) * n + i - n = j * n + i by rw [Nat.add_mul]; omega]
    exact flat_get f n hf l j a i (by simpa using h) hi

end Go.Proofs.Ytakipjofboipmaa

/- Plain mathematics of this proof: several runs of entries, one above the other. -/
namespace Go.Proofs.Ytakipjofboipmaa

/-- What is seen of what was found. -/
def skO : Option En → Option ByteArray
  | some e => if e.g then none else some e.v
  | none => none
/-- The first of several runs that has one. -/
def fndL (X : List (List En)) (k : ByteArray) (q : Int) : Option En := X.findSome? fun a => fnd a k q

/-- Of one key, what stands in a run further behind is older. -/
def LayX (X : List (List En)) : Prop := X.Pairwise fun a b => ∀ e ∈ a, ∀ e' ∈ b, e.k = e'.k → e'.s < e.s

/-- Entries that differ in key or number. -/
def DistE (l : List En) : Prop := l.Pairwise fun a b => ¬ (a.k = b.k ∧ a.s = b.s)

def leE (a b : En) : Bool := !decide (oc b.k b.s a.k a.s < 0)

/-- Entries put in order. -/
def srt (l : List En) : List En := l.mergeSort leE

theorem srt_mem {l : List En} {e : En} : e ∈ srt l ↔ e ∈ l := (List.mergeSort_perm l leE).mem_iff
theorem srt_len (l : List En) : (srt l).length = l.length := (List.mergeSort_perm l leE).length_eq

theorem srt_sorted {l : List En} (h : DistE l) : Sorted (srt l) := by
  have hp := List.mergeSort_perm l leE
  have hd : DistE (l.mergeSort leE) := hp.symm.pairwise h (fun {a b} hab hba => hab ⟨hba.1.symm, hba.2.symm⟩)
  have hs : (l.mergeSort leE).Pairwise fun a b => leE a b = true := List.pairwise_mergeSort (fun a b c h1 h2 => by
      simp only [leE, Bool.not_eq_true', decide_eq_false_iff_not] at h1 h2 ⊢
      intro h3
      by_cases hab : a.k = b.k ∧ a.s = b.s
      · rw [hab.1, hab.2] at h3; exact h2 h3
      · exact h2 (oc_trans h3 (oc_total h1 (fun e => hab ⟨e.1.symm, e.2.symm⟩)))) (fun a b => by
      simp only [leE, Bool.or_eq_true, Bool.not_eq_true', decide_eq_false_iff_not]
      by_cases h1 : oc b.k b.s a.k a.s < 0
      · exact .inr fun h2 => by
          have := oc_trans h1 h2
          rw [oc_lt, kc_self] at this
          rcases this with h | h <;> omega
      · exact .inl h1) l
  refine (hd.and hs).imp fun {a b} hab => ?_
  simp only [leE, Bool.not_eq_true', decide_eq_false_iff_not] at hab
  exact oc_total hab.2 (fun e => hab.1 ⟨e.1.symm, e.2.symm⟩)

theorem elt_irrefl (a : En) : ¬ elt a a := fun h => by
  unfold elt at h
  rw [oc_lt, kc_self] at h
  rcases h with h | h <;> omega

theorem sorted_dist {l : List En} (h : Sorted l) : DistE l := List.Pairwise.imp (fun {a b} hab hh => by
    unfold elt at hab
    rw [oc_lt, hh.1, kc_self] at hab
    rcases hab with h | h <;> omega) h

/-- Entries in order are told by which they are. -/
theorem sorted_ext : ∀ {A B : List En}, Sorted A → Sorted B → (∀ e, e ∈ A ↔ e ∈ B) → A = B
  | [], [], _, _, _ => rfl
  | [], b :: B, _, _, h => absurd ((h b).2 List.mem_cons_self) (by simp)
  | a :: A, [], _, _, h => absurd ((h a).1 List.mem_cons_self) (by simp)
  | a :: A, b :: B, hA, hB, h => by
    obtain ⟨ha, hA'⟩ := List.pairwise_cons.1 hA
    obtain ⟨hb, hB'⟩ := List.pairwise_cons.1 hB
    have hab : a = b := by
      rcases List.mem_cons.1 ((h a).1 List.mem_cons_self) with e | e
      · exact e
      · rcases List.mem_cons.1 ((h b).2 List.mem_cons_self) with e2 | e2
        · exact e2.symm
        · exact absurd (oc_trans (hb a e) (ha b e2)) (elt_irrefl b)
    subst hab
    congr 1
    refine sorted_ext hA' hB' fun e => ⟨fun he => ?_, fun he => ?_⟩
    · rcases List.mem_cons.1 ((h e).1 (List.mem_cons_of_mem _ he)) with rfl | g
      · exact absurd (ha e he) (elt_irrefl e)
      · exact g
    · rcases List.mem_cons.1 ((h e).2 (List.mem_cons_of_mem _ he)) with rfl | g
      · exact absurd (hb e he) (elt_irrefl e)
      · exact g

end Go.Proofs.Ytakipjofboipmaa

/- The walks of this proof: what is found and seen in the table in memory and the tables that were laid down. -/
namespace Go.Proofs.Ytakipjofboipmaa
open Go.RowKit Go.Sort

/-- A table that was laid down: its level, its entries. -/
abbrev Lb := Int × List En

/-- A slice value that holds these tables. -/
def LdRow (w : World) (vL : Value) (T : List Lb) : Prop :=
  ∃ ao cap, vL = .slice ao T.length cap ∧ (0 < T.length → ∃ g, ao = some ⟨g, 0, none⟩ ∧ T.length ≤ cap ∧ ∀ (k : Nat) t, T[k]? = some t → ∃ v, w.cell? ⟨g, k * 2, none⟩ = some v ∧ EnRow w v t.2 ∧ w.cell? ⟨g, k * 2 + 1, none⟩ = some (.int .i64 t.1))

theorem LdRow.below {w w' : World} {vL : Value} {T : List Lb} (h : LdRow w vL T) (hb : Below w.heap.size w w') : LdRow w' vL T := by
  obtain ⟨ao, cap, hv, h⟩ := h
  refine ⟨ao, cap, hv, fun hl => ?_⟩
  obtain ⟨g, hg, hc, h⟩ := h hl
  refine ⟨g, hg, hc, fun k t ht => ?_⟩
  obtain ⟨v, h1, h2, h3⟩ := h k t ht
  exact ⟨v, cell_later hb h1, h2.below hb, cell_later hb h3⟩

/-- What is true of the runs of a store. -/
structure LvOk (E : List En) (T : List Lb) : Prop where
  few : E.length < 1000000000
  sorted : Sorted E
  tfew : T.length < 1000000000
  tabs : ∀ t ∈ T, t.2.length < 1000000000 ∧ Sorted t.2

def runs (E : List En) (T : List Lb) : List (List En) := E :: T.map (·.2)

end Go.Proofs.Ytakipjofboipmaa

/- The walks of this proof: what is seen from a text on. -/
namespace Go.Proofs.Ytakipjofboipmaa
open Go.RowKit Go.Sort

theorem Try.info30 : (Try.prog.info? 30).map (fun i => (i.zero, i.size, i.bytes)) = some (some (.agg #[.string ⟨#[]⟩, .string ⟨#[]⟩, .bool false]), 3, 40) := by kernel_rfl

theorem slice_form {w : World} {base : Nat} {e : TypeId} {size : Nat} {v : Value} {n : Nat} {xs : List Value} (h : w.ownsRow base e size v n xs) : ∃ ao cap, v = .slice ao n cap := by
  rcases h.2 with ⟨rfl, rfl⟩ | ⟨g, cap, cur, rfl, _⟩
  · exact ⟨_, _, rfl⟩
  · exact ⟨_, _, rfl⟩

/-- What a round of the scan does to memory. -/
theorem app_below {w wr w1 : World} {v : Value} {n : Nat} {xs : List Value} {e : TypeId} {size : Nat} {o : Obj} (hb : Below w.heap.size w wr) (ho : wr.ownsRow w.heap.size e size v n xs) (hg : (wr.alloc o).grownBy w1 v.ownBlock) : Below w.heap.size w w1 :=
  (hb.alloc hb.size o).grown hg (by have := hb.size; simp; omega) fun k hk => (ho.lt k hk).1

end Go.Proofs.Ytakipjofboipmaa

/- The walks of this proof: snapshots by their numbers; Get and Scan. -/
namespace Go.Proofs.Ytakipjofboipmaa
open Go.RowKit Go.Sort

/-- What lies in a row, by its places. -/
theorem row_cell {α : Type} {w : World} {base : Nat} {e : TypeId} {size : Nat} {v : Value} {l : List α} {f : α → List Value} (hf : ∀ a, (f a).length = size) (h : w.ownsRow base e size v l.length (l.flatMap f)) (hl : 0 < l.length) :
    ∃ g cap, v = .slice (some ⟨g, 0, none⟩) l.length cap ∧ base ≤ g ∧ g < w.heap.size ∧ l.length ≤ cap ∧ ∀ j a i, l[j]? = some a → i < size → w.cell? ⟨g, j * size + i, none⟩ = (f a)[i]? := by
  rcases h.2 with ⟨_, h0⟩ | ⟨g, cap, cur, rfl, hb, hg, hnc, _⟩
  · omega
  · refine ⟨g, cap, rfl, hb, lt_of_block hg, hnc, fun j a i hj hi => ?_⟩
    have hj' : j < l.length := (List.getElem?_eq_some_iff.1 hj).1
    rw [h.cellAt _ (by have := Nat.mul_le_mul_right size hj'; simp only [Nat.succ_eq_add_one, Nat.add_mul] at this; omega), flat_get f size hf l j a i hj hi]

theorem enrow_of_owns {w : World} {base : Nat} {v : Value} {E : List En} (h : w.ownsRow base 73 4 v E.length (ecells E)) : EnRow w v E := by
  by_cases hl : 0 < E.length
  · obtain ⟨g, cap, rfl, _, _, hc, hcell⟩ := row_cell (fun a => by rfl) h hl
    exact .inr ⟨g, cap, rfl, hc, fun j e he => ⟨hcell j e 0 he (by omega), hcell j e 1 he (by omega), hcell j e 2 he (by omega), hcell j e 3 he (by omega)⟩⟩
  · have : E = [] := List.eq_nil_of_length_eq_zero (by omega)
    subst this
    rcases h.2 with ⟨rfl, _⟩ | ⟨g, cap, cur, rfl, _, _, hc, _⟩
    · exact .inl ⟨rfl, rfl⟩
    · exact .inr ⟨g, cap, rfl, hc, fun j e he => by simp at he⟩

/-- A snapshot: its number, and the batch number at which it sees. -/
structure Sn where
  n : Int
  q : Int
def Sn.cells (s : Sn) : List Value := [.int .i64 s.n, .int .i64 s.q]
def scells (l : List Sn) : List Value := l.flatMap Sn.cells

end Go.Proofs.Ytakipjofboipmaa

/- The kit of this proof: the frame 'Kd' of a call that may turn blocks of a set D alone, and rows that lie in D. -/
namespace Go.Proofs.Ytakipjofboipmaa
open Go.RowKit

/-- Of what was there, only blocks of D whose elements are of one of the types ts may have turned. -/
structure Kd (D : Nat → Prop) (ts : List Nat) (w w' : World) : Prop where
  os : w'.os = w.os
  tape : w'.tape = w.tape
  output : w'.output = w.output
  size : w.heap.size ≤ w'.heap.size
  block : ∀ k, k < w.heap.size → (¬ D k ∨ ∀ c e f, w.heap[k]? = some (.cells c e f) → e ∉ ts) → w'.heap[k]? = w.heap[k]?

/-- All blocks that are not there yet are D's. -/
def Opn (D : Nat → Prop) (w : World) : Prop := ∀ k, w.heap.size ≤ k → D k

theorem Opn.later {D : Nat → Prop} {w w' : World} (h : Opn D w) (hs : w.heap.size ≤ w'.heap.size) : Opn D w' := fun k hk => h k (Nat.le_trans hs hk)

/-- An owned row that lies in D. -/
def OwnsIn (w : World) (D : Nat → Prop) (e : TypeId) (size : Nat) (v : Value) (n : Nat) (xs : List Value) : Prop :=
  w.ownsRow 0 e size v n xs ∧ ∀ g, v.ownBlock = some g → D g

theorem OwnsIn.own {w : World} {D : Nat → Prop} {e : TypeId} {size : Nat} {v : Value} {n : Nat} {xs : List Value} (h : OwnsIn w D e size v n xs) : w.ownsRow 0 e size v n xs := h.1

theorem OwnsIn.dom {w : World} {D : Nat → Prop} {e : TypeId} {size : Nat} {v : Value} {n : Nat} {xs : List Value} (h : OwnsIn w D e size v n xs) : ∀ g, v.ownBlock = some g → D g := h.2

theorem Kd.refl (D : Nat → Prop) (ts : List Nat) (w : World) : Kd D ts w w := ⟨rfl, rfl, rfl, Nat.le_refl _, fun _ _ _ => rfl⟩

theorem Kd.trans {D : Nat → Prop} {ts : List Nat} {a b c : World} (h : Kd D ts a b) (k : Kd D ts b c) : Kd D ts a c :=
  ⟨k.os.trans h.os, k.tape.trans h.tape, k.output.trans h.output, Nat.le_trans h.size k.size, fun i hi hor => by
    have e1 := h.block i hi hor
    rw [k.block i (Nat.lt_of_lt_of_le hi h.size) (by rw [e1]; exact hor), e1]⟩

theorem Kd.mono {D : Nat → Prop} {ts ts' : List Nat} {w w' : World} (h : Kd D ts w w') (hs : ∀ t, t ∈ ts → t ∈ ts') : Kd D ts' w w' :=
  ⟨h.os, h.tape, h.output, h.size, fun k hk hor => h.block k hk (hor.imp id fun g c e f hc hm => g c e f hc (hs e hm))⟩

theorem Kd.of_below {D : Nat → Prop} {ts : List Nat} {w w' : World} (h : Below w.heap.size w w') : Kd D ts w w' :=
  ⟨h.os, h.tape, h.output, h.size, fun k hk _ => h.block k hk⟩

/-- Nothing of what was there below N has turned, where D lies from N on. -/
theorem Kd.belowN {D : Nat → Prop} {ts : List Nat} {N : Nat} {w w' : World} (h : Kd D ts w w') (hN : N ≤ w.heap.size) (hD : ∀ k, D k → N ≤ k) : Below N w w' :=
  ⟨h.os, h.tape, h.output, h.size, fun k hk => h.block k (by omega) (.inl fun d => by have := hD k d; omega)⟩

theorem Kd.drew {D : Nat → Prop} {ts : List Nat} {a w : World} (h : Kd D ts a w) : Kd D ts a w.drew := ⟨h.os, h.tape, h.output, h.size, h.block⟩

theorem Kd.drewN {D : Nat → Prop} {ts : List Nat} {a w : World} (h : Kd D ts a w) (n : Nat) : Kd D ts a (w.drewN n) := ⟨h.os, h.tape, h.output, h.size, h.block⟩

theorem Kd.alloc {D : Nat → Prop} {ts : List Nat} {a w : World} (h : Kd D ts a w) (o : Obj) : Kd D ts a (w.alloc o) :=
  h.trans (Kd.of_below ((Below.refl _ _).alloc (Nat.le_refl _) o))

/-- A block that may not have turned. -/
theorem Kd.keep {D : Nat → Prop} {ts : List Nat} {w w' : World} (h : Kd D ts w w') {k : Nat} {c : Array Value} {e : TypeId} {f : Nat × Nat} (hk : w.heap[k]? = some (.cells c e f)) (he : e ∉ ts) : w'.heap[k]? = some (.cells c e f) := by
  rw [h.block k (lt_of_block hk) (.inr fun c' e' f' hc => by rw [hk] at hc; simp only [Option.some.injEq, Obj.cells.injEq] at hc; rw [← hc.2.1]; exact he)]
  exact hk

/-- A block that is not D's. -/
theorem Kd.keepN {D : Nat → Prop} {ts : List Nat} {w w' : World} (h : Kd D ts w w') {k : Nat} {o : Obj} (hk : w.heap[k]? = some o) (he : ¬ D k) : w'.heap[k]? = some o := by
  rw [h.block k (Array.getElem?_eq_some_iff.1 hk).1 (.inl he)]
  exact hk

theorem Kd.owns {D : Nat → Prop} {ts : List Nat} {w w' : World} (h : Kd D ts w w') {base : Nat} {e : TypeId} {size : Nat} {v : Value} {n : Nat} {xs : List Value} (ho : w.ownsRow base e size v n xs) (he : e ∉ ts) : w'.ownsRow base e size v n xs := by
  refine ⟨ho.1, ?_⟩
  rcases ho.2 with hn | ⟨g, cap, cur, rfl, hb, hg, r⟩
  · exact .inl hn
  · exact .inr ⟨g, cap, cur, rfl, hb, h.keep hg he, r⟩

theorem Kd.ownsN {D : Nat → Prop} {ts : List Nat} {w w' : World} (h : Kd D ts w w') {base : Nat} {e : TypeId} {size : Nat} {v : Value} {n : Nat} {xs : List Value} (ho : w.ownsRow base e size v n xs) (he : ∀ g, v.ownBlock = some g → ¬ D g) : w'.ownsRow base e size v n xs := by
  refine ⟨ho.1, ?_⟩
  rcases ho.2 with hn | ⟨g, cap, cur, rfl, hb, hg, r⟩
  · exact .inl hn
  · exact .inr ⟨g, cap, cur, rfl, hb, h.keepN hg (he g rfl), r⟩

theorem Kd.ownsIn {D D' : Nat → Prop} {ts : List Nat} {w w' : World} (h : Kd D ts w w') {e : TypeId} {size : Nat} {v : Value} {n : Nat} {xs : List Value} (ho : OwnsIn w D' e size v n xs) (he : e ∉ ts) : OwnsIn w' D' e size v n xs :=
  ⟨h.owns ho.own he, ho.dom⟩

theorem OwnsIn.alloc {w : World} {D : Nat → Prop} {e : TypeId} {size : Nat} {v : Value} {n : Nat} {xs : List Value} (ho : OwnsIn w D e size v n xs) (o : Obj) : OwnsIn (w.alloc o) D e size v n xs := ⟨ho.own.alloc o, ho.dom⟩

theorem OwnsIn.below {w w' : World} {D : Nat → Prop} {e : TypeId} {size : Nat} {v : Value} {n : Nat} {xs : List Value} (ho : OwnsIn w D e size v n xs) (hb : Below w.heap.size w w') : OwnsIn w' D e size v n xs :=
  (Kd.of_below (D := D) (ts := []) hb).ownsIn ho (by simp)

theorem Kd.setCell {D : Nat → Prop} {ts : List Nat} {a w : World} (h : Kd D ts a w) {k o : Nat} {c : Array Value} {e : TypeId} {f : Nat × Nat} (hB : D k) (hk : w.heap[k]? = some (.cells c e f)) (he : e ∈ ts) (v : Value) : Kd D ts a (w.setCell ⟨k, o, none⟩ v) :=
  h.trans ⟨rfl, rfl, rfl, by simp [World.setCell], fun i hi hor => by
    refine Below.heap_setCell _ _ _ _ (fun hik => ?_)
    have hik' : i = k := hik
    subst hik'
    rcases hor with h1 | h1
    · exact h1 hB
    · exact h1 _ _ _ hk he⟩

/-- Behind a law that ends in 'grownBy'. -/
theorem Kd.grown {D : Nat → Prop} {ts : List Nat} {a w w' : World} (h : Kd D ts a w) {e : TypeId} {size : Nat} {v : Value} {n : Nat} {xs : List Value} (ho : OwnsIn w D e size v n xs) (hg : w.grownBy w' v.ownBlock) (he : e ∈ ts) : Kd D ts a w' :=
  h.trans ⟨hg.os, hg.tape, hg.output, hg.size, fun i hi hor => by
    refine hg.block i hi (fun hik => ?_)
    have hd := ho.dom i hik.symm
    rcases ho.own.2 with ⟨rfl, _⟩ | ⟨g, cap, cur, rfl, hb, hgg, _⟩
    · simp [Value.ownBlock] at hik
    · simp only [Value.ownBlock, Option.some.injEq] at hik
      subst hik
      rcases hor with h1 | h1
      · exact h1 hd
      · exact h1 _ _ _ hgg he⟩

/-- What append left lies in D. -/
theorem OwnsIn.lies {w w' : World} {D : Nat → Prop} {e : TypeId} {size : Nat} {v : Value} {n : Nat} {xs : List Value} (ho : OwnsIn w D e size v n xs) (hD : Opn D w) {g cap m : Nat} {ys : List Value}
    (h : w'.ownsRow 0 e size (.slice (some ⟨g, 0, none⟩) m cap) m ys) (hat : v.ownBlock = some g ∨ g = w.heap.size) : OwnsIn w' D e size (.slice (some ⟨g, 0, none⟩) m cap) m ys :=
  ⟨h, fun g' hg' => by
    simp only [Value.ownBlock, Option.some.injEq] at hg'
    subst hg'
    rcases hat with h1 | h1
    · exact ho.dom _ h1
    · exact hD _ (by omega)⟩

/-- The same, the row's place said otherwise. -/
theorem OwnsIn.put {w0 w w' : World} {D : Nat → Prop} {e : TypeId} {size : Nat} {v : Value} {n : Nat} {xs : List Value} (ho : OwnsIn w0 D e size v n xs) (hD : Opn D w) {g cap m : Nat} {ys : List Value}
    (h : w'.ownsRow 0 e size (.slice (some ⟨g, 0, none⟩) m cap) m ys) (hat : v.ownBlock = some g ∨ w.heap.size ≤ g) : OwnsIn w' D e size (.slice (some ⟨g, 0, none⟩) m cap) m ys :=
  ⟨h, fun g' hg' => by
    simp only [Value.ownBlock, Option.some.injEq] at hg'
    subst hg'
    rcases hat with h1 | h1
    · exact ho.dom _ h1
    · exact hD _ h1⟩

/-- A new row. -/
theorem OwnsIn.fresh {w w' : World} {D : Nat → Prop} {base : Nat} {e : TypeId} {size : Nat} {v : Value} {n : Nat} {xs : List Value} (h : w'.ownsRow base e size v n xs) (hD : Opn D w) (hb : w.heap.size ≤ base) : OwnsIn w' D e size v n xs :=
  ⟨owns_base h (Nat.zero_le _), fun g hg => hD g (by have := (h.lt g hg).1; omega)⟩

theorem Kd.field {D : Nat → Prop} {w : World} {sb : Nat} {a : Array Value} {t : TypeId} (hB : D sb) (h : w.heap[sb]? = some (.cells a t (0, 0))) (i : Nat) (v : Value) : Kd D [t] w (w.setCell ⟨sb, i, none⟩ v) :=
  (Kd.refl D [t] w).setCell hB h (by simp) v

end Go.Proofs.Ytakipjofboipmaa

/- Plain mathematics of this proof: sorting few pairs; the pairs that count; entries laid together; there is one scan. -/
namespace Go.Proofs.Ytakipjofboipmaa
/-- The same pairs, in whatever order. -/
def SamePr (L M : List Pr) : Prop := M.length = L.length ∧ ∀ p, p ∈ M ↔ p ∈ L

/-- No key twice. -/
def Distinct (L : List Pr) : Prop := ∀ (a b : Nat) (p q : Pr), L[a]? = some p → L[b]? = some q → p.k = q.k → a = b

/-- The first i stand in order. -/
def Upto (L : List Pr) (i : Nat) : Prop := ∀ (a b : Nat) (p q : Pr), a < b → b < i → L[a]? = some p → L[b]? = some q → kc p.k q.k < 0

/-- The first i + 1 stand in order but for the j-th, which is less than those behind it. -/
def But (L : List Pr) (j i : Nat) : Prop := ∀ (a b : Nat) (p q : Pr), a < b → b ≤ i → b ≠ j → L[a]? = some p → L[b]? = some q → kc p.k q.k < 0

def sw (L : List Pr) (m : Nat) (x y : Pr) : List Pr := (L.set (m + 1) x).set m y

theorem sw_get {L : List Pr} {m : Nat} {x y : Pr} (hm : m + 1 < L.length) (a : Nat) : (sw L m x y)[a]? = if a = m then some y else if a = m + 1 then some x else L[a]? := by
  unfold sw
  rw [List.getElem?_set, List.getElem?_set]
  simp only [List.length_set]
  by_cases h1 : m = a
  · subst h1; simp; omega
  · rw [if_neg h1, if_neg (Ne.symm h1)]
    by_cases h2 : m + 1 = a
    · subst h2; simp; omega
    · rw [if_neg h2, if_neg (Ne.symm h2)]

theorem sw_len {L : List Pr} {m : Nat} {x y : Pr} : (sw L m x y).length = L.length := by simp [sw]

theorem sw_same {L : List Pr} {m : Nat} {x y : Pr} (hx : L[m]? = some x) (hy : L[m + 1]? = some y) : SamePr L (sw L m x y) := by
  have hm : m + 1 < L.length := (List.getElem?_eq_some_iff.1 hy).1
  refine ⟨sw_len, fun p => ?_⟩
  simp only [List.mem_iff_getElem?]
  constructor
  · rintro ⟨a, ha⟩
    rw [sw_get hm] at ha
    split at ha
    · exact ⟨m + 1, by rw [hy]; exact ha⟩
    · split at ha
      · exact ⟨m, by rw [hx]; exact ha⟩
      · exact ⟨a, ha⟩
  · rintro ⟨a, ha⟩
    by_cases h1 : a = m
    · subst h1
      refine ⟨a + 1, ?_⟩
      rw [sw_get hm, if_neg (by omega), if_pos rfl, ← hx]; exact ha
    · by_cases h2 : a = m + 1
      · subst h2
        refine ⟨m, ?_⟩
        rw [sw_get hm, if_pos rfl, ← hy]; exact ha
      · exact ⟨a, by rw [sw_get hm, if_neg h1, if_neg h2]; exact ha⟩

theorem SamePr.trans {L M N : List Pr} (h : SamePr L M) (k : SamePr M N) : SamePr L N := ⟨k.1.trans h.1, fun p => (k.2 p).trans (h.2 p)⟩

theorem sw_distinct {L : List Pr} {m : Nat} {x y : Pr} (hd : Distinct L) (hx : L[m]? = some x) (hy : L[m + 1]? = some y) : Distinct (sw L m x y) := by
  have hm : m + 1 < L.length := (List.getElem?_eq_some_iff.1 hy).1
  intro a b p q ha hb hk
  rw [sw_get hm] at ha hb
  by_cases a1 : a = m
  · subst a1
    rw [if_pos rfl] at ha
    by_cases b1 : b = a
    · exact b1.symm
    · rw [if_neg b1] at hb
      by_cases b2 : b = a + 1
      · subst b2
        rw [if_pos rfl] at hb
        have := hd (a + 1) a p q (by rw [hy]; exact ha) (by rw [hx]; exact hb) hk; omega
      · rw [if_neg b2] at hb
        have := hd (a + 1) b p q (by rw [hy]; exact ha) hb hk; omega
  · rw [if_neg a1] at ha
    by_cases a2 : a = m + 1
    · subst a2
      rw [if_pos rfl] at ha
      by_cases b1 : b = m
      · subst b1
        rw [if_pos rfl] at hb
        have := hd b (b + 1) p q (by rw [hx]; exact ha) (by rw [hy]; exact hb) hk; omega
      · rw [if_neg b1] at hb
        by_cases b2 : b = m + 1
        · exact b2.symm
        · rw [if_neg b2] at hb
          have := hd m b p q (by rw [hx]; exact ha) hb hk; omega
    · rw [if_neg a2] at ha
      by_cases b1 : b = m
      · subst b1
        rw [if_pos rfl] at hb
        have := hd a (b + 1) p q ha (by rw [hy]; exact hb) hk; omega
      · rw [if_neg b1] at hb
        by_cases b2 : b = m + 1
        · subst b2
          rw [if_pos rfl] at hb
          have := hd a m p q ha (by rw [hx]; exact hb) hk; omega
        · rw [if_neg b2] at hb
          exact hd a b p q ha hb hk

theorem but_start {L : List Pr} {i : Nat} (h : Upto L i) : But L i i := fun a b p q hab hbi hbj ha hb => h a b p q hab (by omega) ha hb

/-- An exchange: the one that is less goes one place ahead. -/
theorem but_step {L : List Pr} {m i : Nat} {x y : Pr} (h : But L (m + 1) i) (hmi : m + 1 ≤ i) (hx : L[m]? = some x) (hy : L[m + 1]? = some y) (hlt : kc y.k x.k < 0) : But (sw L m x y) m i := by
  have hm : m + 1 < L.length := (List.getElem?_eq_some_iff.1 hy).1
  intro a b p q hab hbi hbj ha hb
  rw [sw_get hm] at ha hb
  rw [if_neg hbj] at hb
  by_cases a1 : a = m
  · subst a1
    rw [if_pos rfl] at ha
    cases ha
    by_cases b2 : b = a + 1
    · rw [if_pos b2] at hb; cases hb; exact hlt
    · rw [if_neg b2] at hb
      exact h (a + 1) b y q (by omega) hbi b2 hy hb
  · rw [if_neg a1] at ha
    by_cases a2 : a = m + 1
    · rw [if_pos a2] at ha
      cases ha
      rw [if_neg (by omega)] at hb
      exact h m b x q (by omega) hbi (by omega) hx hb
    · rw [if_neg a2] at ha
      by_cases b2 : b = m + 1
      · rw [if_pos b2] at hb
        cases hb
        exact h a m p x (by omega) (by omega) (by omega) ha hx
      · rw [if_neg b2] at hb
        exact h a b p q hab hbi b2 ha hb

/-- It stands right: all stand in order. -/
theorem but_stop {L : List Pr} {j i : Nat} (h : But L j i) (hd : Distinct L) (hji : j ≤ i) (hs : ∀ m x y, j = m + 1 → L[m]? = some x → L[m + 1]? = some y → ¬ kc y.k x.k < 0) : Upto L (i + 1) := by
  intro a b p q hab hbi ha hb
  by_cases hbj : b = j
  · subst hbj
    obtain ⟨m, rfl⟩ : ∃ m, b = m + 1 := ⟨b - 1, by omega⟩
    have hm : m < L.length := by have := (List.getElem?_eq_some_iff.1 hb).1; omega
    obtain ⟨x, hx⟩ : ∃ x, L[m]? = some x := ⟨_, List.getElem?_eq_getElem hm⟩
    have h1 := hs m x q rfl hx hb
    have h2 : kc x.k q.k < 0 := by
      by_cases e : kc x.k q.k = 0
      · have := hd m (m + 1) x q hx hb (kc_zero e); omega
      · have := kc_neg x.k q.k; omega
    by_cases ham : a = m
    · subst ham; rw [hx] at ha; cases ha; exact h2
    · exact kc_trans (h a m p x (by omega) (by omega) (by omega) ha hx) h2
  · exact h a b p q hab (by omega) hbj ha hb

theorem flat_set {α β : Type} (f : α → List β) (n : Nat) (hf : ∀ a, (f a).length = n) (l : List α) (k : Nat) (a : α) (hk : k < l.length) : (l.set k a).flatMap f = (l.flatMap f).take (k * n) ++ f a ++ (l.flatMap f).drop ((k + 1) * n) := by
  induction l generalizing k with
  | nil => simp at hk
  | cons b l ih =>
    cases k with
    | zero =>
      rw [List.set_cons_zero, List.flatMap_cons, List.flatMap_cons, Nat.zero_mul, List.take_zero, List.nil_append, Nat.zero_add, Nat.one_mul, List.drop_left' (hf b)]
    | succ k =>
      rw [List.set_cons_succ, List.flatMap_cons, ih k (by simpa using hk), List.flatMap_cons]
      have e1 : (f b ++ l.flatMap f).take ((k + 1) * n) = f b ++ (l.flatMap f).take (k * n) := by
        rw [List.take_append, hf, List.take_of_length_le (by rw [hf, Nat.add_mul]; omega), show (k + 1) * n - n = k * n by rw [Nat.add_mul]; omega]
      have e2 : (f b ++ l.flatMap f).drop ((k + 1 + 1) * n) = (l.flatMap f).drop ((k + 1) * n) := by
        rw [List.drop_append, hf, List.drop_of_length_le (by rw [hf, Nat.add_mul]; omega), show (k + 1 + 1) * n - n = (k + 1) * n by rw [Nat.add_mul (k + 1)]; omega, List.nil_append]
      rw [e1, e2]
      simp only [List.append_assoc]

theorem set3 {β : Type} (a b c : β) : ∀ (n : Nat) (xs : List β), n + 2 < xs.length → ((xs.set n a).set (n + 1) b).set (n + 2) c = xs.take n ++ [a, b, c] ++ xs.drop (n + 3)
  | 0, x :: y :: z :: r, _ => by simp
  | 0, [], h => by simp at h
  | 0, [_], h => by simp at h
  | 0, [_, _], h => by simp at h
  | n + 1, [], h => by simp at h
  | n + 1, x :: r, h => by
    have ih := set3 a b c n r (by simp at h; omega)
    simp only [List.set_cons_succ, List.take_succ_cons, List.cons_append, List.drop_succ_cons]
    rw [ih]

theorem pcells_len (L : List Pr) : (pcells L).length = L.length * 3 := flat_len _ 3 (fun a => by rfl) L

theorem pcells_set (L : List Pr) (k : Nat) (p : Pr) (hk : k < L.length) : (((pcells L).set (k * 3) (.string p.k)).set (k * 3 + 1) (.string p.v)).set (k * 3 + 2) (.bool p.g) = pcells (L.set k p) := by
  rw [set3 _ _ _ _ _ (by rw [pcells_len]; omega)]
  unfold pcells
  rw [flat_set _ 3 (fun a => by rfl) L k p hk, show k * 3 + 3 = (k + 1) * 3 by omega]
  rfl

/-- The last pair of a key. -/
def lastP : List Pr → ByteArray → Option Pr
  | [], _ => none
  | p :: r, k => match lastP r k with
    | some q => some q
    | none => if p.k = k then some p else none

/-- The pairs that count: behind which their key does not come again. -/
def keep : List Pr → List Pr
  | [] => []
  | p :: r => if (r.any fun q => decide (q.k = p.k)) = true then keep r else p :: keep r

theorem lastP_none : ∀ {L : List Pr} {k : ByteArray}, lastP L k = none ↔ ∀ p ∈ L, p.k ≠ k
  | [], k => by simp [lastP]
  | p :: r, k => by
    unfold lastP
    cases h : lastP r k with
    | some q =>
      simp only [List.mem_cons, forall_eq_or_imp, reduceCtorEq, false_iff, not_and]
      intro _ hall
      have := (lastP_none (L := r)).2 hall
      rw [h] at this; cases this
    | none =>
      have h' := lastP_none.1 h
      by_cases e : p.k = k
      · simp [e]
      · simp only [e, if_false, List.mem_cons, forall_eq_or_imp, true_iff]
        exact ⟨e, h'⟩

theorem lastP_key : ∀ {L : List Pr} {k : ByteArray} {p : Pr}, lastP L k = some p → p.k = k ∧ p ∈ L
  | [], _, _, h => by simp [lastP] at h
  | q :: r, k, p, h => by
    unfold lastP at h
    cases g : lastP r k with
    | some x =>
      rw [g] at h
      cases h
      have := lastP_key g
      exact ⟨this.1, List.mem_cons_of_mem _ this.2⟩
    | none =>
      rw [g] at h
      simp only at h
      split at h
      · cases h
        exact ⟨by assumption, List.mem_cons_self ..⟩
      · cases h

theorem keep_mem : ∀ {L : List Pr} {p : Pr}, p ∈ keep L ↔ lastP L p.k = some p
  | [], p => by simp [keep, lastP]
  | q :: r, p => by
    unfold keep lastP
    have ih := keep_mem (L := r) (p := p)
    by_cases h : (r.any fun x => decide (x.k = q.k)) = true
    · rw [if_pos h, ih]
      cases g : lastP r p.k with
      | some x => simp
      | none =>
        simp only [reduceCtorEq, false_iff]
        intro hh
        split at hh
        · cases hh
          obtain ⟨x, hx, hxk⟩ := List.any_eq_true.1 h
          exact lastP_none.1 g x hx (by simpa using hxk)
        · cases hh
    · rw [if_neg h, List.mem_cons, ih]
      have hno : ∀ x ∈ r, x.k ≠ q.k := fun x hx e => h (List.any_eq_true.2 ⟨x, hx, by simp [e]⟩)
      cases g : lastP r p.k with
      | some x =>
        simp only [Option.some.injEq]
        constructor
        · rintro (rfl | hh)
          · have := lastP_key g
            exact absurd this.1 (hno x this.2)
          · exact hh
        · exact fun hh => .inr hh
      | none =>
        simp only [reduceCtorEq, or_false]
        constructor
        · rintro rfl; simp
        · intro hh
          split at hh
          · cases hh; rfl
          · cases hh

theorem keep_len : ∀ L : List Pr, (keep L).length ≤ L.length
  | [] => by simp [keep]
  | p :: r => by
    unfold keep
    have := keep_len r
    split <;> simp <;> omega

theorem keep_pos : ∀ {L : List Pr}, 1 ≤ L.length → 1 ≤ (keep L).length
  | [], h => by simp at h
  | p :: r, _ => by
    unfold keep
    split
    · rename_i h
      obtain ⟨x, hx, _⟩ := List.any_eq_true.1 h
      exact keep_pos (L := r) (List.length_pos_of_mem hx)
    · simp

theorem keep_distinct : ∀ L : List Pr, Distinct (keep L)
  | [] => by intro a b p q ha; simp [keep] at ha
  | x :: r => by
    have ih := keep_distinct r
    unfold keep
    split
    · exact ih
    · rename_i h
      have hno : ∀ y ∈ keep r, y.k ≠ x.k := fun y hy e => h (by
        have := (lastP_key (keep_mem.1 hy)).2
        exact List.any_eq_true.2 ⟨y, this, by simp [e]⟩)
      intro a b p q ha hb hk
      cases a with
      | zero =>
        cases b with
        | zero => rfl
        | succ b =>
          simp at ha hb; subst ha
          exact absurd hk.symm (hno q (List.mem_of_getElem? hb))
      | succ a =>
        cases b with
        | zero =>
          simp at ha hb; subst hb
          exact absurd hk (hno p (List.mem_of_getElem? ha))
        | succ b =>
          simp at ha hb
          rw [ih a b p q ha hb hk]

theorem keep_sub {L : List Pr} {p : Pr} (h : p ∈ keep L) : p ∈ L := (lastP_key (keep_mem.1 h)).2

/-- One pair further. -/
theorem keep_drop {L : List Pr} {k : Nat} {p : Pr} (h : L[k]? = some p) : keep (L.drop k) = if ((L.drop (k + 1)).any fun q => decide (q.k = p.k)) = true then keep (L.drop (k + 1)) else p :: keep (L.drop (k + 1)) := by
  obtain ⟨hk, rfl⟩ := List.getElem?_eq_some_iff.1 h
  rw [List.drop_eq_getElem_cons hk, keep]

/-- Laying together, from behind: e of those that were there and i of the new ones are left; T is done. -/
structure LayInv (E N : List En) (e i : Nat) (T : List En) : Prop where
  le : e ≤ E.length
  li : i ≤ N.length
  srt : Sorted T
  over : ∀ x ∈ E.take e, ∀ t ∈ T, elt x t
  newr : ∀ x ∈ N.take i, ∀ t ∈ T, elt x t
  mem : ∀ x, (x ∈ E.take e ∨ x ∈ N.take i ∨ x ∈ T) ↔ (x ∈ E ∨ x ∈ N)
  len : e + i + T.length = E.length + N.length

theorem lay_start (E N : List En) : LayInv E N E.length N.length [] :=
  ⟨Nat.le_refl _, Nat.le_refl _, List.Pairwise.nil, by simp, by simp, by simp, by simp⟩

theorem mem_take_get {α : Type} {l : List α} {n : Nat} {x : α} : x ∈ l.take n ↔ ∃ j, j < n ∧ l[j]? = some x := by
  rw [List.mem_iff_getElem?]
  constructor
  · rintro ⟨j, hj⟩
    rw [List.getElem?_take] at hj
    split at hj
    · exact ⟨j, by assumption, hj⟩
    · cases hj
  · rintro ⟨j, h1, h2⟩
    exact ⟨j, by rw [List.getElem?_take, if_pos h1]; exact h2⟩

theorem elt_trans {a b c : En} (h1 : elt a b) (h2 : elt b c) : elt a c := oc_trans h1 h2

/-- One new entry at its place. -/
theorem lay_step {E N : List En} (hE : Sorted E) (hN : Sorted N) {e i p : Nat} {T : List En} {x : En} (h : LayInv E N e (i + 1) T) (hx : N[i]? = some x) (hp : IsPlace (E.take e) x.k x.s p) (hne : ∀ y ∈ E, ¬ (y.k = x.k ∧ y.s = x.s)) :
    LayInv E N p i (x :: ((E.take e).drop p ++ T)) := by
  have hte : (E.take e).length = e := by rw [List.length_take, Nat.min_eq_left h.le]
  have hpe : p ≤ e := by have := hp.1; omega
  have hxi : x ∈ N.take (i + 1) := mem_take_get.2 ⟨i, by omega, hx⟩
  have hxN : i < N.length := (List.getElem?_eq_some_iff.1 hx).1
  have hmid : ∀ y ∈ (E.take e).drop p, elt x y := by
    intro y hy
    obtain ⟨j, hj⟩ := List.mem_iff_getElem?.1 hy
    rw [List.getElem?_drop] at hj
    have h1 := (hp.2 (p + j) y hj).2 (by omega)
    have hyE : y ∈ E := List.mem_of_mem_take (List.mem_of_getElem? hj)
    exact oc_total (Int.not_lt.2 h1) (hne y hyE)
  have hlow : ∀ y ∈ (E.take e).take p, elt y x := by
    intro y hy
    obtain ⟨j, hj, hy'⟩ := mem_take_get.1 hy
    exact (hp.2 j y hy').1 hj
  have hsplit : (E.take e).take p ++ (E.take e).drop p = E.take e := List.take_append_drop _ _
  have htt : (E.take e).take p = E.take p := by rw [List.take_take, Nat.min_eq_left hpe]
  have hsrt : Sorted (E.take e) := List.Pairwise.sublist (List.take_sublist _ _) hE
  have hpw := List.pairwise_append.1 (by rw [hsplit]; exact hsrt : ((E.take e).take p ++ (E.take e).drop p).Pairwise elt)
  have hdsub : ∀ y ∈ (E.take e).drop p, y ∈ E.take e := fun y hy => List.mem_of_mem_drop hy
  have hni : ∀ y ∈ N.take i, elt y x := by
    intro y hy
    obtain ⟨j, hj, hy'⟩ := mem_take_get.1 hy
    obtain ⟨hjl, rfl⟩ := List.getElem?_eq_some_iff.1 hy'
    obtain ⟨hil, rfl⟩ := List.getElem?_eq_some_iff.1 hx
    exact sorted_lt hN hj hil
  have hsubN : ∀ y ∈ N.take i, y ∈ N.take (i + 1) := fun y hy => by
    obtain ⟨j, hj, hy'⟩ := mem_take_get.1 hy
    exact mem_take_get.2 ⟨j, by omega, hy'⟩
  refine ⟨Nat.le_trans hpe h.le, by omega, ?_, ?_, ?_, ?_, ?_⟩
  · refine List.Pairwise.cons (fun t ht => ?_) (List.pairwise_append.2 ⟨hpw.2.1, h.srt, fun a ha b hb => h.over a (hdsub a ha) b hb⟩)
    rcases List.mem_append.1 ht with ht | ht
    · exact hmid t ht
    · exact h.newr x hxi t ht
  · intro y hy t ht
    rw [← htt] at hy
    rcases List.mem_cons.1 ht with rfl | ht
    · exact hlow y hy
    · rcases List.mem_append.1 ht with ht | ht
      · exact hpw.2.2 y hy t ht
      · exact h.over y (List.mem_of_mem_take hy) t ht
  · intro y hy t ht
    rcases List.mem_cons.1 ht with rfl | ht
    · exact hni y hy
    · rcases List.mem_append.1 ht with ht | ht
      · exact elt_trans (hni y hy) (hmid t ht)
      · exact h.newr y (hsubN y hy) t ht
  · intro y
    rw [← h.mem y, ← htt]
    have e1 : y ∈ E.take e ↔ y ∈ (E.take e).take p ∨ y ∈ (E.take e).drop p := by
      constructor
      · intro hy; rw [← hsplit] at hy; exact List.mem_append.1 hy
      · intro hy; rw [← hsplit]; exact List.mem_append.2 hy
    have e2 : y ∈ N.take (i + 1) ↔ y ∈ N.take i ∨ y = x := by
      rw [List.take_add_one, hx]; simp
    rw [e1, e2, List.mem_cons, List.mem_append]
    constructor
    · rintro (a | a | a | a | a)
      · exact .inl (.inl a)
      · exact .inr (.inl (.inl a))
      · exact .inr (.inl (.inr a))
      · exact .inl (.inr a)
      · exact .inr (.inr a)
    · rintro ((a | a) | (a | a) | a)
      · exact .inl a
      · exact .inr (.inr (.inr (.inl a)))
      · exact .inr (.inl a)
      · exact .inr (.inr (.inl a))
      · exact .inr (.inr (.inr (.inr a)))
  · have := h.len
    simp only [List.length_cons, List.length_append, List.length_drop, hte]
    omega

/-- At the end. -/
theorem lay_end {E N T : List En} {e : Nat} (hE : Sorted E) (h : LayInv E N e 0 T) : Sorted (E.take e ++ T) ∧ (∀ x, x ∈ E.take e ++ T ↔ x ∈ E ∨ x ∈ N) ∧ (E.take e ++ T).length = E.length + N.length := by
  refine ⟨List.pairwise_append.2 ⟨List.Pairwise.sublist (List.take_sublist _ _) hE, h.srt, h.over⟩, fun x => ?_, ?_⟩
  · rw [← h.mem x]; simp
  · have := h.len
    have := h.le
    rw [List.length_append, List.length_take, Nat.min_eq_left h.le]; omega

/-- What a round leaves of a row. -/
theorem lay_row {E J T : List En} {e p i : Nat} {x : En} (he : e ≤ E.length) (hp : p ≤ e) (hJ : J.length = i + 1) :
    ∃ J2 : List En, J2.length = i ∧ (((E.take e ++ J ++ T).take (p + i + 1) ++ ((E.take e ++ J ++ T).drop p).take (e - p) ++ (E.take e ++ J ++ T).drop (p + i + 1 + (e - p))).set (p + i) x) = E.take p ++ J2 ++ (x :: ((E.take e).drop p ++ T)) := by
  have hte : (E.take e).length = e := by rw [List.length_take, Nat.min_eq_left he]
  have h1 : ((E.take e ++ J ++ T).drop p).take (e - p) = (E.take e).drop p := by
    rw [List.append_assoc, List.drop_append_of_le_length (by omega), List.take_left' (by rw [List.length_drop]; omega)]
  have h2 : (E.take e ++ J ++ T).drop (p + i + 1 + (e - p)) = T := by
    rw [List.drop_left' (by rw [List.length_append]; omega)]
  have h3 : (E.take e ++ J ++ T).take (p + i + 1) = E.take p ++ ((E.take e ++ J ++ T).take (p + i + 1)).drop p := by
    have h4 : ((E.take e ++ J ++ T).take (p + i + 1)).take p = E.take p := by
      rw [List.take_take, Nat.min_eq_left (by omega), List.append_assoc, List.take_append_of_le_length (by omega), List.take_take, Nat.min_eq_left hp]
    rw [← h4, List.take_append_drop]
  have h5 : (((E.take e ++ J ++ T).take (p + i + 1)).drop p).length = i + 1 := by
    rw [List.length_drop, List.length_take, List.length_append, List.length_append]; omega
  rw [h1, h2, h3]
  generalize ((E.take e ++ J ++ T).take (p + i + 1)).drop p = J' at h5
  have hpl : (E.take p).length = p := by rw [List.length_take]; omega
  refine ⟨J'.take i, by rw [List.length_take]; omega, ?_⟩
  obtain ⟨y, hy⟩ : ∃ y, J'.drop i = [y] := by
    have : (J'.drop i).length = 1 := by rw [List.length_drop]; omega
    match J'.drop i, this with
    | [y], _ => exact ⟨y, rfl⟩
  have hJs : J' = J'.take i ++ [y] := by rw [← hy, List.take_append_drop]
  have e1 : E.take p ++ J' ++ (E.take e).drop p ++ T = (E.take p ++ J'.take i) ++ (y :: ((E.take e).drop p ++ T)) := by
    conv => lhs; rw [hJs]
    simp
  rw [e1, List.set_append_right _ _ (by rw [List.length_append, hpl, List.length_take]; omega)]
  have : p + i - (E.take p ++ J'.take i).length = 0 := by rw [List.length_append, hpl, List.length_take]; omega
  rw [this]
  simp

theorem upto_distinct {L : List Pr} (h : Upto L L.length) : Distinct L := by
  intro a b p q ha hb he
  have hal := (List.getElem?_eq_some_iff.1 ha).1
  have hbl := (List.getElem?_eq_some_iff.1 hb).1
  rcases Nat.lt_trichotomy a b with h1 | h1 | h1
  · have := h a b p q h1 hbl ha hb; rw [he, kc_self] at this; omega
  · exact h1
  · have := h b a q p h1 hal hb ha; rw [he, kc_self] at this; omega

end Go.Proofs.Ytakipjofboipmaa

/- Plain mathematics of this proof: the bytes of a record and its ceiling; which records a text begins with. -/
namespace Go.Proofs.Ytakipjofboipmaa

/-- A pair that may stand in a batch. -/
structure PrOk (p : Pr) : Prop where
  lo : 1 ≤ p.k.size
  hi : p.k.size ≤ 6
  val : p.v.size ≤ 8
  gone : p.g = true → p.v = ⟨#[]⟩

/-- What a batch makes of a pair. -/
def toEn (s : Int) (p : Pr) : En := ⟨p.k, s, p.g, p.v⟩

/-- Bytes as cells. -/
def bcells (l : List UInt8) : List Value := l.map fun b => .int .u8 b.toNat

theorem bcells_len (l : List UInt8) : (bcells l).length = l.length := List.length_map _
theorem bcells_append (a b : List UInt8) : bcells (a ++ b) = bcells a ++ bcells b := List.map_append

/-- One bit of the ceiling. -/
def st1 (c : BitVec 32) : BitVec 32 := if c.getLsbD 0 then (c >>> 1) ^^^ 3988292384#32 else c >>> 1
def itS : Nat → BitVec 32 → BitVec 32
  | 0, c => c
  | n + 1, c => st1 (itS n c)
/-- The ceiling's state behind some bytes. -/
def crc : BitVec 32 → List UInt8 → BitVec 32
  | c, [] => c
  | c, b :: r => crc (itS 8 (c ^^^ BitVec.ofNat 32 b.toNat)) r
def ceil (l : List UInt8) : BitVec 32 := ~~~ (crc 4294967295#32 l)

theorem crc_append (c : BitVec 32) (l r : List UInt8) : crc c (l ++ r) = crc (crc c l) r := by
  induction l generalizing c with
  | nil => rfl
  | cons b l ih => exact ih _

/-- A text with its length ahead. -/
def txB (s : ByteArray) : List UInt8 := UInt8.ofNat s.size :: s.data.toList
def prB (p : Pr) : List UInt8 := if p.g then 1 :: txB p.k else 0 :: (txB p.k ++ txB p.v)
def num4 (c : BitVec 32) : List UInt8 := [UInt8.ofNat c.toNat, UInt8.ofNat (c.toNat / 256), UInt8.ofNat (c.toNat / 65536), UInt8.ofNat (c.toNat / 16777216)]
def bodyB (M : List Pr) : List UInt8 := UInt8.ofNat M.length :: M.flatMap prB
/-- The record of a batch. -/
def recB (M : List Pr) : List UInt8 := bodyB M ++ num4 (ceil (bodyB M))

/-- A batch as it counts: few pairs, in order. -/
structure Bt (M : List Pr) : Prop where
  lo : 1 ≤ M.length
  hi : M.length ≤ 4
  ok : ∀ p ∈ M, PrOk p
  up : Upto M M.length

theorem txB_len (s : ByteArray) : (txB s).length = s.size + 1 := by
  rw [txB, List.length_cons, Array.length_toList, ByteArray.size_data]
theorem prB_len {p : Pr} (h : PrOk p) : 3 ≤ (prB p).length ∧ (prB p).length ≤ 17 := by
  have := h.lo; have := h.hi; have := h.val
  unfold prB
  split <;> simp only [List.length_cons, List.length_append, txB_len] <;> omega

theorem flat_bounds {α β : Type} (f : α → List β) (a b : Nat) : ∀ l : List α, (∀ x ∈ l, a ≤ (f x).length ∧ (f x).length ≤ b) → l.length * a ≤ (l.flatMap f).length ∧ (l.flatMap f).length ≤ l.length * b
  | [], _ => by simp
  | x :: l, h => by
    have h1 := h x List.mem_cons_self
    have h2 := flat_bounds f a b l fun y hy => h y (List.mem_cons_of_mem _ hy)
    simp only [List.flatMap_cons, List.length_append, List.length_cons, Nat.add_mul, Nat.one_mul]
    omega

theorem bodyB_len {M : List Pr} (h : Bt M) : 4 ≤ (bodyB M).length ∧ (bodyB M).length ≤ 69 := by
  have := flat_bounds prB 3 17 M fun p hp => prB_len (h.ok p hp)
  have := h.lo; have := h.hi
  simp only [bodyB, List.length_cons]
  omega

theorem recB_len {M : List Pr} (h : Bt M) : 8 ≤ (recB M).length ∧ (recB M).length ≤ 73 := by
  have := bodyB_len h
  simp only [recB, List.length_append, num4, List.length_cons, List.length_nil]
  omega

/-- A byte taken as a number. -/
def tNum : List UInt8 → Nat
  | [] => 0
  | b :: _ => b.toNat
/-- A text taken, and what is left. -/
def tTxt (t : List UInt8) : List UInt8 × List UInt8 := ((t.drop 1).take (tNum t), (t.drop 1).drop (tNum t))
/-- A pair taken, and what is left. -/
def tPair (t : List UInt8) : Pr × List UInt8 :=
  if tNum t = 0 then (⟨⟨(tTxt (t.drop 1)).1.toArray⟩, ⟨(tTxt (tTxt (t.drop 1)).2).1.toArray⟩, false⟩, (tTxt (tTxt (t.drop 1)).2).2)
  else (⟨⟨(tTxt (t.drop 1)).1.toArray⟩, ⟨#[]⟩, true⟩, (tTxt (t.drop 1)).2)
/-- Some pairs taken, one behind the other. -/
def tPs : Nat → List UInt8 → List Pr × List UInt8
  | 0, t => ([], t)
  | n + 1, t => ((tPs n t).1 ++ [(tPair (tPs n t).2).1], (tPair (tPs n t).2).2)
def takeP (t : List UInt8) : List Pr := (tPs (tNum t) (t.drop 1)).1

theorem tTxt_txB {s : ByteArray} (h : s.size < 256) (r : List UInt8) : tTxt (txB s ++ r) = (s.data.toList, r) := by
  have e : (UInt8.ofNat s.size).toNat = s.data.toList.length := by
    rw [UInt8.toNat_ofNat', Nat.mod_eq_of_lt (by omega), Array.length_toList, ByteArray.size_data]
  unfold tTxt txB
  simp only [List.cons_append, tNum, List.drop_succ_cons, List.drop_zero, e, List.take_left, List.drop_left]

theorem tPair_prB {p : Pr} (h : PrOk p) (r : List UInt8) : tPair (prB p ++ r) = (p, r) := by
  have := h.hi; have := h.val
  obtain ⟨k, v, g⟩ := p
  cases g with
  | true =>
    have hv := h.gone rfl
    simp only at hv
    subst hv
    simp only [prB, if_true, List.cons_append, tPair, tNum, List.drop_succ_cons, List.drop_zero]
    rw [tTxt_txB (by simp only at *; omega)]
    simp
  | false =>
    simp only [prB, Bool.false_eq_true, if_false, List.cons_append, tPair, tNum, List.drop_succ_cons, List.drop_zero, List.append_assoc]
    rw [tTxt_txB (by simp only at *; omega)]
    simp only
    rw [tTxt_txB (by simp only at *; omega)]
    simp

theorem tPs_flat : ∀ (n : Nat) (M : List Pr), (∀ p ∈ M, PrOk p) → n ≤ M.length → ∀ r, tPs n (M.flatMap prB ++ r) = (M.take n, (M.drop n).flatMap prB ++ r)
  | 0, M, _, _, r => by simp [tPs]
  | n + 1, M, ok, hn, r => by
    have ih := tPs_flat n M ok (by omega) r
    unfold tPs
    rw [ih]
    simp only
    have hd : M.drop n = M[n] :: M.drop (n + 1) := List.drop_eq_getElem_cons (by omega)
    rw [hd, List.flatMap_cons, List.append_assoc, tPair_prB (ok _ (List.getElem_mem _))]
    simp only [Prod.mk.injEq, and_true]
    rw [List.take_add_one, List.getElem?_eq_getElem (by omega)]
    rfl

theorem takeP_rec {M : List Pr} (h : Bt M) (r : List UInt8) : takeP (recB M ++ r) = M := by
  unfold takeP recB bodyB
  have e : (UInt8.ofNat M.length).toNat = M.length := by
    rw [UInt8.toNat_ofNat', Nat.mod_eq_of_lt (by have := h.hi; omega)]
  simp only [List.cons_append, tNum, List.drop_succ_cons, List.drop_zero, e, List.append_assoc]
  rw [tPs_flat M.length M h.ok (Nat.le_refl _)]
  simp

theorem takeP_pre {M : List Pr} {t : List UInt8} (h : Bt M) (hp : recB M <+: t) : takeP t = M := by
  obtain ⟨r, rfl⟩ := hp
  exact takeP_rec h r

/-- No record begins there. -/
def NoRec (t : List UInt8) : Prop := ∀ N, Bt N → ¬ recB N <+: t

/-- The records that a text begins with. -/
structure Reads (t : List UInt8) (Bs : List (List Pr)) : Prop where
  all : ∀ b ∈ Bs, Bt b
  pre : Bs.flatMap recB <+: t
  non : NoRec (t.drop (Bs.flatMap recB).length)

theorem Reads.unique {t : List UInt8} {As Bs : List (List Pr)} (h : Reads t As) (k : Reads t Bs) : As = Bs := by
  induction As generalizing t Bs with
  | nil =>
    cases Bs with
    | nil => rfl
    | cons b Bs =>
      obtain ⟨r, hr⟩ := k.pre
      exact absurd ⟨Bs.flatMap recB ++ r, by simpa using hr⟩ (h.non b (k.all b List.mem_cons_self))
  | cons a As ih =>
    obtain ⟨r, hr⟩ := h.pre
    cases Bs with
    | nil => exact absurd ⟨As.flatMap recB ++ r, by simpa using hr⟩ (k.non a (h.all a List.mem_cons_self))
    | cons b Bs =>
      obtain ⟨r2, hr2⟩ := k.pre
      simp only [List.flatMap_cons, List.append_assoc] at hr hr2
      have ha := h.all a List.mem_cons_self
      have hb := k.all b List.mem_cons_self
      have e1 := takeP_rec ha (As.flatMap recB ++ r)
      have e2 := takeP_rec hb (Bs.flatMap recB ++ r2)
      rw [hr] at e1
      rw [hr2] at e2
      obtain rfl : a = b := e1.symm.trans e2
      congr 1
      refine ih (t := As.flatMap recB ++ r) ⟨fun x hx => h.all x (List.mem_cons_of_mem _ hx), ⟨r, rfl⟩, ?_⟩ ⟨fun x hx => k.all x (List.mem_cons_of_mem _ hx), ⟨r2, ?_⟩, ?_⟩
      · have := h.non
        rw [← hr, List.flatMap_cons, ← List.append_assoc, List.drop_left'] at this
        · rw [List.drop_left' rfl]; exact this
        · simp
      · exact List.append_cancel_left (hr2.trans hr.symm)
      · have e3 : Bs.flatMap recB ++ r2 = As.flatMap recB ++ r := List.append_cancel_left (hr2.trans hr.symm)
        have := k.non
        rw [← hr2, List.flatMap_cons, ← List.append_assoc, List.drop_left'] at this
        · rw [← e3, List.drop_left' rfl]; exact this
        · simp

/-- How many bytes some records have. -/
def rl (B : List (List Pr)) : Nat := (B.flatMap recB).length

theorem rl_take_le (B : List (List Pr)) (n : Nat) : rl (B.take n) ≤ rl B := by
  unfold rl
  conv => rhs; rw [← List.take_append_drop n B]
  rw [List.flatMap_append, List.length_append]
  omega

end Go.Proofs.Ytakipjofboipmaa

/- The kit of this proof: a row of bytes that may bear a mark behind its last cell (what '[]byte(s)' makes), and append onto it. -/
namespace Go.Proofs.Ytakipjofboipmaa
open Go.RowKit

/-- A row of bytes; none of its cells is frozen. -/
def BRow (w : World) (v : Value) (l : List UInt8) : Prop :=
  (v = .slice none 0 0 ∧ l = []) ∨
  ∃ g cap cur fz, v = .slice (some ⟨g, 0, none⟩) l.length cap ∧ w.heap[g]? = some (.cells cur 5 fz) ∧ (fz = (0, 0) ∨ cap ≤ fz.1) ∧ l.length ≤ cap ∧ cap ≤ maxLen ∧ cur.size = cap ∧ cur.toList.take l.length = bcells l

/-- One that lies in D. -/
def OwnsJ (w : World) (D : Nat → Prop) (v : Value) (l : List UInt8) : Prop := BRow w v l ∧ ∀ g, v.ownBlock = some g → D g

theorem BRow.form {w : World} {v : Value} {l : List UInt8} (h : BRow w v l) : ∃ ao cap, v = .slice ao l.length cap := by
  rcases h with ⟨rfl, rfl⟩ | ⟨g, cap, cur, fz, rfl, _⟩
  · exact ⟨_, _, rfl⟩
  · exact ⟨_, _, rfl⟩

theorem BRow.lt {w : World} {v : Value} {l : List UInt8} (h : BRow w v l) {g : Nat} (hg : v.ownBlock = some g) : g < w.heap.size := by
  rcases h with ⟨rfl, _⟩ | ⟨g', cap, cur, fz, rfl, hb, _⟩
  · simp [Value.ownBlock] at hg
  · simp [Value.ownBlock] at hg
    subst hg
    exact lt_of_block hb

theorem BRow.of {w : World} {base : Nat} {v : Value} {l : List UInt8} (h : w.ownsRow base 5 1 v l.length (bcells l)) : BRow w v l := by
  rcases h.2 with ⟨rfl, h0⟩ | ⟨g, cap, cur, rfl, _, hg, h1, h2, h3, h4⟩
  · exact .inl ⟨rfl, List.length_eq_zero_iff.1 h0⟩
  · exact .inr ⟨g, cap, cur, (0, 0), rfl, hg, .inl rfl, h1, h2, by simpa using h3, by simpa using h4⟩

theorem BRow.keep {w w' : World} {v : Value} {l : List UInt8} (h : BRow w v l) (hk : ∀ g, v.ownBlock = some g → ∀ o, w.heap[g]? = some o → w'.heap[g]? = some o) : BRow w' v l := by
  rcases h with h | ⟨g, cap, cur, fz, rfl, hb, r⟩
  · exact .inl h
  · exact .inr ⟨g, cap, cur, fz, rfl, hk g rfl _ hb, r⟩

theorem BRow.kept {w w' : World} {N : Nat} {ts : List Nat} {v : Value} {l : List UInt8} (h : BRow w v l) (k : Kp N ts w w') (ht : 5 ∉ ts) : BRow w' v l := by
  rcases h with h | ⟨g, cap, cur, fz, rfl, hb, r⟩
  · exact .inl h
  · exact .inr ⟨g, cap, cur, fz, rfl, k.keep hb ht, r⟩

theorem OwnsJ.form {w : World} {D : Nat → Prop} {v : Value} {l : List UInt8} (h : OwnsJ w D v l) : ∃ ao cap, v = .slice ao l.length cap := h.1.form

theorem OwnsJ.nil (w : World) (D : Nat → Prop) : OwnsJ w D (.slice none 0 0) [] := ⟨.inl ⟨rfl, rfl⟩, fun g e => by simp [Value.ownBlock] at e⟩

theorem Kd.ownsJ {D D' : Nat → Prop} {ts : List Nat} {w w' : World} {v : Value} {l : List UInt8} (k : Kd D' ts w w') (h : OwnsJ w D v l) (ht : 5 ∉ ts) : OwnsJ w' D v l := by
  refine ⟨?_, h.2⟩
  rcases h.1 with h | ⟨g, cap, cur, fz, rfl, hb, r⟩
  · exact .inl h
  · exact .inr ⟨g, cap, cur, fz, rfl, k.keep hb ht, r⟩

theorem Kd.ownsJN {D D' : Nat → Prop} {ts : List Nat} {w w' : World} {v : Value} {l : List UInt8} (k : Kd D' ts w w') (h : OwnsJ w D v l) (hd : ∀ b, D b → b < w.heap.size → ¬ D' b) : OwnsJ w' D v l := by
  refine ⟨?_, h.2⟩
  rcases h.1 with h1 | ⟨g, cap, cur, fz, rfl, hb, r⟩
  · exact .inl h1
  · exact .inr ⟨g, cap, cur, fz, rfl, k.keepN hb (hd g (h.2 g rfl) (lt_of_block hb)), r⟩

/-- The cells of a row of bytes. -/
theorem BRow.cells {w : World} {l : List UInt8} {g n cap : Nat} (h : BRow w (.slice (some ⟨g, 0, none⟩) n cap) l) : ∀ j u, (bcells l)[j]? = some u → w.cell? ((⟨g, 0, none⟩ : Addr).add j) = some u := by
  intro j u hj
  rcases h with ⟨h, _⟩ | ⟨g', cap', cur, fz, hv, hb, _, hl, _, hs, ht⟩
  · cases h
  · simp only [Value.slice.injEq, Option.some.injEq, Addr.mk.injEq, and_true] at hv
    obtain ⟨rfl, _, rfl⟩ := hv
    have hadd : (⟨g, 0, none⟩ : Addr).add j = ⟨g, j, none⟩ := by unfold Addr.add; split <;> simp_all
    rw [hadd, cell_of_row w g j cur 5 fz hb]
    rw [← ht, List.getElem?_take] at hj
    split at hj
    · simpa using hj
    · cases hj

theorem setCells_heap (g : Nat) (t : TypeId) (fz : Nat × Nat) : ∀ (vs : List Value) (o : Nat) (w : World) (cur : Array Value), w.heap[g]? = some (.cells cur t fz) → o + vs.length ≤ cur.size →
    (w.setCells g o vs).heap[g]? = some (.cells (cur.toList.take o ++ vs ++ cur.toList.drop (o + vs.length)).toArray t fz) ∧ (∀ k, k ≠ g → (w.setCells g o vs).heap[k]? = w.heap[k]?) ∧ (w.setCells g o vs).os = w.os ∧ (w.setCells g o vs).tape = w.tape ∧ (w.setCells g o vs).output = w.output ∧ (w.setCells g o vs).heap.size = w.heap.size
  | [], o, w, cur, hg, _ => by
    refine ⟨?_, fun _ _ => rfl, rfl, rfl, rfl, rfl⟩
    show w.heap[g]? = _
    rw [hg]
    simp
  | v :: r, o, w, cur, hg, hl => by
    simp only [List.length_cons] at hl
    have hg' : (w.setCell ⟨g, o, none⟩ v).heap[g]? = some (.cells (cur.setIfInBounds o v) t fz) := by rw [setCell_eq_setRow w g o cur t fz v hg]; exact setRow_heap w g cur _ t fz hg
    obtain ⟨h1, h2, h3, h4, h5, h6⟩ := setCells_heap g t fz r (o + 1) (w.setCell ⟨g, o, none⟩ v) (cur.setIfInBounds o v) hg' (by simp; omega)
    refine ⟨?_, fun k hk => ?_, h3, h4, h5, ?_⟩
    · rw [World.setCells, h1]
      have e := list_seg_step cur.toList o v r (by simp; omega)
      simp only [Array.toList_setIfInBounds, List.length_cons] at e ⊢
      rw [e]
    · rw [World.setCells, h2 k hk]
      exact Below.heap_setCell _ _ _ _ hk
    · rw [World.setCells, h6]
      simp [World.setCell]

theorem bc_one (l : List UInt8) : ∀ u ∈ bcells l, u.oneCell' = true := fun u hu => by obtain ⟨x, _, rfl⟩ := List.mem_map.1 hu; rfl

/-- append onto such a row. -/
theorem run_append_mark (P : Program) (w : World) (t ty : TypeId) (i : TypeInfo) (ht : P.underlying t = some (.slice 5)) (hi : P.info? 5 = some i) (hz : i.zero = some (.int .u8 0)) (h1 : i.size = 1) (h2 : i.bytes = 1)
    (v : Value) (l r : List UInt8) (h : BRow w v l) (ad : Addr) (c : Nat) (hr : ∀ j u, (bcells r)[j]? = some u → w.cell? (ad.add j) = some u) (hm : 0 < r.length) (hb : l.length + r.length ≤ 140737488355328) :
    ∃ g cap w', (Builtin.append_ #[t, t] ty #[v, .slice (some ad) r.length c]).run P w = .ok (.slice (some ⟨g, 0, none⟩) (l.length + r.length) cap) w' ∧ BRow w' (.slice (some ⟨g, 0, none⟩) (l.length + r.length) cap) (l ++ r) ∧ w.grownBy w' v.ownBlock ∧ (v.ownBlock = some g ∨ w.heap.size ≤ g) := by
  have hlr : (bcells r).length = r.length := bcells_len r
  have old : ∀ hown : w.ownsRow 0 5 1 v l.length (bcells l), ∃ g cap w', (Builtin.append_ #[t, t] ty #[v, .slice (some ad) r.length c]).run P w = .ok (.slice (some ⟨g, 0, none⟩) (l.length + r.length) cap) w' ∧ BRow w' (.slice (some ⟨g, 0, none⟩) (l.length + r.length) cap) (l ++ r) ∧ w.grownBy w' v.ownBlock ∧ (v.ownBlock = some g ∨ w.heap.size ≤ g) := fun hown => by
    obtain ⟨g, cap, w', a1, a2, a3, a4, _⟩ := run_append_lies (P := P) w t ty 0 5 i (.int .u8 0) 1 1 ht hi hz h1 h2 rfl (by decide) v l.length (bcells l) hown ad r.length c (bcells r) (by rw [hlr, Nat.mul_one]) hr (bc_one r) hm (by unfold maxLen; omega) (by omega) (Nat.zero_le _) w.heap.size rfl
    refine ⟨g, cap, w', a1, ?_, a3, a4.imp id fun e => by omega⟩
    rw [← bcells_append, ← List.length_append] at a2
    rw [← List.length_append]
    exact BRow.of a2
  rcases h with ⟨rfl, rfl⟩ | ⟨g, cap, cur, fz, rfl, hg, hfz, hl, hcm, hcs, htk⟩
  · exact old (World.ownsRow_nil _ _ _ _)
  · rcases hfz with rfl | hfz
    · exact old ⟨by rw [bcells_len, Nat.mul_one], .inr ⟨g, cap, cur, rfl, Nat.zero_le _, hg, hl, hcm, by rw [hcs, Nat.mul_one], by rw [Nat.mul_one]; exact htk⟩⟩
    · by_cases hroom : l.length + r.length ≤ cap
      · have hf := run_firstCells_some (P := P) w 1 r.length ad r.length c (bcells r) (by rw [hlr, Nat.mul_one]) hr
        have hst := run_storeCells_cells (P := P) g l.length (bcells r) 0 w (fun j hj => by
            rw [cell_of_row w g _ cur 5 fz hg]
            rw [hlr] at hj
            simp; omega) (fun j hj => by
            rw [hlr] at hj
            obtain ⟨lo, hi'⟩ := fz
            simp only [World.frozen?, hg, Bool.and_eq_false_iff, decide_eq_false_iff_not]
            left
            simp only at hfz
            omega) (bc_one r)
        simp only [Nat.add_zero] at hst
        obtain ⟨e1, e2, e3, e4, e5, e6⟩ := setCells_heap g 5 fz (bcells r) l.length w cur hg (by rw [hlr]; omega)
        refine ⟨g, cap, _, ?_, .inr ⟨g, cap, _, fz, by rw [List.length_append], e1, .inr hfz, by rw [List.length_append]; exact hroom, hcm, ?_, ?_⟩, ⟨e3, e4, e5, by rw [e6]; exact Nat.le_refl _, fun k _ hk => e2 k (fun e => hk (by simp [Value.ownBlock, e]))⟩, .inl rfl⟩
        · simp [Builtin.append_, run_underlying ht, sizeOf, typeInfo, hi, h1, Builtin.lenOf, hroom, hf, Addr.add_lit, hst]
        · simp only [List.size_toArray, List.length_append, List.length_take, List.length_drop, Array.length_toList, hlr]
          omega
        · rw [htk, List.length_append, bcells_append]
          have e : l.length + r.length = (bcells l ++ bcells r).length := by rw [List.length_append, bcells_len, bcells_len]
          rw [e]
          exact List.take_left
      · have holds : ∀ j u, (bcells l)[j]? = some u → w.cell? ((⟨g, 0, none⟩ : Addr).add j) = some u := BRow.cells (l := l) (n := l.length) (cap := cap) (.inr ⟨g, cap, cur, fz, rfl, hg, .inr hfz, hl, hcm, hcs, htk⟩)
        have hr' := run_append_grow (P := P) w t ty 5 i (.int .u8 0) ht hi hz ⟨g, 0, none⟩ l.length cap (bcells l) (by rw [bcells_len, h1, Nat.mul_one]) holds ad r.length c (bcells r) (by rw [hlr, h1, Nat.mul_one]) hr (by omega) (by omega) (by rw [h2]; exact growslice_fits (by omega) (by omega))
        have hge := grownCap_ge w (l.length + r.length) cap 5
        have hcm2 : grownCap w (l.length + r.length) cap 5 ≤ maxLen := grownCap_le_maxLen w (l.length + r.length) cap 5 (by unfold maxLen; omega)
        refine ⟨w.heap.size, _, _, hr', .inr ⟨w.heap.size, _, _, (0, 0), by rw [List.length_append], heap_alloc_new w.drew _, .inl rfl, by rw [List.length_append]; exact hge, hcm2, ?_, ?_⟩, ⟨rfl, rfl, rfl, by simp, fun k hk _ => (Below.heap_alloc w.drew _ k hk)⟩, .inr (Nat.le_refl _)⟩
        · have hz1 : (Value.int IntKind.u8 0).cells.size = 1 := rfl
          simp only [Array.size_append, List.size_toArray, size_zeroCells, hz1, bcells_len]
          omega
        · simp only [Array.toList_append, List.append_assoc]
          rw [← List.append_assoc, bcells_append]
          have e : (l ++ r).length = (bcells l ++ bcells r).length := by rw [List.length_append, List.length_append, bcells_len, bcells_len]
          rw [e]
          exact List.take_left

theorem wpList_appB {P : Program} (w : World) {ops : Array Oper} {rest : List Oper} {o : Oper} {a : Act} {Q : Exit → Act → World → Prop} (hgd : o.guard = none) (d s : Operand) (t t' : TypeId)
    (ho : o.op = .call { callee := .builtin .append, args := #[d, s], argTypes := #[t, t'] }) (v u : Value) (hd : a.eval d = v) (hs : a.eval s = u) {v' : Value} {w' : World}
    (hr : (Builtin.append_ #[t, t'] o.type #[v, u]).run P w = .ok v' w') (h : wpList P ops Q rest (a.put o.dst v') w') : wpList P ops Q (o :: rest) a w :=
  wpList_plain hgd fun _ hK => by
    unfold Oper.wp execOp
    simp only [ho, resolve, invoke, builtin, Sem.run_bind, Sem.run_pure, Result.andThen_ok, List.map_toArray, List.map_cons, List.map_nil, hd, hs, hr]
    exact hK _ _ h

/-- What append left lies in D. -/
theorem OwnsJ.lies {w w' : World} {D : Nat → Prop} {v : Value} {l l' : List UInt8} (h : OwnsJ w D v l) (hD : Opn D w) {g cap n : Nat} (hb : BRow w' (.slice (some ⟨g, 0, none⟩) n cap) l') (hat : v.ownBlock = some g ∨ w.heap.size ≤ g) : OwnsJ w' D (.slice (some ⟨g, 0, none⟩) n cap) l' :=
  ⟨hb, fun g' hg' => by
    simp only [Value.ownBlock, Option.some.injEq] at hg'
    subst hg'
    rcases hat with h1 | h1
    · exact h.2 _ h1
    · exact hD _ h1⟩

/-- Behind such an append. -/
theorem Kd.grownJ {D : Nat → Prop} {w w' : World} {v : Value} {l : List UInt8} (h : OwnsJ w D v l) (hg : w.grownBy w' v.ownBlock) : Kd D [5] w w' :=
  ⟨hg.os, hg.tape, hg.output, hg.size, fun i hi hor => by
    refine hg.block i hi (fun hik => ?_)
    have hd := h.2 i hik.symm
    rcases h.1 with ⟨rfl, _⟩ | ⟨g, cap, cur, fz, rfl, hgg, _⟩
    · simp [Value.ownBlock] at hik
    · simp only [Value.ownBlock, Option.some.injEq] at hik
      subst hik
      rcases hor with h1 | h1
      · exact h1 hd
      · exact h1 _ _ _ hgg (by simp)⟩
end Go.Proofs.Ytakipjofboipmaa
