/- Plain mathematics of this proof: the order of keys and of entries, what batches make of a key. -/
import Derived.Lib.Bytealg
namespace Go.Proofs.YtakipjofboipmaaGreatDoor
open Go.Lib (compareBytes)

theorem cb_self : ∀ a : List UInt8, compareBytes a a = 0
  | [] => rfl
  | x :: a => by simp [compareBytes, cb_self a, UInt8.lt_irrefl]

theorem cb_zero : ∀ {a b : List UInt8}, compareBytes a b = 0 → a = b
  | [], [], _ => rfl
  | [], _ :: _, h => by simp [compareBytes] at h
  | _ :: _, [], h => by simp [compareBytes] at h
  | x :: a, y :: b, h => by
    unfold compareBytes at h
    split at h
    · simp at h
    · split at h
      · simp at h
      · rename_i h1 h2
        have : x = y := UInt8.le_antisymm (UInt8.not_lt.1 h2) (UInt8.not_lt.1 h1)
        rw [this, cb_zero h]

theorem cb_neg : ∀ (a b : List UInt8), compareBytes b a = - compareBytes a b
  | [], [] => rfl
  | [], _ :: _ => rfl
  | _ :: _, [] => rfl
  | x :: a, y :: b => by
    unfold compareBytes
    by_cases h1 : x < y
    · have h2 : ¬ y < x := UInt8.not_lt.2 (UInt8.le_of_lt h1)
      simp [h1, h2]
    · by_cases h2 : y < x
      · simp [h1, h2]
      · simp [h1, h2, cb_neg a b]

theorem cb_trans : ∀ {a b c : List UInt8}, compareBytes a b < 0 → compareBytes b c < 0 → compareBytes a c < 0
  | [], [], _, h, _ => by simp [compareBytes] at h
  | [], _ :: _, [], _, h => by simp [compareBytes] at h
  | [], _ :: _, _ :: _, _, _ => by simp [compareBytes]
  | _ :: _, [], _, h, _ => by simp [compareBytes] at h
  | _ :: _, _ :: _, [], _, h => by simp [compareBytes] at h
  | x :: a, y :: b, z :: c, h1, h2 => by
    unfold compareBytes at h1 h2 ⊢
    by_cases c1 : x < y
    · by_cases c2 : y < z
      · simp [UInt8.lt_trans c1 c2]
      · by_cases c3 : z < y
        · simp [c2, c3] at h2
        · have : y = z := UInt8.le_antisymm (UInt8.not_lt.1 c3) (UInt8.not_lt.1 c2)
          subst this
          simp [c1]
    · by_cases c1' : y < x
      · simp [c1, c1'] at h1
      · have e : x = y := UInt8.le_antisymm (UInt8.not_lt.1 c1') (UInt8.not_lt.1 c1)
        subst e
        simp only [UInt8.lt_irrefl, if_false] at h1
        by_cases c2 : x < z
        · simp [c2]
        · by_cases c3 : z < x
          · simp [c2, c3] at h2
          · simp only [c2, c3, if_false] at h2 ⊢
            exact cb_trans h1 h2

/-- Keys by their bytes. -/
def kc (a b : ByteArray) : Int := compareBytes a.data.toList b.data.toList
theorem kc_self (a : ByteArray) : kc a a = 0 := cb_self _
theorem kc_zero {a b : ByteArray} (h : kc a b = 0) : a = b := by
  have := cb_zero h
  cases a; cases b
  congr 1
  exact Array.toList_inj.1 this
theorem kc_neg (a b : ByteArray) : kc b a = - kc a b := cb_neg _ _
theorem kc_trans {a b c : ByteArray} (h1 : kc a b < 0) (h2 : kc b c < 0) : kc a c < 0 := cb_trans h1 h2

/-- An entry. -/
structure En where
  k : ByteArray
  s : Int
  g : Bool
  v : ByteArray

/-- The order of entries: by keys; of one key the greatest number first. -/
def oc (k1 : ByteArray) (s1 : Int) (k2 : ByteArray) (s2 : Int) : Int :=
  if kc k1 k2 ≠ 0 then kc k1 k2 else if s2 < s1 then -1 else if s1 < s2 then 1 else 0

theorem oc_lt {k1 k2 : ByteArray} {s1 s2 : Int} : oc k1 s1 k2 s2 < 0 ↔ kc k1 k2 < 0 ∨ (k1 = k2 ∧ s2 < s1) := by
  unfold oc
  by_cases h : kc k1 k2 = 0
  · have e := kc_zero h
    subst e
    simp only [h, ne_eq, not_true_eq_false, if_false, true_and]
    constructor
    · intro g; right; revert g; split
      · intro _; assumption
      · split <;> simp
    · rintro (g | g)
      · omega
      · simp [g]
  · rw [if_pos h]
    constructor
    · intro g; exact .inl g
    · rintro (g | ⟨rfl, _⟩)
      · exact g
      · exact absurd (kc_self _) h

theorem oc_trans {k1 k2 k3 : ByteArray} {s1 s2 s3 : Int} (h1 : oc k1 s1 k2 s2 < 0) (h2 : oc k2 s2 k3 s3 < 0) : oc k1 s1 k3 s3 < 0 := by
  rw [oc_lt] at *
  rcases h1 with h1 | ⟨rfl, h1⟩
  · rcases h2 with h2 | ⟨rfl, h2⟩
    · exact .inl (kc_trans h1 h2)
    · exact .inl h1
  · rcases h2 with h2 | ⟨rfl, h2⟩
    · exact .inl h2
    · exact .inr ⟨rfl, by omega⟩

/-- What does not stand ahead of another, and is not it, stands behind. -/
theorem oc_total {k1 k2 : ByteArray} {s1 s2 : Int} (h1 : ¬ oc k1 s1 k2 s2 < 0) (h2 : ¬ (k1 = k2 ∧ s1 = s2)) : oc k2 s2 k1 s1 < 0 := by
  rw [oc_lt] at *
  by_cases h : kc k1 k2 = 0
  · have e := kc_zero h
    subst e
    right
    refine ⟨rfl, ?_⟩
    have a : ¬ s2 < s1 := fun g => h1 (.inr ⟨rfl, g⟩)
    have b : ¬ s1 = s2 := fun g => h2 ⟨rfl, g⟩
    omega
  · left
    rw [kc_neg]
    have a : ¬ kc k1 k2 < 0 := fun g => h1 (.inl g)
    omega

def elt (a b : En) : Prop := oc a.k a.s b.k b.s < 0
/-- Entries in order. -/
def Sorted (E : List En) : Prop := E.Pairwise elt

theorem sorted_lt {E : List En} (h : Sorted E) {i j : Nat} (hij : i < j) (hj : j < E.length) : elt (E[i]'(by omega)) E[j] := List.pairwise_iff_getElem.1 h i j (by omega) hj hij

/-- The place of a key and a number among entries: what is ahead of it stands ahead. -/
def IsPlace (E : List En) (k : ByteArray) (s : Int) (i : Nat) : Prop :=
  i ≤ E.length ∧ ∀ j e, E[j]? = some e → (j < i → oc e.k e.s k s < 0) ∧ (i ≤ j → 0 ≤ oc e.k e.s k s)

theorem sorted_mono {E : List En} (h : Sorted E) {k : ByteArray} {s : Int} {i j : Nat} {a b : En} (hij : i ≤ j) (ha : E[i]? = some a) (hb : E[j]? = some b) (hl : oc b.k b.s k s < 0) : oc a.k a.s k s < 0 := by
  obtain ⟨hi, rfl⟩ := List.getElem?_eq_some_iff.1 ha
  obtain ⟨hj, rfl⟩ := List.getElem?_eq_some_iff.1 hb
  rcases Nat.eq_or_lt_of_le hij with rfl | hlt
  · exact hl
  · exact oc_trans (sorted_lt h hlt hj) hl

/-- What is found of a key at a number: the first in order that fits. -/
def fnd (E : List En) (k : ByteArray) (q : Int) : Option En := E.find? fun e => decide (e.k = k ∧ e.s ≤ q)

theorem oc_ge {k1 k2 : ByteArray} {s1 s2 : Int} (h : 0 ≤ oc k1 s1 k2 s2) : 0 < kc k1 k2 ∨ (k1 = k2 ∧ s1 ≤ s2) := by
  have h' : ¬ oc k1 s1 k2 s2 < 0 := by omega
  rw [oc_lt] at h'
  by_cases e : kc k1 k2 = 0
  · have e := kc_zero e
    subst e
    exact .inr ⟨rfl, Int.not_lt.1 fun g => h' (.inr ⟨rfl, g⟩)⟩
  · exact .inl (by have : ¬ kc k1 k2 < 0 := fun g => h' (.inl g); omega)

theorem fnd_hit {E : List En} {k : ByteArray} {q : Int} {i : Nat} {e : En} (h : IsPlace E k q i) (he : E[i]? = some e) (hk : e.k = k) : fnd E k q = some e := by
  obtain ⟨hi, hE⟩ := List.getElem?_eq_some_iff.1 he
  refine List.find?_eq_some_iff_getElem.2 ⟨?_, i, hi, hE, fun j hj => ?_⟩
  · rcases oc_ge ((h.2 i e he).2 (Nat.le_refl _)) with g | g
    · rw [hk, kc_self] at g; omega
    · simp [hk, g.2]
  · have := (h.2 j _ (List.getElem?_eq_getElem (by omega))).1 hj
    rw [oc_lt] at this
    simp only [Bool.not_eq_true', decide_eq_false_iff_not, not_and]
    intro e1 e2
    rcases this with g | g
    · rw [e1, kc_self] at g; omega
    · omega

theorem fnd_end {E : List En} {k : ByteArray} {q : Int} (h : IsPlace E k q E.length) : fnd E k q = none := by
  refine List.find?_eq_none.2 fun x hx => ?_
  obtain ⟨j, hj, rfl⟩ := List.getElem_of_mem hx
  have := (h.2 j _ (List.getElem?_eq_getElem hj)).1 hj
  rw [oc_lt] at this
  simp only [decide_eq_true_eq, not_and]
  intro e1 e2
  rcases this with g | g
  · rw [e1, kc_self] at g; omega
  · omega

theorem fnd_miss {E : List En} (hs : Sorted E) {k : ByteArray} {q : Int} {i : Nat} {e : En} (h : IsPlace E k q i) (he : E[i]? = some e) (hk : e.k ≠ k) : fnd E k q = none := by
  refine List.find?_eq_none.2 fun x hx => ?_
  obtain ⟨j, hj, rfl⟩ := List.getElem_of_mem hx
  simp only [decide_eq_true_eq, not_and]
  intro e1 e2
  rcases Nat.lt_or_ge j i with hji | hji
  · have := (h.2 j _ (List.getElem?_eq_getElem hj)).1 hji
    rw [oc_lt] at this
    rcases this with g | g
    · rw [e1, kc_self] at g; omega
    · omega
  · obtain ⟨hi, rfl⟩ := List.getElem?_eq_some_iff.1 he
    rcases Nat.eq_or_lt_of_le hji with rfl | hlt
    · exact hk e1
    · have h1 := sorted_lt hs hlt hj
      unfold elt at h1
      rw [oc_lt, e1] at h1
      have h2 := oc_ge ((h.2 i _ (List.getElem?_eq_getElem hi)).2 (Nat.le_refl _))
      rcases h1 with g | g
      · rcases h2 with g2 | g2
        · omega
        · exact hk g2.1
      · exact hk g.1

/-- The first entry from a text on. -/
def nxt (E : List En) (f : ByteArray) : Option En := E.find? fun e => decide (0 ≤ kc e.k f)

theorem nxt_hit {E : List En} {f : ByteArray} {i : Nat} {q : Int} (hq : ∀ e ∈ E, e.s ≤ q) {e : En} (h : IsPlace E f q i) (he : E[i]? = some e) : nxt E f = some e := by
  obtain ⟨hi, hE⟩ := List.getElem?_eq_some_iff.1 he
  refine List.find?_eq_some_iff_getElem.2 ⟨?_, i, hi, hE, fun j hj => ?_⟩
  · rcases oc_ge ((h.2 i e he).2 (Nat.le_refl _)) with g | g
    · simp; omega
    · simp [g.1, kc_self]
  · have hj' : j < E.length := by omega
    have := (h.2 j _ (List.getElem?_eq_getElem hj')).1 hj
    rw [oc_lt] at this
    rcases this with g | g
    · simp; omega
    · have := hq _ (List.getElem_mem hj'); omega

theorem nxt_end {E : List En} {f : ByteArray} {q : Int} (hq : ∀ e ∈ E, e.s ≤ q) (h : IsPlace E f q E.length) : nxt E f = none := by
  refine List.find?_eq_none.2 fun x hx => ?_
  obtain ⟨j, hj, rfl⟩ := List.getElem_of_mem hx
  have := (h.2 j _ (List.getElem?_eq_getElem hj)).1 hj
  rw [oc_lt] at this
  rcases this with g | g
  · simp; omega
  · have := hq _ (List.getElem_mem hj); omega

/-- The least text above another. -/
def nul : ByteArray := ⟨#[0]⟩
theorem cb_nul : ∀ (k x : List UInt8), 0 ≤ compareBytes x (k ++ [0]) ↔ compareBytes k x < 0
  | [], [] => by simp [compareBytes]
  | [], a :: az => by
    have h : ¬ a < 0 := UInt8.not_lt.2 (UInt8.zero_le)
    simp only [List.nil_append, compareBytes, h, if_false]
    by_cases h2 : (0 : UInt8) < a
    · simp [h2]
    · simp only [h2, if_false]
      cases az <;> simp [compareBytes]
  | c :: cs, [] => by simp [compareBytes]
  | c :: cs, a :: az => by
    simp only [List.cons_append, compareBytes]
    by_cases h1 : a < c
    · have h2 : ¬ c < a := UInt8.not_lt.2 (UInt8.le_of_lt h1)
      simp [h1, h2]
    · by_cases h2 : c < a
      · simp [h1, h2]
      · simp [h1, h2, cb_nul cs az]

end Go.Proofs.YtakipjofboipmaaGreatDoor
