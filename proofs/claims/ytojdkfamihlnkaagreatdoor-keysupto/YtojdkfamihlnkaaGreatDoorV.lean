/- Plain mathematics of this proof: what the batches make of a key, and what the entries tell of it. -/
import Derived.Test.YtojdkfamihlnkaaGreatDoorW17
namespace Go.Proofs.YtojdkfamihlnkaaGreatDoor

/-- What the first n batches make of a key: the last pair. -/
def val (A : List (List Pr)) (k : ByteArray) : Nat → Option Pr
  | 0 => none
  | n + 1 => match lastP (A.getD n []) k with
    | some p => some p
    | none => val A k n

def vk (A : List (List Pr)) (k : ByteArray) (n : Nat) : Option ByteArray :=
  match val A k n with
  | some p => if p.g then none else some p.v
  | none => none

theorem lastP_snoc : ∀ (L : List Pr) (p : Pr) (k : ByteArray), lastP (L ++ [p]) k = if p.k = k then some p else lastP L k
  | [], p, k => by simp [lastP]
  | a :: L, p, k => by
    rw [List.cons_append]
    unfold lastP
    rw [lastP_snoc L p k]
    by_cases h : p.k = k
    · simp [h]
    · simp [h]

/-- The entries are those that the batches made. -/
def Rel (E : List En) (A : List (List Pr)) : Prop := ∀ e, e ∈ E ↔ ∃ (i : Nat) (b : List Pr) (p : Pr), A[i]? = some b ∧ p ∈ keep b ∧ e = toEn ((i : Int) + 1) p

theorem fnd_eq : ∀ {E : List En} (_ : Sorted E) {k : ByteArray} {q : Int} {e : En}, e ∈ E → e.k = k → e.s ≤ q → (∀ e' ∈ E, e'.k = k → e'.s ≤ q → e'.s ≤ e.s) → fnd E k q = some e
  | [], _, _, _, _, h, _, _, _ => by cases h
  | a :: E, hs, k, q, e, h, hk, hq, hm => by
    obtain ⟨ha, hs'⟩ := List.pairwise_cons.1 hs
    unfold fnd
    rw [List.find?_cons]
    by_cases hp : a.k = k ∧ a.s ≤ q
    · simp only [hp, and_self, decide_true]
      rcases List.mem_cons.1 h with rfl | h
      · rfl
      · exfalso
        have h1 := ha e h
        have h2 := hm a List.mem_cons_self hp.1 hp.2
        unfold elt at h1
        rcases oc_lt.1 h1 with h3 | ⟨_, h3⟩
        · rw [hp.1, hk, kc_self] at h3; omega
        · omega
    · rw [decide_eq_false hp]
      rcases List.mem_cons.1 h with rfl | h
      · exact absurd ⟨hk, hq⟩ hp
      · exact fnd_eq hs' h hk hq fun e' h' => hm e' (List.mem_cons_of_mem _ h')

theorem fnd_no {E : List En} {k : ByteArray} {q : Int} (h : ∀ e ∈ E, e.k = k → ¬ e.s ≤ q) : fnd E k q = none := by
  unfold fnd
  rw [List.find?_eq_none]
  intro e he
  simp only [decide_eq_true_eq]
  exact fun hh => h e he hh.1 hh.2

theorem val_none {A : List (List Pr)} {k : ByteArray} : ∀ {n : Nat}, val A k n = none → ∀ i, i < n → lastP (A.getD i []) k = none
  | 0, _, i, h => absurd h (Nat.not_lt_zero _)
  | n + 1, h, i, hi => by
    unfold val at h
    cases hl : lastP (A.getD n []) k with
    | some p => rw [hl] at h; cases h
    | none =>
      rw [hl] at h
      rcases Nat.lt_succ_iff_lt_or_eq.1 hi with h1 | rfl
      · exact val_none h i h1
      · exact hl

theorem val_some {A : List (List Pr)} {k : ByteArray} {p : Pr} : ∀ {n : Nat}, val A k n = some p → ∃ i, i < n ∧ lastP (A.getD i []) k = some p ∧ ∀ j, i < j → j < n → lastP (A.getD j []) k = none
  | 0, h => by cases h
  | n + 1, h => by
    unfold val at h
    cases hl : lastP (A.getD n []) k with
    | some q => rw [hl] at h; obtain rfl := Option.some.inj h; exact ⟨n, Nat.lt_succ_self _, hl, fun j h1 h2 => by omega⟩
    | none =>
      rw [hl] at h
      obtain ⟨i, h1, h2, h3⟩ := val_some h
      refine ⟨i, by omega, h2, fun j h4 h5 => ?_⟩
      rcases Nat.lt_succ_iff_lt_or_eq.1 h5 with h6 | rfl
      · exact h3 j h4 h6
      · exact hl

theorem sk_vk {E : List En} {A : List (List Pr)} (hs : Sorted E) (hr : Rel E A) (k : ByteArray) (n : Nat) (hn : n ≤ A.length) : sk E k n = vk A k n := by
  unfold sk vk
  cases hv : val A k n with
  | none =>
    have h := val_none hv
    rw [fnd_no]
    intro e he hk hq
    obtain ⟨i, b, p, hb, hp, rfl⟩ := (hr e).1 he
    have hi : i < n := by simp only [toEn] at hq; omega
    have h1 := h i hi
    rw [List.getD_eq_getElem?_getD, hb] at h1
    have h2 := keep_mem.1 hp
    simp only [toEn] at hk
    rw [hk] at h2
    simp only [Option.getD_some] at h1
    rw [h1] at h2
    cases h2
  | some p =>
    obtain ⟨i, hi, hl, hm⟩ := val_some hv
    obtain ⟨b, hb⟩ : ∃ b, A[i]? = some b := ⟨_, List.getElem?_eq_getElem (by omega)⟩
    rw [List.getD_eq_getElem?_getD, hb, Option.getD_some] at hl
    have hk := (lastP_key hl).1
    have he : toEn ((i : Int) + 1) p ∈ E := (hr _).2 ⟨i, b, p, hb, keep_mem.2 (by rw [hk]; exact hl), rfl⟩
    rw [fnd_eq hs he hk (by simp only [toEn]; omega) ?_]
    · rfl
    · intro e' he' hk' hq'
      obtain ⟨j, b', p', hb', hp', rfl⟩ := (hr e').1 he'
      simp only [toEn] at hk' hq' ⊢
      by_cases hij : i < j
      · exfalso
        have h1 := hm j hij (by omega)
        rw [List.getD_eq_getElem?_getD, hb', Option.getD_some] at h1
        have h2 := keep_mem.1 hp'
        rw [hk', h1] at h2
        cases h2
      · omega

/-- One batch more. -/
theorem rel_snoc {E F : List En} {A : List (List Pr)} {b M : List Pr} (hr : Rel E A) (hm : SamePr (keep b) M) (hf : ∀ y, y ∈ F ↔ y ∈ E ∨ y ∈ M.map (toEn ((A.length : Int) + 1))) : Rel F (A ++ [b]) := by
  intro e
  rw [hf]
  constructor
  · rintro (h | h)
    · obtain ⟨i, c, p, h1, h2, h3⟩ := (hr e).1 h
      exact ⟨i, c, p, by rw [List.getElem?_append_left (List.getElem?_eq_some_iff.1 h1).1]; exact h1, h2, h3⟩
    · obtain ⟨p, h1, rfl⟩ := List.mem_map.1 h
      exact ⟨A.length, b, p, by simp, (hm.2 p).1 h1, rfl⟩
  · rintro ⟨i, c, p, h1, h2, rfl⟩
    by_cases hi : i < A.length
    · rw [List.getElem?_append_left hi] at h1
      exact .inl ((hr _).2 ⟨i, c, p, h1, h2, rfl⟩)
    · rw [List.getElem?_append_right (by omega)] at h1
      have h0 : i - A.length = 0 := by
        rcases Nat.eq_zero_or_pos (i - A.length) with h | h
        · exact h
        · rw [List.getElem?_eq_none (by simp; omega)] at h1; cases h1
      rw [h0] at h1
      simp only [List.getElem?_cons_zero, Option.some.injEq] at h1
      subst h1
      obtain rfl : i = A.length := by omega
      exact .inr (List.mem_map.2 ⟨p, (hm.2 p).2 h2, rfl⟩)

theorem val_succ {A : List (List Pr)} {k : ByteArray} {i : Nat} {b : List Pr} (hb : A[i]? = some b) : val A k (i + 1) = match lastP b k with | some p => some p | none => val A k i := by
  show (match lastP (A.getD i []) k with | some p => some p | none => val A k i) = _
  rw [List.getD_eq_getElem?_getD, hb, Option.getD_some]

theorem lastP_take {b : List Pr} {r : Nat} {p : Pr} (k : ByteArray) (h : b[r]? = some p) : lastP (b.take (r + 1)) k = if p.k = k then some p else lastP (b.take r) k := by
  rw [List.take_add_one, h]
  exact lastP_snoc _ _ _

end Go.Proofs.YtojdkfamihlnkaaGreatDoor
