/- Plain mathematics of this proof: sorting few pairs by their keys, one exchange at a time. -/
import Derived.Test.YtojdkfamihlnkaaN
namespace Go.Proofs.Ytojdkfamihlnkaa

/-- The same pairs, in whatever order. -/
def SamePr (L M : List Pr) : Prop := M.length = L.length ∧ ∀ p, p ∈ M ↔ p ∈ L

/-- No key twice. -/
def Distinct (L : List Pr) : Prop := ∀ (a b : Nat) (p q : Pr), L[a]? = some p → L[b]? = some q → p.k = q.k → a = b

/-- The first i stand in order. -/
def Upto (L : List Pr) (i : Nat) : Prop := ∀ (a b : Nat) (p q : Pr), a < b → b < i → L[a]? = some p → L[b]? = some q → kc p.k q.k < 0

/-- The first i + 1 stand in order but for the j-th, which is less than those behind it. -/
def But (L : List Pr) (j i : Nat) : Prop := ∀ (a b : Nat) (p q : Pr), a < b → b ≤ i → b ≠ j → L[a]? = some p → L[b]? = some q → kc p.k q.k < 0

def sw (L : List Pr) (m : Nat) (x y : Pr) : List Pr := (L.set (m + 1) x).set m y

theorem sw_get {L : List Pr} {m : Nat} {x y : Pr} (hm : m + 1 < L.length) (a : Nat) : (sw L m x y)[a]? = if a = m then some y else if a = m + 1 then some x else L[a]? := by
  unfold sw
  rw [List.getElem?_set, List.getElem?_set]
  simp only [List.length_set]
  by_cases h1 : m = a
  · subst h1; simp; omega
  · rw [if_neg h1, if_neg (Ne.symm h1)]
    by_cases h2 : m + 1 = a
    · subst h2; simp; omega
    · rw [if_neg h2, if_neg (Ne.symm h2)]

theorem sw_len {L : List Pr} {m : Nat} {x y : Pr} : (sw L m x y).length = L.length := by simp [sw]

theorem sw_same {L : List Pr} {m : Nat} {x y : Pr} (hx : L[m]? = some x) (hy : L[m + 1]? = some y) : SamePr L (sw L m x y) := by
  have hm : m + 1 < L.length := (List.getElem?_eq_some_iff.1 hy).1
  refine ⟨sw_len, fun p => ?_⟩
  simp only [List.mem_iff_getElem?]
  constructor
  · rintro ⟨a, ha⟩
    rw [sw_get hm] at ha
    split at ha
    · exact ⟨m + 1, by rw [hy]; exact ha⟩
    · split at ha
      · exact ⟨m, by rw [hx]; exact ha⟩
      · exact ⟨a, ha⟩
  · rintro ⟨a, ha⟩
    by_cases h1 : a = m
    · subst h1
      refine ⟨a + 1, ?_⟩
      rw [sw_get hm, if_neg (by omega), if_pos rfl, ← hx]; exact ha
    · by_cases h2 : a = m + 1
      · subst h2
        refine ⟨m, ?_⟩
        rw [sw_get hm, if_pos rfl, ← hy]; exact ha
      · exact ⟨a, by rw [sw_get hm, if_neg h1, if_neg h2]; exact ha⟩

theorem SamePr.trans {L M N : List Pr} (h : SamePr L M) (k : SamePr M N) : SamePr L N := ⟨k.1.trans h.1, fun p => (k.2 p).trans (h.2 p)⟩

theorem sw_distinct {L : List Pr} {m : Nat} {x y : Pr} (hd : Distinct L) (hx : L[m]? = some x) (hy : L[m + 1]? = some y) : Distinct (sw L m x y) := by
  have hm : m + 1 < L.length := (List.getElem?_eq_some_iff.1 hy).1
  intro a b p q ha hb hk
  rw [sw_get hm] at ha hb
  by_cases a1 : a = m
  · subst a1
    rw [if_pos rfl] at ha
    by_cases b1 : b = a
    · exact b1.symm
    · rw [if_neg b1] at hb
      by_cases b2 : b = a + 1
      · subst b2
        rw [if_pos rfl] at hb
        have := hd (a + 1) a p q (by rw [hy]; exact ha) (by rw [hx]; exact hb) hk; omega
      · rw [if_neg b2] at hb
        have := hd (a + 1) b p q (by rw [hy]; exact ha) hb hk; omega
  · rw [if_neg a1] at ha
    by_cases a2 : a = m + 1
    · subst a2
      rw [if_pos rfl] at ha
      by_cases b1 : b = m
      · subst b1
        rw [if_pos rfl] at hb
        have := hd b (b + 1) p q (by rw [hx]; exact ha) (by rw [hy]; exact hb) hk; omega
      · rw [if_neg b1] at hb
        by_cases b2 : b = m + 1
        · exact b2.symm
        · rw [if_neg b2] at hb
          have := hd m b p q (by rw [hx]; exact ha) hb hk; omega
    · rw [if_neg a2] at ha
      by_cases b1 : b = m
      · subst b1
        rw [if_pos rfl] at hb
        have := hd a (b + 1) p q ha (by rw [hy]; exact hb) hk; omega
      · rw [if_neg b1] at hb
        by_cases b2 : b = m + 1
        · subst b2
          rw [if_pos rfl] at hb
          have := hd a m p q ha (by rw [hx]; exact hb) hk; omega
        · rw [if_neg b2] at hb
          exact hd a b p q ha hb hk

theorem but_start {L : List Pr} {i : Nat} (h : Upto L i) : But L i i := fun a b p q hab hbi hbj ha hb => h a b p q hab (by omega) ha hb

/-- An exchange: the one that is less goes one place ahead. -/
theorem but_step {L : List Pr} {m i : Nat} {x y : Pr} (h : But L (m + 1) i) (hmi : m + 1 ≤ i) (hx : L[m]? = some x) (hy : L[m + 1]? = some y) (hlt : kc y.k x.k < 0) : But (sw L m x y) m i := by
  have hm : m + 1 < L.length := (List.getElem?_eq_some_iff.1 hy).1
  intro a b p q hab hbi hbj ha hb
  rw [sw_get hm] at ha hb
  rw [if_neg hbj] at hb
  by_cases a1 : a = m
  · subst a1
    rw [if_pos rfl] at ha
    cases ha
    by_cases b2 : b = a + 1
    · rw [if_pos b2] at hb; cases hb; exact hlt
    · rw [if_neg b2] at hb
      exact h (a + 1) b y q (by omega) hbi b2 hy hb
  · rw [if_neg a1] at ha
    by_cases a2 : a = m + 1
    · rw [if_pos a2] at ha
      cases ha
      rw [if_neg (by omega)] at hb
      exact h m b x q (by omega) hbi (by omega) hx hb
    · rw [if_neg a2] at ha
      by_cases b2 : b = m + 1
      · rw [if_pos b2] at hb
        cases hb
        exact h a m p x (by omega) (by omega) (by omega) ha hx
      · rw [if_neg b2] at hb
        exact h a b p q hab hbi b2 ha hb

/-- It stands right: all stand in order. -/
theorem but_stop {L : List Pr} {j i : Nat} (h : But L j i) (hd : Distinct L) (hji : j ≤ i) (hs : ∀ m x y, j = m + 1 → L[m]? = some x → L[m + 1]? = some y → ¬ kc y.k x.k < 0) : Upto L (i + 1) := by
  intro a b p q hab hbi ha hb
  by_cases hbj : b = j
  · subst hbj
    obtain ⟨m, rfl⟩ : ∃ m, b = m + 1 := ⟨b - 1, by omega⟩
    have hm : m < L.length := by have := (List.getElem?_eq_some_iff.1 hb).1; omega
    obtain ⟨x, hx⟩ : ∃ x, L[m]? = some x := ⟨_, List.getElem?_eq_getElem hm⟩
    have h1 := hs m x q rfl hx hb
    have h2 : kc x.k q.k < 0 := by
      by_cases e : kc x.k q.k = 0
      · have := hd m (m + 1) x q hx hb (kc_zero e); omega
      · have := kc_neg x.k q.k; omega
    by_cases ham : a = m
    · subst ham; rw [hx] at ha; cases ha; exact h2
    · exact kc_trans (h a m p x (by omega) (by omega) (by omega) ha hx) h2
  · exact h a b p q hab (by omega) hbj ha hb

theorem flat_set {α β : Type} (f : α → List β) (n : Nat) (hf : ∀ a, (f a).length = n) (l : List α) (k : Nat) (a : α) (hk : k < l.length) : (l.set k a).flatMap f = (l.flatMap f).take (k * n) ++ f a ++ (l.flatMap f).drop ((k + 1) * n) := by
  induction l generalizing k with
  | nil => simp at hk
  | cons b l ih =>
    cases k with
    | zero =>
      rw [List.set_cons_zero, List.flatMap_cons, List.flatMap_cons, Nat.zero_mul, List.take_zero, List.nil_append, Nat.zero_add, Nat.one_mul, List.drop_left' (hf b)]
    | succ k =>
      rw [List.set_cons_succ, List.flatMap_cons, ih k (by simpa using hk), List.flatMap_cons]
      have e1 : (f b ++ l.flatMap f).take ((k + 1) * n) = f b ++ (l.flatMap f).take (k * n) := by
        rw [List.take_append, hf, List.take_of_length_le (by rw [hf, Nat.add_mul]; omega), show (k + 1) * n - n = k * n by rw [Nat.add_mul]; omega]
      have e2 : (f b ++ l.flatMap f).drop ((k + 1 + 1) * n) = (l.flatMap f).drop ((k + 1) * n) := by
        rw [List.drop_append, hf, List.drop_of_length_le (by rw [hf, Nat.add_mul]; omega), show (k + 1 + 1) * n - n = (k + 1) * n by rw [Nat.add_mul (k + 1)]; omega, List.nil_append]
      rw [e1, e2]
      simp only [List.append_assoc]

theorem set3 {β : Type} (a b c : β) : ∀ (n : Nat) (xs : List β), n + 2 < xs.length → ((xs.set n a).set (n + 1) b).set (n + 2) c = xs.take n ++ [a, b, c] ++ xs.drop (n + 3)
  | 0, x :: y :: z :: r, _ => by simp
  | 0, [], h => by simp at h
  | 0, [_], h => by simp at h
  | 0, [_, _], h => by simp at h
  | n + 1, [], h => by simp at h
  | n + 1, x :: r, h => by
    have ih := set3 a b c n r (by simp at h; omega)
    simp only [List.set_cons_succ, List.take_succ_cons, List.cons_append, List.drop_succ_cons]
    rw [ih]

theorem pcells_len (L : List Pr) : (pcells L).length = L.length * 3 := flat_len _ 3 (fun a => by rfl) L

theorem pcells_set (L : List Pr) (k : Nat) (p : Pr) (hk : k < L.length) : (((pcells L).set (k * 3) (.string p.k)).set (k * 3 + 1) (.string p.v)).set (k * 3 + 2) (.bool p.g) = pcells (L.set k p) := by
  rw [set3 _ _ _ _ _ (by rw [pcells_len]; omega)]
  unfold pcells
  rw [flat_set _ 3 (fun a => by rfl) L k p hk, show k * 3 + 3 = (k + 1) * 3 by omega]
  rfl

end Go.Proofs.Ytojdkfamihlnkaa
