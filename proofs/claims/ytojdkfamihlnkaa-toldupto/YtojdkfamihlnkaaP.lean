/- Plain mathematics of this proof: laying the entries of a batch together with those that are there. -/
import Derived.Test.YtojdkfamihlnkaaS
namespace Go.Proofs.Ytojdkfamihlnkaa

/-- Laying together, from behind: e of those that were there and i of the new ones are left; T is done. -/
structure LayInv (E N : List En) (e i : Nat) (T : List En) : Prop where
  le : e ≤ E.length
  li : i ≤ N.length
  srt : Sorted T
  over : ∀ x ∈ E.take e, ∀ t ∈ T, elt x t
  newr : ∀ x ∈ N.take i, ∀ t ∈ T, elt x t
  mem : ∀ x, (x ∈ E.take e ∨ x ∈ N.take i ∨ x ∈ T) ↔ (x ∈ E ∨ x ∈ N)
  len : e + i + T.length = E.length + N.length

theorem lay_start (E N : List En) : LayInv E N E.length N.length [] :=
  ⟨Nat.le_refl _, Nat.le_refl _, List.Pairwise.nil, by simp, by simp, by simp, by simp⟩

theorem mem_take_get {α : Type} {l : List α} {n : Nat} {x : α} : x ∈ l.take n ↔ ∃ j, j < n ∧ l[j]? = some x := by
  rw [List.mem_iff_getElem?]
  constructor
  · rintro ⟨j, hj⟩
    rw [List.getElem?_take] at hj
    split at hj
    · exact ⟨j, by assumption, hj⟩
    · cases hj
  · rintro ⟨j, h1, h2⟩
    exact ⟨j, by rw [List.getElem?_take, if_pos h1]; exact h2⟩

theorem elt_trans {a b c : En} (h1 : elt a b) (h2 : elt b c) : elt a c := oc_trans h1 h2

/-- One new entry at its place. -/
theorem lay_step {E N : List En} (hE : Sorted E) (hN : Sorted N) {e i p : Nat} {T : List En} {x : En} (h : LayInv E N e (i + 1) T) (hx : N[i]? = some x) (hp : IsPlace (E.take e) x.k x.s p) (hne : ∀ y ∈ E, ¬ (y.k = x.k ∧ y.s = x.s)) :
    LayInv E N p i (x :: ((E.take e).drop p ++ T)) := by
  have hte : (E.take e).length = e := by rw [List.length_take, Nat.min_eq_left h.le]
  have hpe : p ≤ e := by have := hp.1; omega
  have hxi : x ∈ N.take (i + 1) := mem_take_get.2 ⟨i, by omega, hx⟩
  have hxN : i < N.length := (List.getElem?_eq_some_iff.1 hx).1
  have hmid : ∀ y ∈ (E.take e).drop p, elt x y := by
    intro y hy
    obtain ⟨j, hj⟩ := List.mem_iff_getElem?.1 hy
    rw [List.getElem?_drop] at hj
    have h1 := (hp.2 (p + j) y hj).2 (by omega)
    have hyE : y ∈ E := List.mem_of_mem_take (List.mem_of_getElem? hj)
    exact oc_total (Int.not_lt.2 h1) (hne y hyE)
  have hlow : ∀ y ∈ (E.take e).take p, elt y x := by
    intro y hy
    obtain ⟨j, hj, hy'⟩ := mem_take_get.1 hy
    exact (hp.2 j y hy').1 hj
  have hsplit : (E.take e).take p ++ (E.take e).drop p = E.take e := List.take_append_drop _ _
  have htt : (E.take e).take p = E.take p := by rw [List.take_take, Nat.min_eq_left hpe]
  have hsrt : Sorted (E.take e) := List.Pairwise.sublist (List.take_sublist _ _) hE
  have hpw := List.pairwise_append.1 (by rw [hsplit]; exact hsrt : ((E.take e).take p ++ (E.take e).drop p).Pairwise elt)
  have hdsub : ∀ y ∈ (E.take e).drop p, y ∈ E.take e := fun y hy => List.mem_of_mem_drop hy
  have hni : ∀ y ∈ N.take i, elt y x := by
    intro y hy
    obtain ⟨j, hj, hy'⟩ := mem_take_get.1 hy
    obtain ⟨hjl, rfl⟩ := List.getElem?_eq_some_iff.1 hy'
    obtain ⟨hil, rfl⟩ := List.getElem?_eq_some_iff.1 hx
    exact sorted_lt hN hj hil
  have hsubN : ∀ y ∈ N.take i, y ∈ N.take (i + 1) := fun y hy => by
    obtain ⟨j, hj, hy'⟩ := mem_take_get.1 hy
    exact mem_take_get.2 ⟨j, by omega, hy'⟩
  refine ⟨Nat.le_trans hpe h.le, by omega, ?_, ?_, ?_, ?_, ?_⟩
  · refine List.Pairwise.cons (fun t ht => ?_) (List.pairwise_append.2 ⟨hpw.2.1, h.srt, fun a ha b hb => h.over a (hdsub a ha) b hb⟩)
    rcases List.mem_append.1 ht with ht | ht
    · exact hmid t ht
    · exact h.newr x hxi t ht
  · intro y hy t ht
    rw [← htt] at hy
    rcases List.mem_cons.1 ht with rfl | ht
    · exact hlow y hy
    · rcases List.mem_append.1 ht with ht | ht
      · exact hpw.2.2 y hy t ht
      · exact h.over y (List.mem_of_mem_take hy) t ht
  · intro y hy t ht
    rcases List.mem_cons.1 ht with rfl | ht
    · exact hni y hy
    · rcases List.mem_append.1 ht with ht | ht
      · exact elt_trans (hni y hy) (hmid t ht)
      · exact h.newr y (hsubN y hy) t ht
  · intro y
    rw [← h.mem y, ← htt]
    have e1 : y ∈ E.take e ↔ y ∈ (E.take e).take p ∨ y ∈ (E.take e).drop p := by
      constructor
      · intro hy; rw [← hsplit] at hy; exact List.mem_append.1 hy
      · intro hy; rw [← hsplit]; exact List.mem_append.2 hy
    have e2 : y ∈ N.take (i + 1) ↔ y ∈ N.take i ∨ y = x := by
      rw [List.take_add_one, hx]; simp
    rw [e1, e2, List.mem_cons, List.mem_append]
    constructor
    · rintro (a | a | a | a | a)
      · exact .inl (.inl a)
      · exact .inr (.inl (.inl a))
      · exact .inr (.inl (.inr a))
      · exact .inl (.inr a)
      · exact .inr (.inr a)
    · rintro ((a | a) | (a | a) | a)
      · exact .inl a
      · exact .inr (.inr (.inr (.inl a)))
      · exact .inr (.inl a)
      · exact .inr (.inr (.inl a))
      · exact .inr (.inr (.inr (.inr a)))
  · have := h.len
    simp only [List.length_cons, List.length_append, List.length_drop, hte]
    omega

/-- At the end. -/
theorem lay_end {E N T : List En} {e : Nat} (hE : Sorted E) (h : LayInv E N e 0 T) : Sorted (E.take e ++ T) ∧ (∀ x, x ∈ E.take e ++ T ↔ x ∈ E ∨ x ∈ N) ∧ (E.take e ++ T).length = E.length + N.length := by
  refine ⟨List.pairwise_append.2 ⟨List.Pairwise.sublist (List.take_sublist _ _) hE, h.srt, h.over⟩, fun x => ?_, ?_⟩
  · rw [← h.mem x]; simp
  · have := h.len
    have := h.le
    rw [List.length_append, List.length_take, Nat.min_eq_left h.le]; omega

/-- What a round leaves of a row. -/
theorem lay_row {E J T : List En} {e p i : Nat} {x : En} (he : e ≤ E.length) (hp : p ≤ e) (hJ : J.length = i + 1) :
    ∃ J2 : List En, J2.length = i ∧ (((E.take e ++ J ++ T).take (p + i + 1) ++ ((E.take e ++ J ++ T).drop p).take (e - p) ++ (E.take e ++ J ++ T).drop (p + i + 1 + (e - p))).set (p + i) x) = E.take p ++ J2 ++ (x :: ((E.take e).drop p ++ T)) := by
  have hte : (E.take e).length = e := by rw [List.length_take, Nat.min_eq_left he]
  have h1 : ((E.take e ++ J ++ T).drop p).take (e - p) = (E.take e).drop p := by
    rw [List.append_assoc, List.drop_append_of_le_length (by omega), List.take_left' (by rw [List.length_drop]; omega)]
  have h2 : (E.take e ++ J ++ T).drop (p + i + 1 + (e - p)) = T := by
    rw [List.drop_left' (by rw [List.length_append]; omega)]
  have h3 : (E.take e ++ J ++ T).take (p + i + 1) = E.take p ++ ((E.take e ++ J ++ T).take (p + i + 1)).drop p := by
    have h4 : ((E.take e ++ J ++ T).take (p + i + 1)).take p = E.take p := by
      rw [List.take_take, Nat.min_eq_left (by omega), List.append_assoc, List.take_append_of_le_length (by omega), List.take_take, Nat.min_eq_left hp]
    rw [← h4, List.take_append_drop]
  have h5 : (((E.take e ++ J ++ T).take (p + i + 1)).drop p).length = i + 1 := by
    rw [List.length_drop, List.length_take, List.length_append, List.length_append]; omega
  rw [h1, h2, h3]
  generalize ((E.take e ++ J ++ T).take (p + i + 1)).drop p = J' at h5
  have hpl : (E.take p).length = p := by rw [List.length_take]; omega
  refine ⟨J'.take i, by rw [List.length_take]; omega, ?_⟩
  obtain ⟨y, hy⟩ : ∃ y, J'.drop i = [y] := by
    have : (J'.drop i).length = 1 := by rw [List.length_drop]; omega
    match J'.drop i, this with
    | [y], _ => exact ⟨y, rfl⟩
  have hJs : J' = J'.take i ++ [y] := by rw [← hy, List.take_append_drop]
  have e1 : E.take p ++ J' ++ (E.take e).drop p ++ T = (E.take p ++ J'.take i) ++ (y :: ((E.take e).drop p ++ T)) := by
    conv => lhs; rw [hJs]
    simp
  rw [e1, List.set_append_right _ _ (by rw [List.length_append, hpl, List.length_take]; omega)]
  have : p + i - (E.take p ++ J'.take i).length = 0 := by rw [List.length_append, hpl, List.length_take]; omega
  rw [this]
  simp

end Go.Proofs.Ytojdkfamihlnkaa
