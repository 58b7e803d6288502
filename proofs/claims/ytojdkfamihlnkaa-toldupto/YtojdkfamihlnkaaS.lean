/- Plain mathematics of this proof: the pairs of a batch that count. -/
import Derived.Test.YtojdkfamihlnkaaO
namespace Go.Proofs.Ytojdkfamihlnkaa

/-- The last pair of a key. -/
def lastP : List Pr → ByteArray → Option Pr
  | [], _ => none
  | p :: r, k => match lastP r k with
    | some q => some q
    | none => if p.k = k then some p else none

/-- The pairs that count: behind which their key does not come again. -/
def keep : List Pr → List Pr
  | [] => []
  | p :: r => if (r.any fun q => decide (q.k = p.k)) = true then keep r else p :: keep r

theorem lastP_none : ∀ {L : List Pr} {k : ByteArray}, lastP L k = none ↔ ∀ p ∈ L, p.k ≠ k
  | [], k => by simp [lastP]
  | p :: r, k => by
    unfold lastP
    cases h : lastP r k with
    | some q =>
      simp only [List.mem_cons, forall_eq_or_imp, reduceCtorEq, false_iff, not_and]
      intro _ hall
      have := (lastP_none (L := r)).2 hall
      rw [h] at this; cases this
    | none =>
      have h' := lastP_none.1 h
      by_cases e : p.k = k
      · simp [e]
      · simp only [e, if_false, List.mem_cons, forall_eq_or_imp, true_iff]
        exact ⟨e, h'⟩

theorem lastP_key : ∀ {L : List Pr} {k : ByteArray} {p : Pr}, lastP L k = some p → p.k = k ∧ p ∈ L
  | [], _, _, h => by simp [lastP] at h
  | q :: r, k, p, h => by
    unfold lastP at h
    cases g : lastP r k with
    | some x =>
      rw [g] at h
      cases h
      have := lastP_key g
      exact ⟨this.1, List.mem_cons_of_mem _ this.2⟩
    | none =>
      rw [g] at h
      simp only at h
      split at h
      · cases h
        exact ⟨by assumption, List.mem_cons_self ..⟩
      · cases h

theorem keep_mem : ∀ {L : List Pr} {p : Pr}, p ∈ keep L ↔ lastP L p.k = some p
  | [], p => by simp [keep, lastP]
  | q :: r, p => by
    unfold keep lastP
    have ih := keep_mem (L := r) (p := p)
    by_cases h : (r.any fun x => decide (x.k = q.k)) = true
    · rw [if_pos h, ih]
      cases g : lastP r p.k with
      | some x => simp
      | none =>
        simp only [reduceCtorEq, false_iff]
        intro hh
        split at hh
        · cases hh
          obtain ⟨x, hx, hxk⟩ := List.any_eq_true.1 h
          exact lastP_none.1 g x hx (by simpa using hxk)
        · cases hh
    · rw [if_neg h, List.mem_cons, ih]
      have hno : ∀ x ∈ r, x.k ≠ q.k := fun x hx e => h (List.any_eq_true.2 ⟨x, hx, by simp [e]⟩)
      cases g : lastP r p.k with
      | some x =>
        simp only [Option.some.injEq]
        constructor
        · rintro (rfl | hh)
          · have := lastP_key g
            exact absurd this.1 (hno x this.2)
          · exact hh
        · exact fun hh => .inr hh
      | none =>
        simp only [reduceCtorEq, or_false]
        constructor
        · rintro rfl; simp
        · intro hh
          split at hh
          · cases hh; rfl
          · cases hh

theorem keep_len : ∀ L : List Pr, (keep L).length ≤ L.length
  | [] => by simp [keep]
  | p :: r => by
    unfold keep
    have := keep_len r
    split <;> simp <;> omega

theorem keep_pos : ∀ {L : List Pr}, 1 ≤ L.length → 1 ≤ (keep L).length
  | [], h => by simp at h
  | p :: r, _ => by
    unfold keep
    split
    · rename_i h
      obtain ⟨x, hx, _⟩ := List.any_eq_true.1 h
      exact keep_pos (L := r) (List.length_pos_of_mem hx)
    · simp

theorem keep_distinct : ∀ L : List Pr, Distinct (keep L)
  | [] => by intro a b p q ha; simp [keep] at ha
  | x :: r => by
    have ih := keep_distinct r
    unfold keep
    split
    · exact ih
    · rename_i h
      have hno : ∀ y ∈ keep r, y.k ≠ x.k := fun y hy e => h (by
        have := (lastP_key (keep_mem.1 hy)).2
        exact List.any_eq_true.2 ⟨y, this, by simp [e]⟩)
      intro a b p q ha hb hk
      cases a with
      | zero =>
        cases b with
        | zero => rfl
        | succ b =>
          simp at ha hb; subst ha
          exact absurd hk.symm (hno q (List.mem_of_getElem? hb))
      | succ a =>
        cases b with
        | zero =>
          simp at ha hb; subst hb
          exact absurd hk (hno p (List.mem_of_getElem? ha))
        | succ b =>
          simp at ha hb
          rw [ih a b p q ha hb hk]

theorem keep_sub {L : List Pr} {p : Pr} (h : p ∈ keep L) : p ∈ L := (lastP_key (keep_mem.1 h)).2

/-- One pair further. -/
theorem keep_drop {L : List Pr} {k : Nat} {p : Pr} (h : L[k]? = some p) : keep (L.drop k) = if ((L.drop (k + 1)).any fun q => decide (q.k = p.k)) = true then keep (L.drop (k + 1)) else p :: keep (L.drop (k + 1)) := by
  obtain ⟨hk, rfl⟩ := List.getElem?_eq_some_iff.1 h
  rw [List.drop_eq_getElem_cons hk, keep]

end Go.Proofs.Ytojdkfamihlnkaa
