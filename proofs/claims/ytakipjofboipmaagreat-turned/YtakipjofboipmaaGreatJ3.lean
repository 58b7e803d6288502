/- Plain mathematics of this proof: sorting few pairs; the pairs that count; entries laid together; there is one scan. -/
import Derived.Test.YtakipjofboipmaaGreatJ1
namespace Go.Proofs.YtakipjofboipmaaGreat
/-- The same pairs, in whatever order. -/
def SamePr (L M : List Pr) : Prop := M.length = L.length ∧ ∀ p, p ∈ M ↔ p ∈ L

/-- No key twice. -/
def Distinct (L : List Pr) : Prop := ∀ (a b : Nat) (p q : Pr), L[a]? = some p → L[b]? = some q → p.k = q.k → a = b

/-- The first i stand in order. -/
def Upto (L : List Pr) (i : Nat) : Prop := ∀ (a b : Nat) (p q : Pr), a < b → b < i → L[a]? = some p → L[b]? = some q → kc p.k q.k < 0

/-- The first i + 1 stand in order but for the j-th, which is less than those behind it. -/
def But (L : List Pr) (j i : Nat) : Prop := ∀ (a b : Nat) (p q : Pr), a < b → b ≤ i → b ≠ j → L[a]? = some p → L[b]? = some q → kc p.k q.k < 0

def sw (L : List Pr) (m : Nat) (x y : Pr) : List Pr := (L.set (m + 1) x).set m y

theorem sw_get {L : List Pr} {m : Nat} {x y : Pr} (hm : m + 1 < L.length) (a : Nat) : (sw L m x y)[a]? = if a = m then some y else if a = m + 1 then some x else L[a]? := by
  unfold sw
  rw [List.getElem?_set, List.getElem?_set]
  simp only [List.length_set]
  by_cases h1 : m = a
  · subst h1; simp; omega
  · rw [if_neg h1, if_neg (Ne.symm h1)]
    by_cases h2 : m + 1 = a
    · subst h2; simp; omega
    · rw [if_neg h2, if_neg (Ne.symm h2)]

theorem sw_len {L : List Pr} {m : Nat} {x y : Pr} : (sw L m x y).length = L.length := by simp [sw]

theorem sw_same {L : List Pr} {m : Nat} {x y : Pr} (hx : L[m]? = some x) (hy : L[m + 1]? = some y) : SamePr L (sw L m x y) := by
  have hm : m + 1 < L.length := (List.getElem?_eq_some_iff.1 hy).1
  refine ⟨sw_len, fun p => ?_⟩
  simp only [List.mem_iff_getElem?]
  constructor
  · rintro ⟨a, ha⟩
    rw [sw_get hm] at ha
    split at ha
    · exact ⟨m + 1, by rw [hy]; exact ha⟩
    · split at ha
      · exact ⟨m, by rw [hx]; exact ha⟩
      · exact ⟨a, ha⟩
  · rintro ⟨a, ha⟩
    by_cases h1 : a = m
    · subst h1
      refine ⟨a + 1, ?_⟩
      rw [sw_get hm, if_neg (by omega), if_pos rfl, ← hx]; exact ha
    · by_cases h2 : a = m + 1
      · subst h2
        refine ⟨m, ?_⟩
        rw [sw_get hm, if_pos rfl, ← hy]; exact ha
      · exact ⟨a, by rw [sw_get hm, if_neg h1, if_neg h2]; exact ha⟩

theorem SamePr.trans {L M N : List Pr} (h : SamePr L M) (k : SamePr M N) : SamePr L N := ⟨k.1.trans h.1, fun p => (k.2 p).trans (h.2 p)⟩

theorem sw_distinct {L : List Pr} {m : Nat} {x y : Pr} (hd : Distinct L) (hx : L[m]? = some x) (hy : L[m + 1]? = some y) : Distinct (sw L m x y) := by
  have hm : m + 1 < L.length := (List.getElem?_eq_some_iff.1 hy).1
  intro a b p q ha hb hk
  rw [sw_get hm] at ha hb
  by_cases a1 : a = m
  · subst a1
    rw [if_pos rfl] at ha
    by_cases b1 : b = a
    · exact b1.symm
    · rw [if_neg b1] at hb
      by_cases b2 : b = a + 1
      · subst b2
        rw [if_pos rfl] at hb
        have := hd (a + 1) a p q (by rw [hy]; exact ha) (by rw [hx]; exact hb) hk; omega
      · rw [if_neg b2] at hb
        have := hd (a + 1) b p q (by rw [hy]; exact ha) hb hk; omega
  · rw [if_neg a1] at ha
    by_cases a2 : a = m + 1
    · subst a2
      rw [if_pos rfl] at ha
      by_cases b1 : b = m
      · subst b1
        rw [if_pos rfl] at hb
        have := hd b (b + 1) p q (by rw [hx]; exact ha) (by rw [hy]; exact hb) hk; omega
      · rw [if_neg b1] at hb
        by_cases b2 : b = m + 1
        · exact b2.symm
        · rw [if_neg b2] at hb
          have := hd m b p q (by rw [hx]; exact ha) hb hk; omega
    · rw [if_neg a2] at ha
      by_cases b1 : b = m
      · subst b1
        rw [if_pos rfl] at hb
        have := hd a (b + 1) p q ha (by rw [hy]; exact hb) hk; omega
      · rw [if_neg b1] at hb
        by_cases b2 : b = m + 1
        · subst b2
          rw [if_pos rfl] at hb
          have := hd a m p q ha (by rw [hx]; exact hb) hk; omega
        · rw [if_neg b2] at hb
          exact hd a b p q ha hb hk

theorem but_start {L : List Pr} {i : Nat} (h : Upto L i) : But L i i := fun a b p q hab hbi hbj ha hb => h a b p q hab (by omega) ha hb

/-- An exchange: the one that is less goes one place ahead. -/
theorem but_step {L : List Pr} {m i : Nat} {x y : Pr} (h : But L (m + 1) i) (hmi : m + 1 ≤ i) (hx : L[m]? = some x) (hy : L[m + 1]? = some y) (hlt : kc y.k x.k < 0) : But (sw L m x y) m i := by
  have hm : m + 1 < L.length := (List.getElem?_eq_some_iff.1 hy).1
  intro a b p q hab hbi hbj ha hb
  rw [sw_get hm] at ha hb
  rw [if_neg hbj] at hb
  by_cases a1 : a = m
  · subst a1
    rw [if_pos rfl] at ha
    cases ha
    by_cases b2 : b = a + 1
    · rw [if_pos b2] at hb; cases hb; exact hlt
    · rw [if_neg b2] at hb
      exact h (a + 1) b y q (by omega) hbi b2 hy hb
  · rw [if_neg a1] at ha
    by_cases a2 : a = m + 1
    · rw [if_pos a2] at ha
      cases ha
      rw [if_neg (by omega)] at hb
      exact h m b x q (by omega) hbi (by omega) hx hb
    · rw [if_neg a2] at ha
      by_cases b2 : b = m + 1
      · rw [if_pos b2] at hb
        cases hb
        exact h a m p x (by omega) (by omega) (by omega) ha hx
      · rw [if_neg b2] at hb
        exact h a b p q hab hbi b2 ha hb

/-- It stands right: all stand in order. -/
theorem but_stop {L : List Pr} {j i : Nat} (h : But L j i) (hd : Distinct L) (hji : j ≤ i) (hs : ∀ m x y, j = m + 1 → L[m]? = some x → L[m + 1]? = some y → ¬ kc y.k x.k < 0) : Upto L (i + 1) := by
  intro a b p q hab hbi ha hb
  by_cases hbj : b = j
  · subst hbj
    obtain ⟨m, rfl⟩ : ∃ m, b = m + 1 := ⟨b - 1, by omega⟩
    have hm : m < L.length := by have := (List.getElem?_eq_some_iff.1 hb).1; omega
    obtain ⟨x, hx⟩ : ∃ x, L[m]? = some x := ⟨_, List.getElem?_eq_getElem hm⟩
    have h1 := hs m x q rfl hx hb
    have h2 : kc x.k q.k < 0 := by
      by_cases e : kc x.k q.k = 0
      · have := hd m (m + 1) x q hx hb (kc_zero e); omega
      · have := kc_neg x.k q.k; omega
    by_cases ham : a = m
    · subst ham; rw [hx] at ha; cases ha; exact h2
    · exact kc_trans (h a m p x (by omega) (by omega) (by omega) ha hx) h2
  · exact h a b p q hab (by omega) hbj ha hb

theorem flat_set {α β : Type} (f : α → List β) (n : Nat) (hf : ∀ a, (f a).length = n) (l : List α) (k : Nat) (a : α) (hk : k < l.length) : (l.set k a).flatMap f = (l.flatMap f).take (k * n) ++ f a ++ (l.flatMap f).drop ((k + 1) * n) := by
  induction l generalizing k with
  | nil => simp at hk
  | cons b l ih =>
    cases k with
    | zero =>
      rw [List.set_cons_zero, List.flatMap_cons, List.flatMap_cons, Nat.zero_mul, List.take_zero, List.nil_append, Nat.zero_add, Nat.one_mul, List.drop_left' (hf b)]
    | succ k =>
      rw [List.set_cons_succ, List.flatMap_cons, ih k (by simpa using hk), List.flatMap_cons]
      have e1 : (f b ++ l.flatMap f).take ((k + 1) * n) = f b ++ (l.flatMap f).take (k * n) := by
        rw [List.take_append, hf, List.take_of_length_le (by rw [hf, Nat.add_mul]; omega), show (k + 1) * n - n = k * n by rw [Nat.add_mul]; omega]
      have e2 : (f b ++ l.flatMap f).drop ((k + 1 + 1) * n) = (l.flatMap f).drop ((k + 1) * n) := by
        rw [List.drop_append, hf, List.drop_of_length_le (by rw [hf, Nat.add_mul]; omega), show (k + 1 + 1) * n - n = (k + 1) * n by rw [Nat.add_mul (k + 1)]; omega, List.nil_append]
      rw [e1, e2]
      simp only [List.append_assoc]

theorem set3 {β : Type} (a b c : β) : ∀ (n : Nat) (xs : List β), n + 2 < xs.length → ((xs.set n a).set (n + 1) b).set (n + 2) c = xs.take n ++ [a, b, c] ++ xs.drop (n + 3)
  | 0, x :: y :: z :: r, _ => by simp
  | 0, [], h => by simp at h
  | 0, [_], h => by simp at h
  | 0, [_, _], h => by simp at h
  | n + 1, [], h => by simp at h
  | n + 1, x :: r, h => by
    have ih := set3 a b c n r (by simp at h; omega)
    simp only [List.set_cons_succ, List.take_succ_cons, List.cons_append, List.drop_succ_cons]
    rw [ih]

theorem pcells_len (L : List Pr) : (pcells L).length = L.length * 3 := flat_len _ 3 (fun a => by rfl) L

theorem pcells_set (L : List Pr) (k : Nat) (p : Pr) (hk : k < L.length) : (((pcells L).set (k * 3) (.string p.k)).set (k * 3 + 1) (.string p.v)).set (k * 3 + 2) (.bool p.g) = pcells (L.set k p) := by
  rw [set3 _ _ _ _ _ (by rw [pcells_len]; omega)]
  unfold pcells
  rw [flat_set _ 3 (fun a => by rfl) L k p hk, show k * 3 + 3 = (k + 1) * 3 by omega]
  rfl

/-- The last pair of a key. -/
def lastP : List Pr → ByteArray → Option Pr
  | [], _ => none
  | p :: r, k => match lastP r k with
    | some q => some q
    | none => if p.k = k then some p else none

/-- The pairs that count: behind which their key does not come again. -/
def keep : List Pr → List Pr
  | [] => []
  | p :: r => if (r.any fun q => decide (q.k = p.k)) = true then keep r else p :: keep r

theorem lastP_none : ∀ {L : List Pr} {k : ByteArray}, lastP L k = none ↔ ∀ p ∈ L, p.k ≠ k
  | [], k => by simp [lastP]
  | p :: r, k => by
    unfold lastP
    cases h : lastP r k with
    | some q =>
      simp only [List.mem_cons, forall_eq_or_imp, reduceCtorEq, false_iff, not_and]
      intro _ hall
      have := (lastP_none (L := r)).2 hall
      rw [h] at this; cases this
    | none =>
      have h' := lastP_none.1 h
      by_cases e : p.k = k
      · simp [e]
      · simp only [e, if_false, List.mem_cons, forall_eq_or_imp, true_iff]
        exact ⟨e, h'⟩

theorem lastP_key : ∀ {L : List Pr} {k : ByteArray} {p : Pr}, lastP L k = some p → p.k = k ∧ p ∈ L
  | [], _, _, h => by simp [lastP] at h
  | q :: r, k, p, h => by
    unfold lastP at h
    cases g : lastP r k with
    | some x =>
      rw [g] at h
      cases h
      have := lastP_key g
      exact ⟨this.1, List.mem_cons_of_mem _ this.2⟩
    | none =>
      rw [g] at h
      simp only at h
      split at h
      · cases h
        exact ⟨by assumption, List.mem_cons_self ..⟩
      · cases h

theorem keep_mem : ∀ {L : List Pr} {p : Pr}, p ∈ keep L ↔ lastP L p.k = some p
  | [], p => by simp [keep, lastP]
  | q :: r, p => by
    unfold keep lastP
    have ih := keep_mem (L := r) (p := p)
    by_cases h : (r.any fun x => decide (x.k = q.k)) = true
    · rw [if_pos h, ih]
      cases g : lastP r p.k with
      | some x => simp
      | none =>
        simp only [reduceCtorEq, false_iff]
        intro hh
        split at hh
        · cases hh
          obtain ⟨x, hx, hxk⟩ := List.any_eq_true.1 h
          exact lastP_none.1 g x hx (by simpa using hxk)
        · cases hh
    · rw [if_neg h, List.mem_cons, ih]
      have hno : ∀ x ∈ r, x.k ≠ q.k := fun x hx e => h (List.any_eq_true.2 ⟨x, hx, by simp [e]⟩)
      cases g : lastP r p.k with
      | some x =>
        simp only [Option.some.injEq]
        constructor
        · rintro (rfl | hh)
          · have := lastP_key g
            exact absurd this.1 (hno x this.2)
          · exact hh
        · exact fun hh => .inr hh
      | none =>
        simp only [reduceCtorEq, or_false]
        constructor
        · rintro rfl; simp
        · intro hh
          split at hh
          · cases hh; rfl
          · cases hh

theorem keep_len : ∀ L : List Pr, (keep L).length ≤ L.length
  | [] => by simp [keep]
  | p :: r => by
    unfold keep
    have := keep_len r
    split <;> simp <;> omega

theorem keep_pos : ∀ {L : List Pr}, 1 ≤ L.length → 1 ≤ (keep L).length
  | [], h => by simp at h
  | p :: r, _ => by
    unfold keep
    split
    · rename_i h
      obtain ⟨x, hx, _⟩ := List.any_eq_true.1 h
      exact keep_pos (L := r) (List.length_pos_of_mem hx)
    · simp

theorem keep_distinct : ∀ L : List Pr, Distinct (keep L)
  | [] => by intro a b p q ha; simp [keep] at ha
  | x :: r => by
    have ih := keep_distinct r
    unfold keep
    split
    · exact ih
    · rename_i h
      have hno : ∀ y ∈ keep r, y.k ≠ x.k := fun y hy e => h (by
        have := (lastP_key (keep_mem.1 hy)).2
        exact List.any_eq_true.2 ⟨y, this, by simp [e]⟩)
      intro a b p q ha hb hk
      cases a with
      | zero =>
        cases b with
        | zero => rfl
        | succ b =>
          simp at ha hb; subst ha
          exact absurd hk.symm (hno q (List.mem_of_getElem? hb))
      | succ a =>
        cases b with
        | zero =>
          simp at ha hb; subst hb
          exact absurd hk (hno p (List.mem_of_getElem? ha))
        | succ b =>
          simp at ha hb
          rw [ih a b p q ha hb hk]

theorem keep_sub {L : List Pr} {p : Pr} (h : p ∈ keep L) : p ∈ L := (lastP_key (keep_mem.1 h)).2

/-- One pair further. -/
theorem keep_drop {L : List Pr} {k : Nat} {p : Pr} (h : L[k]? = some p) : keep (L.drop k) = if ((L.drop (k + 1)).any fun q => decide (q.k = p.k)) = true then keep (L.drop (k + 1)) else p :: keep (L.drop (k + 1)) := by
  obtain ⟨hk, rfl⟩ := List.getElem?_eq_some_iff.1 h
  rw [List.drop_eq_getElem_cons hk, keep]

/-- Laying together, from behind: e of those that were there and i of the new ones are left; T is done. -/
structure LayInv (E N : List En) (e i : Nat) (T : List En) : Prop where
  le : e ≤ E.length
  li : i ≤ N.length
  srt : Sorted T
  over : ∀ x ∈ E.take e, ∀ t ∈ T, elt x t
  newr : ∀ x ∈ N.take i, ∀ t ∈ T, elt x t
  mem : ∀ x, (x ∈ E.take e ∨ x ∈ N.take i ∨ x ∈ T) ↔ (x ∈ E ∨ x ∈ N)
  len : e + i + T.length = E.length + N.length

theorem lay_start (E N : List En) : LayInv E N E.length N.length [] :=
  ⟨Nat.le_refl _, Nat.le_refl _, List.Pairwise.nil, by simp, by simp, by simp, by simp⟩

theorem mem_take_get {α : Type} {l : List α} {n : Nat} {x : α} : x ∈ l.take n ↔ ∃ j, j < n ∧ l[j]? = some x := by
  rw [List.mem_iff_getElem?]
  constructor
  · rintro ⟨j, hj⟩
    rw [List.getElem?_take] at hj
    split at hj
    · exact ⟨j, by assumption, hj⟩
    · cases hj
  · rintro ⟨j, h1, h2⟩
    exact ⟨j, by rw [List.getElem?_take, if_pos h1]; exact h2⟩

theorem elt_trans {a b c : En} (h1 : elt a b) (h2 : elt b c) : elt a c := oc_trans h1 h2

/-- One new entry at its place. -/
theorem lay_step {E N : List En} (hE : Sorted E) (hN : Sorted N) {e i p : Nat} {T : List En} {x : En} (h : LayInv E N e (i + 1) T) (hx : N[i]? = some x) (hp : IsPlace (E.take e) x.k x.s p) (hne : ∀ y ∈ E, ¬ (y.k = x.k ∧ y.s = x.s)) :
    LayInv E N p i (x :: ((E.take e).drop p ++ T)) := by
  have hte : (E.take e).length = e := by rw [List.length_take, Nat.min_eq_left h.le]
  have hpe : p ≤ e := by have := hp.1; omega
  have hxi : x ∈ N.take (i + 1) := mem_take_get.2 ⟨i, by omega, hx⟩
  have hxN : i < N.length := (List.getElem?_eq_some_iff.1 hx).1
  have hmid : ∀ y ∈ (E.take e).drop p, elt x y := by
    intro y hy
    obtain ⟨j, hj⟩ := List.mem_iff_getElem?.1 hy
    rw [List.getElem?_drop] at hj
    have h1 := (hp.2 (p + j) y hj).2 (by omega)
    have hyE : y ∈ E := List.mem_of_mem_take (List.mem_of_getElem? hj)
    exact oc_total (Int.not_lt.2 h1) (hne y hyE)
  have hlow : ∀ y ∈ (E.take e).take p, elt y x := by
    intro y hy
    obtain ⟨j, hj, hy'⟩ := mem_take_get.1 hy
    exact (hp.2 j y hy').1 hj
  have hsplit : (E.take e).take p ++ (E.take e).drop p = E.take e := List.take_append_drop _ _
  have htt : (E.take e).take p = E.take p := by rw [List.take_take, Nat.min_eq_left hpe]
  have hsrt : Sorted (E.take e) := List.Pairwise.sublist (List.take_sublist _ _) hE
  have hpw := List.pairwise_append.1 (by rw [hsplit]; exact hsrt : ((E.take e).take p ++ (E.take e).drop p).Pairwise elt)
  have hdsub : ∀ y ∈ (E.take e).drop p, y ∈ E.take e := fun y hy => List.mem_of_mem_drop hy
  have hni : ∀ y ∈ N.take i, elt y x := by
    intro y hy
    obtain ⟨j, hj, hy'⟩ := mem_take_get.1 hy
    obtain ⟨hjl, rfl⟩ := List.getElem?_eq_some_iff.1 hy'
    obtain ⟨hil, rfl⟩ := List.getElem?_eq_some_iff.1 hx
    exact sorted_lt hN hj hil
  have hsubN : ∀ y ∈ N.take i, y ∈ N.take (i + 1) := fun y hy => by
    obtain ⟨j, hj, hy'⟩ := mem_take_get.1 hy
    exact mem_take_get.2 ⟨j, by omega, hy'⟩
  refine ⟨Nat.le_trans hpe h.le, by omega, ?_, ?_, ?_, ?_, ?_⟩
  · refine List.Pairwise.cons (fun t ht => ?_) (List.pairwise_append.2 ⟨hpw.2.1, h.srt, fun a ha b hb => h.over a (hdsub a ha) b hb⟩)
    rcases List.mem_append.1 ht with ht | ht
    · exact hmid t ht
    · exact h.newr x hxi t ht
  · intro y hy t ht
    rw [← htt] at hy
    rcases List.mem_cons.1 ht with rfl | ht
    · exact hlow y hy
    · rcases List.mem_append.1 ht with ht | ht
      · exact hpw.2.2 y hy t ht
      · exact h.over y (List.mem_of_mem_take hy) t ht
  · intro y hy t ht
    rcases List.mem_cons.1 ht with rfl | ht
    · exact hni y hy
    · rcases List.mem_append.1 ht with ht | ht
      · exact elt_trans (hni y hy) (hmid t ht)
      · exact h.newr y (hsubN y hy) t ht
  · intro y
    rw [← h.mem y, ← htt]
    have e1 : y ∈ E.take e ↔ y ∈ (E.take e).take p ∨ y ∈ (E.take e).drop p := by
      constructor
      · intro hy; rw [← hsplit] at hy; exact List.mem_append.1 hy
      · intro hy; rw [← hsplit]; exact List.mem_append.2 hy
    have e2 : y ∈ N.take (i + 1) ↔ y ∈ N.take i ∨ y = x := by
      rw [List.take_add_one, hx]; simp
    rw [e1, e2, List.mem_cons, List.mem_append]
    constructor
    · rintro (a | a | a | a | a)
      · exact .inl (.inl a)
      · exact .inr (.inl (.inl a))
      · exact .inr (.inl (.inr a))
      · exact .inl (.inr a)
      · exact .inr (.inr a)
    · rintro ((a | a) | (a | a) | a)
      · exact .inl a
      · exact .inr (.inr (.inr (.inl a)))
      · exact .inr (.inl a)
      · exact .inr (.inr (.inl a))
      · exact .inr (.inr (.inr (.inr a)))
  · have := h.len
    simp only [List.length_cons, List.length_append, List.length_drop, hte]
    omega

/-- At the end. -/
theorem lay_end {E N T : List En} {e : Nat} (hE : Sorted E) (h : LayInv E N e 0 T) : Sorted (E.take e ++ T) ∧ (∀ x, x ∈ E.take e ++ T ↔ x ∈ E ∨ x ∈ N) ∧ (E.take e ++ T).length = E.length + N.length := by
  refine ⟨List.pairwise_append.2 ⟨List.Pairwise.sublist (List.take_sublist _ _) hE, h.srt, h.over⟩, fun x => ?_, ?_⟩
  · rw [← h.mem x]; simp
  · have := h.len
    have := h.le
    rw [List.length_append, List.length_take, Nat.min_eq_left h.le]; omega

/-- What a round leaves of a row. -/
theorem lay_row {E J T : List En} {e p i : Nat} {x : En} (he : e ≤ E.length) (hp : p ≤ e) (hJ : J.length = i + 1) :
    ∃ J2 : List En, J2.length = i ∧ (((E.take e ++ J ++ T).take (p + i + 1) ++ ((E.take e ++ J ++ T).drop p).take (e - p) ++ (E.take e ++ J ++ T).drop (p + i + 1 + (e - p))).set (p + i) x) = E.take p ++ J2 ++ (x :: ((E.take e).drop p ++ T)) := by
  have hte : (E.take e).length = e := by rw [List.length_take, Nat.min_eq_left he]
  have h1 : ((E.take e ++ J ++ T).drop p).take (e - p) = (E.take e).drop p := by
    rw [List.append_assoc, List.drop_append_of_le_length (by omega), List.take_left' (by rw [List.length_drop]; omega)]
  have h2 : (E.take e ++ J ++ T).drop (p + i + 1 + (e - p)) = T := by
    rw [List.drop_left' (by rw [List.length_append]; omega)]
  have h3 : (E.take e ++ J ++ T).take (p + i + 1) = E.take p ++ ((E.take e ++ J ++ T).take (p + i + 1)).drop p := by
    have h4 : ((E.take e ++ J ++ T).take (p + i + 1)).take p = E.take p := by
      rw [List.take_take, Nat.min_eq_left (by omega), List.append_assoc, List.take_append_of_le_length (by omega), List.take_take, Nat.min_eq_left hp]
    rw [← h4, List.take_append_drop]
  have h5 : (((E.take e ++ J ++ T).take (p + i + 1)).drop p).length = i + 1 := by
    rw [List.length_drop, List.length_take, List.length_append, List.length_append]; omega
  rw [h1, h2, h3]
  generalize ((E.take e ++ J ++ T).take (p + i + 1)).drop p = J' at h5
  have hpl : (E.take p).length = p := by rw [List.length_take]; omega
  refine ⟨J'.take i, by rw [List.length_take]; omega, ?_⟩
  obtain ⟨y, hy⟩ : ∃ y, J'.drop i = [y] := by
    have : (J'.drop i).length = 1 := by rw [List.length_drop]; omega
    match J'.drop i, this with
    | [y], _ => exact ⟨y, rfl⟩
  have hJs : J' = J'.take i ++ [y] := by rw [← hy, List.take_append_drop]
  have e1 : E.take p ++ J' ++ (E.take e).drop p ++ T = (E.take p ++ J'.take i) ++ (y :: ((E.take e).drop p ++ T)) := by
    conv => lhs; rw [hJs]
    simp
  rw [e1, List.set_append_right _ _ (by rw [List.length_append, hpl, List.length_take]; omega)]
  have : p + i - (E.take p ++ J'.take i).length = 0 := by rw [List.length_append, hpl, List.length_take]; omega
  rw [this]
  simp

/-- What has been chosen, up to a key. -/
structure CntInv (L C : List Pr) (last : ByteArray) : Prop where
  ord : Upto C C.length
  low : ∀ p ∈ C, ¬ kc last p.k < 0
  mem : ∀ p ∈ C, lastP L p.k = some p
  cov : ∀ p ∈ L, ¬ kc last p.k < 0 → ∃ c ∈ C, c.k = p.k
  cnt : C.length ≤ L.countP fun p => decide (¬ kc last p.k < 0)

theorem cnt_start {L : List Pr} (h : ∀ p ∈ L, 1 ≤ p.k.size) : CntInv L [] ⟨#[]⟩ := by
  refine ⟨fun a b p q _ hb => absurd hb (Nat.not_lt_zero _), by simp, by simp, fun p hp hn => absurd ?_ hn, Nat.zero_le _⟩
  have h1 := h p hp
  unfold kc
  have : p.k.data.toList ≠ [] := fun e => by
    have h2 : p.k.data.toList.length = 0 := by rw [e]; rfl
    rw [Array.length_toList] at h2
    have h3 : p.k.size = p.k.data.size := rfl
    omega
  cases hd : p.k.data.toList with
  | nil => exact absurd hd this
  | cons a l => simp [Lib.compareBytes]

/-- The best of the first i pairs. -/
def BestInv (L : List Pr) (last : ByteArray) (i : Nat) : Option (Nat × Pr) → Prop
  | none => ∀ j p, j < i → L[j]? = some p → ¬ kc last p.k < 0
  | some (j, p) => j < i ∧ L[j]? = some p ∧ kc last p.k < 0 ∧ ∀ j' p', j' < i → L[j']? = some p' → kc last p'.k < 0 → kc p.k p'.k < 0 ∨ (p'.k = p.k ∧ j' ≤ j)

theorem best_start (L : List Pr) (last : ByteArray) : BestInv L last 0 none := fun _ _ h => absurd h (Nat.not_lt_zero _)

theorem best_skip {L : List Pr} {last : ByteArray} {i : Nat} {o : Option (Nat × Pr)} {q : Pr} (h : BestInv L last i o) (hq : L[i]? = some q) (hn : ¬ kc last q.k < 0 ∨ ∃ j p, o = some (j, p) ∧ kc p.k q.k < 0) : BestInv L last (i + 1) o := by
  match o, h, hn with
  | none, h, hn =>
    intro j p hj hp
    rcases Nat.lt_succ_iff_lt_or_eq.1 hj with h1 | rfl
    · exact h j p h1 hp
    · rw [hq] at hp; cases hp
      rcases hn with hn | ⟨_, _, e, _⟩
      · exact hn
      · cases e
  | some (j, p), ⟨h1, h2, h3, h4⟩, hn =>
    refine ⟨by omega, h2, h3, fun j' p' hj' hp' hl => ?_⟩
    rcases Nat.lt_succ_iff_lt_or_eq.1 hj' with h5 | rfl
    · exact h4 j' p' h5 hp' hl
    · rw [hq] at hp'; cases hp'
      rcases hn with hn | ⟨_, _, e, hlt⟩
      · exact absurd hl hn
      · cases e; exact .inl hlt

theorem best_take {L : List Pr} {last : ByteArray} {i : Nat} {o : Option (Nat × Pr)} {q : Pr} (h : BestInv L last i o) (hq : L[i]? = some q) (hl : kc last q.k < 0) (hn : ∀ j p, o = some (j, p) → ¬ kc p.k q.k < 0) : BestInv L last (i + 1) (some (i, q)) := by
  refine ⟨by omega, hq, hl, fun j' p' hj' hp' hl' => ?_⟩
  rcases Nat.lt_succ_iff_lt_or_eq.1 hj' with h5 | rfl
  · match o, h, hn with
    | none, h, _ => exact absurd hl' (h j' p' h5 hp')
    | some (j, p), ⟨h1, h2, h3, h4⟩, hn =>
      have h6 := hn j p rfl
      have h7 := kc_neg p.k q.k
      rcases h4 j' p' h5 hp' hl' with h8 | ⟨h8, h9⟩
      · by_cases h10 : kc p.k q.k = 0
        · rw [← kc_zero h10]; exact .inl h8
        · exact .inl (kc_trans (show kc q.k p.k < 0 by omega) h8)
      · by_cases h10 : kc p.k q.k = 0
        · exact .inr ⟨by rw [h8, kc_zero h10], by omega⟩
        · rw [h8]; exact .inl (by omega)
  · rw [hq] at hp'; cases hp'; exact .inr ⟨rfl, Nat.le_refl _⟩

theorem lastP_last : ∀ {L : List Pr} {j : Nat} {p : Pr}, L[j]? = some p → (∀ j' p', j < j' → L[j']? = some p' → p'.k ≠ p.k) → lastP L p.k = some p
  | [], _, _, h, _ => by simp at h
  | a :: L, 0, p, h, hn => by
    simp at h; subst h
    have h1 : lastP L a.k = none := lastP_none.2 fun q hq => by
      obtain ⟨j, hj, rfl⟩ := List.getElem_of_mem hq
      exact hn (j + 1) _ (by omega) (by simp [List.getElem?_eq_getElem hj])
    unfold lastP
    simp [h1]
  | a :: L, j + 1, p, h, hn => by
    simp at h
    have h1 := lastP_last h fun j' p' hj hp => hn (j' + 1) p' (by omega) (by simpa using hp)
    unfold lastP
    simp [h1]

theorem cnt_step {L C : List Pr} {last : ByteArray} {j : Nat} {p : Pr} (h : CntInv L C last) (hb : BestInv L last L.length (some (j, p))) : CntInv L (C ++ [p]) p.k := by
  obtain ⟨h1, h2, h3, h4⟩ := hb
  have hpl : p ∈ L := List.mem_of_getElem? h2
  refine ⟨fun a b x z hab hbl ha hz => ?_, fun x hx => ?_, fun x hx => ?_, fun x hx hn => ?_, ?_⟩
  · rw [List.length_append, List.length_singleton] at hbl
    by_cases hb : b < C.length
    · rw [List.getElem?_append_left (by omega)] at ha
      rw [List.getElem?_append_left hb] at hz
      exact h.ord a b x z hab hb ha hz
    · obtain rfl : b = C.length := by omega
      rw [List.getElem?_append_left (by omega)] at ha
      simp at hz; subst hz
      have h5 := h.low x (List.mem_of_getElem? ha)
      have h6 := kc_neg last x.k
      by_cases h7 : kc last x.k = 0
      · rw [← kc_zero h7]; exact h3
      · exact kc_trans (show kc x.k last < 0 by omega) h3
  · rcases List.mem_append.1 hx with hx | hx
    · intro hlt
      exact h.low x hx (kc_trans h3 hlt)
    · simp at hx; subst hx; rw [kc_self]; omega
  · rcases List.mem_append.1 hx with hx | hx
    · exact h.mem x hx
    · simp at hx; subst hx
      refine lastP_last h2 fun j' p' hj hp he => ?_
      have hl' : j' < L.length := (List.getElem?_eq_some_iff.1 hp).1
      rcases h4 j' p' hl' hp (by rw [he]; exact h3) with h5 | ⟨_, h5⟩
      · rw [he, kc_self] at h5; omega
      · omega
  · by_cases hlx : kc last x.k < 0
    · obtain ⟨j', hj', rfl⟩ := List.getElem_of_mem hx
      rcases h4 j' _ hj' (List.getElem?_eq_getElem hj') hlx with h5 | ⟨h5, _⟩
      · exact absurd h5 hn
      · exact ⟨p, by simp, h5.symm⟩
    · obtain ⟨c, hc, he⟩ := h.cov x hx hlx
      exact ⟨c, List.mem_append_left _ hc, he⟩
  · rw [List.length_append, List.length_singleton]
    refine Nat.le_trans (Nat.succ_le_succ h.cnt) (countP_less _ _ L (fun x _ hp => ?_) ⟨p, hpl, ?_, ?_⟩)
    · simp only [decide_eq_true_eq] at hp ⊢
      exact fun hlt => hp (kc_trans h3 hlt)
    · simp [kc_self]
    · simp only [decide_eq_false_iff_not, Decidable.not_not]; exact h3

theorem distinct_nodup {L : List Pr} (h : Distinct L) : L.Nodup := by
  rw [List.Nodup, List.pairwise_iff_getElem]
  intro i j hi hj hij he
  have := h i j _ _ (List.getElem?_eq_getElem hi) (List.getElem?_eq_getElem hj) (by rw [he])
  omega

theorem upto_distinct {L : List Pr} (h : Upto L L.length) : Distinct L := by
  intro a b p q ha hb he
  have hal := (List.getElem?_eq_some_iff.1 ha).1
  have hbl := (List.getElem?_eq_some_iff.1 hb).1
  rcases Nat.lt_trichotomy a b with h1 | h1 | h1
  · have := h a b p q h1 hbl ha hb; rw [he, kc_self] at this; omega
  · exact h1
  · have := h b a q p h1 hal hb ha; rw [he, kc_self] at this; omega

theorem same_len {L M : List Pr} (hL : Distinct L) (hM : Distinct M) (h : ∀ p, p ∈ M ↔ p ∈ L) : M.length = L.length := by
  refine List.Perm.length_eq ?_
  rw [List.perm_ext_iff_of_nodup (distinct_nodup hM) (distinct_nodup hL)]
  exact h

theorem cnt_done {L C : List Pr} {last : ByteArray} (h : CntInv L C last) (hall : ∀ p ∈ L, ¬ kc last p.k < 0) : SamePr (keep L) C ∧ Upto C C.length := by
  have hm : ∀ p, p ∈ C ↔ p ∈ keep L := fun p => by
    constructor
    · exact fun hp => keep_mem.2 (h.mem p hp)
    · intro hp
      have h1 := keep_mem.1 hp
      obtain ⟨c, hc, he⟩ := h.cov p (keep_sub hp) (hall p (keep_sub hp))
      have h2 := h.mem c hc
      rw [he, h1] at h2
      cases h2
      exact hc
  exact ⟨⟨same_len (keep_distinct L) (upto_distinct h.ord) hm, hm⟩, h.ord⟩

theorem cnt_none {L C : List Pr} {last : ByteArray} (h : CntInv L C last) (hb : BestInv L last L.length none) : SamePr (keep L) C ∧ Upto C C.length :=
  cnt_done h fun p hp => by
    obtain ⟨j, hj, rfl⟩ := List.getElem_of_mem hp
    exact hb j _ hj (List.getElem?_eq_getElem hj)

theorem cnt_full {L C : List Pr} {last : ByteArray} (h : CntInv L C last) (hl : C.length = L.length) : SamePr (keep L) C ∧ Upto C C.length :=
  cnt_done h fun p hp => by
    have h1 := h.cnt
    have h2 : L.countP (fun p => decide (¬ kc last p.k < 0)) = L.length := Nat.le_antisymm List.countP_le_length (by omega)
    have := (List.countP_eq_length.1 h2) p hp
    simpa using this

/-- Of what counts, all counts. -/
theorem keep_keep {L C M : List Pr} (hC : SamePr (keep L) C) (hu : Upto C C.length) (hM : SamePr (keep L) M) : SamePr (keep C) M := by
  have hd := upto_distinct hu
  have hm : ∀ p, p ∈ keep C ↔ p ∈ C := fun p => by
    constructor
    · exact keep_sub
    · intro hp
      obtain ⟨j, hj, rfl⟩ := List.getElem_of_mem hp
      refine keep_mem.2 (lastP_last (List.getElem?_eq_getElem hj) fun j' p' hjj hp' he => ?_)
      have := hd j' j p' _ hp' (List.getElem?_eq_getElem hj) he
      omega
  refine ⟨?_, fun p => by rw [hM.2, hm, hC.2]⟩
  have h1 := same_len hd (keep_distinct C) hm
  have h2 := hC.1
  have h3 := hM.1
  omega

def Inc (L : List Pr) : Prop := L.Pairwise fun a b => kc a.k b.k < 0

theorem inc_sublist : ∀ {L2 L1 : List Pr}, Inc L1 → Inc L2 → (∀ p ∈ L1, p ∈ L2) → L1.Sublist L2
  | [], L1, _, _, h => by
    cases L1 with
    | nil => exact List.Sublist.refl _
    | cons a L => have := h a (List.mem_cons_self ..); simp at this
  | b :: R, L1, h1, h2, h => by
    obtain ⟨hb, hR⟩ := List.pairwise_cons.1 h2
    cases L1 with
    | nil => exact List.nil_sublist _
    | cons a L =>
      obtain ⟨ha, hL⟩ := List.pairwise_cons.1 h1
      have hm := h a (List.mem_cons_self ..)
      rcases List.mem_cons.1 hm with rfl | hm2
      · refine List.Sublist.cons_cons _ (inc_sublist hL hR fun p hp => ?_)
        rcases List.mem_cons.1 (h p (List.mem_cons_of_mem _ hp)) with rfl | h3
        · have := ha p hp; rw [kc_self] at this; omega
        · exact h3
      · refine List.Sublist.cons _ (inc_sublist h1 hR fun p hp => ?_)
        rcases List.mem_cons.1 hp with rfl | hp
        · exact hm2
        · rcases List.mem_cons.1 (h p (List.mem_cons_of_mem _ hp)) with rfl | h3
          · have h4 := ha p hp
            have h5 := hb a hm2
            have := kc_neg a.k p.k
            omega
          · exact h3

theorem scan_sub {E : List En} {f : ByteArray} {q : Int} {L1 L2 : List Pr} {c1 c2 : Option ByteArray} (h1 : ScanInv E f q L1 c1) (h2 : ScanInv E f q L2 c2) (hc : ∀ b, c2 = some b → ∃ a, c1 = some a ∧ ¬ kc b a < 0) : ∀ p ∈ L1, p ∈ L2 := by
  intro p hp
  obtain ⟨hg, hs, hf, hlt⟩ := h1.seen p hp
  have hs' := hs
  unfold sk at hs'
  cases hfn : fnd E p.k q with
  | none => rw [hfn] at hs'; cases hs'
  | some e =>
    have hem := List.mem_of_find?_eq_some hfn
    have hek := List.find?_some hfn
    simp only [decide_eq_true_eq] at hek
    have := h2.all e hem (by rw [hek.1]; exact hf) (fun b hb => by
      obtain ⟨a, ha, hab⟩ := hc b hb
      have h5 := hlt a ha
      rw [hek.1]
      by_cases h6 : kc a b < 0
      · exact kc_trans h5 h6
      · have h7 := kc_neg a b
        rw [← kc_zero (show kc a b = 0 by omega)]
        exact h5) p.v (by rw [hek.1]; exact hs)
    rw [hek.1] at this
    obtain ⟨k, v, g⟩ := p
    simp only at hg this
    subst hg
    exact this

theorem scan_half {E : List En} {f : ByteArray} {q most : Int} {L1 L2 : List Pr} {c1 c2 : Option ByteArray} (h1 : ScanInv E f q L1 c1) (h2 : ScanInv E f q L2 c2) (hc : ∀ b, c2 = some b → ∃ a, c1 = some a ∧ ¬ kc b a < 0)
    (s1 : c1 = none ∨ most ≤ L1.length) (m2 : (L2.length : Int) ≤ most) : L1 = L2 := by
  have hsub := inc_sublist h1.ord h2.ord (scan_sub h1 h2 hc)
  refine hsub.eq_of_length_le ?_
  rcases s1 with rfl | s1
  · have hc2 : c2 = none := by
      cases c2 with
      | none => rfl
      | some b => obtain ⟨a, ha, _⟩ := hc b rfl; cases ha
    subst hc2
    exact (inc_sublist h2.ord h1.ord (scan_sub h2 h1 fun b hb => by cases hb)).length_le
  · omega

theorem scan_unique {E : List En} {f : ByteArray} {q most : Int} {L1 L2 : List Pr} {c1 c2 : Option ByteArray} (h1 : ScanInv E f q L1 c1) (h2 : ScanInv E f q L2 c2)
    (s1 : c1 = none ∨ most ≤ L1.length) (m1 : (L1.length : Int) ≤ most) (s2 : c2 = none ∨ most ≤ L2.length) (m2 : (L2.length : Int) ≤ most) : L1 = L2 := by
  match c1, c2, h1, h2, s1, s2 with
  | _, none, h1, h2, s1, s2 => exact scan_half h1 h2 (fun b hb => by cases hb) s1 m2
  | none, some b, h1, h2, s1, s2 => exact (scan_half h2 h1 (fun b hb => by cases hb) s2 m1).symm
  | some a, some b, h1, h2, s1, s2 =>
    by_cases h : kc b a < 0
    · refine (scan_half h2 h1 (fun c hc => ?_) s2 m1).symm
      cases hc
      have := kc_neg a b
      exact ⟨b, rfl, by omega⟩
    · exact scan_half h1 h2 (fun c hc => by cases hc; exact ⟨a, rfl, h⟩) s1 m2
end Go.Proofs.YtakipjofboipmaaGreat

/- Plain mathematics of this proof: the bytes of a record and its ceiling; which records a text begins with. -/
namespace Go.Proofs.YtakipjofboipmaaGreat

/-- A pair that may stand in a batch. -/
structure PrOk (p : Pr) : Prop where
  lo : 1 ≤ p.k.size
  hi : p.k.size ≤ 6
  val : p.v.size ≤ 8
  gone : p.g = true → p.v = ⟨#[]⟩

/-- What a batch makes of a pair. -/
def toEn (s : Int) (p : Pr) : En := ⟨p.k, s, p.g, p.v⟩

/-- Bytes as cells. -/
def bcells (l : List UInt8) : List Value := l.map fun b => .int .u8 b.toNat

theorem bcells_len (l : List UInt8) : (bcells l).length = l.length := List.length_map _
theorem bcells_append (a b : List UInt8) : bcells (a ++ b) = bcells a ++ bcells b := List.map_append

/-- One bit of the ceiling. -/
def st1 (c : BitVec 32) : BitVec 32 := if c.getLsbD 0 then (c >>> 1) ^^^ 3988292384#32 else c >>> 1
def itS : Nat → BitVec 32 → BitVec 32
  | 0, c => c
  | n + 1, c => st1 (itS n c)
/-- The ceiling's state behind some bytes. -/
def crc : BitVec 32 → List UInt8 → BitVec 32
  | c, [] => c
  | c, b :: r => crc (itS 8 (c ^^^ BitVec.ofNat 32 b.toNat)) r
def ceil (l : List UInt8) : BitVec 32 := ~~~ (crc 4294967295#32 l)

theorem crc_append (c : BitVec 32) (l r : List UInt8) : crc c (l ++ r) = crc (crc c l) r := by
  induction l generalizing c with
  | nil => rfl
  | cons b l ih => exact ih _

theorem shr_inj {c d : BitVec 32} (h0 : c.getLsbD 0 = d.getLsbD 0) (h : c >>> 1 = d >>> 1) : c = d := by
  refine BitVec.eq_of_getLsbD_eq fun i hi => ?_
  cases i with
  | zero => exact h0
  | succ i =>
    have := congrArg (fun x => x.getLsbD i) h
    simpa only [BitVec.getLsbD_ushiftRight, Nat.add_comm] using this

theorem st1_inj {c d : BitVec 32} (h : st1 c = st1 d) : c = d := by
  unfold st1 at h
  have top : ∀ x : BitVec 32, (x >>> 1).getLsbD 31 = false := fun x => by
    rw [BitVec.getLsbD_ushiftRight]; exact BitVec.getLsbD_of_ge _ _ (by omega)
  have tt : (3988292384#32).getLsbD 31 = true := by decide
  by_cases hc : c.getLsbD 0 <;> by_cases hd : d.getLsbD 0
  · simp only [hc, hd, if_true] at h
    exact shr_inj (by rw [hc, hd]) ((BitVec.xor_left_inj _).1 h)
  · simp only [hc, hd, if_true] at h
    have := congrArg (fun x => x.getLsbD 31) h
    simp only [BitVec.getLsbD_xor, top, tt, Bool.false_eq_true, if_false] at this
    simp at this
  · simp only [hc, hd, if_true] at h
    have := congrArg (fun x => x.getLsbD 31) h
    simp only [BitVec.getLsbD_xor, top, tt, Bool.false_eq_true, if_false] at this
    simp at this
  · simp only [hc, hd, Bool.false_eq_true, if_false] at h
    exact shr_inj (by simp only [Bool.not_eq_true] at hc hd; rw [hc, hd]) h

theorem itS_inj : ∀ (n : Nat) {c d : BitVec 32}, itS n c = itS n d → c = d
  | 0, _, _, h => h
  | n + 1, _, _, h => itS_inj n (st1_inj h)

theorem crc_inj : ∀ (l : List UInt8) {c d : BitVec 32}, crc c l = crc d l → c = d
  | [], _, _, h => h
  | b :: l, c, d, h => by
    have := itS_inj 8 (crc_inj l h)
    exact (BitVec.xor_left_inj _).1 this

/-- The ceiling tells one byte from another. -/
theorem ceil_byte {l r : List UInt8} {a b : UInt8} (h : ceil (l ++ a :: r) = ceil (l ++ b :: r)) : a = b := by
  unfold ceil at h
  have h := BitVec.not_inj.1 h
  rw [crc_append, crc_append] at h
  have h := (BitVec.xor_right_inj _).1 (itS_inj 8 (crc_inj r h))
  have h := congrArg BitVec.toNat h
  simp only [BitVec.toNat_ofNat] at h
  have ha := a.toNat_lt
  have hb := b.toNat_lt
  rw [Nat.mod_eq_of_lt (by omega), Nat.mod_eq_of_lt (by omega)] at h
  exact UInt8.toNat_inj.1 h

/-- A text with its length ahead. -/
def txB (s : ByteArray) : List UInt8 := UInt8.ofNat s.size :: s.data.toList
def prB (p : Pr) : List UInt8 := if p.g then 1 :: txB p.k else 0 :: (txB p.k ++ txB p.v)
def num4 (c : BitVec 32) : List UInt8 := [UInt8.ofNat c.toNat, UInt8.ofNat (c.toNat / 256), UInt8.ofNat (c.toNat / 65536), UInt8.ofNat (c.toNat / 16777216)]
def bodyB (M : List Pr) : List UInt8 := UInt8.ofNat M.length :: M.flatMap prB
/-- The record of a batch. -/
def recB (M : List Pr) : List UInt8 := bodyB M ++ num4 (ceil (bodyB M))

theorem num4_inj {c d : BitVec 32} (h : num4 c = num4 d) : c = d := by
  unfold num4 at h
  simp only [List.cons.injEq, and_true] at h
  obtain ⟨h0, h1, h2, h3⟩ := h
  have e0 := congrArg UInt8.toNat h0
  have e1 := congrArg UInt8.toNat h1
  have e2 := congrArg UInt8.toNat h2
  have e3 := congrArg UInt8.toNat h3
  simp only [UInt8.toNat_ofNat'] at e0 e1 e2 e3
  refine BitVec.eq_of_toNat_eq ?_
  have := c.isLt
  have := d.isLt
  omega

/-- A batch as it counts: few pairs, in order. -/
structure Bt (M : List Pr) : Prop where
  lo : 1 ≤ M.length
  hi : M.length ≤ 4
  ok : ∀ p ∈ M, PrOk p
  up : Upto M M.length

theorem txB_len (s : ByteArray) : (txB s).length = s.size + 1 := by
  rw [txB, List.length_cons, Array.length_toList, ByteArray.size_data]
theorem prB_len {p : Pr} (h : PrOk p) : 3 ≤ (prB p).length ∧ (prB p).length ≤ 17 := by
  have := h.lo; have := h.hi; have := h.val
  unfold prB
  split <;> simp only [List.length_cons, List.length_append, txB_len] <;> omega

theorem flat_bounds {α β : Type} (f : α → List β) (a b : Nat) : ∀ l : List α, (∀ x ∈ l, a ≤ (f x).length ∧ (f x).length ≤ b) → l.length * a ≤ (l.flatMap f).length ∧ (l.flatMap f).length ≤ l.length * b
  | [], _ => by simp
  | x :: l, h => by
    have h1 := h x List.mem_cons_self
    have h2 := flat_bounds f a b l fun y hy => h y (List.mem_cons_of_mem _ hy)
    simp only [List.flatMap_cons, List.length_append, List.length_cons, Nat.add_mul, Nat.one_mul]
    omega

theorem bodyB_len {M : List Pr} (h : Bt M) : 4 ≤ (bodyB M).length ∧ (bodyB M).length ≤ 69 := by
  have := flat_bounds prB 3 17 M fun p hp => prB_len (h.ok p hp)
  have := h.lo; have := h.hi
  simp only [bodyB, List.length_cons]
  omega

theorem recB_len {M : List Pr} (h : Bt M) : 8 ≤ (recB M).length ∧ (recB M).length ≤ 73 := by
  have := bodyB_len h
  simp only [recB, List.length_append, num4, List.length_cons, List.length_nil]
  omega

/-- A byte taken as a number. -/
def tNum : List UInt8 → Nat
  | [] => 0
  | b :: _ => b.toNat
/-- A text taken, and what is left. -/
def tTxt (t : List UInt8) : List UInt8 × List UInt8 := ((t.drop 1).take (tNum t), (t.drop 1).drop (tNum t))
/-- A pair taken, and what is left. -/
def tPair (t : List UInt8) : Pr × List UInt8 :=
  if tNum t = 0 then (⟨⟨(tTxt (t.drop 1)).1.toArray⟩, ⟨(tTxt (tTxt (t.drop 1)).2).1.toArray⟩, false⟩, (tTxt (tTxt (t.drop 1)).2).2)
  else (⟨⟨(tTxt (t.drop 1)).1.toArray⟩, ⟨#[]⟩, true⟩, (tTxt (t.drop 1)).2)
/-- Some pairs taken, one behind the other. -/
def tPs : Nat → List UInt8 → List Pr × List UInt8
  | 0, t => ([], t)
  | n + 1, t => ((tPs n t).1 ++ [(tPair (tPs n t).2).1], (tPair (tPs n t).2).2)
def takeP (t : List UInt8) : List Pr := (tPs (tNum t) (t.drop 1)).1

theorem tTxt_txB {s : ByteArray} (h : s.size < 256) (r : List UInt8) : tTxt (txB s ++ r) = (s.data.toList, r) := by
  have e : (UInt8.ofNat s.size).toNat = s.data.toList.length := by
    rw [UInt8.toNat_ofNat', Nat.mod_eq_of_lt (by omega), Array.length_toList, ByteArray.size_data]
  unfold tTxt txB
  simp only [List.cons_append, tNum, List.drop_succ_cons, List.drop_zero, e, List.take_left, List.drop_left]

theorem ba_eta (s : ByteArray) : (⟨s.data.toList.toArray⟩ : ByteArray) = s := by cases s; simp

theorem tPair_prB {p : Pr} (h : PrOk p) (r : List UInt8) : tPair (prB p ++ r) = (p, r) := by
  have := h.hi; have := h.val
  obtain ⟨k, v, g⟩ := p
  cases g with
  | true =>
    have hv := h.gone rfl
    simp only at hv
    subst hv
    simp only [prB, if_true, List.cons_append, tPair, tNum, List.drop_succ_cons, List.drop_zero]
    rw [tTxt_txB (by simp only at *; omega)]
    simp
  | false =>
    simp only [prB, Bool.false_eq_true, if_false, List.cons_append, tPair, tNum, List.drop_succ_cons, List.drop_zero, List.append_assoc]
    rw [tTxt_txB (by simp only at *; omega)]
    simp only
    rw [tTxt_txB (by simp only at *; omega)]
    simp

theorem tPs_flat : ∀ (n : Nat) (M : List Pr), (∀ p ∈ M, PrOk p) → n ≤ M.length → ∀ r, tPs n (M.flatMap prB ++ r) = (M.take n, (M.drop n).flatMap prB ++ r)
  | 0, M, _, _, r => by simp [tPs]
  | n + 1, M, ok, hn, r => by
    have ih := tPs_flat n M ok (by omega) r
    unfold tPs
    rw [ih]
    simp only
    have hd : M.drop n = M[n] :: M.drop (n + 1) := List.drop_eq_getElem_cons (by omega)
    rw [hd, List.flatMap_cons, List.append_assoc, tPair_prB (ok _ (List.getElem_mem _))]
    simp only [Prod.mk.injEq, and_true]
    rw [List.take_add_one, List.getElem?_eq_getElem (by omega)]
    rfl

theorem takeP_rec {M : List Pr} (h : Bt M) (r : List UInt8) : takeP (recB M ++ r) = M := by
  unfold takeP recB bodyB
  have e : (UInt8.ofNat M.length).toNat = M.length := by
    rw [UInt8.toNat_ofNat', Nat.mod_eq_of_lt (by have := h.hi; omega)]
  simp only [List.cons_append, tNum, List.drop_succ_cons, List.drop_zero, e, List.append_assoc]
  rw [tPs_flat M.length M h.ok (Nat.le_refl _)]
  simp

theorem takeP_pre {M : List Pr} {t : List UInt8} (h : Bt M) (hp : recB M <+: t) : takeP t = M := by
  obtain ⟨r, rfl⟩ := hp
  exact takeP_rec h r

/-- No record begins there. -/
def NoRec (t : List UInt8) : Prop := ∀ N, Bt N → ¬ recB N <+: t

/-- The records that a text begins with. -/
structure Reads (t : List UInt8) (Bs : List (List Pr)) : Prop where
  all : ∀ b ∈ Bs, Bt b
  pre : Bs.flatMap recB <+: t
  non : NoRec (t.drop (Bs.flatMap recB).length)

theorem Reads.unique {t : List UInt8} {As Bs : List (List Pr)} (h : Reads t As) (k : Reads t Bs) : As = Bs := by
  induction As generalizing t Bs with
  | nil =>
    cases Bs with
    | nil => rfl
    | cons b Bs =>
      obtain ⟨r, hr⟩ := k.pre
      exact absurd ⟨Bs.flatMap recB ++ r, by simpa using hr⟩ (h.non b (k.all b List.mem_cons_self))
  | cons a As ih =>
    obtain ⟨r, hr⟩ := h.pre
    cases Bs with
    | nil => exact absurd ⟨As.flatMap recB ++ r, by simpa using hr⟩ (k.non a (h.all a List.mem_cons_self))
    | cons b Bs =>
      obtain ⟨r2, hr2⟩ := k.pre
      simp only [List.flatMap_cons, List.append_assoc] at hr hr2
      have ha := h.all a List.mem_cons_self
      have hb := k.all b List.mem_cons_self
      have e1 := takeP_rec ha (As.flatMap recB ++ r)
      have e2 := takeP_rec hb (Bs.flatMap recB ++ r2)
      rw [hr] at e1
      rw [hr2] at e2
      obtain rfl : a = b := e1.symm.trans e2
      congr 1
      refine ih (t := As.flatMap recB ++ r) ⟨fun x hx => h.all x (List.mem_cons_of_mem _ hx), ⟨r, rfl⟩, ?_⟩ ⟨fun x hx => k.all x (List.mem_cons_of_mem _ hx), ⟨r2, ?_⟩, ?_⟩
      · have := h.non
        rw [← hr, List.flatMap_cons, ← List.append_assoc, List.drop_left'] at this
        · rw [List.drop_left' rfl]; exact this
        · simp
      · exact List.append_cancel_left (hr2.trans hr.symm)
      · have e3 : Bs.flatMap recB ++ r2 = As.flatMap recB ++ r := List.append_cancel_left (hr2.trans hr.symm)
        have := k.non
        rw [← hr2, List.flatMap_cons, ← List.append_assoc, List.drop_left'] at this
        · rw [← e3, List.drop_left' rfl]; exact this
        · simp

/-- How many bytes some records have. -/
def rl (B : List (List Pr)) : Nat := (B.flatMap recB).length

theorem rl_take_le (B : List (List Pr)) (n : Nat) : rl (B.take n) ≤ rl B := by
  unfold rl
  conv => rhs; rw [← List.take_append_drop n B]
  rw [List.flatMap_append, List.length_append]
  omega

/-- What is left of records that were cut short. -/
theorem reads_take {B : List (List Pr)} (hB : ∀ b ∈ B, Bt b) : ∀ (m : Nat), m ≤ rl B → ∃ j, j ≤ B.length ∧ rl (B.take j) ≤ m ∧ (∀ i, i ≤ B.length → rl (B.take i) ≤ m → i ≤ j) ∧ Reads ((B.flatMap recB).take m) (B.take j) := by
  induction B with
  | nil =>
    intro m hm
    have : m = 0 := by simpa [rl] using hm
    subst this
    exact ⟨0, Nat.le_refl _, by simp [rl], fun i hi _ => hi, by simp, by simp, fun N hN hp => by
      have h1 := hp.length_le; have := recB_len hN; simp only [List.take_zero, List.drop_nil, List.length_nil] at h1; omega⟩
  | cons b B ih =>
    intro m hm
    have hb := hB b List.mem_cons_self
    have hl := recB_len hb
    have hrl : rl (b :: B) = (recB b).length + rl B := by simp [rl]
    by_cases h : m < (recB b).length
    · refine ⟨0, Nat.zero_le _, by simp [rl], fun i hi hle => ?_, by simp, by simp, fun N hN hp => ?_⟩
      · cases i with
        | zero => exact Nat.le_refl _
        | succ i => simp [rl] at hle; omega
      · simp only [List.take_zero, List.flatMap_nil, List.length_nil, List.drop_zero, List.flatMap_cons] at hp
        have hlen := hp.length_le
        have e1 := takeP_pre hN (hp.trans (List.take_prefix _ _))
        rw [takeP_rec hb] at e1
        subst e1
        simp at hlen
        omega
    · obtain ⟨j, hj, hle, hmax, hr⟩ := ih (fun x hx => hB x (List.mem_cons_of_mem _ hx)) (m - (recB b).length) (by omega)
      refine ⟨j + 1, by simp; omega, ?_, fun i hi hle' => ?_, ?_⟩
      · rw [List.take_succ_cons]
        have : rl (b :: B.take j) = (recB b).length + rl (B.take j) := by simp [rl]
        omega
      · cases i with
        | zero => omega
        | succ i =>
          rw [List.take_succ_cons] at hle'
          have : rl (b :: B.take i) = (recB b).length + rl (B.take i) := by simp [rl]
          have := hmax i (by simp at hi; omega) (by omega)
          omega
      · have e : ((b :: B).flatMap recB).take m = recB b ++ (B.flatMap recB).take (m - (recB b).length) := by
          rw [List.flatMap_cons, List.take_append, List.take_of_length_le (by omega)]
        rw [e, List.take_succ_cons]
        obtain ⟨r, hr'⟩ := hr.pre
        refine ⟨fun x hx => ?_, ⟨r, ?_⟩, ?_⟩
        · rcases List.mem_cons.1 hx with rfl | hx
          · exact hb
          · exact hr.all x hx
        · rw [List.flatMap_cons, List.append_assoc, hr']
        · have := hr.non
          rw [List.flatMap_cons, List.length_append, ← List.drop_drop, List.drop_left' rfl]
          exact this

end Go.Proofs.YtakipjofboipmaaGreat
