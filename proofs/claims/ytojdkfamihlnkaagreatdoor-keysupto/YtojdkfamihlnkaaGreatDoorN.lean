/- Plain mathematics of this proof: what a scan gathers. -/
import Derived.Test.YtojdkfamihlnkaaGreatDoorM
namespace Go.Proofs.YtojdkfamihlnkaaGreatDoor

/-- A pair. -/
structure Pr where
  k : ByteArray
  v : ByteArray
  g : Bool

/-- What is seen of a key at a number. -/
def sk (E : List En) (k : ByteArray) (q : Int) : Option ByteArray :=
  match fnd E k q with
  | some e => if e.g then none else some e.v
  | none => none

theorem kc_nul (c x : ByteArray) : 0 ≤ kc x (c ++ nul) ↔ kc c x < 0 := by
  unfold kc
  rw [ByteArray.data_append, Array.toList_append]
  exact cb_nul _ _

theorem nxt_some {E : List En} (hs : Sorted E) {f : ByteArray} {e : En} (h : nxt E f = some e) : e ∈ E ∧ 0 ≤ kc e.k f ∧ ∀ x ∈ E, 0 ≤ kc x.k f → 0 ≤ kc x.k e.k := by
  obtain ⟨h1, i, hi, he, hj⟩ := List.find?_eq_some_iff_getElem.1 h
  refine ⟨by rw [← he]; exact List.getElem_mem hi, by simpa using h1, fun x hx h0 => ?_⟩
  obtain ⟨j, hj', rfl⟩ := List.getElem_of_mem hx
  rcases Nat.lt_trichotomy j i with g | g | g
  · have := hj j g; simp at this; omega
  · subst g; rw [he, kc_self]; omega
  · have := sorted_lt hs g hj'
    unfold elt at this
    rw [oc_lt, he] at this
    rcases this with g2 | g2
    · have := kc_neg e.k (E[j]).k; omega
    · rw [g2.1, kc_self]; omega

theorem nxt_none {E : List En} {f : ByteArray} (h : nxt E f = none) : ∀ x ∈ E, kc x.k f < 0 := fun x hx => by
  have := List.find?_eq_none.1 h x hx
  simp at this; omega

theorem countP_less {α : Type} (p q : α → Bool) : ∀ (l : List α), (∀ x ∈ l, p x = true → q x = true) → (∃ x ∈ l, q x = true ∧ p x = false) → l.countP p + 1 ≤ l.countP q
  | [], _, ⟨_, h, _⟩ => by simp at h
  | a :: l, h, ⟨x, hx, hq, hp⟩ => by
    have hmono : l.countP p ≤ l.countP q := List.countP_mono_left fun y hy => h y (List.mem_cons_of_mem _ hy)
    rcases List.mem_cons.1 hx with rfl | hx'
    · simp [hq, hp]; exact hmono
    · have ih := countP_less p q l (fun y hy => h y (List.mem_cons_of_mem _ hy)) ⟨x, hx', hq, hp⟩
      have ha := h a (List.mem_cons_self ..)
      simp only [List.countP_cons]
      by_cases pa : p a = true
      · simp [pa, ha pa]; omega
      · by_cases qa : q a = true <;> simp [pa, qa] <;> omega

/-- How many entries are left from a key on. -/
def cnt (E : List En) : Option ByteArray → Nat
  | some c => E.countP fun e => decide (0 ≤ kc e.k c)
  | none => 0

/-- What a scan has gathered, standing at a key. -/
structure ScanInv (E : List En) (f : ByteArray) (q : Int) (L : List Pr) (cur : Option ByteArray) : Prop where
  ord : L.Pairwise fun a b => kc a.k b.k < 0
  seen : ∀ p ∈ L, p.g = false ∧ sk E p.k q = some p.v ∧ 0 ≤ kc p.k f ∧ ∀ c, cur = some c → kc p.k c < 0
  all : ∀ e ∈ E, 0 ≤ kc e.k f → (∀ c, cur = some c → kc e.k c < 0) → ∀ x, sk E e.k q = some x → ⟨e.k, x, false⟩ ∈ L
  here : ∀ c, cur = some c → 0 ≤ kc c f ∧ ∃ e ∈ E, e.k = c
  len : L.length + cnt E cur ≤ E.length

theorem scan_start {E : List En} (hs : Sorted E) (f : ByteArray) (q : Int) : ScanInv E f q [] ((nxt E f).map (·.k)) := by
  refine ⟨List.Pairwise.nil, fun p hp => by simp at hp, fun e he h0 hlt x hx => ?_, fun c hc => ?_, ?_⟩
  · cases hn : nxt E f with
    | none => have := nxt_none hn e he; omega
    | some y =>
      have h1 := hlt y.k (by simp [hn])
      have h2 := (nxt_some hs hn).2.2 e he h0
      omega
  · cases hn : nxt E f with
    | none => simp [hn] at hc
    | some y =>
      simp [hn] at hc; subst hc
      have h := nxt_some hs hn
      exact ⟨h.2.1, y, h.1, rfl⟩
  · cases (nxt E f).map (·.k) with
    | none => simp [cnt]
    | some c => simp [cnt]; exact List.countP_le_length

/-- One key further. -/
theorem scan_step {E : List En} (hs : Sorted E) {f : ByteArray} {q : Int} {L : List Pr} {c : ByteArray} (h : ScanInv E f q L (some c)) :
    ScanInv E f q (match sk E c q with | some x => L ++ [⟨c, x, false⟩] | none => L) ((nxt E (c ++ nul)).map (·.k)) := by
  obtain ⟨hcf, e0, he0, hk0⟩ := h.here c rfl
  have hnx : ∀ c', (nxt E (c ++ nul)).map (·.k) = some c' → kc c c' < 0 ∧ (∃ e ∈ E, e.k = c') ∧ ∀ x ∈ E, kc c x.k < 0 → 0 ≤ kc x.k c' := by
    intro c' hc'
    cases hn : nxt E (c ++ nul) with
    | none => simp [hn] at hc'
    | some y =>
      simp [hn] at hc'; subst hc'
      have g := nxt_some hs hn
      exact ⟨(kc_nul c y.k).1 g.2.1, ⟨y, g.1, rfl⟩, fun x hx hlt => g.2.2 x hx ((kc_nul c x.k).2 hlt)⟩
  have hno : (nxt E (c ++ nul)).map (·.k) = none → ∀ x ∈ E, ¬ kc c x.k < 0 := by
    intro hn x hx hlt
    have hn' : nxt E (c ++ nul) = none := by simpa using hn
    have := nxt_none hn' x hx
    have := (kc_nul c x.k).2 hlt
    omega
  have hless : L.length + 1 + cnt E ((nxt E (c ++ nul)).map (·.k)) ≤ E.length := by
    have h1 := h.len
    cases hn : (nxt E (c ++ nul)).map (·.k) with
    | none =>
      simp only [cnt] at h1 ⊢
      have : 0 < E.countP fun e => decide (0 ≤ kc e.k c) := List.countP_pos_iff.2 ⟨e0, he0, by simp [hk0, kc_self]⟩
      omega
    | some c' =>
      simp only [cnt] at h1 ⊢
      have hlt := (hnx c' hn).1
      have := countP_less (fun e : En => decide (0 ≤ kc e.k c')) (fun e : En => decide (0 ≤ kc e.k c)) E (fun x hx hp => by
          simp at hp ⊢
          by_cases g : 0 ≤ kc x.k c
          · exact g
          · have := kc_trans (show kc x.k c < 0 by omega) hlt; omega) ⟨e0, he0, by simp [hk0, kc_self], by simp [hk0]; exact hlt⟩
      omega
  have hltc : ∀ e ∈ E, (∀ c', (nxt E (c ++ nul)).map (·.k) = some c' → kc e.k c' < 0) → kc e.k c < 0 ∨ e.k = c := by
    intro e he hall
    by_cases g : kc c e.k < 0
    · exfalso
      cases hn : (nxt E (c ++ nul)).map (·.k) with
      | none => exact hno hn e he g
      | some c' =>
        have := (hnx c' hn).2.2 e he g
        have := hall c' hn
        omega
    · by_cases g0 : kc c e.k = 0
      · exact .inr (kc_zero g0).symm
      · left; rw [kc_neg]; omega
  have hwas : ∀ p ∈ L, ∀ c', (nxt E (c ++ nul)).map (·.k) = some c' → kc p.k c' < 0 := fun p hp c' hc' => kc_trans ((h.seen p hp).2.2.2 c rfl) (hnx c' hc').1
  have hhere : ∀ c', (nxt E (c ++ nul)).map (·.k) = some c' → 0 ≤ kc c' f ∧ ∃ e ∈ E, e.k = c' := fun c' hc' => by
    refine ⟨?_, (hnx c' hc').2.1⟩
    by_cases g : 0 ≤ kc c' f
    · exact g
    · have := kc_trans (hnx c' hc').1 (show kc c' f < 0 by omega); omega
  cases hsk : sk E c q with
  | none =>
    refine ⟨h.ord, fun p hp => ⟨(h.seen p hp).1, (h.seen p hp).2.1, (h.seen p hp).2.2.1, hwas p hp⟩, fun e he h0 hall x hx => ?_, hhere, by simp only; omega⟩
    rcases hltc e he hall with g | g
    · exact h.all e he h0 (fun c' hc' => by simp at hc'; subst hc'; exact g) x hx
    · rw [g, hsk] at hx; cases hx
  | some y =>
    refine ⟨?_, fun p hp => ?_, fun e he h0 hall x hx => ?_, hhere, by simp only [List.length_append, List.length_cons, List.length_nil]; omega⟩
    · refine List.pairwise_append.2 ⟨h.ord, by simp, fun a ha b hb => ?_⟩
      simp at hb; subst hb
      exact (h.seen a ha).2.2.2 c rfl
    · rcases List.mem_append.1 hp with hp | hp
      · exact ⟨(h.seen p hp).1, (h.seen p hp).2.1, (h.seen p hp).2.2.1, hwas p hp⟩
      · simp at hp; subst hp
        exact ⟨rfl, hsk, hcf, fun c' hc' => (hnx c' hc').1⟩
    · rcases hltc e he hall with g | g
      · exact List.mem_append_left _ (h.all e he h0 (fun c' hc' => by simp at hc'; subst hc'; exact g) x hx)
      · rw [g, hsk] at hx; cases hx
        rw [g]; simp

/-- The cells of pairs, of entries. -/
def Pr.cells (p : Pr) : List Value := [.string p.k, .string p.v, .bool p.g]
def pcells (l : List Pr) : List Value := l.flatMap Pr.cells
def En.cells (e : En) : List Value := [.string e.k, .int .i64 e.s, .bool e.g, .string e.v]
def ecells (l : List En) : List Value := l.flatMap En.cells

theorem flat_len {α β : Type} (f : α → List β) (n : Nat) (hf : ∀ a, (f a).length = n) : ∀ l : List α, (l.flatMap f).length = l.length * n
  | [] => by simp
  | a :: l => by simp [flat_len f n hf l, hf, Nat.add_mul]; omega

theorem flat_get {α β : Type} (f : α → List β) (n : Nat) (hf : ∀ a, (f a).length = n) : ∀ (l : List α) (j : Nat) (a : α) (i : Nat), l[j]? = some a → i < n → (l.flatMap f)[j * n + i]? = (f a)[i]?
  | [], _, _, _, h, _ => by simp at h
  | b :: l, 0, a, i, h, hi => by
    simp at h; subst h
    rw [List.flatMap_cons, Nat.zero_mul, Nat.zero_add, List.getElem?_append_left (by rw [hf]; exact hi)]
  | b :: l, j + 1, a, i, h, hi => by
    rw [List.flatMap_cons, List.getElem?_append_right (by rw [hf, Nat.add_mul]; omega), hf, show (j + 1) * n + i - n = j * n + i by rw [Nat.add_mul]; omega]
    exact flat_get f n hf l j a i (by simpa using h) hi

end Go.Proofs.YtojdkfamihlnkaaGreatDoor
