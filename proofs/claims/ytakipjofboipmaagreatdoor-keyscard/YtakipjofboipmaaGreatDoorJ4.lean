/- Plain mathematics of this proof: what a scan gathers. -/
import Derived.Test.YtakipjofboipmaaGreatDoorJ2
namespace Go.Proofs.YtakipjofboipmaaGreatDoor

/-- A pair. -/
structure Pr where
  k : ByteArray
  v : ByteArray
  g : Bool

/-- What is seen of a key at a number. -/
def sk (E : List En) (k : ByteArray) (q : Int) : Option ByteArray :=
  match fnd E k q with
  | some e => if e.g then none else some e.v
  | none => none

theorem kc_nul (c x : ByteArray) : 0 ≤ kc x (c ++ nul) ↔ kc c x < 0 := by
  unfold kc
  rw [ByteArray.data_append, Array.toList_append]
  exact cb_nul _ _

theorem nxt_some {E : List En} (hs : Sorted E) {f : ByteArray} {e : En} (h : nxt E f = some e) : e ∈ E ∧ 0 ≤ kc e.k f ∧ ∀ x ∈ E, 0 ≤ kc x.k f → 0 ≤ kc x.k e.k := by
  obtain ⟨h1, i, hi, he, hj⟩ := List.find?_eq_some_iff_getElem.1 h
  refine ⟨by rw [← he]; exact List.getElem_mem hi, by simpa using h1, fun x hx h0 => ?_⟩
  obtain ⟨j, hj', rfl⟩ := List.getElem_of_mem hx
  rcases Nat.lt_trichotomy j i with g | g | g
  · have := hj j g; simp at this; omega
  · subst g; rw [he, kc_self]; omega
  · have := sorted_lt hs g hj'
    unfold elt at this
    rw [oc_lt, he] at this
    rcases this with g2 | g2
    · have := kc_neg e.k (E[j]).k; omega
    · rw [g2.1, kc_self]; omega

theorem nxt_none {E : List En} {f : ByteArray} (h : nxt E f = none) : ∀ x ∈ E, kc x.k f < 0 := fun x hx => by
  have := List.find?_eq_none.1 h x hx
  simp at this; omega

theorem countP_less {α : Type} (p q : α → Bool) : ∀ (l : List α), (∀ x ∈ l, p x = true → q x = true) → (∃ x ∈ l, q x = true ∧ p x = false) → l.countP p + 1 ≤ l.countP q
  | [], _, ⟨_, h, _⟩ => by simp at h
  | a :: l, h, ⟨x, hx, hq, hp⟩ => by
    have hmono : l.countP p ≤ l.countP q := List.countP_mono_left fun y hy => h y (List.mem_cons_of_mem _ hy)
    rcases List.mem_cons.1 hx with rfl | hx'
    · simp [hq, hp]; exact hmono
    · have ih := countP_less p q l (fun y hy => h y (List.mem_cons_of_mem _ hy)) ⟨x, hx', hq, hp⟩
      have ha := h a (List.mem_cons_self ..)
      simp only [List.countP_cons]
      by_cases pa : p a = true
      · simp [pa, ha pa]; omega
      · by_cases qa : q a = true <;> simp [pa, qa] <;> omega

/-- How many entries are left from a key on. -/
def cnt (E : List En) : Option ByteArray → Nat
  | some c => E.countP fun e => decide (0 ≤ kc e.k c)
  | none => 0

/-- What a scan has gathered, standing at a key. -/
structure ScanInv (E : List En) (f : ByteArray) (q : Int) (L : List Pr) (cur : Option ByteArray) : Prop where
  ord : L.Pairwise fun a b => kc a.k b.k < 0
  seen : ∀ p ∈ L, p.g = false ∧ sk E p.k q = some p.v ∧ 0 ≤ kc p.k f ∧ ∀ c, cur = some c → kc p.k c < 0
  all : ∀ e ∈ E, 0 ≤ kc e.k f → (∀ c, cur = some c → kc e.k c < 0) → ∀ x, sk E e.k q = some x → ⟨e.k, x, false⟩ ∈ L
  here : ∀ c, cur = some c → 0 ≤ kc c f ∧ ∃ e ∈ E, e.k = c
  len : L.length + cnt E cur ≤ E.length

theorem scan_start {E : List En} (hs : Sorted E) (f : ByteArray) (q : Int) : ScanInv E f q [] ((nxt E f).map (·.k)) := by
  refine ⟨List.Pairwise.nil, fun p hp => by simp at hp, fun e he h0 hlt x hx => ?_, fun c hc => ?_, ?_⟩
  · cases hn : nxt E f with
    | none => have := nxt_none hn e he; omega
    | some y =>
      have h1 := hlt y.k (by simp [hn])
      have h2 := (nxt_some hs hn).2.2 e he h0
      omega
  · cases hn : nxt E f with
    | none => simp [hn] at hc
    | some y =>
      simp [hn] at hc; subst hc
      have h := nxt_some hs hn
      exact ⟨h.2.1, y, h.1, rfl⟩
  · cases (nxt E f).map (·.k) with
    | none => simp [cnt]
    | some c => simp [cnt]; exact List.countP_le_length

/-- One key further. -/
theorem scan_step {E : List En} (hs : Sorted E) {f : ByteArray} {q : Int} {L : List Pr} {c : ByteArray} (h : ScanInv E f q L (some c)) :
    ScanInv E f q (match sk E c q with | some x => L ++ [⟨c, x, false⟩] | none => L) ((nxt E (c ++ nul)).map (·.k)) := by
  obtain ⟨hcf, e0, he0, hk0⟩ := h.here c rfl
  have hnx : ∀ c', (nxt E (c ++ nul)).map (·.k) = some c' → kc c c' < 0 ∧ (∃ e ∈ E, e.k = c') ∧ ∀ x ∈ E, kc c x.k < 0 → 0 ≤ kc x.k c' := by
    intro c' hc'
    cases hn : nxt E (c ++ nul) with
    | none => simp [hn] at hc'
    | some y =>
      simp [hn] at hc'; subst hc'
      have g := nxt_some hs hn
      exact ⟨(kc_nul c y.k).1 g.2.1, ⟨y, g.1, rfl⟩, fun x hx hlt => g.2.2 x hx ((kc_nul c x.k).2 hlt)⟩
  have hno : (nxt E (c ++ nul)).map (·.k) = none → ∀ x ∈ E, ¬ kc c x.k < 0 := by
    intro hn x hx hlt
    have hn' : nxt E (c ++ nul) = none := by simpa using hn
    have := nxt_none hn' x hx
    have := (kc_nul c x.k).2 hlt
    omega
  have hless : L.length + 1 + cnt E ((nxt E (c ++ nul)).map (·.k)) ≤ E.length := by
    have h1 := h.len
    cases hn : (nxt E (c ++ nul)).map (·.k) with
    | none =>
      simp only [cnt] at h1 ⊢
      have : 0 < E.countP fun e => decide (0 ≤ kc e.k c) := List.countP_pos_iff.2 ⟨e0, he0, by simp [hk0, kc_self]⟩
      omega
    | some c' =>
      simp only [cnt] at h1 ⊢
      have hlt := (hnx c' hn).1
      have := countP_less (fun e : En => decide (0 ≤ kc e.k c')) (fun e : En => decide (0 ≤ kc e.k c)) E (fun x hx hp => by
          simp at hp ⊢
          by_cases g : 0 ≤ kc x.k c
          · exact g
          · have := kc_trans (show kc x.k c < 0 by omega) hlt; omega) ⟨e0, he0, by simp [hk0, kc_self], by simp [hk0]; exact hlt⟩
      omega
  have hltc : ∀ e ∈ E, (∀ c', (nxt E (c ++ nul)).map (·.k) = some c' → kc e.k c' < 0) → kc e.k c < 0 ∨ e.k = c := by
    intro e he hall
    by_cases g : kc c e.k < 0
    · exfalso
      cases hn : (nxt E (c ++ nul)).map (·.k) with
      | none => exact hno hn e he g
      | some c' =>
        have := (hnx c' hn).2.2 e he g
        have := hall c' hn
        omega
    · by_cases g0 : kc c e.k = 0
      · exact .inr (kc_zero g0).symm
      · left; rw [kc_neg]; omega
  have hwas : ∀ p ∈ L, ∀ c', (nxt E (c ++ nul)).map (·.k) = some c' → kc p.k c' < 0 := fun p hp c' hc' => kc_trans ((h.seen p hp).2.2.2 c rfl) (hnx c' hc').1
  have hhere : ∀ c', (nxt E (c ++ nul)).map (·.k) = some c' → 0 ≤ kc c' f ∧ ∃ e ∈ E, e.k = c' := fun c' hc' => by
    refine ⟨?_, (hnx c' hc').2.1⟩
    by_cases g : 0 ≤ kc c' f
    · exact g
    · have := kc_trans (hnx c' hc').1 (show kc c' f < 0 by omega); omega
  cases hsk : sk E c q with
  | none =>
    refine ⟨h.ord, fun p hp => ⟨(h.seen p hp).1, (h.seen p hp).2.1, (h.seen p hp).2.2.1, hwas p hp⟩, fun e he h0 hall x hx => ?_, hhere, by simp only; omega⟩
    rcases hltc e he hall with g | g
    · exact h.all e he h0 (fun c' hc' => by simp at hc'; subst hc'; exact g) x hx
    · rw [g, hsk] at hx; cases hx
  | some y =>
    refine ⟨?_, fun p hp => ?_, fun e he h0 hall x hx => ?_, hhere, by simp only [List.length_append, List.length_cons, List.length_nil]; omega⟩
    · refine List.pairwise_append.2 ⟨h.ord, by simp, fun a ha b hb => ?_⟩
      simp at hb; subst hb
      exact (h.seen a ha).2.2.2 c rfl
    · rcases List.mem_append.1 hp with hp | hp
      · exact ⟨(h.seen p hp).1, (h.seen p hp).2.1, (h.seen p hp).2.2.1, hwas p hp⟩
      · simp at hp; subst hp
        exact ⟨rfl, hsk, hcf, fun c' hc' => (hnx c' hc').1⟩
    · rcases hltc e he hall with g | g
      · exact List.mem_append_left _ (h.all e he h0 (fun c' hc' => by simp at hc'; subst hc'; exact g) x hx)
      · rw [g, hsk] at hx; cases hx
        rw [g]; simp

/-- The cells of pairs, of entries. -/
def Pr.cells (p : Pr) : List Value := [.string p.k, .string p.v, .bool p.g]
def pcells (l : List Pr) : List Value := l.flatMap Pr.cells
def En.cells (e : En) : List Value := [.string e.k, .int .i64 e.s, .bool e.g, .string e.v]
def ecells (l : List En) : List Value := l.flatMap En.cells

theorem flat_len {α β : Type} (f : α → List β) (n : Nat) (hf : ∀ a, (f a).length = n) : ∀ l : List α, (l.flatMap f).length = l.length * n
  | [] => by simp
  | a :: l => by simp [flat_len f n hf l, hf, Nat.add_mul]; omega

theorem flat_get {α β : Type} (f : α → List β) (n : Nat) (hf : ∀ a, (f a).length = n) : ∀ (l : List α) (j : Nat) (a : α) (i : Nat), l[j]? = some a → i < n → (l.flatMap f)[j * n + i]? = (f a)[i]?
  | [], _, _, _, h, _ => by simp at h
  | b :: l, 0, a, i, h, hi => by
    simp at h; subst h
    rw [List.flatMap_cons, Nat.zero_mul, Nat.zero_add, List.getElem?_append_left (by rw [hf]; exact hi)]
  | b :: l, j + 1, a, i, h, hi => by
    rw [List.flatMap_cons, List.getElem?_append_right (by rw [hf, Nat.add_mul]; omega), hf, show (j + 1) * n + i - n = j * n + i by rw [Nat.add_mul]; omega]
    exact flat_get f n hf l j a i (by simpa using h) hi

end Go.Proofs.YtakipjofboipmaaGreatDoor

/- Plain mathematics of this proof: several runs of entries, one above the other. -/
namespace Go.Proofs.YtakipjofboipmaaGreatDoor

theorem fnd_nil (k : ByteArray) (q : Int) : fnd [] k q = none := rfl
theorem fnd_cons_hit {e : En} {r : List En} {k : ByteArray} {q : Int} (h : e.k = k ∧ e.s ≤ q) : fnd (e :: r) k q = some e := by
  unfold fnd; rw [List.find?_cons]; simp [h]
theorem fnd_cons_miss {e : En} {r : List En} {k : ByteArray} {q : Int} (h : ¬ (e.k = k ∧ e.s ≤ q)) : fnd (e :: r) k q = fnd r k q := by
  unfold fnd; rw [List.find?_cons]; simp only [h, decide_false]
theorem fnd_some {E : List En} {k : ByteArray} {q : Int} {e : En} (h : fnd E k q = some e) : e ∈ E ∧ e.k = k ∧ e.s ≤ q := by
  unfold fnd at h
  have h1 := List.mem_of_find?_eq_some h
  have h2 := List.find?_some h
  simp only [decide_eq_true_eq] at h2
  exact ⟨h1, h2⟩
theorem fnd_nomem {E : List En} {k : ByteArray} {q : Int} (h : fnd E k q = none) : ∀ e ∈ E, e.k = k → ¬ e.s ≤ q := by
  intro e he hk hq
  unfold fnd at h
  have := List.find?_eq_none.1 h e he
  simp [hk, hq] at this

/-- What is seen of what was found. -/
def skO : Option En → Option ByteArray
  | some e => if e.g then none else some e.v
  | none => none
theorem sk_eq (E : List En) (k : ByteArray) (q : Int) : sk E k q = skO (fnd E k q) := by unfold sk skO; rfl

/-- The first of several runs that has one. -/
def fndL (X : List (List En)) (k : ByteArray) (q : Int) : Option En := X.findSome? fun a => fnd a k q

/-- Of one key, what stands in a run further behind is older. -/
def LayX (X : List (List En)) : Prop := X.Pairwise fun a b => ∀ e ∈ a, ∀ e' ∈ b, e.k = e'.k → e'.s < e.s

theorem fndL_nil (k : ByteArray) (q : Int) : fndL [] k q = none := rfl
theorem fndL_cons (a : List En) (X : List (List En)) (k : ByteArray) (q : Int) : fndL (a :: X) k q = (fnd a k q).or (fndL X k q) := by
  unfold fndL; rw [List.findSome?_cons]; cases fnd a k q <;> rfl
theorem fndL_append (X Y : List (List En)) (k : ByteArray) (q : Int) : fndL (X ++ Y) k q = (fndL X k q).or (fndL Y k q) := by
  unfold fndL; rw [List.findSome?_append]
theorem fndL_one (a : List En) (k : ByteArray) (q : Int) : fndL [a] k q = fnd a k q := by rw [fndL_cons, fndL_nil]; cases fnd a k q <;> rfl

theorem fndL_hit {X : List (List En)} {k : ByteArray} {q : Int} {i : Nat} {e : En} (h : fndL (X.take i) k q = some e) : fndL X k q = some e := by
  rw [← List.take_append_drop i X, fndL_append, h]; rfl
theorem fndL_step {X : List (List En)} {k : ByteArray} {q : Int} {i : Nat} {a : List En} (h : fndL (X.take i) k q = none) (ha : X[i]? = some a) : fndL (X.take (i + 1)) k q = fnd a k q := by
  rw [List.take_add_one, ha, fndL_append, h]
  show (none : Option En).or (fndL [a] k q) = _
  rw [fndL_one]; rfl

/-- The least key of several runs from a text on. -/
def LeastK (X : List (List En)) (f : ByteArray) : Option ByteArray → Prop
  | none => ∀ a ∈ X, ∀ e ∈ a, kc e.k f < 0
  | some c => (∃ a ∈ X, ∃ e ∈ a, e.k = c) ∧ 0 ≤ kc c f ∧ ∀ a ∈ X, ∀ e ∈ a, 0 ≤ kc e.k f → 0 ≤ kc e.k c

theorem least_one {E : List En} (hs : Sorted E) (f : ByteArray) : LeastK [E] f ((nxt E f).map (·.k)) := by
  cases h : nxt E f with
  | none =>
    intro a ha e he
    rw [List.mem_singleton] at ha
    subst ha
    exact nxt_none h e he
  | some y =>
    obtain ⟨h1, h2, h3⟩ := nxt_some hs h
    refine ⟨⟨E, by simp, y, h1, rfl⟩, h2, fun a ha e he hf => ?_⟩
    rw [List.mem_singleton] at ha
    subst ha
    exact h3 e he hf

/-- One run more. -/
def lesser (r : Option ByteArray) : Option ByteArray → Option ByteArray
  | none => r
  | some c => match r with
    | none => some c
    | some d => if kc c d < 0 then some c else some d

theorem LeastK.step {X : List (List En)} {f : ByteArray} {r : Option ByteArray} {a : List En} (hs : Sorted a) (h : LeastK X f r) : LeastK (X ++ [a]) f (lesser r ((nxt a f).map (·.k))) := by
  have h1 := least_one hs f
  generalize (nxt a f).map (·.k) = y at h1
  have mem : ∀ {P : En → Prop}, (∀ b ∈ X ++ [a], ∀ e ∈ b, P e) ↔ (∀ b ∈ X, ∀ e ∈ b, P e) ∧ ∀ b ∈ [a], ∀ e ∈ b, P e := by
    intro P
    constructor
    · intro g; exact ⟨fun b hb => g b (List.mem_append_left _ hb), fun b hb => g b (List.mem_append_right _ hb)⟩
    · rintro ⟨g1, g2⟩ b hb
      rcases List.mem_append.1 hb with hb | hb
      · exact g1 b hb
      · exact g2 b hb
  cases y with
  | none =>
    cases r with
    | none => exact mem.2 ⟨h, h1⟩
    | some d =>
      obtain ⟨⟨b, hb, g⟩, g2, g3⟩ := h
      refine ⟨⟨b, List.mem_append_left _ hb, g⟩, g2, mem.2 ⟨g3, fun b hb e he hf => ?_⟩⟩
      have := h1 b hb e he; omega
  | some c =>
    obtain ⟨⟨b1, hb1, p⟩, p2, p3⟩ := h1
    cases r with
    | none =>
      refine ⟨⟨b1, List.mem_append_right _ hb1, p⟩, p2, mem.2 ⟨fun b hb e he hf => ?_, p3⟩⟩
      have := h b hb e he; omega
    | some d =>
      obtain ⟨⟨b, hb, g⟩, g2, g3⟩ := h
      have tr : ∀ {x y z : ByteArray}, 0 ≤ kc x y → kc z y < 0 → 0 ≤ kc x z := by
        intro x y z hx hz
        by_cases hh : kc x z < 0
        · have := kc_trans hh hz; omega
        · omega
      have tr2 : ∀ {x y z : ByteArray}, 0 ≤ kc x y → ¬ kc y z < 0 → 0 ≤ kc x z := by
        intro x y z hx hz
        by_cases hh : kc x z < 0
        · by_cases he : kc z y = 0
          · have := kc_zero he; subst this; omega
          · have hn := kc_neg z y
            have := kc_trans hh (show kc z y < 0 by omega); omega
        · omega
      by_cases hlt : kc c d < 0
      · simp only [lesser, hlt, if_true]
        exact ⟨⟨b1, List.mem_append_right _ hb1, p⟩, p2, mem.2 ⟨fun b hb e he hf => tr (g3 b hb e he hf) hlt, p3⟩⟩
      · simp only [lesser, hlt, if_false]
        exact ⟨⟨b, List.mem_append_left _ hb, g⟩, g2, mem.2 ⟨g3, fun b hb e he hf => tr2 (p3 b hb e he hf) hlt⟩⟩

theorem LeastK.same {X : List (List En)} {M : List En} {f : ByteArray} {r : Option ByteArray} (hs : Sorted M) (hm : ∀ e, e ∈ M ↔ ∃ a ∈ X, e ∈ a) (h : LeastK X f r) : (nxt M f).map (·.k) = r := by
  have h1 := least_one hs f
  generalize (nxt M f).map (·.k) = y at h1
  cases y with
  | none =>
    cases r with
    | none => rfl
    | some d =>
      obtain ⟨⟨b, hb, e, he, rfl⟩, g2, _⟩ := h
      have := h1 M (by simp) e ((hm e).2 ⟨b, hb, he⟩)
      omega
  | some c =>
    obtain ⟨⟨b1, hb1, e1, he1, rfl⟩, p2, p3⟩ := h1
    rw [List.mem_singleton] at hb1
    subst hb1
    obtain ⟨b2, hb2, he2⟩ := (hm e1).1 he1
    cases r with
    | none => have := h b2 hb2 e1 he2; omega
    | some d =>
      obtain ⟨⟨b, hb, e, he, rfl⟩, g2, g3⟩ := h
      have l1 := g3 b2 hb2 e1 he2 p2
      have l2 := p3 b1 (by simp) e ((hm e).2 ⟨b, hb, he⟩) g2
      have hn := kc_neg e1.k e.k
      rw [kc_zero (show kc e1.k e.k = 0 by omega)]

theorem fnd_eq : ∀ {E : List En} (_ : Sorted E) {k : ByteArray} {q : Int} {e : En}, e ∈ E → e.k = k → e.s ≤ q → (∀ e' ∈ E, e'.k = k → e'.s ≤ q → e'.s ≤ e.s) → fnd E k q = some e
  | [], _, _, _, _, h, _, _, _ => by cases h
  | a :: E, hs, k, q, e, h, hk, hq, hm => by
    obtain ⟨ha, hs'⟩ := List.pairwise_cons.1 hs
    unfold fnd
    rw [List.find?_cons]
    by_cases hp : a.k = k ∧ a.s ≤ q
    · simp only [hp, and_self, decide_true]
      rcases List.mem_cons.1 h with rfl | h
      · rfl
      · exfalso
        have h1 := ha e h
        have h2 := hm a List.mem_cons_self hp.1 hp.2
        unfold elt at h1
        rcases oc_lt.1 h1 with h3 | ⟨_, h3⟩
        · rw [hp.1, hk, kc_self] at h3; omega
        · omega
    · rw [decide_eq_false hp]
      rcases List.mem_cons.1 h with rfl | h
      · exact absurd ⟨hk, hq⟩ hp
      · exact fnd_eq hs' h hk hq fun e' h' => hm e' (List.mem_cons_of_mem _ h')

theorem fnd_no {E : List En} {k : ByteArray} {q : Int} (h : ∀ e ∈ E, e.k = k → ¬ e.s ≤ q) : fnd E k q = none := by
  unfold fnd
  rw [List.find?_eq_none]
  intro e he
  simp only [decide_eq_true_eq]
  exact fun hh => h e he hh.1 hh.2

theorem sorted_max : ∀ {E : List En} (_ : Sorted E) {k : ByteArray} {q : Int} {e : En}, fnd E k q = some e → ∀ x ∈ E, x.k = k → x.s ≤ q → x.s ≤ e.s
  | [], _, _, _, _, h => by simp [fnd] at h
  | a :: E, hs, k, q, e, h => by
    obtain ⟨ha, hs'⟩ := List.pairwise_cons.1 hs
    intro x hx hk hq
    by_cases hp : a.k = k ∧ a.s ≤ q
    · rw [fnd_cons_hit hp] at h
      cases h
      rcases List.mem_cons.1 hx with rfl | hx
      · exact Int.le_refl _
      · have := ha x hx
        unfold elt at this
        rw [oc_lt] at this
        rcases this with g | g
        · rw [hp.1, hk, kc_self] at g; omega
        · omega
    · rw [fnd_cons_miss hp] at h
      rcases List.mem_cons.1 hx with rfl | hx
      · exact absurd ⟨hk, hq⟩ hp
      · exact sorted_max hs' h x hx hk hq

theorem fndL_some {X : List (List En)} {k : ByteArray} {q : Int} {e : En} (h : fndL X k q = some e) : ∃ a ∈ X, fnd a k q = some e := by
  unfold fndL at h
  exact List.exists_of_findSome?_eq_some h

theorem fndL_max : ∀ {X : List (List En)} (_ : LayX X) (_ : ∀ a ∈ X, Sorted a) {k : ByteArray} {q : Int} {e : En}, fndL X k q = some e → ∀ a ∈ X, ∀ x ∈ a, x.k = k → x.s ≤ q → x.s ≤ e.s
  | [], _, _, _, _, _, h => by simp [fndL] at h
  | b :: X, hl, hs, k, q, e, h => by
    obtain ⟨hb, hl'⟩ := List.pairwise_cons.1 hl
    intro a ha x hx hk hq
    rw [fndL_cons] at h
    cases hf : fnd b k q with
    | some y =>
      rw [hf] at h
      simp at h
      subst h
      obtain ⟨h1, h2, h3⟩ := fnd_some hf
      rcases List.mem_cons.1 ha with rfl | ha
      · exact sorted_max (hs _ (List.mem_cons_self ..)) hf x hx hk hq
      · have := hb a ha y h1 x hx (h2.trans hk.symm)
        omega
    | none =>
      rw [hf] at h
      simp at h
      rcases List.mem_cons.1 ha with rfl | ha
      · exact absurd hq (fnd_nomem hf x hx hk)
      · exact fndL_max hl' (fun a ha => hs a (List.mem_cons_of_mem _ ha)) h a ha x hx hk hq

/-- Several runs, laid together. -/
theorem fnd_layers {X : List (List En)} {M : List En} (hM : Sorted M) (hm : ∀ e, e ∈ M ↔ ∃ a ∈ X, e ∈ a) (hl : LayX X) (hs : ∀ a ∈ X, Sorted a) (k : ByteArray) (q : Int) : fnd M k q = fndL X k q := by
  cases h : fndL X k q with
  | some e =>
    obtain ⟨a, ha, he⟩ := fndL_some h
    obtain ⟨h1, h2, h3⟩ := fnd_some he
    refine fnd_eq hM ((hm e).2 ⟨a, ha, h1⟩) h2 h3 fun x hx hk hq => ?_
    obtain ⟨b, hb, hxb⟩ := (hm x).1 hx
    exact fndL_max hl hs h b hb x hxb hk hq
  | none =>
    refine fnd_no fun x hx hk hq => ?_
    obtain ⟨b, hb, hxb⟩ := (hm x).1 hx
    unfold fndL at h
    exact fnd_nomem (List.findSome?_eq_none_iff.1 h b hb) x hxb hk hq

/-- Entries that differ in key or number. -/
def DistE (l : List En) : Prop := l.Pairwise fun a b => ¬ (a.k = b.k ∧ a.s = b.s)

def leE (a b : En) : Bool := !decide (oc b.k b.s a.k a.s < 0)

theorem sorted_exists {l : List En} (h : DistE l) : ∃ O : List En, Sorted O ∧ O.Perm l := by
  have hp := List.mergeSort_perm l leE
  refine ⟨l.mergeSort leE, ?_, hp⟩
  have hd : DistE (l.mergeSort leE) := hp.symm.pairwise h (fun {a b} hab hba => hab ⟨hba.1.symm, hba.2.symm⟩)
  have hs : (l.mergeSort leE).Pairwise fun a b => leE a b = true := List.pairwise_mergeSort (fun a b c h1 h2 => by
      simp only [leE, Bool.not_eq_true', decide_eq_false_iff_not] at h1 h2 ⊢
      intro h3
      by_cases hab : a.k = b.k ∧ a.s = b.s
      · rw [hab.1, hab.2] at h3; exact h2 h3
      · exact h2 (oc_trans h3 (oc_total h1 (fun e => hab ⟨e.1.symm, e.2.symm⟩)))) (fun a b => by
      simp only [leE, Bool.or_eq_true, Bool.not_eq_true', decide_eq_false_iff_not]
      by_cases h1 : oc b.k b.s a.k a.s < 0
      · exact .inr fun h2 => by
          have := oc_trans h1 h2
          rw [oc_lt, kc_self] at this
          rcases this with h | h <;> omega
      · exact .inl h1) l
  refine (hd.and hs).imp fun {a b} hab => ?_
  simp only [leE, Bool.not_eq_true', decide_eq_false_iff_not] at hab
  exact oc_total hab.2 (fun e => hab.1 ⟨e.1.symm, e.2.symm⟩)


/-- Entries put in order. -/
def srt (l : List En) : List En := l.mergeSort leE

theorem srt_mem {l : List En} {e : En} : e ∈ srt l ↔ e ∈ l := (List.mergeSort_perm l leE).mem_iff
theorem srt_len (l : List En) : (srt l).length = l.length := (List.mergeSort_perm l leE).length_eq

theorem srt_sorted {l : List En} (h : DistE l) : Sorted (srt l) := by
  have hp := List.mergeSort_perm l leE
  have hd : DistE (l.mergeSort leE) := hp.symm.pairwise h (fun {a b} hab hba => hab ⟨hba.1.symm, hba.2.symm⟩)
  have hs : (l.mergeSort leE).Pairwise fun a b => leE a b = true := List.pairwise_mergeSort (fun a b c h1 h2 => by
      simp only [leE, Bool.not_eq_true', decide_eq_false_iff_not] at h1 h2 ⊢
      intro h3
      by_cases hab : a.k = b.k ∧ a.s = b.s
      · rw [hab.1, hab.2] at h3; exact h2 h3
      · exact h2 (oc_trans h3 (oc_total h1 (fun e => hab ⟨e.1.symm, e.2.symm⟩)))) (fun a b => by
      simp only [leE, Bool.or_eq_true, Bool.not_eq_true', decide_eq_false_iff_not]
      by_cases h1 : oc b.k b.s a.k a.s < 0
      · exact .inr fun h2 => by
          have := oc_trans h1 h2
          rw [oc_lt, kc_self] at this
          rcases this with h | h <;> omega
      · exact .inl h1) l
  refine (hd.and hs).imp fun {a b} hab => ?_
  simp only [leE, Bool.not_eq_true', decide_eq_false_iff_not] at hab
  exact oc_total hab.2 (fun e => hab.1 ⟨e.1.symm, e.2.symm⟩)

theorem elt_irrefl (a : En) : ¬ elt a a := fun h => by
  unfold elt at h
  rw [oc_lt, kc_self] at h
  rcases h with h | h <;> omega

theorem sorted_dist {l : List En} (h : Sorted l) : DistE l := List.Pairwise.imp (fun {a b} hab hh => by
    unfold elt at hab
    rw [oc_lt, hh.1, kc_self] at hab
    rcases hab with h | h <;> omega) h

/-- Entries in order are told by which they are. -/
theorem sorted_ext : ∀ {A B : List En}, Sorted A → Sorted B → (∀ e, e ∈ A ↔ e ∈ B) → A = B
  | [], [], _, _, _ => rfl
  | [], b :: B, _, _, h => absurd ((h b).2 List.mem_cons_self) (by simp)
  | a :: A, [], _, _, h => absurd ((h a).1 List.mem_cons_self) (by simp)
  | a :: A, b :: B, hA, hB, h => by
    obtain ⟨ha, hA'⟩ := List.pairwise_cons.1 hA
    obtain ⟨hb, hB'⟩ := List.pairwise_cons.1 hB
    have hab : a = b := by
      rcases List.mem_cons.1 ((h a).1 List.mem_cons_self) with e | e
      · exact e
      · rcases List.mem_cons.1 ((h b).2 List.mem_cons_self) with e2 | e2
        · exact e2.symm
        · exact absurd (oc_trans (hb a e) (ha b e2)) (elt_irrefl b)
    subst hab
    congr 1
    refine sorted_ext hA' hB' fun e => ⟨fun he => ?_, fun he => ?_⟩
    · rcases List.mem_cons.1 ((h e).1 (List.mem_cons_of_mem _ he)) with rfl | g
      · exact absurd (ha e he) (elt_irrefl e)
      · exact g
    · rcases List.mem_cons.1 ((h e).2 (List.mem_cons_of_mem _ he)) with rfl | g
      · exact absurd (hb e he) (elt_irrefl e)
      · exact g

/-- Two runs laid together. -/
theorem merge_exists {E N : List En} (hE : Sorted E) (hN : Sorted N) (hd : ∀ y ∈ E, ∀ x ∈ N, ¬ (y.k = x.k ∧ y.s = x.s)) : ∃ F : List En, Sorted F ∧ (∀ x, x ∈ F ↔ x ∈ E ∨ x ∈ N) ∧ F.length = E.length + N.length := by
  have ds : ∀ {l : List En}, Sorted l → DistE l := fun {l} h => List.Pairwise.imp (fun {a b} hab hh => by
    unfold elt at hab
    rw [oc_lt, hh.1, kc_self] at hab
    rcases hab with h | h <;> omega) h
  obtain ⟨F, h1, h2⟩ := sorted_exists (l := E ++ N) (List.pairwise_append.2 ⟨ds hE, ds hN, hd⟩)
  exact ⟨F, h1, fun x => by rw [h2.mem_iff, List.mem_append], by rw [h2.length_eq, List.length_append]⟩

end Go.Proofs.YtakipjofboipmaaGreatDoor
