/- The walks of this proof: one step of a script. -/
import Derived.Test.YtojdkfamihlnkaaGreatDoorT6
namespace Go.Proofs.YtojdkfamihlnkaaGreatDoor
open Go.RowKit Go.Sort

def pk (c n : Int) : Int := if c < 0 then -(c + 1) % n else c % n

theorem pk_lt {c n : Int} (hn : 0 < n) : 0 ≤ pk c n ∧ pk c n < n := by
  unfold pk
  split
  · exact ⟨Int.emod_nonneg _ (by omega), Int.emod_lt_of_pos _ hn⟩
  · exact ⟨Int.emod_nonneg _ (by omega), Int.emod_lt_of_pos _ hn⟩

set_option maxHeartbeats 400000 in
theorem pick_any (c n : Int) (w : World) (h0 : -9223372036854775808 ≤ c) (h1 : c ≤ 9223372036854775807) (h2 : 0 < n) (h3 : n ≤ 1000000000) :
    Calls Tryz.prog 13 #[.int .i64 c, .int .i64 n] w fun e w' => e = .returned (.int .i64 (pk c n)) ∧ w' = w := by
  unfold pk
  by_cases hc : c < 0
  · rw [if_pos hc]
    have h4 : 0 ≤ -(c + 1) := by omega
    have h5 : -(c + 1) ≤ 9223372036854775807 := by omega
    go_enter Tryz.func13, Tryz.ntmps13
    go_wp2
    go_ret
    exact ⟨congrArg (fun z => Ending.returned (.int .i64 z)) (show -(c + 1).tmod n = -(c + 1) % n by rw [← Int.neg_tmod, Int.tmod_eq_emod_of_nonneg h4]), rfl⟩
  · rw [if_neg hc]
    go_enter Tryz.func13, Tryz.ntmps13
    go_wp2
    go_ret
    exact ⟨rfl, rfl⟩

theorem pick_in (c n : Int) (h0 : -9223372036854775808 ≤ c) (h1 : c ≤ 9223372036854775807) (h2 : 0 < n) (h3 : n ≤ 1000000000) (w : World) (d : Nat) (os : Array Obj) :
    Calls Tryz.prog 13 #[.int .i64 c, .int .i64 n] (grow (redrawn w d) os) fun e w'' => e = .returned (.int .i64 (pk c n)) ∧ ∃ p : Regrown, w'' = grow (redrawn w p.d) p.os :=
  Calls.regrown_of ((pick_any c n _ h0 h1 h2 h3).mono fun _ _ ⟨a, b⟩ => ⟨a, by rw [b]; exact Below.refl _ _⟩)

abbrev Sto := Nat × Nat × St × Rf

/-- The world of a script. -/
structure WInv (own : Nat → Nat) (wb : Nat) (T : List Sto) (P : List (Int × Nat)) (n : Int) (t N0 : Nat) (w : World) : Prop where
  bk : ∃ vss vrs, BkAt (Dm own 1) wb vss vrs P n w ∧ OwnsIn w (Dm own 1) 43 1 vss T.length (T.map fun q => ptr q.1) ∧ OwnsIn w (Dm own 1) 45 1 vrs T.length (T.map fun q => ptr q.2.1)
  each : ∀ i q, T[i]? = some q → StoreAt (Dm own (2 * i + 2)) q.1 q.2.2.1 w ∧ RefAt (Dm own (2 * i + 3)) q.2.1 q.2.2.2 w ∧ Both t q.2.2.1 q.2.2.2
  low : ∀ k, own k ≠ 0 → N0 ≤ k
  lowN : N0 ≤ w.heap.size
  tab : ∀ w', Below N0 w w' → Tab w'
  small : t ≤ 1100000
  n0 : 0 ≤ n
  n1 : n ≤ t
  pl : P.length ≤ 4 * t
  pb : ∀ p ∈ P, -(t : Int) ≤ p.1 ∧ p.1 ≤ 0 ∧ p.2 ≤ 4 * t + 4
  tl : T.length ≤ t + 1

theorem WInv.below {own : Nat → Nat} {wb : Nat} {T : List Sto} {P : List (Int × Nat)} {n : Int} {t N0 : Nat} {w w' : World} (h : WInv own wb T P n t N0 w) (hb : Below w.heap.size w w') : WInv own wb T P n t N0 w' := by
  obtain ⟨vss, vrs, h1, h2, h3⟩ := h.bk
  exact ⟨⟨vss, vrs, h1.below hb, h2.below hb, h3.below hb⟩, fun i q hq => by obtain ⟨a, b, c⟩ := h.each i q hq; exact ⟨a.below hb, b.below hb, c⟩, h.low, Nat.le_trans h.lowN hb.size, fun w2 h2 => h.tab w2 ((hb.mono h.lowN).trans h2), h.small, h.n0, h.n1, h.pl, h.pb, h.tl⟩

theorem WInv.later {own : Nat → Nat} {wb : Nat} {T : List Sto} {P : List (Int × Nat)} {n : Int} {t N0 : Nat} {w : World} (h : WInv own wb T P n t N0 w) (ht : t + 1 ≤ 1100000) : WInv own wb T P n (t + 1) N0 w :=
  ⟨h.bk, fun i q hq => by obtain ⟨a, b, c⟩ := h.each i q hq; exact ⟨a, b, c.later⟩, h.low, h.lowN, h.tab, ht, h.n0, by have := h.n1; omega, by have := h.pl; omega, fun p hp => by have := h.pb p hp; omega, by have := h.tl; omega⟩

theorem WInv.pre {own : Nat → Nat} {wb : Nat} {T : List Sto} {P : List (Int × Nat)} {n : Int} {t N0 : Nat} {w : World} (h : WInv own wb T P n t N0 w) {vss vrs : Value} (hbk : BkAt (Dm own 1) wb vss vrs P n w) {i : Nat} {q : Sto} (hq : T[i]? = some q) : Pre own (2 * i + 2) (2 * i + 3) wb q.1 q.2.1 vss vrs q.2.2.1 q.2.2.2 P n t N0 w := by
  obtain ⟨a, b, c⟩ := h.each i q hq
  exact ⟨a, b, hbk, c, h.low, h.lowN, h.tab, h.small, h.n0, h.n1, h.pl, h.pb, by omega⟩

/-- What a step of a script leaves. -/
def WPost (wb t N0 : Nat) (w : World) (e : Ending) (w' : World) : Prop :=
  e = .returned (.bool true) ∧ Below N0 w w' ∧ ∃ own T P n, 1 ≤ T.length ∧ WInv own wb T P n (t + 1) N0 w'

theorem WInv.step {own : Nat → Nat} {wb : Nat} {T : List Sto} {P : List (Int × Nat)} {n : Int} {t N0 : Nat} {w w' : World} (h : WInv own wb T P n t N0 w) {vss vrs : Value} {e : Ending} {i : Nat} {q : Sto} (hq : T[i]? = some q)
    (hss : OwnsIn w (Dm own 1) 43 1 vss T.length (T.map fun q => ptr q.1)) (hrs : OwnsIn w (Dm own 1) 45 1 vrs T.length (T.map fun q => ptr q.2.1)) (hp : StepPost own (2 * i + 2) (2 * i + 3) wb q.1 q.2.1 vss vrs t N0 w e w') : WPost wb t N0 w e w' := by
  obtain ⟨he, kx, own', x, y, P', n', ag, pre⟩ := hp
  have hil : i < T.length := (List.getElem?_eq_some_iff.1 hq).1
  have hd : ∀ id b, b < w.heap.size → Dm own id b → Dm own' id b := fun id b hb h => by show own' b = id; rw [ag b hb]; exact h
  have hdd : ∀ id b, b < w.heap.size → Dm own' id b → own b = id := fun id b hb h => by rw [← ag b hb]; exact h
  have hrow : ∀ (f : Sto → Value), (f q = f (q.1, q.2.1, x, y)) → ((T.set i (q.1, q.2.1, x, y)).map f) = T.map f := fun f hf => by
    apply List.ext_getElem? 
    intro j
    rw [List.getElem?_map, List.getElem?_map, List.getElem?_set]
    by_cases hij : i = j
    · subst hij
      rw [if_pos rfl, if_pos hil, hq]
      simp [hf]
    · rw [if_neg hij]
  refine ⟨he, kx.below h.lowN (StepX.low h.low h.lowN pre.ids), own', T.set i (q.1, q.2.1, x, y), P', n', by rw [List.length_set]; omega, ⟨vss, vrs, pre.bk, ?_, ?_⟩, ?_, pre.low, pre.lowN, pre.tab, pre.small, pre.n0, pre.n1, pre.pl, pre.pb, by rw [List.length_set]; have := h.tl; omega⟩
  · rw [List.length_set, hrow (fun q => ptr q.1) rfl]
    refine (hss.mono (hd 1)).kx kx fun b hb hdm hx => ?_
    have := hdd 1 b hb hdm
    rcases hx with hx | ⟨hx, _⟩ | ⟨hx, _⟩ | ⟨_, hx⟩
    · omega
    · omega
    · omega
    · simp at hx
  · rw [List.length_set, hrow (fun q => ptr q.2.1) rfl]
    refine (hrs.mono (hd 1)).kx kx fun b hb hdm hx => ?_
    have := hdd 1 b hb hdm
    rcases hx with hx | ⟨hx, _⟩ | ⟨hx, _⟩ | ⟨_, hx⟩
    · omega
    · omega
    · omega
    · simp at hx
  · intro j r hr
    rw [List.getElem?_set] at hr
    by_cases hij : i = j
    · subst hij
      rw [if_pos rfl, if_pos hil] at hr
      cases hr
      exact ⟨pre.st, pre.rf, pre.bo⟩
    · rw [if_neg hij] at hr
      obtain ⟨a, b, c⟩ := h.each j r hr
      refine ⟨(a.mono (hd _)).kx kx fun b' e hb hdm hx => ?_, (b.mono (hd _)).kx kx fun b' e hb hdm hx => ?_, c.later⟩
      · have := hdd _ b' hb hdm
        rcases hx with hx | ⟨hx, _⟩ | ⟨hx, _⟩ | ⟨hx, _⟩ <;> omega
      · have := hdd _ b' hb hdm
        rcases hx with hx | ⟨hx, _⟩ | ⟨hx, _⟩ | ⟨hx, _⟩ <;> omega

/-- One store more. -/
theorem WInv.opened {own : Nat → Nat} {wb : Nat} {T : List Sto} {P : List (Int × Nat)} {n : Int} {t N0 : Nat} {w w' : World} (h : WInv own wb T P n t N0 w) (ht : t + 1 ≤ 1100000) {e : Ending} (hp : OpenPost own wb P n T.length (T.map fun q => ptr q.1) (T.map fun q => ptr q.2.1) w e w') : WPost wb t N0 w e w' := by
  obtain ⟨he, k, sb, rb, vss, vrs, hsb, hrb, hne, hbk, hss, hrs, hst, hrf⟩ := hp
  have hlow := h.lowN
  obtain ⟨own', how⟩ : ∃ own' : Nat → Nat, own' = fun k => if k < w.heap.size then own k else if k = sb then 2 * T.length + 2 else if k = rb then 2 * T.length + 3 else 1 := ⟨_, rfl⟩
  have ag : ∀ k, k < w.heap.size → own' k = own k := fun k hk => by rw [how]; simp [hk]
  have hd : ∀ id b, b < w.heap.size → Dm own id b → Dm own' id b := fun id b hb h => by show own' b = id; rw [ag b hb]; exact h
  have hdd : ∀ id b, b < w.heap.size → Dm own' id b → own b = id := fun id b hb h => by rw [← ag b hb]; exact h
  have kx : Kx (fun b e => w.heap.size ≤ b ∨ (own b = 1 ∧ e ∈ [36, 43, 45])) w w' := Kx.of_kd k fun b e hb hd he => by
    rcases hd with hd | hd
    · exact .inr ⟨hd, he⟩
    · omega
  have hB : Below N0 w w' := k.belowN hlow fun b hb => by
    rcases hb with hb | hb
    · exact h.low b (by omega)
    · omega
  have hsw : ∃ c f, w'.heap[sb]? = some (.cells c 81 f) := by obtain ⟨_, _, _, _, _, hs, _⟩ := hst; exact ⟨_, _, hs⟩
  have hrw : ∃ c f, w'.heap[rb]? = some (.cells c 84 f) := by obtain ⟨_, _, _, _, _, _, hs, _⟩ := hrf; exact ⟨_, _, hs⟩
  have h1 : ∀ b c e f, w'.heap[b]? = some (.cells c e f) → e ∈ [36, 38, 3, 43, 45] → Dc own w.heap.size 1 b → Dm own' 1 b := fun b c e f hc he hdb => by
    show own' b = 1
    by_cases hbN : b < w.heap.size
    · rw [ag b hbN]
      rcases hdb with hdb | hdb
      · exact hdb
      · omega
    · rw [how]
      simp only [hbN, if_false]
      have n1 : b ≠ sb := fun eb => by
        obtain ⟨c', f', hs⟩ := hsw
        rw [eb, hs] at hc
        simp only [Option.some.injEq, Obj.cells.injEq] at hc
        rw [← hc.2.1] at he; simp at he
      have n2 : b ≠ rb := fun eb => by
        obtain ⟨c', f', hs⟩ := hrw
        rw [eb, hs] at hc
        simp only [Option.some.injEq, Obj.cells.injEq] at hc
        rw [← hc.2.1] at he; simp at he
      simp [n1, n2]
  refine ⟨he, hB, own', T ++ [(sb, rb, ⟨[], [], 0, 0, 0, 0⟩, ⟨[], [], 0⟩)], P, n, by simp, ⟨vss, vrs, hbk.monoT fun b c e f hc he => h1 b c e f hc (by simp at he ⊢; rcases he with h2 | h2 | h2 <;> simp [h2]), ?_, ?_⟩, ?_, ?_, Nat.le_trans hlow hB.size, fun w2 h2 => h.tab w2 (hB.trans h2), ht, h.n0, by have := h.n1; omega, by have := h.pl; omega, fun p hp => by have := h.pb p hp; omega, by have := h.tl; simp; omega⟩
  · rw [List.length_append, List.map_append]
    exact hss.monoT fun b c f hc => h1 b c _ f hc (by simp)
  · rw [List.length_append, List.map_append]
    exact hrs.monoT fun b c f hc => h1 b c _ f hc (by simp)
  · intro j r hr
    by_cases hj : j < T.length
    · rw [List.getElem?_append_left hj] at hr
      obtain ⟨a, b, c⟩ := h.each j r hr
      refine ⟨(a.mono (hd _)).kx kx fun b' e hb hdm hx => ?_, (b.mono (hd _)).kx kx fun b' e hb hdm hx => ?_, c.later⟩
      · have := hdd _ b' hb hdm
        rcases hx with hx | ⟨hx, _⟩ <;> omega
      · have := hdd _ b' hb hdm
        rcases hx with hx | ⟨hx, _⟩ <;> omega
    · have hjl : j < (T ++ [(sb, rb, (⟨[], [], 0, 0, 0, 0⟩ : St), (⟨[], [], 0⟩ : Rf))]).length := (List.getElem?_eq_some_iff.1 hr).1
      simp only [List.length_append, List.length_singleton] at hjl
      obtain rfl : j = T.length := by omega
      simp at hr
      subst hr
      refine ⟨hst.mono fun b _ hb => ?_, hrf.mono fun b _ hb => ?_, Both.new _⟩
      · have hb' : b = sb := hb
        show own' b = _
        rw [how, hb']
        simp only
        rw [if_neg (by omega)]
        simp
      · have hb' : b = rb := hb
        show own' b = _
        rw [how, hb']
        simp only
        rw [if_neg (by omega), if_neg (fun h => hne h.symm)]
        simp
  · intro b hb
    by_cases hbN : b < w.heap.size
    · rw [ag b hbN] at hb; exact h.low b hb
    · omega
end Go.Proofs.YtojdkfamihlnkaaGreatDoor
