/- The walks of this proof: one step of a script. -/
import Derived.Test.YtakipjofboipmaaGreatDoorJ32
import Derived.Test.YtakipjofboipmaaGreatDoorJ33
namespace Go.Proofs.YtakipjofboipmaaGreatDoor
open Go.RowKit Go.Sort

set_option maxHeartbeats 400000 in
theorem pick_any (c n : Int) (w : World) (h0 : -9223372036854775808 ≤ c) (h1 : c ≤ 9223372036854775807) (h2 : 0 < n) (h3 : n ≤ 1200000000000) :
    Calls Tryz.prog 15 #[.int .i64 c, .int .i64 n] w fun e w' => e = .returned (.int .i64 (pk c n)) ∧ w' = w := by
  unfold pk
  by_cases hc : c < 0
  · rw [if_pos hc]
    have h4 : 0 ≤ -(c + 1) := by omega
    have h5 : -(c + 1) ≤ 9223372036854775807 := by omega
    go_enter Tryz.func15, Tryz.ntmps15
    go_wp2
    go_ret
    exact ⟨congrArg (fun z => Ending.returned (.int .i64 z)) (show -(c + 1).tmod n = -(c + 1) % n by rw [← Int.neg_tmod, Int.tmod_eq_emod_of_nonneg h4]), rfl⟩
  · rw [if_neg hc]
    go_enter Tryz.func15, Tryz.ntmps15
    go_wp2
    go_ret
    exact ⟨rfl, rfl⟩

theorem pick_in (c n : Int) (h0 : -9223372036854775808 ≤ c) (h1 : c ≤ 9223372036854775807) (h2 : 0 < n) (h3 : n ≤ 1200000000000) (w : World) (d : Nat) (os : Array Obj) :
    Calls Tryz.prog 15 #[.int .i64 c, .int .i64 n] (grow (redrawn w d) os) fun e w'' => e = .returned (.int .i64 (pk c n)) ∧ ∃ p : Regrown, w'' = grow (redrawn w p.d) p.os :=
  Calls.regrown_of ((pick_any c n _ h0 h1 h2 h3).mono fun _ _ ⟨a, b⟩ => ⟨a, by rw [b]; exact Below.refl _ _⟩)

abbrev Sto := Nat × Nat × St × Rf

/-- The world of a script. -/
structure WInv (own : Nat → Nat) (wb : Nat) (T : List Sto) (b : Bk) (t N0 : Nat) (w : World) : Prop where
  bk : ∃ vss vrs, BookAt own wb vss vrs b w ∧ OwnsIn w (Dm own 1) 43 1 vss T.length (T.map fun q => ptr q.1) ∧ OwnsIn w (Dm own 1) 45 1 vrs T.length (T.map fun q => ptr q.2.1)
  each : ∀ i q, T[i]? = some q → StoreAt (Dm own (3 * i + 4)) (Dm own (3 * i + 6)) q.1 q.2.2.1 w ∧ RfT (Dm own (3 * i + 5)) q.2.1 q.2.2.2 q.2.2.1 w ∧ Both t q.2.2.1 q.2.2.2
  low : ∀ k, own k ≠ 0 → N0 ≤ k
  lowN : N0 ≤ w.heap.size
  tab : ∀ w', Below N0 w w' → Tab w'
  small : t ≤ 1099511627776
  bb : BkB t b
  tl : T.length ≤ t + 1

theorem WInv.below {own : Nat → Nat} {wb : Nat} {T : List Sto} {b : Bk} {t N0 : Nat} {w w' : World} (h : WInv own wb T b t N0 w) (hb : Below w.heap.size w w') : WInv own wb T b t N0 w' := by
  obtain ⟨vss, vrs, h1, h2, h3⟩ := h.bk
  exact ⟨⟨vss, vrs, h1.below hb, h2.below hb, h3.below hb⟩, fun i q hq => by obtain ⟨a, b, c⟩ := h.each i q hq; exact ⟨a.below hb, RefT.below b hb, c⟩, h.low, Nat.le_trans h.lowN hb.size, fun w2 h2 => h.tab w2 ((hb.mono h.lowN).trans h2), h.small, h.bb, h.tl⟩

theorem WInv.later {own : Nat → Nat} {wb : Nat} {T : List Sto} {b : Bk} {t N0 : Nat} {w : World} (h : WInv own wb T b t N0 w) (ht : t + 1 ≤ 1099511627776) : WInv own wb T b (t + 1) N0 w :=
  ⟨h.bk, fun i q hq => by obtain ⟨a, b, c⟩ := h.each i q hq; exact ⟨a, b, c.later⟩, h.low, h.lowN, h.tab, ht, h.bb.later, by have := h.tl; omega⟩

theorem WInv.pre {own : Nat → Nat} {wb : Nat} {T : List Sto} {b : Bk} {t N0 : Nat} {w : World} (h : WInv own wb T b t N0 w) {vss vrs : Value} (hbk : BookAt own wb vss vrs b w) {i : Nat} {q : Sto} (hq : T[i]? = some q) : Pre own i wb q.1 q.2.1 vss vrs q.2.2.1 q.2.2.2 b t N0 w := by
  obtain ⟨a, c, d⟩ := h.each i q hq
  exact ⟨a, c, hbk, d, h.bb, h.low, h.lowN, h.tab, h.small⟩

/-- What a step of a script leaves. -/
def WPost (wb t N0 : Nat) (w : World) (e : Ending) (w' : World) : Prop :=
  e = .returned (.bool true) ∧ Below N0 w w' ∧ ∃ own T b, 1 ≤ T.length ∧ WInv own wb T b (t + 1) N0 w'

theorem WInv.step {own : Nat → Nat} {wb : Nat} {T : List Sto} {b : Bk} {t N0 : Nat} {w w' : World} (h : WInv own wb T b t N0 w) {vss vrs : Value} {e : Ending} {i : Nat} {q : Sto} (hq : T[i]? = some q)
    (hss : OwnsIn w (Dm own 1) 43 1 vss T.length (T.map fun q => ptr q.1)) (hrs : OwnsIn w (Dm own 1) 45 1 vrs T.length (T.map fun q => ptr q.2.1)) (hp : StepPost own i wb q.1 q.2.1 vss vrs t N0 w e w') : WPost wb t N0 w e w' := by
  obtain ⟨he, kx, own', x, y, b', ag, pre⟩ := hp
  have hil : i < T.length := (List.getElem?_eq_some_iff.1 hq).1
  have hd : ∀ id b, b < w.heap.size → Dm own id b → Dm own' id b := fun id b hb h => by show own' b = id; rw [ag b hb]; exact h
  have hdd : ∀ id b, b < w.heap.size → Dm own' id b → own b = id := fun id b hb h => by rw [← ag b hb]; exact h
  have hrow : ∀ (f : Sto → Value), (f q = f (q.1, q.2.1, x, y)) → ((T.set i (q.1, q.2.1, x, y)).map f) = T.map f := fun f hf => by
    apply List.ext_getElem?
    intro j
    rw [List.getElem?_map, List.getElem?_map, List.getElem?_set]
    by_cases hij : i = j
    · subst hij
      rw [if_pos rfl, if_pos hil, hq]
      simp [hf]
    · rw [if_neg hij]
  refine ⟨he, kx.below h.lowN (StepX.low h.low h.lowN), own', T.set i (q.1, q.2.1, x, y), b', by rw [List.length_set]; omega, ⟨vss, vrs, pre.bk, ?_, ?_⟩, ?_, pre.low, pre.lowN, pre.tab, pre.small, pre.bb, by rw [List.length_set]; have := h.tl; omega⟩
  · rw [List.length_set, hrow (fun q => ptr q.1) rfl]
    refine (hss.mono (hd 1)).kx kx fun b hb hdm hx => ?_
    have := hdd 1 b hb hdm
    rcases hx with hx | ⟨_, hx | hx | ⟨_, hx⟩ | hx | hx⟩
    · omega
    · omega
    · omega
    · simp at hx
    · omega
    · omega
  · rw [List.length_set, hrow (fun q => ptr q.2.1) rfl]
    refine (hrs.mono (hd 1)).kx kx fun b hb hdm hx => ?_
    have := hdd 1 b hb hdm
    rcases hx with hx | ⟨_, hx | hx | ⟨_, hx⟩ | hx | hx⟩
    · omega
    · omega
    · omega
    · simp at hx
    · omega
    · omega
  · intro j r hr
    rw [List.getElem?_set] at hr
    by_cases hij : i = j
    · subst hij
      rw [if_pos rfl, if_pos hil] at hr
      cases hr
      exact ⟨pre.st, pre.rf, pre.bo⟩
    · rw [if_neg hij] at hr
      obtain ⟨a, b, c⟩ := h.each j r hr
      have hx0 : ∀ id, id ≠ 3 * i + 4 → id ≠ 3 * i + 5 → 4 ≤ id → ∀ b' e, b' < w.heap.size → Dm own' id b' → ¬ StepX own i w.heap.size b' e := fun id h1 h2 h3 b' e hb hdm hx => by
        have := hdd _ b' hb hdm
        rcases hx with hx | ⟨_, hx⟩ <;> omega
      exact ⟨(a.mono (hd _) (hd _)).kx kx (hx0 _ (by omega) (by omega) (by omega)) (hx0 _ (by omega) (by omega) (by omega)), (RefT.mono b (hd _)).kx kx (hx0 _ (by omega) (by omega) (by omega)), c.later⟩

theorem stOk0 : StOk st0 := by
  refine ⟨by simp [st0], List.Pairwise.nil, by simp [st0], by simp [st0], by simp [st0], by simp [st0], ⟨List.Pairwise.nil, by simp [st0], by simp [st0], by simp [st0], by simp [st0], List.Pairwise.nil, List.Pairwise.nil, by simp [st0], fun q _ k => rfl, by simp [st0], Int.le_refl _, by simp [st0], by simp [st0], Nat.le_refl _, by simp [st0]⟩⟩

theorem Both.new (t : Nat) : Both t st0 ⟨[], [], 0⟩ :=
  ⟨⟨rfl, rfl, rfl, fun e => ⟨fun h => by simp [st0] at h, fun ⟨i, b, p, h, _⟩ => by simp at h⟩⟩, stOk0, rfl, by simp, Nat.zero_le _, Nat.zero_le _, by simp [rl], Nat.zero_le _, by simp, by simp, List.Pairwise.nil, by simp, by simp⟩

/-- One store more. -/
theorem WInv.opened {own : Nat → Nat} {wb : Nat} {T : List Sto} {b : Bk} {q : BkQ} {t N0 : Nat} {w w' : World} (h : WInv own wb T b t N0 w) (ht : t + 1 ≤ 1099511627776) {e : Ending} (hbe : BkE (Dm own 2) q.es q.em b.Pe w) (hbt : BkT (Dm own 3) q.ts q.tm b.Pt w) (hp : OpenPost own wb q b.P b.n T.length (T.map fun q => ptr q.1) (T.map fun q => ptr q.2.1) w e w') : WPost wb t N0 w e w' := by
  obtain ⟨he, k, sb, rb, vss, vrs, hsb, hrb, hne, hbk, hss, hrs, hst, hrf⟩ := hp
  have hlow := h.lowN
  obtain ⟨own', how⟩ : ∃ own' : Nat → Nat, own' = fun k => if k < w.heap.size then own k else if k = sb then 3 * T.length + 4 else if k = rb then 3 * T.length + 5 else 1 := ⟨_, rfl⟩
  have ag : ∀ k, k < w.heap.size → own' k = own k := fun k hk => by rw [how]; simp [hk]
  have hd : ∀ id b, b < w.heap.size → Dm own id b → Dm own' id b := fun id b hb h => by show own' b = id; rw [ag b hb]; exact h
  have hdd : ∀ id b, b < w.heap.size → Dm own' id b → own b = id := fun id b hb h => by rw [← ag b hb]; exact h
  have kx : Kx (fun b e => w.heap.size ≤ b ∨ (own b = 1 ∧ e ∈ [36, 43, 45])) w w' := Kx.of_kd k fun b e hb hd he => by
    rcases hd with hd | hd
    · exact .inr ⟨hd, he⟩
    · omega
  have hB : Below N0 w w' := k.belowN hlow fun b hb => by
    rcases hb with hb | hb
    · exact h.low b (by omega)
    · omega
  have hsw : ∃ c f, w'.heap[sb]? = some (.cells c 82 f) := by obtain ⟨_, _, _, _, _, hs, _⟩ := hst; exact ⟨_, _, hs⟩
  have hrw : ∃ c f, w'.heap[rb]? = some (.cells c 85 f) := by obtain ⟨_, _, _, _, hs, _⟩ := hrf; exact ⟨_, _, hs⟩
  have h1 : ∀ b c e f, w'.heap[b]? = some (.cells c e f) → e ∈ [36, 38, 3, 43, 45] → Dc own w.heap.size 1 b → Dm own' 1 b := fun b c e f hc he hdb => by
    show own' b = 1
    by_cases hbN : b < w.heap.size
    · rw [ag b hbN]
      rcases hdb with hdb | hdb
      · exact hdb
      · omega
    · rw [how]
      simp only [hbN, if_false]
      have n1 : b ≠ sb := fun eb => by
        obtain ⟨c', f', hs⟩ := hsw
        rw [eb, hs] at hc
        simp only [Option.some.injEq, Obj.cells.injEq] at hc
        rw [← hc.2.1] at he; simp at he
      have n2 : b ≠ rb := fun eb => by
        obtain ⟨c', f', hs⟩ := hrw
        rw [eb, hs] at hc
        simp only [Option.some.injEq, Obj.cells.injEq] at hc
        rw [← hc.2.1] at he; simp at he
      simp [n1, n2]
  have hx0 : ∀ id, id ≠ 1 → ∀ b' e, b' < w.heap.size → Dm own' id b' → ¬ (w.heap.size ≤ b' ∨ (own b' = 1 ∧ e ∈ [36, 43, 45])) := fun id hid b' e hb hdm hx => by
    have := hdd _ b' hb hdm
    rcases hx with hx | ⟨hx, _⟩ <;> omega
  refine ⟨he, hB, own', T ++ [(sb, rb, st0, ⟨[], [], 0⟩)], b, by simp, ⟨vss, vrs, ⟨q, hbk.monoT fun b c e f hc he => h1 b c e f hc (by simp at he ⊢; rcases he with h2 | h2 | h2 <;> simp [h2]), (hbe.mono (hd _)).kx kx (hx0 2 (by omega)), (hbt.mono (hd _)).kx kx (hx0 3 (by omega))⟩, ?_, ?_⟩, ?_, ?_, Nat.le_trans hlow hB.size, fun w2 h2 => h.tab w2 (hB.trans h2), ht, h.bb.later, by have := h.tl; simp; omega⟩
  · rw [List.length_append, List.map_append]
    exact hss.monoT fun b c f hc => h1 b c _ f hc (by simp)
  · rw [List.length_append, List.map_append]
    exact hrs.monoT fun b c f hc => h1 b c _ f hc (by simp)
  · intro j r hr
    by_cases hj : j < T.length
    · rw [List.getElem?_append_left hj] at hr
      obtain ⟨a, b, c⟩ := h.each j r hr
      exact ⟨(a.mono (hd _) (hd _)).kx kx (hx0 _ (by omega)) (hx0 _ (by omega)), (RefT.mono b (hd _)).kx kx (hx0 _ (by omega)), c.later⟩
    · have hjl : j < (T ++ [(sb, rb, st0, (⟨[], [], 0⟩ : Rf))]).length := (List.getElem?_eq_some_iff.1 hr).1
      simp only [List.length_append, List.length_singleton] at hjl
      obtain rfl : j = T.length := by omega
      simp at hr
      subst hr
      refine ⟨hst.mono (fun b _ hb => ?_) (fun b _ hb => hb.elim), RefT.mono hrf fun b _ hb => ?_, Both.new _⟩
      · have hb' : b = sb := hb
        show own' b = _
        rw [how, hb']
        simp only
        rw [if_neg (by omega)]
        simp
      · have hb' : b = rb := hb
        show own' b = _
        rw [how, hb']
        simp only
        rw [if_neg (by omega), if_neg (fun h => hne h.symm)]
        simp
  · intro b hb
    by_cases hbN : b < w.heap.size
    · rw [ag b hbN] at hb; exact h.low b hb
    · omega
end Go.Proofs.YtakipjofboipmaaGreatDoor

/- The walks of this proof: a step, by its kind. -/
namespace Go.Proofs.YtakipjofboipmaaGreatDoor
open Go.RowKit Go.Sort

theorem WPost.of_below {wb t N0 : Nat} {w w1 w' : World} {e : Ending} (hb : Below w.heap.size w w1) (hN : N0 ≤ w.heap.size) (h : WPost wb t N0 w1 e w') : WPost wb t N0 w e w' := by
  obtain ⟨h1, h2, h3⟩ := h
  exact ⟨h1, (hb.mono hN).trans h2, h3⟩

/-- What a call of stages 2 and 3 comes to. -/
def LayS (o : OpD) : Prop := ∀ (own : Nat → Nat) (i wb sb rb : Nat) (vss vrs : Value) (x : St) (y : Rf) (b : Bk) (t N0 : Nat) (w : World), Pre own i wb sb rb vss vrs x y b t N0 w → OpOk o N0 w → t + 1 ≤ 1099511627776 →
  Calls Tryz.prog 17 #[.pointer (some ⟨wb, 0, none⟩), .pointer (some ⟨sb, 0, none⟩), .pointer (some ⟨rb, 0, none⟩), o.val] w fun e w' => StepPost own i wb sb rb vss vrs t N0 w e w'

/-- What opening a store comes to. -/
def LoadS (o : OpD) : Prop := ∀ (own : Nat → Nat) (wb : Nat) (T : List Sto) (b : Bk) (t N0 : Nat) (w : World), WInv own wb T b t N0 w → OpOk o N0 w → t + 1 ≤ 1099511627776 → Calls Tryz.prog 7 #[.pointer (some ⟨wb, 0, none⟩), o.val] w fun e w' => WPost wb t N0 w e w'

theorem new_s (o : OpD) (hK1 : o.K = 1) : LoadS o := fun own wb T b t N0 w h ok ht => by
  obtain ⟨vss, vrs, ⟨q, h1, he, hb⟩, h2, h3⟩ := h.bk
  exact (opens_any own wb vss vrs q b.P b.n T.length _ _ o w hK1 h1 h2 h3 (by have := h.tl; omega)).mono fun e w' hp => h.opened ht he hb hp

set_option maxHeartbeats 4000000 in
set_option maxRecDepth 100000 in
theorem step_any (own : Nat → Nat) (wb : Nat) (T : List Sto) (b : Bk) (t N0 : Nat) (o : OpD) (w : World) (h : WInv own wb T b t N0 w) (ok : OpOk o N0 w) (hT1 : 1 ≤ T.length) (ht : t + 1 ≤ 1099511627776) (hK : o.K ≤ 12) (HL : 7 ≤ o.K → o.K ≠ 11 → LayS o) (HLd : o.K = 11 → LoadS o) :
    Calls Tryz.prog 8 #[.pointer (some ⟨wb, 0, none⟩), o.val] w fun e w' => WPost wb t N0 w e w' := by
  obtain ⟨wA, hwA⟩ : ∃ wA, w.alloc (.cells o.cells 41) = wA := ⟨_, rfl⟩
  have HWA : Hid (w.alloc (.cells o.cells 41) = wA) := hwA
  have BA : Hid (Below w.heap.size w wA) := by rw [← hwA]; exact (Below.refl _ _).alloc (Nat.le_refl _) _
  have OA : Hid (wA.heap[w.heap.size]? = some (.cells o.cells 41 (0, 0))) := by rw [← hwA]; exact heap_alloc_new w _
  have hlow := h.lowN
  have htl := h.tl
  have HA : Hid (WInv own wb T b t N0 wA) := h.below BA.out
  have OKA : Hid (OpOk o N0 wA) := ok.on (BA.out.mono hlow)
  generalize hpost : (fun (e : Ending) (w' : World) => WPost wb t N0 w e w') = PP
  have HPP : Hid (∀ w', WPost wb t N0 w (.returned (.bool true)) w' → PP (.returned (.bool true)) w') := fun w' h => by rw [← hpost]; exact h
  have HOF : Hid (∀ w1 e w', Below w.heap.size w w1 → WPost wb t N0 w1 e w' → WPost wb t N0 w e w') := fun w1 e w' hb h => h.of_below hb hlow
  have HWW : Hid (WInv own wb T b t N0 w) := h
  clear hpost h ok hwA
  by_cases hK1 : o.K = 1 ∨ o.K = 11
  · have HO : Hid (Calls Tryz.prog 7 #[.pointer (some ⟨wb, 0, none⟩), o.val] wA fun e w' => WPost wb t N0 w e w') := by
      have hs : LoadS o := by
        rcases hK1 with h | h
        · exact new_s o h
        · exact HLd h
      exact (hs own wb T b t N0 wA HA.out OKA.out ht).mono fun e w' hp => HOF.out wA e w' BA.out hp
    unfold OpD.val at HO ⊢
    unfold OpD.cells at HO HWA OA ⊢
    clear HL HLd
    obtain ⟨K, hKe⟩ : ∃ K, o.K = K := ⟨_, rfl⟩
    rw [hKe] at HO HWA OA hK1 ⊢
    clear hK hKe
    rcases hK1 with rfl | rfl
    · go_enter Tryz.func8, Tryz.ntmps8
      go_wp2_with fail
      rw [HWA.out]
      refine Calls.mono HO.out ?_
      intro e w1 h1
      obtain ⟨rfl, h2⟩ := id h1
      have HF : Hid (WPost wb t N0 w (.returned (.bool true)) w1) := h1
      clear h1 h2
      go_wp2
      exact HPP.out _ HF.out
    · go_enter Tryz.func8, Tryz.ntmps8
      go_wp2_with fail
      rw [HWA.out]
      refine Calls.mono HO.out ?_
      intro e w1 h1
      obtain ⟨rfl, h2⟩ := id h1
      have HF : Hid (WPost wb t N0 w (.returned (.bool true)) w1) := h1
      clear h1 h2
      go_wp2
      exact HPP.out _ HF.out
  · have e1 : (o.K == 1) = false := by rw [beq_eq_false_iff_ne]; omega
    have e11 : (o.K == 11) = false := by rw [beq_eq_false_iff_ne]; omega
    have e13 : (o.K == 13) = false := by rw [beq_eq_false_iff_ne]; omega
    have eT : ((T.length : Int) == 0) = false := by rw [beq_eq_false_iff_ne]; omega
    obtain ⟨vss, vrs, hbk0', hss0, hrs0⟩ := HWW.out.bk
    obtain ⟨qB, hbk0, _⟩ := id hbk0'
    have hbk' := hbk0'.below BA.out
    have hbk := hbk0.below' BA.out
    have hss := hss0.below BA.out
    have hrs := hrs0.below BA.out
    obtain ⟨aoS, capS, rfl⟩ := slice_form hss.own
    obtain ⟨aoR, capR, rfl⟩ := slice_form hrs.own
    obtain ⟨c0, c1, _, _, hwb⟩ := hbk.c0
    obtain ⟨c0w, _, _, _, hwbw⟩ := hbk0.c0
    have hw0 := OKA.out.w0
    have hw1 := OKA.out.w1
    have hpk := pk_lt (c := o.W) (n := T.length) (by omega)
    have HPK : Hid (∀ w d os, Calls Tryz.prog 15 #[.int .i64 o.W, .int .i64 T.length] (grow (redrawn w d) os) fun e w'' => e = .returned (.int .i64 (pk o.W T.length)) ∧ ∃ p : Regrown, w'' = grow (redrawn w p.d) p.os) := pick_in o.W T.length hw0 hw1 (by omega) (by omega)
    obtain ⟨kn, hkn⟩ : ∃ kn : Nat, pk o.W T.length = kn := ⟨(pk o.W T.length).toNat, by omega⟩
    rw [hkn] at hpk HPK
    clear hkn
    obtain ⟨q, hq⟩ : ∃ q, T[kn]? = some q := ⟨_, List.getElem?_eq_getElem (by omega)⟩
    obtain ⟨gS, capS', hv, hgS, cS⟩ := row_one hss.own (i := kn) (u := ptr q.1) (by simp [hq])
    simp only [Value.slice.injEq, true_and] at hv
    obtain ⟨rfl, rfl⟩ := hv
    obtain ⟨gR, capR', hv, hgR, cR⟩ := row_one hrs.own (i := kn) (u := ptr q.2.1) (by simp [hq])
    simp only [Value.slice.injEq, true_and] at hv
    obtain ⟨rfl, rfl⟩ := hv
    unfold ptr at cS cR
    have HKE : Hid (∀ w1, Below wA.heap.size wA w1 → 2 ≤ o.K → o.K ≤ 6 → Calls Tryz.prog 16 #[.pointer (some ⟨wb, 0, none⟩), .pointer (some ⟨q.1, 0, none⟩), .pointer (some ⟨q.2.1, 0, none⟩), o.val] w1 fun e w' => WPost wb t N0 w e w') := fun w1 hb h2 h6 => by
      have hA1 := HA.out.below hb
      refine (keys_any own kn wb q.1 q.2.1 _ _ q.2.2.1 q.2.2.2 b t N0 o w1 (hA1.pre (hbk'.below hb) hq) (OKA.out.on (hb.mono HA.out.lowN)) ht ⟨h2, h6⟩).mono fun e w' hp => ?_
      exact HOF.out w1 e w' (below_trans' BA.out hb) (hA1.step hq (hss.below hb) (hrs.below hb) hp)
    have HLE : Hid (∀ w1, Below wA.heap.size wA w1 → 7 ≤ o.K → Calls Tryz.prog 17 #[.pointer (some ⟨wb, 0, none⟩), .pointer (some ⟨q.1, 0, none⟩), .pointer (some ⟨q.2.1, 0, none⟩), o.val] w1 fun e w' => WPost wb t N0 w e w') := fun w1 hb h7 => by
      have hA1 := HA.out.below hb
      refine (HL h7 (by omega) own kn wb q.1 q.2.1 _ _ q.2.2.1 q.2.2.2 b t N0 w1 (hA1.pre (hbk'.below hb) hq) (OKA.out.on (hb.mono HA.out.lowN)) ht).mono fun e w' hp => ?_
      exact HOF.out w1 e w' (below_trans' BA.out hb) (hA1.step hq (hss.below hb) (hrs.below hb) hp)
    have HSA : Hid (∀ w1, Below wA.heap.size wA w1 → WPost wb t N0 w (.returned (.bool true)) w1) := fun w1 hb => by
      refine HOF.out wA _ _ BA.out ⟨rfl, hb.mono HA.out.lowN, own, T, b, hT1, (HA.out.below hb).later ht⟩
    have q0A : wA.cell? ⟨w.heap.size, 0, none⟩ = some (.int .i64 o.K) := by simp [World.cell?, OA.out, OpD.cells]
    have q3A : wA.cell? ⟨w.heap.size, 3, none⟩ = some (.int .i64 o.W) := by simp [World.cell?, OA.out, OpD.cells]
    have q3 := cell_regrown q3A
    have c0' := cell_regrown c0
    have HOA2 : Hid (∀ w1, Below wA.heap.size wA w1 → w1.heap[w.heap.size]? = some (.cells o.cells 41 (0, 0))) := fun w1 hb => (hb.block _ (lt_of_block OA.out)).trans OA.out
    have hkT : (kn : Int) < (T.length : Int) := by omega
    unfold OpD.val at HKE HLE ⊢
    unfold OpD.cells at HKE HLE HWA HOA2 ⊢
    clear hbk hss hrs hq OA hbk0 hss0 hrs0 hbk' hbk0' HL HLd hK1
    go_enter Tryz.func8, Tryz.ntmps8
    go_wp2
    rw [HWA.out]
    clear c0w hwbw
    refine wp_region_quiet_below (by kernel_rfl) (by kernel_rfl) ?_
    repeat (first | go_big_quiet_step (exact HPK.out _ _ _) | quiet_step (exact HPK.out _ _ _))
    refine wpQuiet_nil ?_
    intro w2 hw'
    have hb := below_of_regrown hw'
    have B2 : Hid (Below wA.heap.size wA w2) := hb
    have c0 := cell_later hb c0
    have c1 := cell_later hb c1
    have cS := cell_later hb cS
    have cR := cell_later hb cR
    have ob2 := HOA2.out w2 hb
    have q0 : w2.cell? ⟨w.heap.size, 0, none⟩ = some (.int .i64 o.K) := by simp [World.cell?, ob2]
    have q1 : w2.cell? ⟨w.heap.size, 1, none⟩ = some (.int .i64 o.A) := by simp [World.cell?, ob2]
    have q2 : w2.cell? ⟨w.heap.size, 2, none⟩ = some (.int .i64 o.B) := by simp [World.cell?, ob2]
    have q3 : w2.cell? ⟨w.heap.size, 3, none⟩ = some (.int .i64 o.W) := by simp [World.cell?, ob2]
    have q4 : w2.cell? ⟨w.heap.size, 4, none⟩ = some (.string o.S) := by simp [World.cell?, ob2]
    have q5 : w2.cell? ⟨w.heap.size, 5, none⟩ = some (.bool o.F) := by simp [World.cell?, ob2]
    have q6 : w2.cell? ⟨w.heap.size, 6, none⟩ = some (.slice o.aP o.L.length o.cP) := by simp [World.cell?, ob2]
    have q7 : w2.cell? ⟨w.heap.size, 7, none⟩ = some (.slice o.aC o.lC o.cC) := by simp [World.cell?, ob2]
    have q8 : w2.cell? ⟨w.heap.size, 8, none⟩ = some (.slice o.aK o.lK o.cK) := by simp [World.cell?, ob2]
    clear hb hw' c0' ob2
    by_cases h2 : 2 ≤ o.K
    · by_cases h6 : o.K ≤ 6
      · go_wp2_with fail
        refine Calls.mono (HKE.out _ B2.out h2 h6) ?_
        intro e w3 h1
        obtain ⟨rfl, h3⟩ := id h1
        have HF : Hid (WPost wb t N0 w (.returned (.bool true)) w3) := h1
        clear h1 h3
        go_wp2
        exact HPP.out _ HF.out
      · have h7 : 7 ≤ o.K := by omega
        go_wp2_with fail
        refine Calls.mono (HLE.out _ B2.out h7) ?_
        intro e w3 h1
        obtain ⟨rfl, h3⟩ := id h1
        have HF : Hid (WPost wb t N0 w (.returned (.bool true)) w3) := h1
        clear h1 h3
        go_wp2
        exact HPP.out _ HF.out
    · have h7 : ¬ 7 ≤ o.K := by omega
      go_wp2
      exact HPP.out _ (HSA.out _ B2.out)
end Go.Proofs.YtakipjofboipmaaGreatDoor

/- The walks of this proof: a script. -/
namespace Go.Proofs.YtakipjofboipmaaGreatDoor
open Go.RowKit Go.Sort

/-- A script, as it lies in memory. -/
def OpsAt (W : World) (v : Value) (os : List OpD) : Prop :=
  ∃ (ao : Option Addr) (cap : Nat), v = .slice ao os.length cap ∧ ∀ (i : Nat) (o : OpD), os[i]? = some o → OpOk o W.heap.size W ∧ ∃ b : Addr, ao = some b ∧ b.spot = none ∧ ∀ f u, o.cells[f]? = some u → W.cell? ⟨b.block, b.off + i * 9 + f, none⟩ = some u

theorem WInv.zero (W : World) (hT : ∀ w', Below W.heap.size W w' → Tab w') : WInv (fun k => if k = W.heap.size then 1 else 0) W.heap.size [] ⟨[], [], [], 0⟩ 0 W.heap.size (W.alloc (.cells (bookCells (.slice none 0 0) (.slice none 0 0) ⟨.slice none 0 0, .slice none 0 0, .slice none 0 0, .slice none 0 0⟩ (.slice none 0 0) (.slice none 0 0) 0) 36)) := by
  have hb : Below W.heap.size W (W.alloc (.cells (bookCells (.slice none 0 0) (.slice none 0 0) ⟨.slice none 0 0, .slice none 0 0, .slice none 0 0, .slice none 0 0⟩ (.slice none 0 0) (.slice none 0 0) 0) 36)) := (Below.refl _ _).alloc (Nat.le_refl _) _
  refine ⟨⟨_, _, ⟨⟨.slice none 0 0, .slice none 0 0, .slice none 0 0, .slice none 0 0⟩, ⟨_, _, [], ?_, heap_alloc_new W _, OwnsIn.nil _ _ _ _, OwnsIn.nil _ _ _ _, fun i m l h => by simp at h⟩, ⟨[], OwnsIn.nil _ _ _ _, OwnsIn.nil _ _ _ _, fun i m l h => by simp at h⟩, ⟨[], OwnsIn.nil _ _ _ _, OwnsIn.nil _ _ _ _, fun i m l h => by simp at h⟩⟩, OwnsIn.nil _ _ _ _, OwnsIn.nil _ _ _ _⟩, fun i q h => by simp at h, fun k hk => ?_, hb.size, fun w' h => hT w' (hb.trans h), by omega, ⟨by simp, by simp, by simp, by simp, by simp, fun p hp => by simp at hp, fun p hp => by simp at hp, fun p hp => by simp at hp⟩, by simp⟩
  · show (if W.heap.size = W.heap.size then 1 else 0) = 1
    simp
  · by_cases h : k = W.heap.size
    · omega
    · simp [h] at hk

def op0 : OpD := ⟨1, 0, 0, 0, ⟨#[]⟩, false, [], none, 0, none, 0, 0, none, 0, 0⟩

set_option maxHeartbeats 4000000 in
set_option maxRecDepth 100000 in
theorem plays_any (hi : Int) (STEP : ∀ o : OpD, o.K ≤ hi → o.K ≤ 12 ∧ (7 ≤ o.K → o.K ≠ 11 → LayS o) ∧ (o.K = 11 → LoadS o)) (os : List OpD) (v : Value) (W : World) (h : OpsAt W v os) (hT : ∀ w', Below W.heap.size W w' → Tab w') (hl : os.length ≤ 1099511627744) :
    Calls Tryz.prog 6 #[v, .int .i64 hi] W fun e w' => e = .returned (.bool true) ∧ Below W.heap.size W w' := by
  obtain ⟨ao, cap, rfl, hos⟩ := h
  have HOS : Hid _ := hos
  have HSTEP : Hid _ := STEP
  clear STEP
  have HT : Hid (∀ w', Below W.heap.size W w' → Tab w') := hT
  obtain ⟨w1, hw1⟩ : ∃ w1, W.alloc (.cells (bookCells (.slice none 0 0) (.slice none 0 0) ⟨.slice none 0 0, .slice none 0 0, .slice none 0 0, .slice none 0 0⟩ (.slice none 0 0) (.slice none 0 0) 0) 36) = w1 := ⟨_, rfl⟩
  have H1 : Hid (WInv (fun k => if k = W.heap.size then 1 else 0) W.heap.size [] ⟨[], [], [], 0⟩ 0 W.heap.size w1 ∧ Below W.heap.size W w1) := by
    rw [← hw1]; exact ⟨WInv.zero W hT, (Below.refl _ _).alloc (Nat.le_refl _) _⟩
  have HO : Hid (Calls Tryz.prog 7 #[.pointer (some ⟨W.heap.size, 0, none⟩), .agg #[.int .i64 1, .int .i64 0, .int .i64 0, .int .i64 0, .string ⟨#[]⟩, .bool false, .slice none 0 0, .slice none 0 0, .slice none 0 0]] w1 fun e w' => WPost W.heap.size 0 W.heap.size w1 e w') := by
    exact new_s op0 rfl _ W.heap.size [] _ 0 W.heap.size w1 H1.out.1 ⟨fun w' _ => ⟨none, 0, rfl, by simp [op0], by simp [op0], fun k p h => by simp [op0] at h⟩, Nat.zero_le _, by simp [op0], by simp [op0]⟩ (by omega)
  have HW1 : Hid (W.alloc (.cells (bookCells (.slice none 0 0) (.slice none 0 0) ⟨.slice none 0 0, .slice none 0 0, .slice none 0 0, .slice none 0 0⟩ (.slice none 0 0) (.slice none 0 0) 0) 36) = w1) := hw1
  unfold bookCells at HW1
  clear hos hT hw1
  go_enter Tryz.func6, Tryz.ntmps6
  go_wp2_with fail
  rw [HW1.out]
  refine Calls.mono HO.out ?_
  rintro e w2 ⟨rfl, hb2, hinv⟩
  have I2 : Hid (Below W.heap.size W w2 ∧ ∃ own T b, 1 ≤ T.length ∧ WInv own W.heap.size T b 1 W.heap.size w2) := ⟨H1.out.2.trans hb2, hinv⟩
  clear hb2 hinv
  go_wp2
  go_loopg [7, 8, 9] os.length (fun kx s7 s8 s9 wr => ∃ k : Nat, k ≤ os.length ∧ os.length - k ≤ kx ∧ s7 = .int .i64 k ∧ Hid (Below W.heap.size W wr) ∧ Hid (∃ own T b, 1 ≤ T.length ∧ WInv own W.heap.size T b (k + 1) W.heap.size wr))
  case atStart => exact ⟨0, Nat.zero_le _, Nat.le_refl _, rfl, I2.out.1, I2.out.2⟩
  case round =>
    clear I2 H1 HO HW1
    obtain ⟨k, hk, hkk, rfl, HB, HI⟩ := hrel
    by_cases hlt : k < os.length
    · obtain ⟨o, ho⟩ : ∃ o, os[k]? = some o := ⟨_, List.getElem?_eq_getElem hlt⟩
      obtain ⟨hok, ⟨g, off, spot⟩, rfl, hsp, hcell⟩ := HOS.out k o ho
      simp only at hsp hcell
      subst hsp
      have p0 := cell_later HB.out (hcell 0 (.int .i64 o.K) rfl)
      have p1 := cell_later HB.out (hcell 1 (.int .i64 o.A) rfl)
      have p2 := cell_later HB.out (hcell 2 (.int .i64 o.B) rfl)
      have p3 := cell_later HB.out (hcell 3 (.int .i64 o.W) rfl)
      have p4 := cell_later HB.out (hcell 4 (.string o.S) rfl)
      have p5 := cell_later HB.out (hcell 5 (.bool o.F) rfl)
      have p6 := cell_later HB.out (hcell 6 (.slice o.aP o.L.length o.cP) rfl)
      have p7 := cell_later HB.out (hcell 7 (.slice o.aC o.lC o.cC) rfl)
      have p8 := cell_later HB.out (hcell 8 (.slice o.aK o.lK o.cK) rfl)
      simp only [Nat.add_zero] at p0
      have hkl : (k : Int) < (os.length : Int) := by omega
      by_cases hK : o.K ≤ hi
      · have HST : Hid (Calls Tryz.prog 8 #[.pointer (some ⟨W.heap.size, 0, none⟩), o.val] wr fun e w' => WPost W.heap.size (k + 1) W.heap.size wr e w') := by
          obtain ⟨own, T, b, hT1, hinv⟩ := HI.out
          exact step_any own W.heap.size T b (k + 1) W.heap.size o wr hinv (hok.on HB.out) hT1 (by omega) (HSTEP.out o hK).1 (HSTEP.out o hK).2.1 (HSTEP.out o hK).2.2
        have HKP : Hid (∀ w3 own T b, WInv own W.heap.size T b (k + 1 + 1) W.heap.size w3 → Calls Tryz.prog 9 #[.pointer (some ⟨W.heap.size, 2, none⟩)] w3 fun e w' => e = .returned (.bool true) ∧ Below w3.heap.size w3 w') := fun w3 own T b hinv => by
          obtain ⟨vss, vrs, ⟨q, a1, a2, a3⟩, _, _⟩ := hinv.bk
          have bb := hinv.bb
          have hsm := hinv.small
          have h1 := bb.pl
          have h2 := bb.pel
          have h3 := bb.ptl
          have h4 := bb.n1
          exact bkept_any _ W.heap.size vss vrs q b.P b.n w3 a1 _ _ b.Pe b.Pt a2 a3 (fun w' h' => hinv.tab w' (h'.mono hinv.lowN)) (by omega) (by omega) (by omega) (fun p hp => by have := bb.peb p hp; omega) (fun p hp => by have := bb.ptb p hp; omega) (fun p hp => by have := bb.pb p hp; omega)
        have hgt : ¬ hi < o.K := by omega
        unfold OpD.val OpD.cells at HST
        clear hok hcell ho
        go_wp2_with fail
        refine Calls.mono HST.out ?_
        rintro e w3 ⟨rfl, hb3, own, T, b, hT1, hinv⟩
        have B3 : Hid (Below W.heap.size W w3) := HB.out.trans hb3
        have I3 : Hid (1 ≤ T.length ∧ WInv own W.heap.size T b (k + 1 + 1) W.heap.size w3) := ⟨hT1, hinv⟩
        have HW3 : Hid _ := HKP.out w3 own T b hinv
        clear hb3 hT1 hinv
        go_wp2_with fail
        refine Calls.mono HW3.out ?_
        rintro e w4 ⟨rfl, hb4⟩
        have I4 : Hid (Below W.heap.size W w4 ∧ ∃ own T b, 1 ≤ T.length ∧ WInv own W.heap.size T b (k + 1 + 1) W.heap.size w4) := ⟨B3.out.trans (hb4.mono B3.out.size), own, T, b, I3.out.1, I3.out.2.below hb4⟩
        clear hb4
        go_wp2
        go_roundg (os.length - (k + 1))
        case measure => omega
        case rel => exact ⟨k + 1, by omega, Nat.le_refl _, by go_num, I4.out.1, I4.out.2⟩
      · have hgt : hi < o.K := by omega
        have I4 : Hid (∃ own T b, 1 ≤ T.length ∧ WInv own W.heap.size T b (k + 1 + 1) W.heap.size wr) := by
          obtain ⟨own, T, b, hT1, hinv⟩ := HI.out
          exact ⟨own, T, b, hT1, hinv.later (by omega)⟩
        clear hok hcell ho
        go_wp2
        go_roundg (os.length - (k + 1))
        case measure => omega
        case rel => exact ⟨k + 1, by omega, Nat.le_refl _, by go_num, HB.out, I4.out⟩
    · go_wp2
      go_ret
      exact ⟨rfl, HB.out⟩

set_option maxHeartbeats 400000 in
theorem keysLaw_any (os : List OpD) (v : Value) (W : World) (h : OpsAt W v os) (hT : ∀ w', Below W.heap.size W w' → Tab w') (hl : os.length ≤ 1099511627744) :
    Calls Tryz.prog 3 #[v] W fun e w' => e = .returned (.bool true) ∧ Below W.heap.size W w' := by
  have HP : Hid _ := plays_any 6 (fun o h => ⟨by omega, fun h7 => by omega, fun h7 => by omega⟩) os v W h hT hl
  clear h hT
  go_enter Tryz.func3, Tryz.ntmps3
  go_wp2_with fail
  refine Calls.mono HP.out ?_
  rintro e w1 ⟨rfl, hb⟩
  have HB : Hid (Below W.heap.size W w1) := hb
  clear hb
  go_wp2
  go_ret
  exact ⟨rfl, HB.out⟩
end Go.Proofs.YtakipjofboipmaaGreatDoor
