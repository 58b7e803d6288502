/- The walks of this proof: a step, by its kind. -/
import Derived.Test.YtojdkfamihlnkaaGreatDoorT7
namespace Go.Proofs.YtojdkfamihlnkaaGreatDoor
open Go.RowKit Go.Sort

theorem WPost.of_below {wb t N0 : Nat} {w w1 w' : World} {e : Ending} (hb : Below w.heap.size w w1) (hN : N0 ≤ w.heap.size) (h : WPost wb t N0 w1 e w') : WPost wb t N0 w e w' := by
  obtain ⟨h1, h2, h3⟩ := h
  exact ⟨h1, (hb.mono hN).trans h2, h3⟩

set_option maxHeartbeats 4000000 in
set_option maxRecDepth 100000 in
theorem step_any (own : Nat → Nat) (wb : Nat) (T : List Sto) (P : List (Int × Nat)) (n : Int) (t N0 : Nat) (o : OpD) (w : World) (h : WInv own wb T P n t N0 w) (ok : OpOk o N0 w) (hT1 : 1 ≤ T.length) (ht : t + 1 ≤ 1100000) (hK : o.K ≤ 6) :
    Calls Tryz.prog 6 #[.pointer (some ⟨wb, 0, none⟩), o.val] w fun e w' => WPost wb t N0 w e w' := by
  obtain ⟨wA, hwA⟩ : ∃ wA, w.alloc (.cells o.cells 41) = wA := ⟨_, rfl⟩
  have HWA : Hid (w.alloc (.cells o.cells 41) = wA) := hwA
  have BA : Hid (Below w.heap.size w wA) := by rw [← hwA]; exact (Below.refl _ _).alloc (Nat.le_refl _) _
  have OA : Hid (wA.heap[w.heap.size]? = some (.cells o.cells 41 (0, 0))) := by rw [← hwA]; exact heap_alloc_new w _
  have hlow := h.lowN
  have htl := h.tl
  have HA : Hid (WInv own wb T P n t N0 wA) := h.below BA.out
  have OKA : Hid (OpOk o N0 wA) := ok.on (BA.out.mono hlow)
  generalize hpost : (fun (e : Ending) (w' : World) => WPost wb t N0 w e w') = PP
  have HPP : Hid (∀ w', WPost wb t N0 w (.returned (.bool true)) w' → PP (.returned (.bool true)) w') := fun w' h => by rw [← hpost]; exact h
  have HOF : Hid (∀ w1 e w', Below w.heap.size w w1 → WPost wb t N0 w1 e w' → WPost wb t N0 w e w') := fun w1 e w' hb h => h.of_below hb hlow
  have HWW : Hid (WInv own wb T P n t N0 w) := h
  clear hpost h ok hwA
  by_cases hK1 : o.K = 1
  · have HO : Hid (Calls Tryz.prog 5 #[.pointer (some ⟨wb, 0, none⟩), o.val] wA fun e w' => WPost wb t N0 w e w') := by
      obtain ⟨vss, vrs, h1, h2, h3⟩ := HA.out.bk
      exact (opens_any own wb vss vrs P n T.length _ _ o wA hK1 h1 h2 h3 (by omega)).mono fun e w' hp => HOF.out wA e w' BA.out (HA.out.opened ht hp)
    unfold OpD.val at HO ⊢
    unfold OpD.cells at HO HWA OA ⊢
    rw [hK1] at HO HWA OA ⊢
    clear hK1 hK
    go_enter Tryz.func6, Tryz.ntmps6
    go_wp2_with fail
    rw [HWA.out]
    refine Calls.mono HO.out ?_
    intro e w1 h1
    obtain ⟨rfl, h2⟩ := id h1
    have HF : Hid (WPost wb t N0 w (.returned (.bool true)) w1) := h1
    clear h1 h2
    go_wp2
    exact HPP.out _ HF.out
  · have e1 : (o.K == 1) = false := by rw [beq_eq_false_iff_ne]; exact hK1
    have e11 : (o.K == 11) = false := by rw [beq_eq_false_iff_ne]; omega
    have e13 : (o.K == 13) = false := by rw [beq_eq_false_iff_ne]; omega
    have eT : ((T.length : Int) == 0) = false := by rw [beq_eq_false_iff_ne]; omega
    obtain ⟨vss, vrs, hbk0, hss0, hrs0⟩ := HWW.out.bk
    have hbk := hbk0.below BA.out
    have hss := hss0.below BA.out
    have hrs := hrs0.below BA.out
    obtain ⟨aoS, capS, rfl⟩ := slice_form hss.own
    obtain ⟨aoR, capR, rfl⟩ := slice_form hrs.own
    obtain ⟨c0, c1, _, _, hwb⟩ := hbk.c0
    obtain ⟨c0w, _, _, _, hwbw⟩ := hbk0.c0
    have hw0 := OKA.out.w0
    have hw1 := OKA.out.w1
    have hpk := pk_lt (c := o.W) (n := T.length) (by omega)
    have HPK : Hid (∀ w d os, Calls Tryz.prog 13 #[.int .i64 o.W, .int .i64 T.length] (grow (redrawn w d) os) fun e w'' => e = .returned (.int .i64 (pk o.W T.length)) ∧ ∃ p : Regrown, w'' = grow (redrawn w p.d) p.os) := pick_in o.W T.length hw0 hw1 (by omega) (by omega)
    obtain ⟨kn, hkn⟩ : ∃ kn : Nat, pk o.W T.length = kn := ⟨(pk o.W T.length).toNat, by omega⟩
    rw [hkn] at hpk HPK
    clear hkn
    obtain ⟨q, hq⟩ : ∃ q, T[kn]? = some q := ⟨_, List.getElem?_eq_getElem (by omega)⟩
    obtain ⟨gS, capS', hv, hgS, cS⟩ := row_one hss.own (i := kn) (u := ptr q.1) (by simp [hq])
    simp only [Value.slice.injEq, true_and] at hv
    obtain ⟨rfl, rfl⟩ := hv
    obtain ⟨gR, capR', hv, hgR, cR⟩ := row_one hrs.own (i := kn) (u := ptr q.2.1) (by simp [hq])
    simp only [Value.slice.injEq, true_and] at hv
    obtain ⟨rfl, rfl⟩ := hv
    unfold ptr at cS cR
    have HKE : Hid (∀ w1, Below wA.heap.size wA w1 → 2 ≤ o.K → Calls Tryz.prog 14 #[.pointer (some ⟨wb, 0, none⟩), .pointer (some ⟨q.1, 0, none⟩), .pointer (some ⟨q.2.1, 0, none⟩), o.val] w1 fun e w' => WPost wb t N0 w e w') := fun w1 hb h2 => by
      have hA1 := HA.out.below hb
      refine (keys_any own (2 * kn + 2) (2 * kn + 3) wb q.1 q.2.1 _ _ q.2.2.1 q.2.2.2 P n t N0 o w1 (hA1.pre (hbk.below hb) hq) (OKA.out.on (hb.mono HA.out.lowN)) ht ⟨h2, hK⟩).mono fun e w' hp => ?_
      exact HOF.out w1 e w' (below_trans' BA.out hb) (hA1.step hq (hss.below hb) (hrs.below hb) hp)
    have HSA : Hid (∀ w1, Below wA.heap.size wA w1 → WPost wb t N0 w (.returned (.bool true)) w1) := fun w1 hb => by
      refine HOF.out wA _ _ BA.out ⟨rfl, hb.mono HA.out.lowN, own, T, P, n, hT1, (HA.out.below hb).later ht⟩
    have q0A : wA.cell? ⟨w.heap.size, 0, none⟩ = some (.int .i64 o.K) := by simp [World.cell?, OA.out, OpD.cells]
    have q3A : wA.cell? ⟨w.heap.size, 3, none⟩ = some (.int .i64 o.W) := by simp [World.cell?, OA.out, OpD.cells]
    have q3 := cell_regrown q3A
    have c0' := cell_regrown c0
    have HOA2 : Hid (∀ w1, Below wA.heap.size wA w1 → w1.heap[w.heap.size]? = some (.cells o.cells 41 (0, 0))) := fun w1 hb => (hb.block _ (lt_of_block OA.out)).trans OA.out
    have hkT : (kn : Int) < (T.length : Int) := by omega
    unfold OpD.val at HKE ⊢
    unfold OpD.cells at HKE HWA HOA2 ⊢
    clear hbk hss hrs hq OA hbk0 hss0 hrs0
    go_enter Tryz.func6, Tryz.ntmps6
    go_wp2
    rw [HWA.out]
    clear c0w hwbw
    refine wp_region_quiet_below (by kernel_rfl) (by kernel_rfl) ?_
    repeat (first | go_big_quiet_step (exact HPK.out _ _ _) | quiet_step (exact HPK.out _ _ _))
    refine wpQuiet_nil ?_
    intro w2 hw'
    have hb := below_of_regrown hw'
    have B2 : Hid (Below wA.heap.size wA w2) := hb
    have c0 := cell_later hb c0
    have c1 := cell_later hb c1
    have cS := cell_later hb cS
    have cR := cell_later hb cR
    have ob2 := HOA2.out w2 hb
    have q0 : w2.cell? ⟨w.heap.size, 0, none⟩ = some (.int .i64 o.K) := by simp [World.cell?, ob2]
    have q1 : w2.cell? ⟨w.heap.size, 1, none⟩ = some (.int .i64 o.A) := by simp [World.cell?, ob2]
    have q2 : w2.cell? ⟨w.heap.size, 2, none⟩ = some (.int .i64 o.B) := by simp [World.cell?, ob2]
    have q3 : w2.cell? ⟨w.heap.size, 3, none⟩ = some (.int .i64 o.W) := by simp [World.cell?, ob2]
    have q4 : w2.cell? ⟨w.heap.size, 4, none⟩ = some (.string o.S) := by simp [World.cell?, ob2]
    have q5 : w2.cell? ⟨w.heap.size, 5, none⟩ = some (.bool o.F) := by simp [World.cell?, ob2]
    have q6 : w2.cell? ⟨w.heap.size, 6, none⟩ = some (.slice o.aP o.L.length o.cP) := by simp [World.cell?, ob2]
    have q7 : w2.cell? ⟨w.heap.size, 7, none⟩ = some (.slice o.aC o.lC o.cC) := by simp [World.cell?, ob2]
    have q8 : w2.cell? ⟨w.heap.size, 8, none⟩ = some (.slice o.aK o.lK o.cK) := by simp [World.cell?, ob2]
    clear hb hw' c0' ob2
    by_cases h2 : 2 ≤ o.K
    · go_wp2_with fail
      refine Calls.mono (HKE.out _ B2.out h2) ?_
      intro e w3 h1
      obtain ⟨rfl, h3⟩ := id h1
      have HF : Hid (WPost wb t N0 w (.returned (.bool true)) w3) := h1
      clear h1 h3
      go_wp2
      exact HPP.out _ HF.out
    · have h7 : ¬ 7 ≤ o.K := by omega
      go_wp2
      exact HPP.out _ (HSA.out _ B2.out)
end Go.Proofs.YtojdkfamihlnkaaGreatDoor
