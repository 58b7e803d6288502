/- The walks of this proof: Unseen. -/
import Derived.Test.YtakipjofboipmaaGreatJ14
namespace Go.Proofs.YtakipjofboipmaaGreat
open Go.RowKit Go.Sort

set_option maxHeartbeats 2000000 in
set_option maxRecDepth 100000 in
theorem unseen_any (v : Value) (n : Nat) (w : World) (h : ScriptAt w v n) (hn : n ≤ 1900000) :
    Calls Tryz.prog 4 #[v] w fun e w' => e = .returned (.bool true) ∧ Below w.heap.size w w' := by
  obtain ⟨ao, cap, rfl, hc⟩ := h
  have HC : Hid _ := hc
  clear hc
  go_enter Tryz.func4, Tryz.ntmps4
  go_wp2_with fail
  refine (shop_any w).mono ?_
  rintro e w1 ⟨hb, rfl, hx, hb1⟩
  have HX : Hid (ShopAt w.heap.size hb st0 [] w1) := hx
  have HB1 : Hid (Below w.heap.size w w1) := hb1
  clear hx hb1
  go_wp2
  go_loopw [4, 5] (fun i _ wr => ∃ (j : Nat) (x : St) (A : List (List Pr)), j ≤ n ∧ i = .int .i64 j ∧ Hid (ShopAt w.heap.size hb x A wr) ∧ Hid (Sound x A j) ∧ Hid (Below w.heap.size w wr)) (fun i _ _ => n - (intOf i).toNat)
  case atStart => exact ⟨0, st0, [], Nat.zero_le _, rfl, HX, sound0, HB1⟩
  case round =>
    clear HX HB1
    obtain ⟨j, x, A, hj, rfl, HX, HS, HB⟩ := hrel
    by_cases hlt : j < n
    · obtain ⟨⟨g, off, spot⟩, k, a, al, nl, cl, f, rfl, hsp, c0, c1, c2, c3, hraw, ha0, ha1⟩ := HC.out j hlt
      simp only at hsp c0 c1 c2 c3
      subst hsp
      have hgw : g < w.heap.size := block_lt_of_cell c0
      have HD : Hid _ := does_any w.heap.size hb x A k a al nl cl f true j wr HX.out HS.out (by omega) (hraw.below HB.out) HB.out.size ha0 ha1
      have C0 : Hid (w.cell? ⟨g, off + j * 4, none⟩ = some (.int .i64 k)) := c0
      have C1 : Hid (w.cell? ⟨g, off + j * 4 + 1, none⟩ = some (.int .i64 a)) := c1
      have c0 := cell_later HB.out c0
      have c1 := cell_later HB.out c1
      have c2 := cell_later HB.out c2
      have c3 := cell_later HB.out c3
      have hgr : g < wr.heap.size := block_lt_of_cell c0
      clear hraw
      go_wp2_with fail
      refine Calls.mono HD.out ?_
      rintro e w2 ⟨rfl, x', A', hx2, hs2, hk2⟩
      have hb2 : Below w.heap.size w w2 := HB.out.trans (hk2.belowB HB.out.size)
      have c0 := cell_later hb2 C0.out
      have c1 := cell_later hb2 C1.out
      have hgr2 : g < w2.heap.size := block_lt_of_cell c0
      have HX2 : Hid (ShopAt w.heap.size hb x' A' w2) := hx2
      have HS2 : Hid (Sound x' A' (j + 1)) := hs2
      have HB2 : Hid (Below w.heap.size w w2) := hb2
      clear hx2 hs2 hb2 hk2 HD HX HS HB c2 c3
      by_cases hk6 : k = 6
      · subst hk6
        have HL : Hid _ := looks_any w.heap.size hb x' A' a (j + 1) w2 HX2.out HS2.out ha0 ha1
        go_wp2_with fail
        refine Calls.mono HL.out ?_
        rintro e w3 ⟨rfl, hb3⟩
        have HX3 : Hid (ShopAt w.heap.size hb x' A' w3) := HX2.out.below hb3
        have HB3 : Hid (Below w.heap.size w w3) := below_trans' HB2.out hb3
        clear hb3 HX2 HB2 HL
        go_wp2
        go_roundw
        case rel => exact ⟨j + 1, x', A', hlt, by go_num, HX3, HS2, HB3⟩
        case measure => simp [intOf]; omega
      · have b6 : (k == 6) = false := beq_eq_false_iff_ne.2 hk6
        go_wp2
        go_roundw
        case rel => exact ⟨j + 1, x', A', hlt, by go_num, HX2, HS2, HB2⟩
        case measure => simp [intOf]; omega
    · obtain rfl : j = n := by omega
      obtain ⟨sb, vA, vS, su, la, o0, o1, hBh, hs, hst, hall, hsn, _⟩ := id HX.out
      have hbl : hb < wr.heap.size := lt_of_block hs
      have hS4 := HS.out.sh.st.snaps
      obtain ⟨aoS, capS, rfl⟩ := slice_form hsn
      have c2 : wr.cell? ⟨hb, 2, none⟩ = some (.slice aoS x.S.length capS) := by simp [World.cell?, hs]
      obtain ⟨w9, hw9⟩ : ∃ w9, w9 = wr := ⟨wr, rfl⟩
      subst hw9
      have HL : Hid (∀ (w2 : World) (c : Nat), c ≤ 4 → Below w9.heap.size w9 w2 → Calls Tryz.prog 13 #[.pointer (some ⟨hb, 0, none⟩), .int .i64 c] w2 fun e w' => e = .returned (.bool true) ∧ Below w2.heap.size w2 w') := fun w2 c hc hb2 => looks_any w.heap.size hb x A c j w2 (HX.out.below hb2) HS.out (by omega) (by omega)
      have HBW : Hid (Below w.heap.size w w9) := HB.out
      clear hs hst hall hsn HC
      go_wp2
      go_loopw [6, 7] (fun i _ wx => ∃ m : Nat, m ≤ x.S.length + 1 ∧ i = .int .i64 m ∧ Hid (Below w9.heap.size w9 wx)) (fun i _ _ => 5 - (intOf i).toNat)
      case atStart => exact ⟨0, Nat.zero_le _, rfl, Below.refl _ _⟩
      case round =>
        obtain ⟨m, hm, rfl, HBX⟩ := hrel
        have c2x := cell_later HBX.out c2
        have hblx : hb < wr.heap.size := block_lt_of_cell c2x
        by_cases hms : m ≤ x.S.length
        · have HLm : Hid _ := HL.out wr m (by omega) HBX.out
          go_wp2_with fail
          refine Calls.mono HLm.out ?_
          rintro e w3 ⟨rfl, hb3⟩
          have HB3 : Hid (Below w9.heap.size w9 w3) := below_trans' HBX.out hb3
          clear hb3 HLm
          go_wp2
          go_roundw
          case rel => exact ⟨m + 1, by omega, by go_num, HB3⟩
          case measure => simp [intOf]; omega
        · have hnot : decide ((m : Int) ≤ (x.S.length : Int)) = false := by simp; omega
          go_wp2
          go_ret
          exact ⟨rfl, below_trans' HBW.out HBX.out⟩
end Go.Proofs.YtakipjofboipmaaGreat
