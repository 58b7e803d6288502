/- The walks of this proof: Kept. -/
import Derived.Test.YtakipjofboipmaaGreatJ23
import Derived.Test.YtakipjofboipmaaGreatJ16
namespace Go.Proofs.YtakipjofboipmaaGreat
open Go.RowKit Go.Sort

theorem btQ : Bt [pQ] := ⟨by decide, by decide, okQ, by intro a b p q; intros; simp_all⟩

set_option maxHeartbeats 8000000 in
set_option maxRecDepth 100000 in
theorem kept_any (v : Value) (n : Nat) (keep : Int) (w : World) (h : ScriptAt w v n) (hn : n ≤ 1100000) (kp0 : -9223372036854775808 ≤ keep) (kp1 : keep ≤ 9223372036854775807) :
    Calls Tryz.prog 7 #[v, .int .i64 keep] w fun e w' => e = .returned (.bool true) ∧ Below w.heap.size w w' := by
  obtain ⟨ao, cap, rfl, hc⟩ := h
  have HC : Hid _ := hc
  clear hc
  go_enter Tryz.func7, Tryz.ntmps7
  go_wp2_with fail
  refine (shop_any w).mono ?_
  rintro e w1 ⟨hb, rfl, hx, hb1⟩
  have HX : Hid (ShopAt w.heap.size hb st0 [] w1) := hx
  have HB1 : Hid (Below w.heap.size w w1) := hb1
  clear hx hb1
  go_wp2
  go_loopw [6, 7] (fun i _ wr => ∃ (j : Nat) (x : St) (A : List (List Pr)), j ≤ n ∧ i = .int .i64 j ∧ Hid (ShopAt w.heap.size hb x A wr) ∧ Hid (Sound x A j) ∧ Hid (Below w.heap.size w wr)) (fun i _ _ => n - (intOf i).toNat)
  case atStart => exact ⟨0, st0, [], Nat.zero_le _, rfl, HX, sound0, HB1⟩
  case round =>
    clear HX HB1
    obtain ⟨j, x, A, hj, rfl, HX, HS, HB⟩ := hrel
    by_cases hlt : j < n
    · obtain ⟨⟨g, off, spot⟩, k, a, al, nl, cl, f, rfl, hsp, c0, c1, c2, c3, hraw, ha0, ha1⟩ := HC.out j hlt
      simp only at hsp c0 c1 c2 c3
      subst hsp
      have hgw : g < w.heap.size := block_lt_of_cell c0
      have HD : Hid _ := does_any w.heap.size hb x A k a al nl cl f true j wr HX.out HS.out (by omega) (hraw.below HB.out) HB.out.size ha0 ha1
      have C0 : Hid (w.cell? ⟨g, off + j * 4, none⟩ = some (.int .i64 k)) := c0
      have C1 : Hid (w.cell? ⟨g, off + j * 4 + 1, none⟩ = some (.int .i64 a)) := c1
      have c0 := cell_later HB.out c0
      have c1 := cell_later HB.out c1
      have c2 := cell_later HB.out c2
      have c3 := cell_later HB.out c3
      have hgr : g < wr.heap.size := block_lt_of_cell c0
      clear hraw
      go_wp2_with fail
      refine Calls.mono HD.out ?_
      rintro e w2 ⟨rfl, x', A', hx2, hs2, hk2⟩
      have hb2 : Below w.heap.size w w2 := HB.out.trans (hk2.belowB HB.out.size)
      have c0 := cell_later hb2 C0.out
      have c1 := cell_later hb2 C1.out
      have hgr2 : g < w2.heap.size := block_lt_of_cell c0
      have HX2 : Hid (ShopAt w.heap.size hb x' A' w2) := hx2
      have HS2 : Hid (Sound x' A' (j + 1)) := hs2
      have HB2 : Hid (Below w.heap.size w w2) := hb2
      clear hx2 hs2 hb2 hk2 HD HX HS HB c2 c3
      go_wp2
      go_roundw
      case rel => exact ⟨j + 1, x', A', hlt, by go_num, HX2, HS2, HB2⟩
      case measure => simp [intOf]; omega
    · obtain rfl : j = n := by omega
      clear HC
      obtain ⟨sb, vA, vS, su, la, o0, o1, hBh, hs, hst, hall, hsn, hsu, hla, ho0, ho1⟩ := id HX.out
      have hbl : hb < wr.heap.size := lt_of_block hs
      have c0 : wr.cell? ⟨hb, 0, none⟩ = some (.pointer (some ⟨sb, 0, none⟩)) := by simp [World.cell?, hs]
      have b1 := HS.out.b1
      have b2 := HS.out.b2
      have hlast := HS.out.sh.last
      have la0 := HS.out.sh.st.lv.la0
      have la1 := HS.out.sh.st.lv.la1
      have bsy := HS.out.sh.st.lv.bsy
      have hJ := small_j HS.out.sh.st (t := j) (by omega) (by omega)
      have HJO : Hid (Calls Tryz.prog 24 #[.pointer (some ⟨sb, 0, none⟩)] wr fun e w' => e = .returned (.string (bs x.J)) ∧ w' = wr) := journal_sin x w.heap.size sb wr hst
      have HTA : Hid (Calls Tryz.prog 16 #[.pointer (some ⟨sb, 0, none⟩)] wr fun e w' => TabPost x.T wr e w') := tables_sin w.heap.size sb x wr hst HS.out.sh.st
      have HSTX : Hid (SIn w.heap.size sb x wr) := hst
      have HDESK : Hid (w.heap.size ≤ hb ∧ wr.heap[hb]? = some (.cells #[.pointer (some ⟨sb, 0, none⟩), vA, vS, .int .i64 su, .int .i64 la, .bool o0, .bool o1] 36 (0, 0)) ∧ AllAt w.heap.size wr vA A) := ⟨hBh, hs, hall⟩
      obtain ⟨m, hm⟩ : ∃ m : Nat, su = m := ⟨su.toNat, by omega⟩
      subst hm
      have HSU : Hid ((m : Int) = x.la + x.sy) := hsu
      have SOC := HS.out.cr (by omega) bsy
      rw [show (x.la + x.sy).toNat = m by omega] at SOC
      have HSC : Hid (Sound (x.cr x.sy) (A.take m) j) := SOC
      have hmA : m ≤ A.length := by omega
      have HJS : Hid (x.J = x.B.flatMap recB) := rfl
      clear hs hst hall hsn hla ho0 ho1 hsu SOC HX
      go_wp2_with fail
      refine Calls.mono HJO.out ?_
      rintro e wr' ⟨rfl, rfl⟩
      go_wp2_with fail
      refine Calls.mono HTA.out ?_
      rintro e w2 ⟨v9, rfl, ht2, hb2⟩
      have c02 := cell_later hb2 c0
      have hbl2 : hb < w2.heap.size := Nat.lt_of_lt_of_le hbl hb2.size
      obtain ⟨ao9, c9, rfl⟩ : ∃ ao c, v9 = .slice ao x.T.length c := by obtain ⟨Vs, _, ho, _⟩ := ht2; exact slice_form ho
      have HLD : Hid (Calls Tryz.prog 25 #[.string (bs x.J)] w2 fun e w' => ∃ sb2, e = .returned (.tuple #[.pointer (some ⟨sb2, 0, none⟩), .int .i64 (x.J.length : Nat), .int .i64 0]) ∧ SIn w2.heap.size sb2 (stN.rs x.B) w' ∧ StOk (stN.rs x.B) ∧ Below w2.heap.size w2 w') := by
        refine (load_sin x.J w2 hJ).mono ?_
        rintro e w' ⟨sb2, Bs, h1, rfl, h2, h3, h4⟩
        obtain rfl := h1.unique (reads_whole HS.out.sh.st.lv.bok)
        have e1 : rl x.B = x.J.length := rfl
        exact ⟨sb2, by rw [e1, if_neg (by omega)], h2, h3, h4⟩
      have HT2 : Hid (TabsAt w2 wr'.heap.size (.slice ao9 x.T.length c9) x.T ∧ Below wr'.heap.size wr' w2) := ⟨ht2, hb2⟩
      clear ht2 hb2 HTA HJO c0
      generalize hJS : x.J = JS at HLD HJS hJ
      have HJS2 : Hid (x.J = JS) := hJS
      clear hJS
      have hbsz : (bs JS).size = JS.length := bs_size JS
      go_wp2_with fail
      refine Calls.mono HLD.out ?_
      rintro e w3 ⟨sb2, rfl, hy3, hok3, hb3⟩
      have HCR : Hid (Calls Tryz.prog 26 #[.pointer (some ⟨sb, 0, none⟩), .int .i64 0] w3 fun e w' => e = .returned (.tuple #[]) ∧ SIn w.heap.size sb (x.cr x.sy) w' ∧ SIn w2.heap.size sb2 (stN.rs x.B) w' ∧ Kp w.heap.size [118] w3 w') := by
        refine (crash_two x (stN.rs x.B) w.heap.size w2.heap.size sb sb2 0 w2 w3 (HSTX.out.below HT2.out.2) hb3 hy3 (Nat.le_refl _) HS.out.sh.st (by omega) (by rw [HJS2.out]; omega) (by omega) (by omega)).mono ?_
        rintro e w' ⟨rfl, j1, h1, h2, h3, h4⟩
        obtain rfl := h1.zero HS.out.sh.st
        exact ⟨rfl, h2, h3, h4⟩
      have HB3 : Hid (Below w2.heap.size w2 w3 ∧ StOk (stN.rs x.B)) := ⟨hb3, hok3⟩
      have c03 := cell_later hb3 c02
      have hbl3 : hb < w3.heap.size := Nat.lt_of_lt_of_le hbl2 hb3.size
      clear hy3 hok3 hb3 HLD
      go_wp2_with fail
      refine Calls.mono HCR.out ?_
      rintro e w4 ⟨rfl, hx4, hy4, hk4⟩
      have hs4 := hk4.keep ((Kp.of_below (B := 0) (ts := []) HB3.out.1).keep ((Kp.of_below (B := 0) (ts := []) HT2.out.2).keep HDESK.out.2.1 (by simp)) (by simp)) (by simp)
      have all4 := ((HDESK.out.2.2.kept (Kp.of_below (B := 0) (ts := []) HT2.out.2) (by simp) (by simp)).kept (Kp.of_below (B := 0) (ts := []) HB3.out.1) (by simp) (by simp)).kept hk4 (by simp) (by simp)
      have t4 := (HT2.out.1.below HB3.out.1).kept hk4 (by simp) (by simp)
      have c04 : w4.cell? ⟨hb, 0, none⟩ = some (.pointer (some ⟨sb, 0, none⟩)) := by simp [World.cell?, hs4]
      have c34 : w4.cell? ⟨hb, 3, none⟩ = some (.int .i64 (m : Int)) := by simp [World.cell?, hs4]
      have hbl4 : hb < w4.heap.size := lt_of_block hs4
      have hwz2 : w.heap.size ≤ w2.heap.size := Nat.le_trans HB.out.size HT2.out.2.size
      have hbB4 : Below w.heap.size w w4 := ((HB.out.trans (HT2.out.2.mono HB.out.size)).trans (HB3.out.1.mono hwz2)).trans (hk4.belowB (Nat.le_trans hwz2 HB3.out.1.size))
      have HGE : Hid (Calls Tryz.prog 27 #[.pointer (some ⟨sb, 0, none⟩), .string ⟨#[97]⟩, .int .i64 1] w4 fun e w' => e = .returned (.tuple #[.string ⟨#[]⟩, .int .i64 5]) ∧ Below w4.heap.size w4 w') := by
        refine (get_sin (x.cr x.sy) w.heap.size sb ⟨#[97]⟩ 1 w4 hx4 HSC.out.sh.st (by unfold maxLen; decide)).mono ?_
        rintro e w' ⟨rfl, h⟩
        exact ⟨rfl, h⟩
      have HTE : Hid (∀ w5, Below w4.heap.size w4 w5 → Calls Tryz.prog 14 #[.pointer (some ⟨hb, 0, none⟩), .int .i64 0, .int .i64 m] w5 fun e w' => e = .returned (.bool true) ∧ Below w5.heap.size w5 w') := fun w5 h5 => by
        have hl5 : (A.take m).length = m := by rw [List.length_take]; omega
        exact tells_desk w.heap.size hb (x.cr x.sy) (A.take m) A 0 m w5 ⟨sb, vA, vS, .int .i64 m, .int .i64 la, .bool o0, .bool o1, HDESK.out.1, (Kp.of_below (B := 0) (ts := []) h5).keep hs4 (by simp), hx4.below h5, all4.kept (Kp.of_below (B := 0) (ts := []) h5) (by simp) (by simp)⟩ (List.take_prefix _ _) HS.out.sh.ok HS.out.sh.few HSC.out.sh (by unfold seqOf; rw [if_pos rfl, HSC.out.sh.last, hl5]) (by omega)
      have HT4 : Hid (∀ w6, Below w4.heap.size w4 w6 → Calls Tryz.prog 16 #[.pointer (some ⟨sb, 0, none⟩)] w6 fun e w' => TabPost x.T w6 e w') := fun w6 h6 => tables_sin w.heap.size sb (x.cr x.sy) w6 (hx4.below h6) HSC.out.sh.st
      have Y4 : Hid (YAt w2.heap.size sb2 x.B j w4) := by
        refine ⟨stN.rs x.B, hy4, HB3.out.2, rfl, rfl, ?_, ?_, by omega⟩
        · show (0 : Int) + x.B.length ≤ j
          omega
        · show (srt ([].filter _ ++ entsFrom 1 x.B)).length ≤ _
          rw [srt_len]
          have := ents_len HS.out.sh.st.lv.bok 1
          simp
          omega
      have A4 : Hid (TabsAt w4 wr'.heap.size (.slice ao9 x.T.length c9) x.T ∧ Below w.heap.size w w4 ∧ (∀ t ∈ x.T, t.2 ≠ []) ∧ w2.heap.size ≤ w4.heap.size ∧ w.heap.size ≤ w2.heap.size) := ⟨t4, hbB4, HS.out.sh.st.lv.tne, Nat.le_trans HB3.out.1.size hk4.size, hwz2⟩
      have HTF : Hid (x.T.length < 1000000000) := HS.out.sh.st.lv.tfew
      clear hx4 hy4 hk4 hs4 all4 t4 hbB4 HCR HT2 HB3 HDESK HSTX c02 c03 HB
      go_wp2_with fail
      refine Calls.mono HGE.out ?_
      rintro e w5 ⟨rfl, hb5⟩
      have c35 := cell_later hb5 c34
      have c05 := cell_later hb5 c04
      have hbl5 : hb < w5.heap.size := Nat.lt_of_lt_of_le hbl4 hb5.size
      have HB5 : Hid (Below w4.heap.size w4 w5) := hb5
      clear hb5 HGE
      go_wp2_with fail
      refine Calls.mono (HTE.out _ HB5.out) ?_
      rintro e w6 ⟨rfl, hb6⟩
      have c06 := cell_later hb6 c05
      have hbl6 : hb < w6.heap.size := Nat.lt_of_lt_of_le hbl5 hb6.size
      have HB6 : Hid (Below w4.heap.size w4 w6) := below_trans' HB5.out hb6
      clear hb6 HTE HB5
      go_wp2_with fail
      refine Calls.mono (HT4.out _ HB6.out) ?_
      rintro e w7 ⟨v16, rfl, ht7, hb7⟩
      obtain ⟨ao16, c16, rfl⟩ : ∃ ao c, v16 = .slice ao x.T.length c := by obtain ⟨Vs, _, ho, _⟩ := ht7; exact slice_form ho
      have hb47 : Below w4.heap.size w4 w7 := below_trans' HB6.out hb7
      have A7 : Hid (TabsAt w7 wr'.heap.size (.slice ao9 x.T.length c9) x.T ∧ TabsAt w7 w6.heap.size (.slice ao16 x.T.length c16) x.T ∧ YAt w2.heap.size sb2 x.B j w7 ∧ Below w.heap.size w w7 ∧ w2.heap.size ≤ w7.heap.size) := ⟨A4.out.1.below hb47, ht7, Y4.out.below hb47, A4.out.2.1.trans (hb47.mono (Nat.le_trans A4.out.2.2.2.2 A4.out.2.2.2.1)), Nat.le_trans A4.out.2.2.2.1 hb47.size⟩
      have HNE : Hid ((∀ t ∈ x.T, t.2 ≠ []) ∧ w.heap.size ≤ w2.heap.size) := ⟨A4.out.2.2.1, A4.out.2.2.2.2⟩
      clear ht7 hb7 hb47 HT4 HB6 A4 Y4 c06 c05 c04 c34 c35
      obtain ⟨nT, hnT⟩ : ∃ nT, x.T.length = nT := ⟨_, rfl⟩
      have HNT : Hid (x.T.length = nT) := hnT
      rw [hnT] at A7 HTF ⊢
      clear hnT
      go_wp2
      go_loopw [17, 18] (fun s17 s18 wx => ∃ i : Nat, i ≤ nT ∧ s17 = .bool true ∧ s18 = .int .i64 i ∧ Hid (Below w7.heap.size w7 wx)) (fun _ s18 _ => nT - (intOf s18).toNat)
      case atStart => exact ⟨0, Nat.zero_le _, by simp, rfl, Below.refl _ _⟩
      case round =>
        obtain ⟨i, hi, rfl, rfl, HBX⟩ := hrel
        by_cases hlt : i < nT
        · obtain ⟨tb, htb⟩ : ∃ tb, x.T[i]? = some tb := ⟨_, List.getElem?_eq_getElem (by rw [HNT.out]; exact hlt)⟩
          obtain ⟨gT, cT, hv, hcap, hgT, hcT⟩ := (A7.out.1.below HBX.out).cells (by rw [HNT.out]; omega) HNE.out.1
          simp only [Value.slice.injEq] at hv
          obtain ⟨rfl, hq, rfl⟩ := hv
          clear hq
          obtain ⟨gU, cU, hv, hcap2, hgU, hcU⟩ := (A7.out.2.1.below HBX.out).cells (by rw [HNT.out]; omega) HNE.out.1
          simp only [Value.slice.injEq] at hv
          obtain ⟨rfl, hq, rfl⟩ := hv
          clear hq
          have hTF := HTF.out
          obtain ⟨g1, k1, e0, e1, _⟩ := hcT i tb htb
          obtain ⟨g2, k2, e2, e3, _⟩ := hcU i tb htb
          have e0' := cell_regrown e0
          have e1' := cell_regrown e1
          have e2' := cell_regrown e2
          have e3' := cell_regrown e3
          clear hcT hcU htb hcap hcap2
          go_wp2_with fail
          refine wp_region_quiet_below (by kernel_rfl) (by kernel_rfl) ?_
          repeat (first | go_big_quiet_step (fail) | quiet_step (fail))
          refine wpQuiet_nil ?_
          intro w8 hw'
          have hb8 : Below wr.heap.size wr w8 := below_of_regrown hw'
          have HB8 : Hid (Below w7.heap.size w7 w8) := below_trans' HBX.out hb8
          clear hw' hb8 e0' e1' e2' e3' e0 e1 e2 e3 HBX
          go_wp2
          go_roundw
          case rel => exact ⟨i + 1, hlt, by simp, by go_num, HB8⟩
          case measure => simp [intOf]; omega
        · obtain rfl : i = nT := by omega
          have HJB : Hid (JS = x.B.flatMap recB) := HJS.out
          have HY : Hid (YAt w2.heap.size sb2 x.B j wr ∧ Below w.heap.size w wr ∧ w2.heap.size ≤ wr.heap.size ∧ w.heap.size ≤ w2.heap.size) := ⟨A7.out.2.2.1.below HBX.out, A7.out.2.2.2.1.trans (HBX.out.mono (Nat.le_trans HNE.out.2 A7.out.2.2.2.2)), Nat.le_trans A7.out.2.2.2.2 HBX.out.size, HNE.out.2⟩
          clear A7 HBX HNE HNT HTF HJS
          have HRQ : Hid (8 ≤ (recB [pQ]).length ∧ (recB [pQ]).length ≤ 73) := recB_len btQ
          have fr : ∀ {ts : List Nat} {wa wb : World}, Kp w2.heap.size ts wa wb → Below w.heap.size w wa ∧ w2.heap.size ≤ wa.heap.size → Below w.heap.size w wb ∧ w2.heap.size ≤ wb.heap.size := fun k h => ⟨h.1.trans ((k.belowB h.2).mono HY.out.2.2.2), Nat.le_trans h.2 k.size⟩
          have FR : Hid _ := @fr
          clear fr
          -- the first Crash of what was loaded
          go_wp2_with fail
          refine Calls.mono (y_crash w2.heap.size sb2 j x.B keep wr HY.out.1 (by omega) kp0 kp1) ?_
          rintro e w8 ⟨rfl, y8, k8⟩
          have Y8 : Hid (YAt w2.heap.size sb2 x.B j w8 ∧ Below w.heap.size w w8 ∧ w2.heap.size ≤ w8.heap.size) := ⟨y8, FR.out k8 ⟨HY.out.2.1, HY.out.2.2.1⟩⟩
          clear y8 k8 HY
          go_wp2_with fail
          obtain ⟨RQ, hRQ⟩ : ∃ RQ, recB [pQ] = RQ := ⟨_, rfl⟩
          obtain ⟨L1, hL1⟩ : ∃ L1, x.B ++ [[pQ]] = L1 := ⟨_, rfl⟩
          have hq8 := HRQ.out
          rw [hRQ] at hq8
          have HJ1 : Hid (∀ w', YAt w2.heap.size sb2 x.B j w' → Calls Tryz.prog 24 #[.pointer (some ⟨sb2, 0, none⟩)] w' fun e w'' => e = .returned (.string (bs JS)) ∧ w'' = w') := fun w' h => by
            have := y_journal _ _ _ _ w' h
            rwa [← HJB.out] at this
          have HJ2 : Hid (∀ n' w', YOne w2.heap.size sb2 x.B [pQ] n' w' → Calls Tryz.prog 24 #[.pointer (some ⟨sb2, 0, none⟩)] w' fun e w'' => e = .returned (.string (bs (JS ++ RQ))) ∧ w'' = w') := fun n' w' h => by
            have := one_journal _ _ _ _ _ w' h
            rwa [← HJB.out, hRQ] at this
          have eL1 : L1.flatMap recB = JS ++ RQ := by rw [← hL1, HJB.out, ← hRQ]; simp
          have HJ3 : Hid (∀ n' w', YAt w2.heap.size sb2 L1 n' w' → Calls Tryz.prog 24 #[.pointer (some ⟨sb2, 0, none⟩)] w' fun e w'' => e = .returned (.string (bs (JS ++ RQ))) ∧ w'' = w') := fun n' w' h => by
            have := y_journal _ _ _ _ w' h
            rwa [eL1] at this
          have HJ5 : Hid (∀ n' w', YAt w2.heap.size sb2 (L1 ++ [[pQ]]) n' w' → Calls Tryz.prog 24 #[.pointer (some ⟨sb2, 0, none⟩)] w' fun e w'' => e = .returned (.string (bs (JS ++ RQ ++ RQ))) ∧ w'' = w') := fun n' w' h => by
            have := y_journal _ _ _ _ w' h
            rwa [List.flatMap_append, eL1, show [[pQ]].flatMap recB = RQ by rw [← hRQ]; simp] at this
          have HC2 : Hid (∀ w', YOne w2.heap.size sb2 x.B [pQ] (j + 1) w' → Calls Tryz.prog 26 #[.pointer (some ⟨sb2, 0, none⟩), .int .i64 (RQ.length : Nat)] w' fun e w'' => e = .returned (.tuple #[]) ∧ YAt w2.heap.size sb2 L1 (j + 1) w'' ∧ Kp w2.heap.size [118] w' w'') := fun w' h => by
            have := one_crash _ _ _ _ _ w' h (by omega)
            rwa [hRQ, hL1] at this
          have HC3 : Hid (∀ w', YOne w2.heap.size sb2 L1 [pQ] (j + 2) w' → Calls Tryz.prog 26 #[.pointer (some ⟨sb2, 0, none⟩), .int .i64 ((RQ.length : Int) - 1)] w' fun e w'' => e = .returned (.tuple #[]) ∧ YAt w2.heap.size sb2 L1 (j + 2) w'' ∧ Kp w2.heap.size [118] w' w'') := fun w' h => by
            have := one_lost _ _ _ _ _ w' h (by omega)
            rwa [hRQ] at this
          have hz2 : (bs (JS ++ RQ)).size = JS.length + RQ.length := by rw [bs_size, List.length_append]
          have hz3 : (bs (JS ++ RQ ++ RQ)).size = JS.length + RQ.length + RQ.length := by rw [bs_size, List.length_append, List.length_append]
          generalize hS3 : bs (JS ++ RQ ++ RQ) = S3 at HJ5 hz3
          clear hS3
          generalize hj0 : JS.length = jl at hJ hbsz hz2 hz3
          have hjlH : Hid (JS.length = jl) := hj0
          generalize hr0 : RQ.length = rq at hq8 hz2 hz3 HC2 HC3
          clear hj0 hr0 eL1 hL1 hRQ HRQ
          refine Calls.mono (HJ1.out _ Y8.out.1) ?_
          rintro e w8' ⟨rfl, rfl⟩
          go_wp2_with fail
          refine Calls.mono (y_write _ _ _ _ false w8' Y8.out.1 (by omega)) ?_
          rintro e w9 ⟨⟨v9, rfl⟩, y9, k9⟩
          have Y9 : Hid (YOne w2.heap.size sb2 x.B [pQ] (j + 1) w9 ∧ Below w.heap.size w w9 ∧ w2.heap.size ≤ w9.heap.size) := ⟨y9, FR.out k9 Y8.out.2⟩
          clear y9 k9 Y8
          go_wp2_with fail
          refine Calls.mono (HJ2.out _ _ Y9.out.1) ?_
          rintro e w9' ⟨rfl, rfl⟩
          go_wp2_with fail
          rw [show ((jl : Int) + (rq : Int) - (jl : Int)) = ((rq : Nat) : Int) by omega]
          refine Calls.mono (HC2.out _ Y9.out.1) ?_
          rintro e w10 ⟨rfl, y10, k10⟩
          have Y10 : Hid (YAt w2.heap.size sb2 L1 (j + 1) w10 ∧ Below w.heap.size w w10 ∧ w2.heap.size ≤ w10.heap.size) := ⟨y10, FR.out k10 Y9.out.2⟩
          clear y10 k10 Y9
          go_wp2_with fail
          refine Calls.mono (HJ3.out _ _ Y10.out.1) ?_
          rintro e w10' ⟨rfl, rfl⟩
          go_wp2_with fail
          refine Calls.mono (y_write _ _ _ _ false w10' Y10.out.1 (by omega)) ?_
          rintro e w11 ⟨⟨v11, rfl⟩, y11, k11⟩
          have Y11 : Hid (YOne w2.heap.size sb2 L1 [pQ] (j + 2) w11 ∧ Below w.heap.size w w11 ∧ w2.heap.size ≤ w11.heap.size) := ⟨y11, FR.out k11 Y10.out.2⟩
          clear y11 k11 Y10
          go_wp2_with fail
          refine Calls.mono (HC3.out _ Y11.out.1) ?_
          rintro e w12 ⟨rfl, y12, k12⟩
          have Y12 : Hid (YAt w2.heap.size sb2 L1 (j + 2) w12 ∧ Below w.heap.size w w12 ∧ w2.heap.size ≤ w12.heap.size) := ⟨y12, FR.out k12 Y11.out.2⟩
          clear y12 k12 Y11
          go_wp2_with fail
          refine Calls.mono (HJ3.out _ _ Y12.out.1) ?_
          rintro e w12' ⟨rfl, rfl⟩
          go_wp2_with fail
          refine Calls.mono (y_write _ _ _ _ true w12' Y12.out.1 (by omega)) ?_
          rintro e w13 ⟨⟨v13, rfl⟩, y13, k13⟩
          have Y13 : Hid (YAt w2.heap.size sb2 (L1 ++ [[pQ]]) (j + 3) w13 ∧ Below w.heap.size w w13 ∧ w2.heap.size ≤ w13.heap.size) := ⟨y13, FR.out k13 Y12.out.2⟩
          clear y13 k13 Y12
          go_wp2_with fail
          refine Calls.mono (y_crash _ _ _ _ keep w13 Y13.out.1 (by omega) kp0 kp1) ?_
          rintro e w14 ⟨rfl, y14, k14⟩
          have Y14 : Hid (YAt w2.heap.size sb2 (L1 ++ [[pQ]]) (j + 3) w14 ∧ Below w.heap.size w w14 ∧ w2.heap.size ≤ w14.heap.size) := ⟨y14, FR.out k14 Y13.out.2⟩
          clear y14 k14 Y13
          go_wp2_with fail
          refine Calls.mono (HJ5.out _ _ Y14.out.1) ?_
          rintro e w14' ⟨rfl, rfl⟩
          have hgt : decide ((0 : Int) < (rq : Int)) = true := decide_eq_true (by omega)
          go_wp2
          go_ret
          exact ⟨rfl, Y14.out.2.1⟩

end Go.Proofs.YtakipjofboipmaaGreat
