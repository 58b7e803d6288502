/- The walks of this proof: a snapshot is let go. -/
import Derived.Test.YtojdkfamihlnkaaW29
namespace Go.Proofs.Ytojdkfamihlnkaa
open Go.RowKit Go.Sort

theorem drop_none_in (x : St) (B sb : Nat) (n : Int) (w : World) (hx : StoreAt B sb x w) (ok : StOk x) (hn : sidx x.S n = none) (d : Nat) (os : Array Obj) :
    Calls Try.prog 33 #[.pointer (some ⟨sb, 0, none⟩), .int .i64 n] (grow (redrawn w d) os) fun e w'' => e = .returned (.int .i64 5) ∧ ∃ p : Regrown, w'' = grow (redrawn w p.d) p.os :=
  Calls.regrown_of ((drop_any x B sb n _ (hx.below (below_of_regrown ⟨⟨d, os⟩, rfl⟩)) ok).mono fun e w' h => by
    rcases h with ⟨_, h1, h2⟩ | ⟨i, h1, _⟩
    · exact ⟨h1, h2⟩
    · rw [hn] at h1; cases h1)

theorem pick_in (c n : Int) (w : World) (h0 : -9223372036854775808 ≤ c) (h1 : c ≤ 9223372036854775807) (h2 : 0 < n) (h3 : n ≤ 1000000000) (d : Nat) (os : Array Obj) :
    Calls Try.prog 22 #[.int .i64 c, .int .i64 n] (grow (redrawn w d) os) fun e w'' => e = .returned (.int .i64 (pk c n)) ∧ ∃ p : Regrown, w'' = grow (redrawn w p.d) p.os :=
  (pick_any c n _ h0 h1 h2 h3).mono fun _ _ h => ⟨h.1, ⟨d, os⟩, h.2⟩

theorem sidx_gone {S : List Sn} (hp : S.Pairwise fun a b => a.n < b.n) {i : Nat} {s : Sn} (h : S[i]? = some s) : sidx (S.eraseIdx i) s.n = none := by
  refine sidx_out fun s' hs' => ?_
  obtain ⟨k, hk, hki, rfl⟩ := List.mem_eraseIdx_iff_getElem.1 hs'
  obtain ⟨hil, rfl⟩ := List.getElem?_eq_some_iff.1 h
  rcases Nat.lt_or_gt_of_ne hki with h1 | h1
  · have := List.pairwise_iff_getElem.1 hp k i hk hil h1
    omega
  · have := List.pairwise_iff_getElem.1 hp i k hil hk h1
    omega

/-- What dropping a snapshot that is there comes to, and dropping it again. -/
theorem drop_here (x : St) (B sb : Nat) (w : World) (hx : StoreAt B sb x w) (ok : StOk x) {i : Nat} {s : Sn} (hp : x.S.Pairwise fun a b => a.n < b.n) (h : x.S[i]? = some s) :
    Calls Try.prog 33 #[.pointer (some ⟨sb, 0, none⟩), .int .i64 s.n] w fun e w' => e = .returned (.int .i64 0) ∧ StoreAt B sb { x with S := x.S.eraseIdx i } w' ∧ Kp B [105, 128] w w' :=
  (drop_any x B sb s.n w hx ok).mono fun e w' h' => by
    rcases h' with ⟨h1, _⟩ | ⟨k, h1, h2, h3, h4⟩
    · rw [sidx_mem hp h] at h1; cases h1
    · rw [sidx_mem hp h] at h1
      obtain rfl := Option.some.inj h1
      exact ⟨h2, h3, h4⟩

theorem drop_again (x : St) (B sb : Nat) (w : World) (n : Int) (hx : StoreAt B sb x w) (ok : StOk x) (h : sidx x.S n = none) :
    Calls Try.prog 33 #[.pointer (some ⟨sb, 0, none⟩), .int .i64 n] w fun e w' => e = .returned (.int .i64 5) ∧ Below w.heap.size w w' :=
  (drop_any x B sb n w hx ok).mono fun e w' h' => by
    rcases h' with ⟨_, h2, h3⟩ | ⟨k, h1, _⟩
    · exact ⟨h2, h3⟩
    · rw [h] at h1; cases h1

theorem sn_one (S : List Sn) : ∀ u ∈ scells S, u.oneCell' = true := by
  intro u hu
  obtain ⟨s, _, h⟩ := List.mem_flatMap.1 hu
  simp [Sn.cells] at h
  rcases h with rfl | rfl <;> rfl

theorem sn_len (S : List Sn) : (scells S).length = S.length * 2 := flat_len _ 2 (fun a => by rfl) S

/-- The cells of a part of a row of snapshots. -/
theorem sn_part {w : World} {B g cap : Nat} {S : List Sn} (h : w.ownsRow B 69 2 (.slice (some ⟨g, 0, none⟩) S.length cap) S.length (scells S)) {k m : Nat} (hk : k + m ≤ S.length) :
    (scells ((S.drop k).take m)).length = m * 2 ∧ ∀ j u, (scells ((S.drop k).take m))[j]? = some u → w.cell? ((⟨g, k * 2, none⟩ : Addr).add j) = some u := by
  have e : scells ((S.drop k).take m) = ((scells S).drop (k * 2)).take (m * 2) := by
    unfold scells
    rw [flat_drop _ 2 (fun a => by rfl), flat_take _ 2 (fun a => by rfl)]
  refine ⟨by rw [sn_len]; simp; omega, fun j u hj => ?_⟩
  rw [e, List.getElem?_take] at hj
  split at hj
  · rename_i hjm
    rw [List.getElem?_drop] at hj
    have e2 : (⟨g, k * 2, none⟩ : Addr).add j = ⟨g, k * 2 + j, none⟩ := by
      unfold Addr.add
      split
      · rename_i h0; subst h0; rfl
      · rfl
    rw [e2, h.cellAt _ (by omega)]
    exact hj
  · cases hj

theorem rest_row {w : World} {B : Nat} {v : Value} {S : List Sn} {j : Nat} (hj : j < S.length) (h : w.ownsRow B 69 2 v (j + (S.length - (j + 1))) (scells (S.take j) ++ scells (S.drop (j + 1)))) : w.ownsRow B 69 2 v (S.eraseIdx j).length (scells (S.eraseIdx j)) := by
  have e : scells (S.eraseIdx j) = scells (S.take j) ++ scells (S.drop (j + 1)) := by
    rw [List.eraseIdx_eq_take_drop_succ]
    simp [scells]
  rw [e, List.length_eraseIdx, if_pos hj, show S.length - 1 = j + (S.length - (j + 1)) by omega]
  exact h

set_option maxHeartbeats 2000000 in
set_option maxRecDepth 100000 in
theorem snapped5_any (B hb : Nat) (x : St) (A : List (List Pr)) (a : Int) (ao : Option Addr) (nl cl : Nat) (f : Bool) (t : Nat) (w : World) (hx : ShopAt B hb x A w) (ok : Sound x A t) (hBw : B ≤ w.heap.size) (h0 : -9223372036854775808 ≤ a) (h1 : a ≤ 9223372036854775807) :
    Calls Try.prog 23 #[.pointer (some ⟨hb, 0, none⟩), .agg #[.int .i64 5, .int .i64 a, .slice ao nl cl, .bool f]] w fun e w' => StepPost B hb t w e w' := by
  obtain ⟨i0, hi, hz0, hz1, hz2⟩ := info_parts Try.info69
  obtain ⟨W, hW⟩ : ∃ W, w.alloc (.cells #[.int .i64 5, .int .i64 a, .slice ao nl cl, .bool f] 28) = W := ⟨_, rfl⟩
  have hbW : Below w.heap.size w W := by rw [← hW]; exact (Below.refl _ _).alloc (Nat.le_refl _) _
  have hxW := hx.below hbW
  obtain ⟨sb, vA, vS, su, la, o0, o1, hB, hs, hst, hall, hsn⟩ := id hxW
  have c0 : W.cell? ⟨hb, 0, none⟩ = some (.pointer (some ⟨sb, 0, none⟩)) := by simp [World.cell?, hs]
  have c2 : W.cell? ⟨hb, 2, none⟩ = some vS := by simp [World.cell?, hs]
  have d0 : W.cell? ⟨w.heap.size, 0, none⟩ = some (.int .i64 5) := by rw [← hW]; simp
  have d1 : W.cell? ⟨w.heap.size, 1, none⟩ = some (.int .i64 a) := by rw [← hW]; simp
  have hbl : hb < W.heap.size := lt_of_block hs
  have hwl : w.heap.size < W.heap.size := by rw [← hW]; simp
  have HWe : Hid (w.alloc (.cells #[.int .i64 5, .int .i64 a, .slice ao nl cl, .bool f] 28) = W) := hW
  have hS4 := ok.sh.st.snaps
  have HF : Hid (Sound x A t ∧ B ≤ hb ∧ W.heap[hb]? = some (.cells #[.pointer (some ⟨sb, 0, none⟩), vA, vS, .int .i64 su, .int .i64 la, .bool o0, .bool o1] 36 (0, 0)) ∧ AllAt B W vA A ∧ W.ownsRow B 69 2 vS x.S.length (scells x.S) ∧ Kp B turned w W ∧ ShopAt B hb x A W ∧ StoreAt B sb x W) := ⟨ok, hB, hs, hall, hsn, Kp.of_below hbW, hxW, hst⟩
  have hBW : B ≤ W.heap.size := Nat.le_trans hBw hbW.size
  obtain ⟨aoS, capS, hvS⟩ := slice_form hsn
  have c0' := cell_regrown c0
  have c2' := cell_regrown c2
  have d1' := cell_regrown d1
  by_cases hz : x.S.length = 0
  · have HDI : Hid (∀ d os, Calls Try.prog 33 #[.pointer (some ⟨sb, 0, none⟩), .int .i64 a] (grow (redrawn W d) os) fun e w'' => e = .returned (.int .i64 5) ∧ ∃ p : Regrown, w'' = grow (redrawn W p.d) p.os) := fun d os => drop_none_in x B sb a W hst ok.sh.st (by rw [List.length_eq_zero_iff.1 hz]; rfl) d os
    have hz' : ((x.S.length : Int) == 0) = true := by simp [hz]
    subst hvS
    clear hx ok hW hbW hxW hs hst hall hsn hz
    go_enter Try.func23, Try.ntmps23
    go_wp2_with (first | rw [HWe.out])
    refine wp_region_quiet_below (by kernel_rfl) (by kernel_rfl) ?_
    repeat (first | go_big_quiet_step (exact HDI.out _ _) | quiet_step (exact HDI.out _ _))
    refine wpQuiet_nil ?_
    intro w2 hw'
    have hb2 := below_of_regrown hw'
    clear hw'
    go_wp2
    go_ret
    exact ⟨rfl, x, A, HF.out.2.2.2.2.2.2.1.below hb2, HF.out.1.mono (Nat.le_succ _), HF.out.2.2.2.2.2.1.trans (Kp.of_below hb2)⟩
  · have hz' : ((x.S.length : Int) == 0) = false := beq_eq_false_iff_ne.2 (by omega)
    have HPI : Hid (∀ d os, Calls Try.prog 22 #[.int .i64 a, .int .i64 x.S.length] (grow (redrawn W d) os) fun e w'' => e = .returned (.int .i64 (pk a x.S.length)) ∧ ∃ p : Regrown, w'' = grow (redrawn W p.d) p.os) := fun d os => pick_in a _ W h0 h1 (by omega) (by omega) d os
    have hpk := pk_lt (c := a) (n := x.S.length) (by omega)
    generalize pk a x.S.length = i at HPI hpk
    obtain ⟨j, rfl⟩ := Int.eq_ofNat_of_zero_le hpk.1
    have hj : j < x.S.length := by omega
    obtain ⟨s, hsj⟩ : ∃ s, x.S[j]? = some s := ⟨_, List.getElem?_eq_getElem hj⟩
    obtain ⟨g, cap, hv', _, hgl, hcap, hcell⟩ := row_cell (f := Sn.cells) (size := 2) (l := x.S) (fun a => by rfl) hsn (by omega)
    subst hv'
    have e0 := hcell j s 0 hsj (by omega)
    simp only [Sn.cells, List.getElem?_cons_zero, Nat.add_zero] at e0
    have HSJ : Hid (x.S[j]? = some s) := hsj
    clear hx ok hW hbW hxW hs hst hall hsn hcell hsj hvS
    go_enter Try.func23, Try.ntmps23
    go_wp2_with (first | rw [HWe.out])
    refine wp_region_quiet_below (by kernel_rfl) (by kernel_rfl) ?_
    repeat (first | go_big_quiet_step (exact HPI.out _ _) | quiet_step (exact HPI.out _ _))
    refine wpQuiet_nil ?_
    intro w2 hw'
    have hb2 := below_of_regrown hw'
    clear hw' c0' c2' d1'
    have c0 := cell_later hb2 c0
    have c2 := cell_later hb2 c2
    have e0 := cell_later hb2 e0
    have hbl2 : hb < w2.heap.size := block_lt_of_cell c0
    have hgl2 : g < w2.heap.size := block_lt_of_cell e0
    have HB2 : Hid (Below W.heap.size W w2) := hb2
    clear hb2
    have HD1 : Hid _ := drop_here x B sb w2 (HF.out.2.2.2.2.2.2.2.below HB2.out) HF.out.1.sh.st HF.out.1.snp HSJ.out
    go_wp2_with fail
    refine Calls.mono HD1.out ?_
    rintro e w3 ⟨rfl, hst3, hk3⟩
    have HD2 : Hid _ := drop_again _ B sb w3 s.n hst3 (HF.out.1.drop j).sh.st (sidx_gone HF.out.1.snp HSJ.out)
    have k3 : Kp B [105, 128] W w3 := (Kp.of_below HB2.out).trans hk3
    have hs3 := k3.keep HF.out.2.2.1 (by simp)
    have c0 : w3.cell? ⟨hb, 0, none⟩ = some (.pointer (some ⟨sb, 0, none⟩)) := by simp [World.cell?, hs3]
    have hbl3 : hb < w3.heap.size := lt_of_block hs3
    have HK3 : Hid (Kp B [105, 128] W w3) := k3
    have HST3 : Hid (StoreAt B sb { x with S := x.S.eraseIdx j } w3) := hst3
    clear hst3 hk3 k3 hs3 HD1
    go_wp2_with fail
    refine Calls.mono HD2.out ?_
    rintro e w4 ⟨rfl, hb4⟩
    have k4 : Kp B [105, 128] W w4 := HK3.out.trans (Kp.of_below hb4)
    have hs4 := k4.keep HF.out.2.2.1 (by simp)
    have c2 : w4.cell? ⟨hb, 2, none⟩ = some (.slice (some ⟨g, 0, none⟩) x.S.length cap) := by simp [World.cell?, hs4]
    have f2 : w4.frozen? ⟨hb, 2, none⟩ = false := by simp [World.frozen?, hs4]
    have hbl4 : hb < w4.heap.size := lt_of_block hs4
    have HST4 : Hid (StoreAt B sb { x with S := x.S.eraseIdx j } w4) := HST3.out.below hb4
    have HK4 : Hid (Kp B [105, 128] W w4) := k4
    have HO4 : Hid (w4.ownsRow B 69 2 (.slice (some ⟨g, 0, none⟩) x.S.length cap) x.S.length (scells x.S)) := k4.owns HF.out.2.2.2.2.1 (by simp)
    have hgl4 : g < w4.heap.size := Nat.lt_of_lt_of_le hgl k4.size
    clear c0 k4 hs4 hb4 HD2 HST3 HK3 e0 hgl2 hbl2 hbl3
    have P1 := sn_part HO4.out (k := 0) (m := j) (by omega)
    rw [List.drop_zero] at P1
    have P1a : Hid ((scells (x.S.take j)).length = j * 2) := P1.1
    have P1b : Hid (∀ k u, (scells (x.S.take j))[k]? = some u → w4.cell? ((⟨g, 0, none⟩ : Addr).add k) = some u) := P1.2
    clear P1
    go_wp2_with (at_builtin; (refine wpList_append_own _ rfl _ _ 33 rfl w4.heap.size 69 i0 _ 2 16 Try.underlying33 hi hz0 hz1 hz2 rfl (by decide) _ _ _ rfl (World.ownsRow_nil _ _ _ _) ⟨g, 0, none⟩ j cap (scells (x.S.take j)) rfl P1a.out P1b.out (sn_one _) (by unfold maxLen; omega) (by omega) (Nat.le_refl _) ?_))
    intro v5 w5 ho5 hg5 _
    have hb5 : Below w4.heap.size w4 w5 := (Below.refl _ _).grown hg5 (Nat.le_refl _) fun k hk => by simp [Value.ownBlock] at hk
    have c2 := cell_later hb5 c2
    have f2 := (hb5.frozen hbl4).trans f2
    have hbl5 : hb < w5.heap.size := Nat.lt_of_lt_of_le hbl4 hb5.size
    have hgl5 : g < w5.heap.size := Nat.lt_of_lt_of_le hgl4 hb5.size
    have h45 : w4.heap.size ≤ w5.heap.size := hb5.size
    have HB5 : Hid (Below w4.heap.size w4 w5) := hb5
    have HO5 : Hid (w5.ownsRow w4.heap.size 69 2 v5 j (scells (x.S.take j))) := ho5
    have P2 := sn_part ((Kp.of_below (B := 0) (ts := []) hb5).owns HO4.out (by simp)) (k := j + 1) (m := x.S.length - (j + 1)) (by omega)
    rw [List.take_of_length_le (by simp)] at P2
    have P2a : Hid ((scells (x.S.drop (j + 1))).length = (x.S.length - (j + 1)) * 2) := P2.1
    have P2b : Hid (∀ k u, (scells (x.S.drop (j + 1)))[k]? = some u → w5.cell? ((⟨g, (j + 1) * 2, none⟩ : Addr).add k) = some u) := P2.2
    clear P2 P1a P1b hb5 ho5 hg5
    have P2c : Hid (cap - (j + 1) = 0 → ∀ k u, (scells (x.S.drop (j + 1)))[k]? = some u → w5.cell? ((⟨g, 0, none⟩ : Addr).add k) = some u) := fun hc k u h => by
      rw [List.drop_of_length_le (by omega)] at h
      simp [scells] at h
    obtain ⟨ao5, cap5, rfl⟩ := slice_form HO5.out
    have hj4 : j ≤ 4 := by omega
    by_cases hc : cap - (j + 1) = 0
    · go_wp2_with (at_builtin; (refine wpList_append_own _ rfl _ _ 33 rfl w4.heap.size 69 i0 _ 2 16 Try.underlying33 hi hz0 hz1 hz2 rfl (by decide) _ _ _ rfl (by exact HO5.out) ⟨g, 0, none⟩ (x.S.length - (j + 1)) 0 (scells (x.S.drop (j + 1))) rfl P2a.out (by exact P2c.out hc) (sn_one _) (by unfold maxLen; omega) (by omega) h45 ?_))
      intro v6 w6 ho6 hg6 _
      have hb6 : Below w4.heap.size w4 w6 := HB5.out.grown hg6 h45 fun k hk => (HO5.out.lt k hk).1
      have k6 : Kp B [105, 128] W w6 := HK4.out.trans (Kp.of_below hb6)
      have hs6 := k6.keep HF.out.2.2.1 (by simp)
      have c2 : w6.cell? ⟨hb, 2, none⟩ = some (.slice (some ⟨g, 0, none⟩) x.S.length cap) := by simp [World.cell?, hs6]
      have f2 : w6.frozen? ⟨hb, 2, none⟩ = false := by simp [World.frozen?, hs6]
      obtain ⟨n6, hn6⟩ : ∃ n6, j + (x.S.length - (j + 1)) = n6 := ⟨_, rfl⟩
      rw [hn6] at ho6
      obtain ⟨ao6, cap6, rfl⟩ := slice_form ho6
      have HFIN : Hid (ShopAt B hb { x with S := x.S.eraseIdx j } A (w6.setCell ⟨hb, 2, none⟩ (.slice ao6 n6 cap6)) ∧ Kp B turned w (w6.setCell ⟨hb, 2, none⟩ (.slice ao6 n6 cap6))) :=
        ⟨put2 _ HF.out.2.1 hs6 (HST4.out.below hb6) (HF.out.2.2.2.1.kept k6 (by simp) (by simp)) (owns_base (rest_row hj (by rw [hn6]; exact ho6)) (Nat.le_trans hBW HK4.out.size)), (HF.out.2.2.2.2.2.1.trans (k6.mono (by simp [turned]))).trans ((Kp.field HF.out.2.1 hs6 2 _).mono (by simp [turned]))⟩
      clear ho6 hg6 hb6 k6 hs6 hn6
      go_wp2
      go_ret
      exact ⟨rfl, _, A, HFIN.out.1, (HF.out.1.drop j).mono (Nat.le_succ _), HFIN.out.2⟩
    · go_wp2_with (at_builtin; (refine wpList_append_own _ rfl _ _ 33 rfl w4.heap.size 69 i0 _ 2 16 Try.underlying33 hi hz0 hz1 hz2 rfl (by decide) _ _ _ rfl (by exact HO5.out) ⟨g, (j + 1) * 2, none⟩ (x.S.length - (j + 1)) (cap - (j + 1)) (scells (x.S.drop (j + 1))) rfl P2a.out (by exact P2b.out) (sn_one _) (by unfold maxLen; omega) (by omega) h45 ?_))
      intro v6 w6 ho6 hg6 _
      have hb6 : Below w4.heap.size w4 w6 := HB5.out.grown hg6 h45 fun k hk => (HO5.out.lt k hk).1
      have k6 : Kp B [105, 128] W w6 := HK4.out.trans (Kp.of_below hb6)
      have hs6 := k6.keep HF.out.2.2.1 (by simp)
      have c2 : w6.cell? ⟨hb, 2, none⟩ = some (.slice (some ⟨g, 0, none⟩) x.S.length cap) := by simp [World.cell?, hs6]
      have f2 : w6.frozen? ⟨hb, 2, none⟩ = false := by simp [World.frozen?, hs6]
      obtain ⟨n6, hn6⟩ : ∃ n6, j + (x.S.length - (j + 1)) = n6 := ⟨_, rfl⟩
      rw [hn6] at ho6
      obtain ⟨ao6, cap6, rfl⟩ := slice_form ho6
      have HFIN : Hid (ShopAt B hb { x with S := x.S.eraseIdx j } A (w6.setCell ⟨hb, 2, none⟩ (.slice ao6 n6 cap6)) ∧ Kp B turned w (w6.setCell ⟨hb, 2, none⟩ (.slice ao6 n6 cap6))) :=
        ⟨put2 _ HF.out.2.1 hs6 (HST4.out.below hb6) (HF.out.2.2.2.1.kept k6 (by simp) (by simp)) (owns_base (rest_row hj (by rw [hn6]; exact ho6)) (Nat.le_trans hBW HK4.out.size)), (HF.out.2.2.2.2.2.1.trans (k6.mono (by simp [turned]))).trans ((Kp.field HF.out.2.1 hs6 2 _).mono (by simp [turned]))⟩
      clear ho6 hg6 hb6 k6 hs6 hn6
      go_wp2
      go_ret
      exact ⟨rfl, _, A, HFIN.out.1, (HF.out.1.drop j).mono (Nat.le_succ _), HFIN.out.2⟩
end Go.Proofs.Ytojdkfamihlnkaa
