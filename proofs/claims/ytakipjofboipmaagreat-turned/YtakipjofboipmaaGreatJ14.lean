/- The walks of this proof: a snapshot is let go. -/
import Derived.Test.YtakipjofboipmaaGreatJ13
import Derived.ProofKit
import Derived.OpenShut
import Derived.JoinedCond
import Derived.Deep.Slices
import Derived.Handed
namespace Go.Proofs.YtakipjofboipmaaGreat
open Go.RowKit Go.Sort

theorem drop_none_in (x : St) (B sb : Nat) (n : Int) (w : World) (hx : SIn B sb x w) (ok : StOk x) (hn : sidx x.S n = none) (d : Nat) (os : Array Obj) :
    Calls Tryz.prog 17 #[.pointer (some ⟨sb, 0, none⟩), .int .i64 n] (grow (redrawn w d) os) fun e w'' => e = .returned (.int .i64 5) ∧ ∃ p : Regrown, w'' = grow (redrawn w p.d) p.os :=
  Calls.regrown_of ((drop_sin x B sb n _ (hx.below (below_of_regrown ⟨⟨d, os⟩, rfl⟩)) ok).mono fun e w' h => by
    rcases h with ⟨_, h1, h2⟩ | ⟨i, h1, _⟩
    · exact ⟨h1, h2⟩
    · rw [hn] at h1; cases h1)

theorem pick_in (c n : Int) (w : World) (h0 : -9223372036854775808 ≤ c) (h1 : c ≤ 9223372036854775807) (h2 : 0 < n) (h3 : n ≤ 1000000000) (d : Nat) (os : Array Obj) :
    Calls Tryz.prog 30 #[.int .i64 c, .int .i64 n] (grow (redrawn w d) os) fun e w'' => e = .returned (.int .i64 (pk c n)) ∧ ∃ p : Regrown, w'' = grow (redrawn w p.d) p.os :=
  (pick_any c n _ h0 h1 h2 h3).mono fun _ _ h => ⟨h.1, ⟨d, os⟩, h.2⟩

theorem sidx_gone {S : List Sn} (hp : S.Pairwise fun a b => a.n < b.n) {i : Nat} {s : Sn} (h : S[i]? = some s) : sidx (S.eraseIdx i) s.n = none := by
  refine sidx_out fun s' hs' => ?_
  obtain ⟨k, hk, hki, rfl⟩ := List.mem_eraseIdx_iff_getElem.1 hs'
  obtain ⟨hil, rfl⟩ := List.getElem?_eq_some_iff.1 h
  rcases Nat.lt_or_gt_of_ne hki with h1 | h1
  · have := List.pairwise_iff_getElem.1 hp k i hk hil h1
    omega
  · have := List.pairwise_iff_getElem.1 hp i k hil hk h1
    omega

/-- What dropping a snapshot that is there comes to, and dropping it again. -/
theorem drop_here (x : St) (B sb : Nat) (w : World) (hx : SIn B sb x w) (ok : StOk x) {i : Nat} {s : Sn} (hp : x.S.Pairwise fun a b => a.n < b.n) (h : x.S[i]? = some s) :
    Calls Tryz.prog 17 #[.pointer (some ⟨sb, 0, none⟩), .int .i64 s.n] w fun e w' => e = .returned (.int .i64 0) ∧ SIn B sb { x with S := x.S.eraseIdx i } w' ∧ Kp B [118, 174] w w' :=
  (drop_sin x B sb s.n w hx ok).mono fun e w' h' => by
    rcases h' with ⟨h1, _⟩ | ⟨k, h1, h2, h3, h4⟩
    · rw [sidx_mem hp h] at h1; cases h1
    · rw [sidx_mem hp h] at h1
      obtain rfl := Option.some.inj h1
      exact ⟨h2, h3, h4⟩

theorem drop_again (x : St) (B sb : Nat) (w : World) (n : Int) (hx : SIn B sb x w) (ok : StOk x) (h : sidx x.S n = none) :
    Calls Tryz.prog 17 #[.pointer (some ⟨sb, 0, none⟩), .int .i64 n] w fun e w' => e = .returned (.int .i64 5) ∧ Below w.heap.size w w' :=
  (drop_sin x B sb n w hx ok).mono fun e w' h' => by
    rcases h' with ⟨_, h2, h3⟩ | ⟨k, h1, _⟩
    · exact ⟨h2, h3⟩
    · rw [h] at h1; cases h1

theorem sn_one (S : List Sn) : ∀ u ∈ scells S, u.oneCell' = true := by
  intro u hu
  obtain ⟨s, _, h⟩ := List.mem_flatMap.1 hu
  simp [Sn.cells] at h
  rcases h with rfl | rfl <;> rfl

theorem sn_len (S : List Sn) : (scells S).length = S.length * 2 := flat_len _ 2 (fun a => by rfl) S

/-- The cells of a part of a row of snapshots. -/
theorem sn_part {w : World} {B g cap : Nat} {S : List Sn} (h : w.ownsRow B 44 2 (.slice (some ⟨g, 0, none⟩) S.length cap) S.length (scells S)) {k m : Nat} (hk : k + m ≤ S.length) :
    (scells ((S.drop k).take m)).length = m * 2 ∧ ∀ j u, (scells ((S.drop k).take m))[j]? = some u → w.cell? ((⟨g, k * 2, none⟩ : Addr).add j) = some u := by
  have e : scells ((S.drop k).take m) = ((scells S).drop (k * 2)).take (m * 2) := by
    unfold scells
    rw [flat_drop _ 2 (fun a => by rfl), flat_take _ 2 (fun a => by rfl)]
  refine ⟨by rw [sn_len]; simp; omega, fun j u hj => ?_⟩
  rw [e, List.getElem?_take] at hj
  split at hj
  · rename_i hjm
    rw [List.getElem?_drop] at hj
    have e2 : (⟨g, k * 2, none⟩ : Addr).add j = ⟨g, k * 2 + j, none⟩ := by
      unfold Addr.add
      split
      · rename_i h0; subst h0; rfl
      · rfl
    rw [e2, h.cellAt _ (by omega)]
    exact hj
  · cases hj

theorem rest_row {w : World} {B : Nat} {v : Value} {S : List Sn} {j : Nat} (hj : j < S.length) (h : w.ownsRow B 44 2 v (j + (S.length - (j + 1))) (scells (S.take j) ++ scells (S.drop (j + 1)))) : w.ownsRow B 44 2 v (S.eraseIdx j).length (scells (S.eraseIdx j)) := by
  have e : scells (S.eraseIdx j) = scells (S.take j) ++ scells (S.drop (j + 1)) := by
    rw [List.eraseIdx_eq_take_drop_succ]
    simp [scells]
  rw [e, List.length_eraseIdx, if_pos hj, show S.length - 1 = j + (S.length - (j + 1)) by omega]
  exact h

set_option maxHeartbeats 2000000 in
set_option maxRecDepth 100000 in
theorem snapped5_any (B hb : Nat) (x : St) (A : List (List Pr)) (a : Int) (ao : Option Addr) (nl cl : Nat) (f : Bool) (t : Nat) (w : World) (hx : ShopAt B hb x A w) (ok : Sound x A t) (hBw : B ≤ w.heap.size) (h0 : -9223372036854775808 ≤ a) (h1 : a ≤ 9223372036854775807) :
    Calls Tryz.prog 45 #[.pointer (some ⟨hb, 0, none⟩), .agg #[.int .i64 5, .int .i64 a, .slice ao nl cl, .bool f]] w fun e w' => StepPost B hb t w e w' := by
  obtain ⟨i0, hi, hz0, hz1, hz2⟩ := info_parts Tryz.info44
  obtain ⟨W, hW⟩ : ∃ W, w.alloc (.cells #[.int .i64 5, .int .i64 a, .slice ao nl cl, .bool f] 28) = W := ⟨_, rfl⟩
  have hbW : Below w.heap.size w W := by rw [← hW]; exact (Below.refl _ _).alloc (Nat.le_refl _) _
  have hxW := hx.below hbW
  obtain ⟨sb, vA, vS, su, la, o0, o1, hB, hs, hst, hall, hsn, hu⟩ := id hxW
  have HU : Hid (su = x.la + x.sy ∧ la = x.la ∧ o0 = decide (hasT x.T 0) ∧ o1 = decide (hasT x.T 1)) := hu
  have c0 : W.cell? ⟨hb, 0, none⟩ = some (.pointer (some ⟨sb, 0, none⟩)) := by simp [World.cell?, hs]
  have c2 : W.cell? ⟨hb, 2, none⟩ = some vS := by simp [World.cell?, hs]
  have d0 : W.cell? ⟨w.heap.size, 0, none⟩ = some (.int .i64 5) := by rw [← hW]; simp
  have d1 : W.cell? ⟨w.heap.size, 1, none⟩ = some (.int .i64 a) := by rw [← hW]; simp
  have hbl : hb < W.heap.size := lt_of_block hs
  have hwl : w.heap.size < W.heap.size := by rw [← hW]; simp
  have HWe : Hid (w.alloc (.cells #[.int .i64 5, .int .i64 a, .slice ao nl cl, .bool f] 28) = W) := hW
  have hS4 := ok.sh.st.snaps
  have HF : Hid (Sound x A t ∧ B ≤ hb ∧ W.heap[hb]? = some (.cells #[.pointer (some ⟨sb, 0, none⟩), vA, vS, .int .i64 su, .int .i64 la, .bool o0, .bool o1] 36 (0, 0)) ∧ AllAt B W vA A ∧ W.ownsRow B 44 2 vS x.S.length (scells x.S) ∧ Kp B turned w W ∧ ShopAt B hb x A W ∧ SIn B sb x W) := ⟨ok, hB, hs, hall, hsn, Kp.of_below hbW, hxW, hst⟩
  have hBW : B ≤ W.heap.size := Nat.le_trans hBw hbW.size
  obtain ⟨aoS, capS, hvS⟩ := slice_form hsn
  have c0' := cell_regrown c0
  have c2' := cell_regrown c2
  have d1' := cell_regrown d1
  by_cases hz : x.S.length = 0
  · have HDI : Hid (∀ d os, Calls Tryz.prog 17 #[.pointer (some ⟨sb, 0, none⟩), .int .i64 a] (grow (redrawn W d) os) fun e w'' => e = .returned (.int .i64 5) ∧ ∃ p : Regrown, w'' = grow (redrawn W p.d) p.os) := fun d os => drop_none_in x B sb a W hst ok.sh.st (by rw [List.length_eq_zero_iff.1 hz]; rfl) d os
    have hz' : ((x.S.length : Int) == 0) = true := by simp [hz]
    subst hvS
    clear hx ok hW hbW hxW hs hst hall hsn hu hz
    go_enter Tryz.func45, Tryz.ntmps45
    go_wp2_with (first | rw [HWe.out])
    refine wp_region_quiet_below (by kernel_rfl) (by kernel_rfl) ?_
    repeat (first | go_big_quiet_step (exact HDI.out _ _) | quiet_step (exact HDI.out _ _))
    refine wpQuiet_nil ?_
    intro w2 hw'
    have hb2 := below_of_regrown hw'
    clear hw'
    go_wp2
    go_ret
    exact ⟨rfl, x, A, HF.out.2.2.2.2.2.2.1.below hb2, HF.out.1.mono (Nat.le_succ _), HF.out.2.2.2.2.2.1.trans (Kp.of_below hb2)⟩
  · have hz' : ((x.S.length : Int) == 0) = false := beq_eq_false_iff_ne.2 (by omega)
    have HPI : Hid (∀ d os, Calls Tryz.prog 30 #[.int .i64 a, .int .i64 x.S.length] (grow (redrawn W d) os) fun e w'' => e = .returned (.int .i64 (pk a x.S.length)) ∧ ∃ p : Regrown, w'' = grow (redrawn W p.d) p.os) := fun d os => pick_in a _ W h0 h1 (by omega) (by omega) d os
    have hpk := pk_lt (c := a) (n := x.S.length) (by omega)
    generalize pk a x.S.length = i at HPI hpk
    obtain ⟨j, rfl⟩ := Int.eq_ofNat_of_zero_le hpk.1
    have hj : j < x.S.length := by omega
    obtain ⟨s, hsj⟩ : ∃ s, x.S[j]? = some s := ⟨_, List.getElem?_eq_getElem hj⟩
    obtain ⟨g, cap, hv', _, hgl, hcap, hcell⟩ := row_cell (f := Sn.cells) (size := 2) (l := x.S) (fun a => by rfl) hsn (by omega)
    subst hv'
    have e0 := hcell j s 0 hsj (by omega)
    simp only [Sn.cells, List.getElem?_cons_zero, Nat.add_zero] at e0
    have HSJ : Hid (x.S[j]? = some s) := hsj
    clear hx ok hW hbW hxW hs hst hall hsn hu hcell hsj hvS
    go_enter Tryz.func45, Tryz.ntmps45
    go_wp2_with (first | rw [HWe.out])
    refine wp_region_quiet_below (by kernel_rfl) (by kernel_rfl) ?_
    repeat (first | go_big_quiet_step (exact HPI.out _ _) | quiet_step (exact HPI.out _ _))
    refine wpQuiet_nil ?_
    intro w2 hw'
    have hb2 := below_of_regrown hw'
    clear hw' c0' c2' d1'
    have c0 := cell_later hb2 c0
    have c2 := cell_later hb2 c2
    have e0 := cell_later hb2 e0
    have hbl2 : hb < w2.heap.size := block_lt_of_cell c0
    have hgl2 : g < w2.heap.size := block_lt_of_cell e0
    have HB2 : Hid (Below W.heap.size W w2) := hb2
    clear hb2
    have HD1 : Hid _ := drop_here x B sb w2 (HF.out.2.2.2.2.2.2.2.below HB2.out) HF.out.1.sh.st HF.out.1.snp HSJ.out
    go_wp2_with fail
    refine Calls.mono HD1.out ?_
    rintro e w3 ⟨rfl, hst3, hk3⟩
    have HD2 : Hid _ := drop_again _ B sb w3 s.n hst3 (HF.out.1.drop j).sh.st (sidx_gone HF.out.1.snp HSJ.out)
    have k3 : Kp B [118, 174] W w3 := (Kp.of_below HB2.out).trans hk3
    have hs3 := k3.keep HF.out.2.2.1 (by simp)
    have c0 : w3.cell? ⟨hb, 0, none⟩ = some (.pointer (some ⟨sb, 0, none⟩)) := by simp [World.cell?, hs3]
    have hbl3 : hb < w3.heap.size := lt_of_block hs3
    have HK3 : Hid (Kp B [118, 174] W w3) := k3
    have HST3 : Hid (SIn B sb { x with S := x.S.eraseIdx j } w3) := hst3
    clear hst3 hk3 k3 hs3 HD1
    go_wp2_with fail
    refine Calls.mono HD2.out ?_
    rintro e w4 ⟨rfl, hb4⟩
    have k4 : Kp B [118, 174] W w4 := HK3.out.trans (Kp.of_below hb4)
    have hs4 := k4.keep HF.out.2.2.1 (by simp)
    have c2 : w4.cell? ⟨hb, 2, none⟩ = some (.slice (some ⟨g, 0, none⟩) x.S.length cap) := by simp [World.cell?, hs4]
    have f2 : w4.frozen? ⟨hb, 2, none⟩ = false := by simp [World.frozen?, hs4]
    have hbl4 : hb < w4.heap.size := lt_of_block hs4
    have HST4 : Hid (SIn B sb { x with S := x.S.eraseIdx j } w4) := HST3.out.below hb4
    have HK4 : Hid (Kp B [118, 174] W w4) := k4
    have HO4 : Hid (w4.ownsRow B 44 2 (.slice (some ⟨g, 0, none⟩) x.S.length cap) x.S.length (scells x.S)) := k4.owns HF.out.2.2.2.2.1 (by simp)
    have hgl4 : g < w4.heap.size := Nat.lt_of_lt_of_le hgl k4.size
    clear c0 k4 hs4 hb4 HD2 HST3 HK3 e0 hgl2 hbl2 hbl3
    have P1 := sn_part HO4.out (k := 0) (m := j) (by omega)
    rw [List.drop_zero] at P1
    have P1a : Hid ((scells (x.S.take j)).length = j * 2) := P1.1
    have P1b : Hid (∀ k u, (scells (x.S.take j))[k]? = some u → w4.cell? ((⟨g, 0, none⟩ : Addr).add k) = some u) := P1.2
    clear P1
    go_wp2_with (at_builtin; (refine wpList_append_own _ rfl _ _ 33 rfl w4.heap.size 44 i0 _ 2 16 Tryz.underlying33 hi hz0 hz1 hz2 rfl (by decide) _ _ _ rfl (World.ownsRow_nil _ _ _ _) ⟨g, 0, none⟩ j cap (scells (x.S.take j)) rfl P1a.out P1b.out (sn_one _) (by unfold maxLen; omega) (by omega) (Nat.le_refl _) ?_))
    intro v5 w5 ho5 hg5 _
    have hb5 : Below w4.heap.size w4 w5 := (Below.refl _ _).grown hg5 (Nat.le_refl _) fun k hk => by simp [Value.ownBlock] at hk
    have c2 := cell_later hb5 c2
    have f2 := (hb5.frozen hbl4).trans f2
    have hbl5 : hb < w5.heap.size := Nat.lt_of_lt_of_le hbl4 hb5.size
    have hgl5 : g < w5.heap.size := Nat.lt_of_lt_of_le hgl4 hb5.size
    have h45 : w4.heap.size ≤ w5.heap.size := hb5.size
    have HB5 : Hid (Below w4.heap.size w4 w5) := hb5
    have HO5 : Hid (w5.ownsRow w4.heap.size 44 2 v5 j (scells (x.S.take j))) := ho5
    have P2 := sn_part ((Kp.of_below (B := 0) (ts := []) hb5).owns HO4.out (by simp)) (k := j + 1) (m := x.S.length - (j + 1)) (by omega)
    rw [List.take_of_length_le (by simp)] at P2
    have P2a : Hid ((scells (x.S.drop (j + 1))).length = (x.S.length - (j + 1)) * 2) := P2.1
    have P2b : Hid (∀ k u, (scells (x.S.drop (j + 1)))[k]? = some u → w5.cell? ((⟨g, (j + 1) * 2, none⟩ : Addr).add k) = some u) := P2.2
    clear P2 P1a P1b hb5 ho5 hg5
    have P2c : Hid (cap - (j + 1) = 0 → ∀ k u, (scells (x.S.drop (j + 1)))[k]? = some u → w5.cell? ((⟨g, 0, none⟩ : Addr).add k) = some u) := fun hc k u h => by
      rw [List.drop_of_length_le (by omega)] at h
      simp [scells] at h
    obtain ⟨ao5, cap5, rfl⟩ := slice_form HO5.out
    have hj4 : j ≤ 4 := by omega
    by_cases hc : cap - (j + 1) = 0
    · go_wp2_with (at_builtin; (refine wpList_append_own _ rfl _ _ 33 rfl w4.heap.size 44 i0 _ 2 16 Tryz.underlying33 hi hz0 hz1 hz2 rfl (by decide) _ _ _ rfl (by exact HO5.out) ⟨g, 0, none⟩ (x.S.length - (j + 1)) 0 (scells (x.S.drop (j + 1))) rfl P2a.out (by exact P2c.out hc) (sn_one _) (by unfold maxLen; omega) (by omega) h45 ?_))
      intro v6 w6 ho6 hg6 _
      have hb6 : Below w4.heap.size w4 w6 := HB5.out.grown hg6 h45 fun k hk => (HO5.out.lt k hk).1
      have k6 : Kp B [118, 174] W w6 := HK4.out.trans (Kp.of_below hb6)
      have hs6 := k6.keep HF.out.2.2.1 (by simp)
      have c2 : w6.cell? ⟨hb, 2, none⟩ = some (.slice (some ⟨g, 0, none⟩) x.S.length cap) := by simp [World.cell?, hs6]
      have f2 : w6.frozen? ⟨hb, 2, none⟩ = false := by simp [World.frozen?, hs6]
      obtain ⟨n6, hn6⟩ : ∃ n6, j + (x.S.length - (j + 1)) = n6 := ⟨_, rfl⟩
      rw [hn6] at ho6
      obtain ⟨ao6, cap6, rfl⟩ := slice_form ho6
      have HFIN : Hid (ShopAt B hb { x with S := x.S.eraseIdx j } A (w6.setCell ⟨hb, 2, none⟩ (.slice ao6 n6 cap6)) ∧ Kp B turned w (w6.setCell ⟨hb, 2, none⟩ (.slice ao6 n6 cap6))) :=
        ⟨put2 _ HF.out.2.1 hs6 (HST4.out.below hb6) (HF.out.2.2.2.1.kept k6 (by simp) (by simp)) (owns_base (rest_row hj (by rw [hn6]; exact ho6)) (Nat.le_trans hBW HK4.out.size)) HU.out, (HF.out.2.2.2.2.2.1.trans (k6.mono (by simp [turned]))).trans ((Kp.field HF.out.2.1 hs6 2 _).mono (by simp [turned]))⟩
      clear ho6 hg6 hb6 k6 hs6 hn6
      go_wp2
      go_ret
      exact ⟨rfl, _, A, HFIN.out.1, (HF.out.1.drop j).mono (Nat.le_succ _), HFIN.out.2⟩
    · go_wp2_with (at_builtin; (refine wpList_append_own _ rfl _ _ 33 rfl w4.heap.size 44 i0 _ 2 16 Tryz.underlying33 hi hz0 hz1 hz2 rfl (by decide) _ _ _ rfl (by exact HO5.out) ⟨g, (j + 1) * 2, none⟩ (x.S.length - (j + 1)) (cap - (j + 1)) (scells (x.S.drop (j + 1))) rfl P2a.out (by exact P2b.out) (sn_one _) (by unfold maxLen; omega) (by omega) h45 ?_))
      intro v6 w6 ho6 hg6 _
      have hb6 : Below w4.heap.size w4 w6 := HB5.out.grown hg6 h45 fun k hk => (HO5.out.lt k hk).1
      have k6 : Kp B [118, 174] W w6 := HK4.out.trans (Kp.of_below hb6)
      have hs6 := k6.keep HF.out.2.2.1 (by simp)
      have c2 : w6.cell? ⟨hb, 2, none⟩ = some (.slice (some ⟨g, 0, none⟩) x.S.length cap) := by simp [World.cell?, hs6]
      have f2 : w6.frozen? ⟨hb, 2, none⟩ = false := by simp [World.frozen?, hs6]
      obtain ⟨n6, hn6⟩ : ∃ n6, j + (x.S.length - (j + 1)) = n6 := ⟨_, rfl⟩
      rw [hn6] at ho6
      obtain ⟨ao6, cap6, rfl⟩ := slice_form ho6
      have HFIN : Hid (ShopAt B hb { x with S := x.S.eraseIdx j } A (w6.setCell ⟨hb, 2, none⟩ (.slice ao6 n6 cap6)) ∧ Kp B turned w (w6.setCell ⟨hb, 2, none⟩ (.slice ao6 n6 cap6))) :=
        ⟨put2 _ HF.out.2.1 hs6 (HST4.out.below hb6) (HF.out.2.2.2.1.kept k6 (by simp) (by simp)) (owns_base (rest_row hj (by rw [hn6]; exact ho6)) (Nat.le_trans hBW HK4.out.size)) HU.out, (HF.out.2.2.2.2.2.1.trans (k6.mono (by simp [turned]))).trans ((Kp.field HF.out.2.1 hs6 2 _).mono (by simp [turned]))⟩
      clear ho6 hg6 hb6 k6 hs6 hn6
      go_wp2
      go_ret
      exact ⟨rfl, _, A, HFIN.out.1, (HF.out.1.drop j).mono (Nat.le_succ _), HFIN.out.2⟩
end Go.Proofs.YtakipjofboipmaaGreat

/- The walks of this proof: the shop lays down and merges. -/
namespace Go.Proofs.YtakipjofboipmaaGreat
open Go.RowKit Go.Sort

theorem hasT_iff {T : List Lb} (h : T.Pairwise fun a b => a.1 < b.1 ∨ (a.1 = 0 ∧ b.1 = 0)) (l : Int) : hasT T l ↔ ∃ t ∈ T, t.1 = l := by
  constructor
  · intro hh
    have hs : stIdx T l < T.length := Nat.lt_of_lt_of_le hh (stIdx_le _ _)
    have h1 := List.findIdx_getElem (p := fun t : Lb => decide (l ≤ t.1)) (xs := T) (w := hs)
    have h2 := List.not_of_lt_findIdx (p := fun t : Lb => decide (l + 1 ≤ t.1)) (xs := T) hh
    simp only [decide_eq_true_eq] at h1
    simp at h2
    have e1 : l ≤ T[stIdx T l].1 := h1
    have e2 : T[stIdx T l].1 < l + 1 := h2
    exact ⟨T[stIdx T l], List.getElem_mem _, by omega⟩
  · rintro ⟨t, ht, rfl⟩
    obtain ⟨j, hj, rfl⟩ := List.getElem_of_mem ht
    refine Nat.lt_of_le_of_lt (Nat.le_of_not_lt fun hlt => ?_) (Nat.lt_of_not_le fun hle => ?_) (m := j)
    · have := st_below (T := T) (l := T[j].1) (t := T[j]) (mem_take_get.2 ⟨j, hlt, List.getElem?_eq_getElem hj⟩)
      omega
    · have : T[j] ∈ T.drop (stIdx T (T[j].1 + 1)) := by
        refine List.mem_iff_getElem?.2 ⟨j - stIdx T (T[j].1 + 1), ?_⟩
        rw [List.getElem?_drop, show stIdx T (T[j].1 + 1) + (j - stIdx T (T[j].1 + 1)) = j by omega]
        exact List.getElem?_eq_getElem hj
      have := st_above h this
      omega

theorem fl_has0 {x : St} (ok' : StOk x.fl) : decide (hasT x.fl.T 0) = true := decide_eq_true ((hasT_iff ok'.lv.lev 0).2 ⟨_, List.mem_cons_self, rfl⟩)

theorem fl_has1 {x : St} (ok : StOk x) (ok' : StOk x.fl) : decide (hasT x.fl.T 1) = decide (hasT x.T 1) := by
  rw [decide_eq_decide, hasT_iff ok'.lv.lev, hasT_iff ok.lv.lev]
  show (∃ t ∈ (0, ndAll x.Q false x.M) :: x.T, t.1 = 1) ↔ _
  simp

theorem mg_mem {x : St} {l : Int} {t : Lb} : t ∈ (x.mg l).T ↔ t ∈ x.T.take (stIdx x.T l) ∨ t ∈ oneT (l + 1) (ndAll x.Q (l + 1 == 2) (x.mixed l)) ∨ t ∈ x.T.drop (stIdx x.T (l + 2)) := by
  show t ∈ _ ++ _ ++ _ ↔ _
  rw [List.mem_append, List.mem_append, or_assoc]

theorem mg_has {x : St} (ok : StOk x) {l : Int} (ok' : StOk (x.mg l)) : decide (hasT (x.mg l).T l) = false := by
  refine decide_eq_false fun h => ?_
  obtain ⟨t, ht, hl⟩ := (hasT_iff ok'.lv.lev l).1 h
  rcases mg_mem.1 ht with h | h | h
  · have := st_below h; omega
  · obtain ⟨rfl, _⟩ := mem_oneT h
    simp only at hl; omega
  · have := st_above ok.lv.lev h; omega

theorem mg_has01 {x : St} (ok : StOk x) (h : hasT x.T 0) (ok' : StOk (x.mg 0)) : decide (hasT (x.mg 0).T 1) = true := by
  refine decide_eq_true ((hasT_iff ok'.lv.lev 1).2 ?_)
  obtain ⟨t, ht, hl⟩ := (hasT_iff ok.lv.lev 0).1 h
  have hmid : t ∈ x.mid 0 := by
    have := ht
    rw [T_split x 0, List.mem_append, List.mem_append] at this
    rcases this with (h | h) | h
    · have := st_below h; omega
    · exact h
    · have := st_above ok.lv.lev h; omega
  have hne : ndAll x.Q ((0 : Int) + 1 == 2) (x.mixed 0) ≠ [] := by
    refine ndAll_ne _ fun e => ?_
    obtain ⟨y, ys, hy⟩ := List.exists_cons_of_ne_nil (ok.lv.tne t ht)
    have : y ∈ x.mixed 0 := mixed_mem.2 ⟨t, hmid, by rw [hy]; exact List.mem_cons_self⟩
    rw [e] at this
    simp at this
  obtain ⟨y, ys, hy⟩ := List.exists_cons_of_ne_nil hne
  exact ⟨(1, y :: ys), mg_mem.2 (.inr (.inl (by rw [hy]; simp [oneT]))), rfl⟩

theorem mg_has10 {x : St} (ok : StOk x) (ok' : StOk (x.mg 1)) : decide (hasT (x.mg 1).T 0) = decide (hasT x.T 0) := by
  rw [decide_eq_decide, hasT_iff ok'.lv.lev, hasT_iff ok.lv.lev]
  constructor
  · rintro ⟨t, ht, hl⟩
    rcases mg_mem.1 ht with h | h | h
    · exact ⟨t, List.mem_of_mem_take h, hl⟩
    · obtain ⟨rfl, _⟩ := mem_oneT h
      simp at hl
    · have := st_above ok.lv.lev h; omega
  · rintro ⟨t, ht, hl⟩
    refine ⟨t, mg_mem.2 (.inl ?_), hl⟩
    rw [T_split x 1, List.mem_append, List.mem_append] at ht
    rcases ht with (h | h) | h
    · exact h
    · have := st_above ok.lv.lev (List.mem_of_mem_take h); omega
    · have := st_above ok.lv.lev h; omega

theorem Sound.fl {x : St} {A : List (List Pr)} {t : Nat} (h : Sound x A t) (ok' : StOk x.fl) : Sound x.fl A (t + 1) := by
  have b1 := h.b1
  have b2 := h.b2
  have b3 := h.b3
  have b4 := h.b4
  exact ⟨⟨ok', h.sh.last, h.sh.rel, h.sh.ok, h.sh.few⟩, h.snp, h.snr, h.ls0, by omega, by show x.E.length ≤ _; omega, by show x.T.length + 1 ≤ _; omega, by show x.lastSnap ≤ _; omega⟩

theorem mg_len {x : St} (l : Int) : (x.mg l).T.length ≤ x.T.length := by
  show (x.T.take (stIdx x.T l) ++ oneT (l + 1) (ndAll x.Q (l + 1 == 2) (x.mixed l)) ++ x.T.drop (stIdx x.T (l + 2))).length ≤ _
  conv => rhs; rw [T_split x l]
  simp only [List.length_append]
  have h1 := oneT_len (l + 1) (ndAll x.Q (l + 1 == 2) (x.mixed l))
  cases hm : x.mid l with
  | nil =>
    have : ndAll x.Q (l + 1 == 2) (x.mixed l) = [] := by
      have : x.mixed l = [] := by
        refine List.eq_nil_iff_forall_not_mem.2 fun e he => ?_
        obtain ⟨t, ht, _⟩ := mixed_mem.1 he
        rw [hm] at ht; simp at ht
      rw [this, ndAll_nil]
    rw [this]
    simp [oneT]
  | cons a r => simp only [List.length_cons]; omega

theorem Sound.mg {x : St} {A : List (List Pr)} {t : Nat} {l : Int} (h : Sound x A t) (ok' : StOk (x.mg l)) : Sound (x.mg l) A (t + 1) := by
  have b1 := h.b1
  have b2 := h.b2
  have b3 := h.b3
  have b4 := h.b4
  have := mg_len (x := x) l
  exact ⟨⟨ok', h.sh.last, h.sh.rel, h.sh.ok, h.sh.few⟩, h.snp, h.snr, h.ls0, by omega, by show x.E.length ≤ _; omega, by omega, by show x.lastSnap ≤ _; omega⟩

theorem shop_set {w : World} {hb : Nat} {a0 a1 a2 a3 a4 a5 a6 : Value} {t : TypeId} (h : w.heap[hb]? = some (.cells #[a0, a1, a2, a3, a4, a5, a6] t (0, 0))) (i : Nat) (v : Value) :
    (w.setCell ⟨hb, i, none⟩ v).heap[hb]? = some (.cells (#[a0, a1, a2, a3, a4, a5, a6].setIfInBounds i v) t (0, 0)) := heap_setCell_same w hb i _ t v h

set_option maxHeartbeats 2000000 in
set_option maxRecDepth 100000 in
theorem flushes_any (B hb : Nat) (x : St) (A : List (List Pr)) (t : Nat) (w : World) (hx : ShopAt B hb x A w) (ok : Sound x A t) (ht : t < 2000000) :
    Calls Tryz.prog 43 #[.pointer (some ⟨hb, 0, none⟩)] w fun e w' => StepPost B hb t w e w' := by
  obtain ⟨sb, vA, vS, su, la, o0, o1, hB, hs, hst, hall, hsn, hsu, hla, ho0, ho1⟩ := id hx
  have c0 : w.cell? ⟨hb, 0, none⟩ = some (.pointer (some ⟨sb, 0, none⟩)) := by simp [World.cell?, hs]
  have hbl : hb < w.heap.size := lt_of_block hs
  have b2 := ok.b2
  have b3 := ok.b3
  have HFL : Hid (Calls Tryz.prog 19 #[.pointer (some ⟨sb, 0, none⟩)] w fun e w' => FlPost B sb x w e w') := flush_sin B sb x w hst ok.sh.st (by omega) (by omega)
  have hl1 := ok.sh.st.lv.la1
  have hlast := ok.sh.last
  obtain ⟨aoA, capA, rfl⟩ : ∃ ao cap, vA = .slice ao A.length cap := by obtain ⟨Ws, h, _⟩ := hall; exact slice_form h
  have hAf := ok.sh.few
  have HF : Hid (ShopAt B hb x A w ∧ Sound x A t) := ⟨hx, ok⟩
  have HP : Hid (∀ w2, SIn B sb x.fl w2 → StOk x.fl → Kp B [118, 169] w w2 → w2.heap[hb]? = some (.cells #[.pointer (some ⟨sb, 0, none⟩), .slice aoA A.length capA, vS, .int .i64 su, .int .i64 la, .bool o0, .bool o1] 36 (0, 0)) ∧
      StepPost B hb t w (.returned (.bool true)) (((w2.setCell ⟨hb, 4, none⟩ (.int .i64 A.length)).setCell ⟨hb, 3, none⟩ (.int .i64 A.length)).setCell ⟨hb, 5, none⟩ (.bool true))) := fun w2 h2 hok2 hk2 => by
    have hs2 := hk2.keep hs (by simp)
    have s3 := shop_set hs2 4 (.int .i64 A.length)
    simp only [List.setIfInBounds_toArray, List.set_cons_succ, List.set_cons_zero] at s3
    have s4 := shop_set s3 3 (.int .i64 A.length)
    simp only [List.setIfInBounds_toArray, List.set_cons_succ, List.set_cons_zero] at s4
    have s5 := shop_set s4 5 (.bool true)
    simp only [List.setIfInBounds_toArray, List.set_cons_succ, List.set_cons_zero] at s5
    have k5 : Kp B [36] w2 (((w2.setCell ⟨hb, 4, none⟩ (.int .i64 A.length)).setCell ⟨hb, 3, none⟩ (.int .i64 A.length)).setCell ⟨hb, 5, none⟩ (.bool true)) := ((Kp.field hB hs2 4 _).trans (Kp.field hB s3 3 _)).trans (Kp.field hB s4 5 _)
    refine ⟨hs2, rfl, x.fl, A, ⟨sb, _, vS, _, _, _, _, hB, s5, h2.kept k5 (by decide), (hall.kept hk2 (by simp) (by simp)).kept k5 (by simp) (by simp), k5.owns (hk2.owns hsn (by simp)) (by simp), ?_, ?_, (fl_has0 hok2).symm, ?_⟩, ok.fl hok2, (hk2.mono (by simp [turned])).trans (k5.mono (by simp [turned]))⟩
    · show (A.length : Int) = x.last + ((0 : Nat) : Int); rw [hlast]; simp
    · show (A.length : Int) = x.last; rw [hlast]
    · rw [fl_has1 ok.sh.st hok2, ho1]
  by_cases hbe : x.B = []
  · have hle : la = (A.length : Int) := by rw [hla, ← hlast, hl1, hbe]; simp
    subst hle
    have c4 : w.cell? ⟨hb, 4, none⟩ = some (.int .i64 (A.length : Int)) := by simp [World.cell?, hs]
    have c1 : w.cell? ⟨hb, 1, none⟩ = some (.slice aoA A.length capA) := by simp [World.cell?, hs]
    clear hx ok hs hst hall hsn HP hsu hla
    go_enter Tryz.func43, Tryz.ntmps43
    go_wp2_with fail
    refine Calls.mono HFL.out ?_
    rintro e w2 (⟨_, rfl, rfl⟩ | ⟨hb2, _⟩)
    · go_wp2
      go_region
      all_goals go_wp2
      all_goals go_ret
      all_goals exact ⟨rfl, x, A, HF.out.1.below (by first | exact (Below.refl _ _).drew | exact Below.refl _ _), HF.out.2.mono (Nat.le_succ _), by first | exact (Kp.refl _ _ _).drew | exact Kp.refl _ _ _⟩
    · exact absurd hbe hb2
  · have hlt : la < (A.length : Int) := by
      rw [hla, ← hlast, hl1]
      have := List.length_pos_iff.2 hbe
      omega
    have hne : (la == (A.length : Int)) = false := beq_eq_false_iff_ne.2 (by omega)
    clear hx ok hst hall hsn hsu hla
    go_enter Tryz.func43, Tryz.ntmps43
    go_wp2_with fail
    refine Calls.mono HFL.out ?_
    rintro e w2 (⟨hb2, _⟩ | ⟨_, rfl, h2, hok2, hk2⟩)
    · exact absurd hb2 hbe
    · obtain ⟨hs2', hfin⟩ := HP.out w2.drew (h2.below (Below.refl _ _).drew) hok2 hk2.drew
      have hs2 : w2.heap[hb]? = some (.cells #[.pointer (some ⟨sb, 0, none⟩), .slice aoA A.length capA, vS, .int .i64 su, .int .i64 la, .bool o0, .bool o1] 36 (0, 0)) := hs2'
      have FIN : Hid (StepPost B hb t w (.returned (.bool true)) (((w2.drew.setCell ⟨hb, 4, none⟩ (.int .i64 A.length)).setCell ⟨hb, 3, none⟩ (.int .i64 A.length)).setCell ⟨hb, 5, none⟩ (.bool true))) := hfin
      have d1 : w2.cell? ⟨hb, 1, none⟩ = some (.slice aoA A.length capA) := by simp [World.cell?, hs2]
      have d3 : w2.cell? ⟨hb, 3, none⟩ = some (.int .i64 su) := by simp [World.cell?, hs2]
      have d4 : w2.cell? ⟨hb, 4, none⟩ = some (.int .i64 la) := by simp [World.cell?, hs2]
      have d5 : w2.cell? ⟨hb, 5, none⟩ = some (.bool o0) := by simp [World.cell?, hs2]
      have f3 : w2.frozen? ⟨hb, 3, none⟩ = false := by simp [World.frozen?, hs2]
      have f4 : w2.frozen? ⟨hb, 4, none⟩ = false := by simp [World.frozen?, hs2]
      have f5 : w2.frozen? ⟨hb, 5, none⟩ = false := by simp [World.frozen?, hs2]
      have hbl2 : hb < w2.heap.size := lt_of_block hs2
      clear hs2 hs2' hfin h2 hok2 hk2 HP HFL hs
      go_wp2
      go_region
      all_goals go_wp2
      all_goals go_ret
      all_goals exact FIN.out

set_option maxHeartbeats 2000000 in
set_option maxRecDepth 100000 in
theorem merges_any (B hb : Nat) (x : St) (A : List (List Pr)) (l : Int) (t : Nat) (w : World) (hx : ShopAt B hb x A w) (ok : Sound x A t) (ht : t < 2000000) (hBw : B ≤ w.heap.size) (hl : l = 0 ∨ l = 1) :
    Calls Tryz.prog 44 #[.pointer (some ⟨hb, 0, none⟩), .int .i64 l] w fun e w' => StepPost B hb t w e w' := by
  obtain ⟨sb, vA, vS, su, la, o0, o1, hB, hs, hst, hall, hsn, hsu, hla, ho0, ho1⟩ := id hx
  have c0 : w.cell? ⟨hb, 0, none⟩ = some (.pointer (some ⟨sb, 0, none⟩)) := by simp [World.cell?, hs]
  have hbl : hb < w.heap.size := lt_of_block hs
  have b2 := ok.b2
  have b3 := ok.b3
  have HM : Hid (Calls Tryz.prog 20 #[.pointer (some ⟨sb, 0, none⟩), .int .i64 l] w fun e w' => MePost B sb x l w e w') := merge_sin B sb x l w hst ok.sh.st hBw (by omega)
  have HF : Hid (ShopAt B hb x A w ∧ Sound x A t) := ⟨hx, ok⟩
  have HN : Hid (∀ w2, Below w.heap.size w w2 → w2.heap[hb]? = some (.cells #[.pointer (some ⟨sb, 0, none⟩), vA, vS, .int .i64 su, .int .i64 la, .bool o0, .bool o1] 36 (0, 0)) ∧ StepPost B hb t w (.returned (.bool true)) w2) := fun w2 hb2 =>
    ⟨(hb2.block hb hbl).trans hs, rfl, x, A, hx.below hb2, ok.mono (Nat.le_succ _), Kp.of_below hb2⟩
  have HP : Hid (∀ w2 w3 p0 p1, SIn B sb (x.mg l) w2 → StOk (x.mg l) → Kp B [118, 169] w w2 → Kp B [36] w2 w3 → w3.heap[hb]? = some (.cells #[.pointer (some ⟨sb, 0, none⟩), vA, vS, .int .i64 su, .int .i64 la, .bool p0, .bool p1] 36 (0, 0)) → p0 = decide (hasT (x.mg l).T 0) → p1 = decide (hasT (x.mg l).T 1) → StepPost B hb t w (.returned (.bool true)) w3) := fun w2 w3 p0 p1 h2 hok2 hk2 k5 s5 e0 e1 =>
    ⟨rfl, x.mg l, A, ⟨sb, _, vS, _, _, _, _, hB, s5, h2.kept k5 (by decide), (hall.kept hk2 (by simp) (by simp)).kept k5 (by simp) (by simp), k5.owns (hk2.owns hsn (by simp)) (by simp), hsu, hla, e0, e1⟩, ok.mg hok2, (hk2.mono (by simp [turned])).trans (k5.mono (by simp [turned]))⟩
  have HS : Hid (∀ w2, Kp B [118, 169] w w2 → w2.heap[hb]? = some (.cells #[.pointer (some ⟨sb, 0, none⟩), vA, vS, .int .i64 su, .int .i64 la, .bool o0, .bool o1] 36 (0, 0))) := fun w2 hk2 => hk2.keep hs (by simp)
  rcases hl with rfl | rfl
  · by_cases hh : hasT x.T 0
    · have hoo : o0 = true := by rw [ho0]; exact decide_eq_true hh
      subst hoo
      clear hx ok hs hst hall hsn hsu hla ho0 ho1 HN
      go_enter Tryz.func44, Tryz.ntmps44
      go_wp2_with fail
      refine Calls.mono HM.out ?_
      rintro e w2 (⟨h, _⟩ | ⟨_, h, _⟩ | ⟨_, _, rfl, h2, hok2, hk2⟩)
      · exact absurd ⟨by omega, by omega⟩ h
      · exact absurd hh h
      · have hs2 := HS.out w2 hk2
        have d5 : w2.cell? ⟨hb, 5, none⟩ = some (.bool true) := by simp [World.cell?, hs2]
        have f5 : w2.frozen? ⟨hb, 5, none⟩ = false := by simp [World.frozen?, hs2]
        have d6 : w2.cell? ⟨hb, 6, none⟩ = some (.bool o1) := by simp [World.cell?, hs2]
        have f6 : w2.frozen? ⟨hb, 6, none⟩ = false := by simp [World.frozen?, hs2]
        have hbl2 : hb < w2.heap.size := lt_of_block hs2
        have FIN : Hid (StepPost B hb t w (.returned (.bool true)) ((w2.setCell ⟨hb, 5, none⟩ (.bool false)).setCell ⟨hb, 6, none⟩ (.bool true))) := by
          have s3 := shop_set hs2 5 (.bool false)
          simp only [List.setIfInBounds_toArray, List.set_cons_succ, List.set_cons_zero] at s3
          have s4 := shop_set s3 6 (.bool true)
          simp only [List.setIfInBounds_toArray, List.set_cons_succ, List.set_cons_zero] at s4
          exact HP.out w2 _ false true h2 hok2 hk2 ((Kp.field hB hs2 5 _).trans (Kp.field hB s3 6 _)) s4 (mg_has HF.out.2.sh.st hok2).symm (mg_has01 HF.out.2.sh.st hh hok2).symm
        clear hs2 h2 hok2 hk2 HP HM HS
        go_wp2
        go_ret
        exact FIN.out
    · have hoo : o0 = false := by rw [ho0]; exact decide_eq_false hh
      subst hoo
      clear hx ok hst hall hsn hsu hla ho0 ho1 HP hs
      go_enter Tryz.func44, Tryz.ntmps44
      go_wp2_with fail
      refine Calls.mono HM.out ?_
      rintro e w2 (⟨h, _⟩ | ⟨_, _, rfl, hb2⟩ | ⟨_, h, _⟩)
      · exact absurd ⟨by omega, by omega⟩ h
      · obtain ⟨hs2, hfin⟩ := HN.out w2 hb2
        have d5 : w2.cell? ⟨hb, 5, none⟩ = some (.bool false) := by simp [World.cell?, hs2]
        have hbl2 : hb < w2.heap.size := lt_of_block hs2
        have FIN : Hid (StepPost B hb t w (.returned (.bool true)) w2) := hfin
        clear hs2 hfin hb2 HM HS HN
        go_wp2
        go_ret
        exact FIN.out
      · exact absurd h hh
  · by_cases hh : hasT x.T 1
    · have hoo : o1 = true := by rw [ho1]; exact decide_eq_true hh
      subst hoo
      have HO0 : Hid (o0 = decide (hasT x.T 0)) := ho0
      clear hx ok hs hst hall hsn hsu hla ho0 ho1 HN
      go_enter Tryz.func44, Tryz.ntmps44
      go_wp2_with fail
      refine Calls.mono HM.out ?_
      rintro e w2 (⟨h, _⟩ | ⟨_, h, _⟩ | ⟨_, _, rfl, h2, hok2, hk2⟩)
      · exact absurd ⟨by omega, by omega⟩ h
      · exact absurd hh h
      · have hs2 := HS.out w2 hk2
        have d6 : w2.cell? ⟨hb, 6, none⟩ = some (.bool true) := by simp [World.cell?, hs2]
        have f6 : w2.frozen? ⟨hb, 6, none⟩ = false := by simp [World.frozen?, hs2]
        have hbl2 : hb < w2.heap.size := lt_of_block hs2
        have FIN : Hid (StepPost B hb t w (.returned (.bool true)) (w2.setCell ⟨hb, 6, none⟩ (.bool false))) := by
          have s3 := shop_set hs2 6 (.bool false)
          simp only [List.setIfInBounds_toArray, List.set_cons_succ, List.set_cons_zero] at s3
          exact HP.out w2 _ o0 false h2 hok2 hk2 (Kp.field hB hs2 6 _) s3 (by rw [mg_has10 HF.out.2.sh.st hok2]; exact HO0.out) (mg_has HF.out.2.sh.st hok2).symm
        clear hs2 h2 hok2 hk2 HP HM HS
        go_wp2
        go_ret
        exact FIN.out
    · have hoo : o1 = false := by rw [ho1]; exact decide_eq_false hh
      subst hoo
      clear hx ok hst hall hsn hsu hla ho0 ho1 HP hs
      go_enter Tryz.func44, Tryz.ntmps44
      go_wp2_with fail
      refine Calls.mono HM.out ?_
      rintro e w2 (⟨h, _⟩ | ⟨_, _, rfl, hb2⟩ | ⟨_, h, _⟩)
      · exact absurd ⟨by omega, by omega⟩ h
      · obtain ⟨hs2, hfin⟩ := HN.out w2 hb2
        have d6 : w2.cell? ⟨hb, 6, none⟩ = some (.bool false) := by simp [World.cell?, hs2]
        have hbl2 : hb < w2.heap.size := lt_of_block hs2
        have FIN : Hid (StepPost B hb t w (.returned (.bool true)) w2) := hfin
        clear hs2 hfin hb2 HM HS HN
        go_wp2
        go_ret
        exact FIN.out
      · exact absurd h hh
end Go.Proofs.YtakipjofboipmaaGreat

/- The walks of this proof: a step; a new shop. -/
namespace Go.Proofs.YtakipjofboipmaaGreat
open Go.RowKit Go.Sort

theorem RawAt.below {w w' : World} {v : Value} (h : RawAt w v) (hb : Below w.heap.size w w') : RawAt w' v := by
  obtain ⟨ao, n, cap, rfl, hc⟩ := h
  refine ⟨ao, n, cap, rfl, fun k hk => ?_⟩
  obtain ⟨b, x, y, g, h1, h2, h3, h4, h5, h6⟩ := hc k hk
  exact ⟨b, x, y, g, h1, h2, cell_later hb h3, cell_later hb h4, cell_later hb h5, h6⟩

theorem StepPost.from {B hb t : Nat} {w w1 : World} {e : Ending} {w' : World} (h : StepPost B hb t w1 e w') (hb1 : Below w.heap.size w w1) : StepPost B hb t w e w' := by
  obtain ⟨h1, x, A, h2, h3, h4⟩ := h
  exact ⟨h1, x, A, h2, h3, (Kp.of_below hb1).trans h4⟩

set_option maxHeartbeats 1000000 in
set_option maxRecDepth 100000 in
theorem does_any (B hb : Nat) (x : St) (A : List (List Pr)) (k a : Int) (ao : Option Addr) (nl cl : Nat) (f lays : Bool) (t : Nat) (w : World) (hx : ShopAt B hb x A w) (ok : Sound x A t) (ht : t < 2000000) (hv : RawAt w (.slice ao nl cl)) (hBw : B ≤ w.heap.size) (h0 : -9223372036854775808 ≤ a) (h1 : a ≤ 9223372036854775807) :
    Calls Tryz.prog 12 #[.pointer (some ⟨hb, 0, none⟩), .agg #[.int .i64 k, .int .i64 a, .slice ao nl cl, .bool f], .bool lays] w fun e w' => StepPost B hb t w e w' := by
  have hbW : Below w.heap.size w (w.alloc (.cells #[.int .i64 k, .int .i64 a, .slice ao nl cl, .bool f] 28)) := (Below.refl _ _).alloc (Nat.le_refl _) _
  by_cases hk1 : k = 1
  · subst hk1
    have H : Hid _ := write19_any B hb x A (.slice ao nl cl) f t _ (hx.below hbW) ok ht (hv.below hbW) (Nat.le_trans hBw hbW.size)
    have HB : Hid _ := hbW
    clear hx ok hv hbW
    go_enter Tryz.func12, Tryz.ntmps12
    go_wp2_with fail
    refine Calls.mono H.out ?_
    rintro e w2 h2
    have he := h2.1
    subst he
    have H2 : Hid (StepPost B hb t w (.returned (.bool true)) w2) := h2.from HB.out
    clear h2 H HB
    go_wp2
    go_ret
    exact H2.out
  · have b1 : (k == 1) = false := beq_eq_false_iff_ne.2 hk1
    by_cases hk4 : k = 4
    · subst hk4
      have H : Hid _ := snapped4_any B hb x A a ao nl cl f t _ (hx.below hbW) ok ht (Nat.le_trans hBw hbW.size)
      have HB : Hid _ := hbW
      clear hx ok hv hbW
      go_enter Tryz.func12, Tryz.ntmps12
      go_wp2_with fail
      refine Calls.mono H.out ?_
      rintro e w2 h2
      have he := h2.1
      subst he
      have H2 : Hid (StepPost B hb t w (.returned (.bool true)) w2) := h2.from HB.out
      clear h2 H HB
      go_wp2
      go_ret
      exact H2.out
    · have b4 : (k == 4) = false := beq_eq_false_iff_ne.2 hk4
      by_cases hk5 : k = 5
      · subst hk5
        have H : Hid _ := snapped5_any B hb x A a ao nl cl f t _ (hx.below hbW) ok (Nat.le_trans hBw hbW.size) h0 h1
        have HB : Hid _ := hbW
        clear hx ok hv hbW
        go_enter Tryz.func12, Tryz.ntmps12
        go_wp2_with fail
        refine Calls.mono H.out ?_
        rintro e w2 h2
        have he := h2.1
        subst he
        have H2 : Hid (StepPost B hb t w (.returned (.bool true)) w2) := h2.from HB.out
        clear h2 H HB
        go_wp2
        go_ret
        exact H2.out
      · have b5 : (k == 5) = false := beq_eq_false_iff_ne.2 hk5
        have HF : Hid (StepPost B hb t w (.returned (.bool true)) (w.alloc (.cells #[.int .i64 k, .int .i64 a, .slice ao nl cl, .bool f] 28))) := ⟨rfl, x, A, hx.below hbW, ok.mono (Nat.le_succ _), Kp.of_below hbW⟩
        by_cases hk2 : k = 2
        · subst hk2
          cases lays with
          | false =>
            clear hx ok hv hbW hk1 hk4 hk5
            go_enter Tryz.func12, Tryz.ntmps12
            go_wp2
            go_ret
            exact HF.out
          | true =>
            have H : Hid _ := flushes_any B hb x A t _ (hx.below hbW) ok ht
            have HB : Hid _ := hbW
            clear hx ok hv hbW HF
            go_enter Tryz.func12, Tryz.ntmps12
            go_wp2_with fail
            refine Calls.mono H.out ?_
            rintro e w2 h2
            have he := h2.1
            subst he
            have H2 : Hid (StepPost B hb t w (.returned (.bool true)) w2) := h2.from HB.out
            clear h2 H HB
            go_wp2
            go_ret
            exact H2.out
        · have b2 : (k == 2) = false := beq_eq_false_iff_ne.2 hk2
          by_cases hk3 : k = 3
          · subst hk3
            cases lays with
            | false =>
              clear hx ok hv hbW hk1 hk4 hk5
              go_enter Tryz.func12, Tryz.ntmps12
              go_wp2
              go_ret
              exact HF.out
            | true =>
              have hpk := pk_lt (c := a) (n := 2) (by omega)
              have H : Hid _ := merges_any B hb x A (pk a 2) t _ (hx.below hbW) ok ht (Nat.le_trans hBw hbW.size) (by omega)
              have HP : Hid (∀ w, Calls Tryz.prog 30 #[.int .i64 a, .int .i64 2] w fun e w' => e = .returned (.int .i64 (pk a 2)) ∧ w' = w) := fun w => pick_any a 2 w h0 h1 (by omega) (by omega)
              have HB : Hid _ := hbW
              generalize pk a 2 = l at H HP hpk
              clear hx ok hv hbW HF
              go_enter Tryz.func12, Tryz.ntmps12
              go_wp2_with fail
              refine Calls.mono (HP.out _) ?_
              rintro e w1 ⟨rfl, hw1⟩
              rw [hw1]
              clear hw1 w1
              go_wp2_with fail
              refine Calls.mono H.out ?_
              rintro e w2 h2
              have he := h2.1
              subst he
              have H2 : Hid (StepPost B hb t w (.returned (.bool true)) w2) := h2.from HB.out
              clear h2 H HB
              go_wp2
              go_ret
              exact H2.out
          · have b3 : (k == 3) = false := beq_eq_false_iff_ne.2 hk3
            clear hk2 hk3 hx ok hv hbW hk1 hk4 hk5
            go_enter Tryz.func12, Tryz.ntmps12
            go_wp2
            go_ret
            exact HF.out

/-- A new store. -/
def st0 : St := ⟨[], [], 0, [], [], 0, [], 0, 0⟩

theorem sound0 : Sound st0 [] 0 :=
  ⟨⟨stOk0, rfl, by intro e; simp [st0], by simp, by decide⟩, List.Pairwise.nil, by simp [st0], by decide, by decide, by decide, by decide, by decide⟩

/-- What shop comes to. -/
def NewPost (w : World) (e : Ending) (w' : World) : Prop :=
  ∃ hb : Nat, e = .returned (.pointer (some ⟨hb, 0, none⟩)) ∧ ShopAt w.heap.size hb st0 [] w' ∧ Below w.heap.size w w'

set_option maxHeartbeats 1000000 in
theorem shop_any (w : World) : Calls Tryz.prog 11 #[] w fun e w' => NewPost w e w' := by
  go_enter Tryz.func11, Tryz.ntmps11
  go_wp2_with fail
  refine (new_sin w).mono ?_
  rintro e w1 ⟨sb, rfl, hst, hb1⟩
  have HF : Hid (NewPost w (.returned (.pointer (some ⟨w1.heap.size, 0, none⟩))) (w1.alloc (.cells #[.pointer (some ⟨sb, 0, none⟩), .slice none 0 0, .slice none 0 0, .int .i64 0, .int .i64 0, .bool false, .bool false] 36))) := by
    refine ⟨w1.heap.size, rfl, ⟨sb, .slice none 0 0, .slice none 0 0, 0, 0, false, false, hb1.size, heap_alloc_new w1 _, hst.below ((Below.refl _ _).alloc (Nat.le_refl _) _), ⟨[], World.ownsRow_nil _ _ _ _, by simp⟩, World.ownsRow_nil _ _ _ _, rfl, rfl, rfl, rfl⟩, hb1.alloc hb1.size _⟩
  clear hst hb1
  go_wp2
  go_ret
  exact HF.out

/-- A script that can be read. -/
def ScriptAt (w : World) (v : Value) (n : Nat) : Prop := ∃ (ao : Option Addr) (cap : Nat), v = .slice ao n cap ∧ ∀ i, i < n → ∃ (b : Addr) (k a : Int) (al : Option Addr) (nl cl : Nat) (f : Bool), ao = some b ∧ b.spot = none ∧
  w.cell? ⟨b.block, b.off + i * 4, none⟩ = some (.int .i64 k) ∧ w.cell? ⟨b.block, b.off + i * 4 + 1, none⟩ = some (.int .i64 a) ∧ w.cell? ⟨b.block, b.off + i * 4 + 2, none⟩ = some (.slice al nl cl) ∧ w.cell? ⟨b.block, b.off + i * 4 + 3, none⟩ = some (.bool f) ∧
  RawAt w (.slice al nl cl) ∧ -9223372036854775808 ≤ a ∧ a ≤ 9223372036854775807

set_option maxHeartbeats 2000000 in
set_option maxRecDepth 100000 in
theorem told_any (v : Value) (n : Nat) (w : World) (h : ScriptAt w v n) (hn : n ≤ 1900000) :
    Calls Tryz.prog 3 #[v] w fun e w' => e = .returned (.bool true) ∧ Below w.heap.size w w' := by
  obtain ⟨ao, cap, rfl, hc⟩ := h
  have HC : Hid _ := hc
  clear hc
  go_enter Tryz.func3, Tryz.ntmps3
  go_wp2_with fail
  refine (shop_any w).mono ?_
  rintro e w1 ⟨hb, rfl, hx, hb1⟩
  have HX : Hid (ShopAt w.heap.size hb st0 [] w1) := hx
  have HB1 : Hid (Below w.heap.size w w1) := hb1
  clear hx hb1
  go_wp2
  go_loopw [4, 5] (fun i _ wr => ∃ (j : Nat) (x : St) (A : List (List Pr)), j ≤ n ∧ i = .int .i64 j ∧ Hid (ShopAt w.heap.size hb x A wr) ∧ Hid (Sound x A j) ∧ Hid (Below w.heap.size w wr)) (fun i _ _ => n - (intOf i).toNat)
  case atStart => exact ⟨0, st0, [], Nat.zero_le _, rfl, HX, sound0, HB1⟩
  case round =>
    clear HX HB1
    obtain ⟨j, x, A, hj, rfl, HX, HS, HB⟩ := hrel
    by_cases hlt : j < n
    · obtain ⟨⟨g, off, spot⟩, k, a, al, nl, cl, f, rfl, hsp, c0, c1, c2, c3, hraw, ha0, ha1⟩ := HC.out j hlt
      simp only at hsp c0 c1 c2 c3
      subst hsp
      have hgw : g < w.heap.size := block_lt_of_cell c0
      have HD : Hid _ := does_any w.heap.size hb x A k a al nl cl f false j wr HX.out HS.out (by omega) (hraw.below HB.out) HB.out.size ha0 ha1
      have C0 : Hid (w.cell? ⟨g, off + j * 4, none⟩ = some (.int .i64 k)) := c0
      have C1 : Hid (w.cell? ⟨g, off + j * 4 + 1, none⟩ = some (.int .i64 a)) := c1
      have c0 := cell_later HB.out c0
      have c1 := cell_later HB.out c1
      have c2 := cell_later HB.out c2
      have c3 := cell_later HB.out c3
      have hgr : g < wr.heap.size := block_lt_of_cell c0
      clear hraw
      go_wp2_with fail
      refine Calls.mono HD.out ?_
      rintro e w2 ⟨rfl, x', A', hx2, hs2, hk2⟩
      have hb2 : Below w.heap.size w w2 := HB.out.trans (hk2.belowB HB.out.size)
      have c0 := cell_later hb2 C0.out
      have c1 := cell_later hb2 C1.out
      have hgr2 : g < w2.heap.size := block_lt_of_cell c0
      have HX2 : Hid (ShopAt w.heap.size hb x' A' w2) := hx2
      have HS2 : Hid (Sound x' A' (j + 1)) := hs2
      have HB2 : Hid (Below w.heap.size w w2) := hb2
      clear hx2 hs2 hb2 hk2 HD HX HS HB c2 c3
      by_cases hk6 : k = 6
      · subst hk6
        have HL : Hid _ := looks_any w.heap.size hb x' A' a (j + 1) w2 HX2.out HS2.out ha0 ha1
        go_wp2_with fail
        refine Calls.mono HL.out ?_
        rintro e w3 ⟨rfl, hb3⟩
        have HX3 : Hid (ShopAt w.heap.size hb x' A' w3) := HX2.out.below hb3
        have HB3 : Hid (Below w.heap.size w w3) := below_trans' HB2.out hb3
        clear hb3 HX2 HB2 HL
        go_wp2
        go_roundw
        case rel => exact ⟨j + 1, x', A', hlt, by go_num, HX3, HS2, HB3⟩
        case measure => simp [intOf]; omega
      · have b6 : (k == 6) = false := beq_eq_false_iff_ne.2 hk6
        go_wp2
        go_roundw
        case rel => exact ⟨j + 1, x', A', hlt, by go_num, HX2, HS2, HB2⟩
        case measure => simp [intOf]; omega
    · obtain rfl : j = n := by omega
      obtain ⟨sb, vA, vS, su, la, o0, o1, hBh, hs, hst, hall, hsn, _⟩ := id HX.out
      have c1 : wr.cell? ⟨hb, 1, none⟩ = some vA := by simp [World.cell?, hs]
      have hbl : hb < wr.heap.size := lt_of_block hs
      obtain ⟨aoA, capA, rfl⟩ : ∃ ao cap, vA = .slice ao A.length cap := by obtain ⟨Ws, h, _⟩ := hall; exact slice_form h
      have HT : Hid (Calls Tryz.prog 14 #[.pointer (some ⟨hb, 0, none⟩), .int .i64 0, .int .i64 A.length] wr fun e w' => e = .returned (.bool true) ∧ Below wr.heap.size wr w') := tells_any w.heap.size hb x A 0 A.length wr HX.out HS.out.sh (by unfold seqOf; rw [if_pos rfl, HS.out.sh.last]) (Nat.le_refl _)
      clear hs hst hall hsn
      go_wp2_with fail
      refine Calls.mono HT.out ?_
      rintro e w3 ⟨rfl, hb3⟩
      go_wp2
      go_ret
      exact ⟨rfl, below_trans' HB.out hb3⟩
end Go.Proofs.YtakipjofboipmaaGreat

/- What is read of the argument: a script. -/
namespace Go.Proofs.YtakipjofboipmaaGreat
open Go.ChangeShapes Go.WideShapes Go.ChangeAt Go.RowKit Go.Deep

theorem Tryz.cells165 : Tryz.prog.cellsOf 165 = 3 := by kernel_rfl
theorem Tryz.cells28 : Tryz.prog.cellsOf 28 = 4 := by kernel_rfl
theorem Tryz.cells3 : Tryz.prog.cellsOf 3 = 1 := by kernel_rfl
theorem Tryz.cells4 : Tryz.prog.cellsOf 4 = 1 := by kernel_rfl
theorem Tryz.cells26 : Tryz.prog.cellsOf 26 = 1 := by kernel_rfl

theorem len3 {α : Type} : ∀ {l : List α}, l.length = 3 → ∃ a b c, l = [a, b, c]
  | [a, b, c], _ => ⟨a, b, c, rfl⟩
theorem len4 {α : Type} : ∀ {l : List α}, l.length = 4 → ∃ a b c d, l = [a, b, c, d]
  | [a, b, c, d], _ => ⟨a, b, c, d, rfl⟩

theorem one_le {H : Type} (d : DataW H) : 1 ≤ Rows.uptoBulk d := by
  cases d
  case lit l => cases l <;> simp [Rows.uptoBulk]
  all_goals simp [Rows.uptoBulk]

/-- A list's bulk is no less than its length. -/
theorem all_len {H : Type} (l : List (DataW H)) : l.length ≤ Rows.uptoBulkAll l := by
  induction l
  case nil => exact Nat.zero_le _
  case cons d r ih =>
    have h := one_le d
    rw [Rows.uptoBulkAll, List.length_cons]
    omega

section
variable {H : Type} {enc : TypeId × Value → H} {W : World} {base : Nat} {spare : Nat → Bool} {held : Bool}

theorem cell_at {a : Addr} {n i : Nat} {v : Value} (hs : a.spot = none) (h : W.cell? ((a.add n).add i) = some v) : W.cell? ⟨a.block, a.off + n + i, none⟩ = some v := by
  obtain ⟨b, o, s⟩ := a
  simp only at hs
  subst hs
  rw [add_plain, add_plain] at h
  exact h

theorem int_of {fuel : Nat} {v : Value} {x : DataW H × List MemPlace} (h : DataW.trod enc Tryz.prog W base spare held fuel 3 [v] = some x) : ∃ n : Int, v = .int .i64 n ∧ -9223372036854775808 ≤ n ∧ n ≤ 9223372036854775807 := by
  obtain ⟨n, hc, _, hw⟩ := DataW.trod_int Tryz.underlying3 h
  simp only [List.cons.injEq, and_true] at hc
  exact ⟨n, hc, bounds_i64 hw⟩

theorem bool_of {fuel : Nat} {v : Value} {x : DataW H × List MemPlace} (h : DataW.trod enc Tryz.prog W base spare held fuel 4 [v] = some x) : ∃ b : Bool, v = .bool b := by
  obtain ⟨b, hc, _⟩ := DataW.trod_bool Tryz.underlying4 h
  simp only [List.cons.injEq, and_true] at hc
  exact ⟨b, hc⟩

theorem raw_of {fuel : Nat} {v : Value} {x : DataW H × List MemPlace} (h : DataW.trod enc Tryz.prog W base spare held fuel 26 [v] = some x) : RawAt W v := by
  rcases open_slice Tryz.underlying26 h with ⟨hcs, _⟩ | ⟨a, len, cap, m, n, D, Pl, hcs, _, hl, _, hmm, _, hx⟩
  · simp only [List.cons.injEq, and_true] at hcs
    subst hcs
    exact ⟨none, 0, 0, rfl, fun k hk => absurd hk (Nat.not_lt_zero _)⟩
  · simp only [List.cons.injEq, and_true] at hcs
    subst hcs
    have hlm : len ≤ m := by rw [hmm]; split <;> omega
    rw [Tryz.cells165] at hx
    refine ⟨some a, len, cap, rfl, fun k hk => ?_⟩
    have hsp : a.spot = none := by
      obtain ⟨cs', h1, _⟩ := hx 0 (by omega)
      obtain ⟨_, hlen, hcell⟩ := World.cells?_some h1
      have := hcell 0 (by omega)
      rw [List.getElem?_eq_getElem (by omega)] at this
      simpa [Addr.add] using World.cell?_spot this
    obtain ⟨cs', h1, h2⟩ := hx k (by omega)
    obtain ⟨_, hlen, hcell⟩ := World.cells?_some h1
    obtain ⟨xs, j, _, _, _, hxl, hf⟩ := DataW.trod_struct Tryz.underlying165 h2
    obtain ⟨y0, y1, y2, rfl⟩ := len3 hxl
    obtain ⟨v0, v1, v2, rfl⟩ := len3 hlen
    · have g0 := hf 0 _ rfl
      have g1 := hf 1 _ rfl
      have g2 := hf 2 _ rfl
      simp [Tryz.cells3, Tryz.cells4] at g0 g1 g2
      obtain ⟨n0, rfl, b0, b0'⟩ := int_of g0
      obtain ⟨n1, rfl, b1, b1'⟩ := int_of g1
      obtain ⟨b, rfl⟩ := bool_of g2
      exact ⟨a, n0, n1, b, rfl, hsp, cell_at hsp (hcell 0 (by omega)), cell_at hsp (hcell 1 (by omega)), cell_at hsp (hcell 2 (by omega)), b0, b0', b1, b1'⟩

theorem script_of {fuel : Nat} {v : Value} {x : DataW H × List MemPlace} (h : DataW.trod enc Tryz.prog W base spare held fuel 22 [v] = some x) : ∃ n, ScriptAt W v n ∧ n ≤ Rows.uptoBulk x.1 := by
  rcases open_slice Tryz.underlying22 h with ⟨hcs, _⟩ | ⟨a, len, cap, m, n, D, Pl, hcs, _, hl, _, hmm, hxx, hx⟩
  · simp only [List.cons.injEq, and_true] at hcs
    subst hcs
    exact ⟨0, ⟨none, 0, rfl, fun k hk => absurd hk (Nat.not_lt_zero _)⟩, Nat.zero_le _⟩
  · simp only [List.cons.injEq, and_true] at hcs
    subst hcs
    have hlm : len ≤ m := by rw [hmm]; split <;> omega
    rw [Tryz.cells28] at hx
    refine ⟨len, ⟨some a, cap, rfl, fun k hk => ?_⟩, ?_⟩
    · have hsp : a.spot = none := by
        obtain ⟨cs', h1, _⟩ := hx 0 (by omega)
        obtain ⟨_, hlen, hcell⟩ := World.cells?_some h1
        have := hcell 0 (by omega)
        rw [List.getElem?_eq_getElem (by omega)] at this
        simpa [Addr.add] using World.cell?_spot this
      obtain ⟨cs', h1, h2⟩ := hx k (by omega)
      obtain ⟨_, hlen, hcell⟩ := World.cells?_some h1
      obtain ⟨xs, j, _, _, _, hxl, hf⟩ := DataW.trod_struct Tryz.underlying28 h2
      obtain ⟨y0, y1, y2, y3, rfl⟩ := len4 hxl
      obtain ⟨v0, v1, v2, v3, rfl⟩ := len4 hlen
      · have g0 := hf 0 _ rfl
        have g1 := hf 1 _ rfl
        have g2 := hf 2 _ rfl
        have g3 := hf 3 _ rfl
        simp [Tryz.cells3, Tryz.cells4, Tryz.cells26] at g0 g1 g2 g3
        obtain ⟨n0, rfl, _, _⟩ := int_of g0
        obtain ⟨n1, rfl, b1, b1'⟩ := int_of g1
        obtain ⟨b, rfl⟩ := bool_of g3
        have hr := raw_of g2
        obtain ⟨al, nl, cl, rfl, _⟩ := id hr
        exact ⟨a, n0, n1, al, nl, cl, b, rfl, hsp, cell_at hsp (hcell 0 (by omega)), cell_at hsp (hcell 1 (by omega)), cell_at hsp (hcell 2 (by omega)), cell_at hsp (hcell 3 (by omega)), hr, b1, b1'⟩
    · rw [hxx]
      simp only [Rows.uptoBulk]
      have := all_len (H := H) ((List.range len).map D)
      simp only [List.length_map, List.length_range] at this
      omega
end
end Go.Proofs.YtakipjofboipmaaGreat

/- From a call that stays alone to a row that says 'leaving'. -/
namespace Go.Proofs.YtakipjofboipmaaGreat

/-- Whoever is alone at the return leaves nobody behind. -/
theorem leaving_of_alone {P : Program} {last : Machine} {w : World} {t : Trace} (h : aloneAtReturn P last w t) : leavingAtReturn P last w t := by
  obtain ⟨hq, h1, h2⟩ := h
  refine ⟨h1, ⟨fun g hg => ?_, ?_⟩, h2⟩
  · have := List.all_eq_true.1 hq.1 g hg
    exact ⟨0, by simpa [Goroutine.LeavesIn] using this⟩
  · exact hq.2

theorem holds_leaving {p : Pinned} {s : OpenSpec} {c : OpenClaim} (hstart : c.start = .entering) (hstops : c.stops = []) (hw : c.wf s = true) (hl : c.leaving = true) (h : ({ c with leaving := false } : OpenClaim).holds p s) : c.holds p s := by
  obtain ⟨_, a2, a3, a4, a5, a6, a7, a8, f, fn, b1, b2, b3, b4, b5, b6, b7, b8, b9, b10, b11, b12, b13, b14, b15, b16, b17, b18, b19, b20, b21, L, hL, hf⟩ := h
  refine ⟨hw, a2, a3, a4, a5, a6, a7, a8, f, fn, b1, b2, b3, b4, b5, b6, b7, b8, b9, b10, b11, b12, b13, b14, b15, b16, b17, b18, b19, b20, b21, L, hL, fun os o1 o2 H enc inj => ?_⟩
  have hh := hf os o1 o2 H enc inj
  unfold OpenClaim.form at hh ⊢
  simp only [hstart, hstops] at hh ⊢
  intro F
  have e1 : c.atReturn p.checked.prog = leavingAtReturn p.checked.prog := by unfold OpenClaim.atReturn; rw [hl]
  rw [e1]
  exact ReturnsInOpen.mono (fun _ _ _ h => leaving_of_alone h) (fun _ h => h) (hh F)
end Go.Proofs.YtakipjofboipmaaGreat
