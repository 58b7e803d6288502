/- The walks of this proof: slices.SortFunc at few pairs. -/
import Derived.Test.YtakipjofboipmaaGreatJ5
import Derived.Test.YtakipjofboipmaaGreatJ3
import Derived.Lib.AppendStr
import Derived.Deep.RegionHeldLaw
import Derived.Laws.Closers25b
namespace Go.Proofs.YtakipjofboipmaaGreat
open Go.RowKit Go.Sort

set_option maxHeartbeats 1000000 in
set_option maxRecDepth 100000 in
theorem len64_any (n : Nat) (h1 : 1 ≤ n) (h4 : n ≤ 4) (w : World) :
    Calls Tryz.prog 178 #[.int .u64 n] w fun e w' => ∃ r : Int, e = .returned (.int .i64 r) ∧ w' = w := by
  obtain rfl | rfl | rfl | rfl : n = 1 ∨ n = 2 ∨ n = 3 ∨ n = 4 := by omega
  all_goals
    go_enter Tryz.func178, Tryz.ntmps178
    go_wp2
    go_ret
    exact ⟨_, rfl, rfl⟩

set_option maxHeartbeats 1000000 in
theorem blen_any (n : Nat) (h1 : 1 ≤ n) (h4 : n ≤ 4) (w : World) :
    Calls Tryz.prog 136 #[.int .u64 n] w fun e w' => ∃ r : Int, e = .returned (.int .i64 r) ∧ w' = w := by
  go_enter Tryz.func136, Tryz.ntmps136
  go_wp2_with (go_at_call 178; refine (len64_any n h1 h4 _).mono ?_; rintro e w' ⟨r, rfl, rfl⟩)
  go_ret
  exact ⟨_, rfl, rfl⟩

set_option maxHeartbeats 1000000 in
set_option maxRecDepth 100000 in
theorem pdq_any (L : List Pr) (g cap base : Nat) (r : Int) (w : World) (h : w.ownsRow base 48 3 (.slice (some ⟨g, 0, none⟩) L.length cap) L.length (pcells L)) (h1 : 1 ≤ L.length) (h4 : L.length ≤ 4) (hbg : base ≤ g) (hbase : base ≤ w.heap.size) (hd : Distinct L) :
    Calls Tryz.prog 135 #[.slice (some ⟨g, 0, none⟩) L.length cap, .int .i64 0, .int .i64 L.length, .int .i64 r, .func (.func 92) #[] #[]] w fun e w' => SortPost L g cap base w e w' := by
  have hi := isort_any L g cap base w h h1 h4 hbg hbase hd
  have HI : Hid _ := hi
  clear hi h hd
  go_enter Tryz.func135, Tryz.ntmps135
  go_wp2
  refine wp_loop_rounds 1 ?_
  rw [rounds_succ]
  go_wp2_with fail
  refine Calls.mono HI.out ?_
  rintro e w1 ⟨rfl, hpost⟩
  have HP : Hid _ := hpost
  clear hpost
  go_wp2
  go_end0
  exact ⟨rfl, HP.out⟩

set_option maxHeartbeats 1000000 in
theorem sortFunc_any (L : List Pr) (g cap base : Nat) (w : World) (h : w.ownsRow base 48 3 (.slice (some ⟨g, 0, none⟩) L.length cap) L.length (pcells L)) (h1 : 1 ≤ L.length) (h4 : L.length ≤ 4) (hbg : base ≤ g) (hbase : base ≤ w.heap.size) (hd : Distinct L) :
    Calls Tryz.prog 91 #[.slice (some ⟨g, 0, none⟩) L.length cap, .func (.func 92) #[] #[]] w fun e w' => SortPost L g cap base w e w' := by
  have hi := fun r => pdq_any L g cap base r w h h1 h4 hbg hbase hd
  have HI : Hid _ := hi
  clear hi h hd
  go_enter Tryz.func91, Tryz.ntmps91
  go_wp2_with fail
  refine (blen_any _ h1 h4 _).mono ?_
  rintro e w1 ⟨r, rfl, rfl⟩
  go_wp2_with fail
  refine Calls.mono (HI.out r) ?_
  rintro e w1 ⟨rfl, hpost⟩
  have HP : Hid _ := hpost
  clear hpost
  go_wp2
  go_end0
  exact ⟨rfl, HP.out⟩
end Go.Proofs.YtakipjofboipmaaGreat

/- The walks of this proof: the pairs of a batch that count, in order. -/
namespace Go.Proofs.YtakipjofboipmaaGreat
open Go.RowKit Go.Sort

/-- Whether a key comes again, asked of what is behind a pair. -/
theorem again_in {Lp : List Pr} {g k : Nat} (off c : Nat) (key : ByteArray) (w : World) (h4 : Lp.length ≤ 4) (hcell : ∀ (j : Nat) p, Lp[j]? = some p → w.cell? ⟨g, j * 3, none⟩ = some (.string p.k) ∧ w.cell? ⟨g, j * 3 + 1, none⟩ = some (.string p.v) ∧ w.cell? ⟨g, j * 3 + 2, none⟩ = some (.bool p.g))
    (hoff : k + 1 < Lp.length → off = (k + 1) * 3) (v : Value) (hv : v = .slice (some ⟨g, off, none⟩) (Lp.drop (k + 1)).length c) (d : Nat) (os : Array Obj) {r : Bool} (hr : ((Lp.drop (k + 1)).any fun q => decide (q.k = key)) = r) :
    Calls Tryz.prog 89 #[v, .string key] (grow (redrawn w d) os) fun e w'' => e = .returned (.bool r) ∧ ∃ p : Regrown, w'' = grow (redrawn w p.d) p.os := by
  subst hr
  refine Calls.regrown_of (hasKey_any (Lp.drop (k + 1)) v _ c key _ hv (by rw [List.length_drop]; omega) (fun b j p hp hb => ?_) (fun _ => rfl))
  simp only [Option.some.injEq] at hb
  subst hb
  rw [List.getElem?_drop] at hp
  have hl : k + 1 < Lp.length := by have := (List.getElem?_eq_some_iff.1 hp).1; omega
  obtain ⟨c0, c1, c2⟩ := hcell (k + 1 + j) p hp
  have e := hoff hl
  subst e
  have e3 : (k + 1) * 3 + j * 3 = (k + 1 + j) * 3 := by omega
  refine ⟨rfl, ?_, ?_, ?_⟩
  · simp only [e3]; exact cell_regrown c0 d os
  · simp only [e3]; exact cell_regrown c1 d os
  · simp only [e3]; exact cell_regrown c2 d os

theorem one_pair (w : World) (p : Pr) : ∀ j u, (Pr.cells p)[j]? = some u → (w.alloc (.cells #[.string p.k, .string p.v, .bool p.g] 48)).cell? ((⟨w.heap.size, 0, none⟩ : Addr).add j) = some u := by
  intro j u hj
  match j, hj with
  | 0, hj => simp [Pr.cells] at hj; subst hj; simp [Addr.add]
  | 1, hj => simp [Pr.cells] at hj; subst hj; simp [Addr.add]
  | 2, hj => simp [Pr.cells] at hj; subst hj; simp [Addr.add]
  | j + 3, hj => simp [Pr.cells] at hj

theorem pair_one (p : Pr) : ∀ u ∈ Pr.cells p, u.oneCell' = true := by
  intro u hu; simp [Pr.cells] at hu; rcases hu with rfl | rfl | rfl <;> rfl

/-- What Settle comes to. -/
def SettlePost (Lp : List Pr) (w : World) (e : Ending) (w' : World) : Prop :=
  ∃ (v : Value) (M : List Pr), e = .returned v ∧ SamePr (keep Lp) M ∧ Upto M M.length ∧ w'.ownsRow w.heap.size 48 3 v M.length (pcells M) ∧ Below w.heap.size w w'

set_option maxHeartbeats 2000000 in
set_option maxRecDepth 100000 in
theorem settle_any (Lp : List Pr) (v : Value) (base : Nat) (w : World) (h : w.ownsRow base 48 3 v Lp.length (pcells Lp)) (h1 : 1 ≤ Lp.length) (h4 : Lp.length ≤ 4) (ok : ∀ p ∈ Lp, PrOk p) :
    Calls Tryz.prog 54 #[v] w fun e w' => SettlePost Lp w e w' := by
  obtain ⟨i0, hi, hz0, hz1, hz2⟩ := info_parts Tryz.info48
  have HPR : Hid (∀ w', Below w.heap.size w w' → ∃ g cap, v = .slice (some ⟨g, 0, none⟩) Lp.length cap ∧ base ≤ g ∧ g < w.heap.size ∧ Lp.length ≤ cap ∧ ∀ (k : Nat) p, Lp[k]? = some p → w'.cell? ⟨g, k * 3, none⟩ = some (.string p.k) ∧ w'.cell? ⟨g, k * 3 + 1, none⟩ = some (.string p.v) ∧ w'.cell? ⟨g, k * 3 + 2, none⟩ = some (.bool p.g)) := fun w' hb => pr_cells h hb (by omega)
  obtain ⟨g, cap, rfl, _, hgw, hcap, hjunk⟩ := HPR.out w (Below.refl _ _)
  clear hjunk
  have HCELL : Hid (∀ w', Below w.heap.size w w' → ∀ (k : Nat) p, Lp[k]? = some p → w'.cell? ⟨g, k * 3, none⟩ = some (.string p.k) ∧ w'.cell? ⟨g, k * 3 + 1, none⟩ = some (.string p.v) ∧ w'.cell? ⟨g, k * 3 + 2, none⟩ = some (.bool p.g)) := fun w' hb => by
    obtain ⟨g', cap', e, _, _, _, hc⟩ := HPR.out w' hb
    simp only [Value.slice.injEq, Option.some.injEq, Addr.mk.injEq, and_true, true_and] at e
    obtain ⟨rfl, rfl⟩ := e
    exact hc
  have OK : Hid (∀ p ∈ Lp, PrOk p) := ok
  clear h HPR ok
  obtain ⟨M, hM⟩ : ∃ M, madeCells (Value.agg #[.string ⟨#[]⟩, .string ⟨#[]⟩, .bool false]).cells (((Lp.length : Nat) : Int).toNat * i0.size) = M := ⟨_, rfl⟩
  have hMs : M.size = Lp.length * 3 := by rw [← hM, size_madeCells, hz1]; simp
  have mk : ∀ W : World, (Instr.makeSlice 49 (.int .i64 0) (.int .i64 (Lp.length : Int))).run Tryz.prog W = .ok (.slice (some ⟨W.heap.size, 0, none⟩) 0 Lp.length) (W.alloc (.cells M 48)) := fun W => by
    have h := run_make (P := Tryz.prog) W 49 48 i0 (.agg #[.string ⟨#[]⟩, .string ⟨#[]⟩, .bool false]) Tryz.underlying49 hi hz0 .i64 .i64 0 (Lp.length : Int) (by omega) (by omega) (by rw [hz2]; omega) (by omega)
    rw [hM] at h
    simpa using h
  have OWN0 : Hid ((w.alloc (.cells M 48)).ownsRow w.heap.size 48 3 (.slice (some ⟨w.heap.size, 0, none⟩) 0 Lp.length) 0 []) := World.ownsRow_made w M Lp.length (Nat.le_refl _) (by unfold maxLen; omega) hMs
  have B0 : Hid (Below w.heap.size w (w.alloc (.cells M 48))) := (Below.refl _ _).alloc (Nat.le_refl _) _
  clear hM hMs
  go_enter Tryz.func54, Tryz.ntmps54
  go_wp2
  go_loopw [3, 11] (fun s3 i wr => ∃ (k : Nat) (T : List Pr), k ≤ Lp.length ∧ i = .int .i64 k ∧ T.length ≤ k ∧ Hid (T ++ keep (Lp.drop k) = keep Lp) ∧ Hid (wr.ownsRow w.heap.size 48 3 s3 T.length (pcells T)) ∧ Hid (Below w.heap.size w wr)) (fun _ i _ => Lp.length - (intOf i).toNat)
  case atStart => exact ⟨0, [], Nat.zero_le _, rfl, Nat.le_refl _, by simp [Hid], OWN0.out, B0.out⟩
  case round =>
    clear OWN0 B0 mk
    obtain ⟨k, T, hk, rfl, hTk, HT, HO, HB⟩ := hrel
    by_cases hlt : k < Lp.length
    · obtain ⟨p, hp⟩ : ∃ p, Lp[k]? = some p := ⟨_, List.getElem?_eq_getElem hlt⟩
      have hkd := keep_drop hp
      obtain ⟨c0, c1, c2⟩ := HCELL.out wr HB.out k p hp
      have OKp : Hid (PrOk p) := OK.out p (List.mem_of_getElem? hp)
      have hgr : g < wr.heap.size := Nat.lt_of_lt_of_le hgw HB.out.size
      have HB1 : Hid (∀ o, Below w.heap.size w (wr.alloc o)) := fun o => HB.out.alloc HB.out.size o
      have hsz : w.heap.size ≤ wr.heap.size := HB.out.size
      have hk1 : (k : Int) + 1 ≤ (Lp.length : Int) := by omega
      have hk0 : (0 : Int) ≤ (k : Int) + 1 := by omega
      have hkx : (p.k.size ≤ 1000) ∧ p.v.size ≤ 1000 := by have := OKp.out.hi; have := OKp.out.val; omega
      obtain ⟨r, hr⟩ : ∃ r, ((Lp.drop (k + 1)).any fun q => decide (q.k = p.k)) = r := ⟨_, rfl⟩
      rw [hr] at hkd
      have HR : Hid (((Lp.drop (k + 1)).any fun q => decide (q.k = p.k)) = r) := hr
      have HKD : Hid _ := hkd
      obtain ⟨ao3, cap3, rfl⟩ := slice_form HO.out
      clear hr hkd hp
      go_wp2
      refine wp_region_quiet_below (by kernel_rfl) (by kernel_rfl) ?_
      have b0 := cell_regrown (w := wr.alloc (.cells #[.string p.k, .string p.v, .bool p.g] 48)) (a := ⟨wr.heap.size, 0, none⟩) (v := .string p.k) (by simp)
      by_cases hce : cap = k + 1
      · subst hce
        repeat (first | go_big_quiet_step (first | exact again_in 0 0 _ _ h4 (HCELL.out _ (HB1.out _)) (fun h => absurd h (by omega)) _ (by rw [List.length_drop]; simp; omega) _ _ HR.out | exact again_in 0 (cap - (k + 1)) _ _ h4 (HCELL.out _ (HB1.out _)) (fun h => absurd h (by omega)) _ (by rw [List.length_drop]) _ _ HR.out) | quiet_step (first | exact again_in 0 0 _ _ h4 (HCELL.out _ (HB1.out _)) (fun h => absurd h (by omega)) _ (by rw [List.length_drop]; simp; omega) _ _ HR.out | exact again_in 0 (cap - (k + 1)) _ _ h4 (HCELL.out _ (HB1.out _)) (fun h => absurd h (by omega)) _ (by rw [List.length_drop]) _ _ HR.out))
        refine wpQuiet_nil ?_
        intro w2 hw'
        have hb := below_of_regrown hw'
        clear hw' b0
        have d0 := (hb.cell (p := ⟨wr.heap.size, 0, none⟩) (by simp)).trans (by simp : _ = some (Value.string p.k))
        have d1 := (hb.cell (p := ⟨wr.heap.size, 1, none⟩) (by simp)).trans (by simp : _ = some (Value.string p.v))
        have d2 := (hb.cell (p := ⟨wr.heap.size, 2, none⟩) (by simp)).trans (by simp : _ = some (Value.bool p.g))
        have hb2 : Below wr.heap.size wr w2 := below_trans' ((Below.refl _ wr).alloc (Nat.le_refl _) _) hb
        have HB2 : Hid (Below w.heap.size w w2) := below_trans' HB.out hb2
        have HO2 : Hid (w2.ownsRow w.heap.size 48 3 (.slice ao3 T.length cap3) T.length (pcells T)) := (Kp.of_below (B := 0) (ts := []) hb2).owns HO.out (by simp)
        clear hb hb2 HO c0 c1 c2
        cases r with
        | true =>
          go_wp2
          go_roundw
          case rel => exact ⟨k + 1, T, by omega, by go_num, by omega, by rw [← HT.out, HKD.out, if_pos rfl]; exact rfl, HO2.out, HB2.out⟩
          case measure => simp [intOf]; omega
        | false =>
          go_wp2_with fail
          refine (own_any p _ hkx.1 hkx.2).mono ?_
          rintro e w3 ⟨rfl, hb3⟩
          have HB3 : Hid (Below w.heap.size w w3) := below_trans' HB2.out hb3
          have HO3 : w3.ownsRow w.heap.size 48 3 (.slice ao3 T.length cap3) T.length (pcells T) := (Kp.of_below (B := 0) (ts := []) hb3).owns HO2.out (by simp)
          clear hb3 d0 d1 d2 HO2
          go_wp2_with (at_builtin; refine wpList_append_own _ rfl _ _ 49 rfl w.heap.size 48 i0 _ 3 40 Tryz.underlying49 hi hz0 hz1 hz2 rfl (by decide) _ _ _ rfl (HO3.alloc _) ⟨w3.heap.size, 0, none⟩ 1 1 (Pr.cells p) rfl rfl (by exact one_pair _ _) (pair_one p) (by unfold maxLen; omega) (by omega) (by have := HB3.out.size; simp; omega) ?_)
          intro v9 w4 ho4 hg4 _
          have HB4 : Hid (Below w.heap.size w w4) := app_below HB3.out HO3 hg4
          have HO4 : Hid (w4.ownsRow w.heap.size 48 3 v9 (T ++ [p]).length (pcells (T ++ [p]))) := by
            have : pcells (T ++ [p]) = pcells T ++ Pr.cells p := by simp [pcells]
            rw [this, List.length_append]; exact ho4
          clear ho4 hg4 HO3
          go_wp2
          go_roundw
          case rel => exact ⟨k + 1, T ++ [p], by omega, by go_num, by simp; omega, by rw [← HT.out, HKD.out, if_neg (by simp), List.append_assoc]; exact rfl, HO4.out, HB4.out⟩
          case measure => simp [intOf]; omega
      · repeat (first | go_big_quiet_step (exact again_in ((k + 1) * 3) (cap - (k + 1)) _ _ h4 (HCELL.out _ (HB1.out _)) (fun _ => rfl) _ (by rw [List.length_drop]) _ _ HR.out) | quiet_step (exact again_in ((k + 1) * 3) (cap - (k + 1)) _ _ h4 (HCELL.out _ (HB1.out _)) (fun _ => rfl) _ (by rw [List.length_drop]) _ _ HR.out))
        refine wpQuiet_nil ?_
        intro w2 hw'
        have hb := below_of_regrown hw'
        clear hw' b0
        have d0 := (hb.cell (p := ⟨wr.heap.size, 0, none⟩) (by simp)).trans (by simp : _ = some (Value.string p.k))
        have d1 := (hb.cell (p := ⟨wr.heap.size, 1, none⟩) (by simp)).trans (by simp : _ = some (Value.string p.v))
        have d2 := (hb.cell (p := ⟨wr.heap.size, 2, none⟩) (by simp)).trans (by simp : _ = some (Value.bool p.g))
        have hb2 : Below wr.heap.size wr w2 := below_trans' ((Below.refl _ wr).alloc (Nat.le_refl _) _) hb
        have HB2 : Hid (Below w.heap.size w w2) := below_trans' HB.out hb2
        have HO2 : Hid (w2.ownsRow w.heap.size 48 3 (.slice ao3 T.length cap3) T.length (pcells T)) := (Kp.of_below (B := 0) (ts := []) hb2).owns HO.out (by simp)
        clear hb hb2 HO c0 c1 c2
        cases r with
        | true =>
          go_wp2
          go_roundw
          case rel => exact ⟨k + 1, T, by omega, by go_num, by omega, by rw [← HT.out, HKD.out, if_pos rfl]; exact rfl, HO2.out, HB2.out⟩
          case measure => simp [intOf]; omega
        | false =>
          go_wp2_with fail
          refine (own_any p _ hkx.1 hkx.2).mono ?_
          rintro e w3 ⟨rfl, hb3⟩
          have HB3 : Hid (Below w.heap.size w w3) := below_trans' HB2.out hb3
          have HO3 : w3.ownsRow w.heap.size 48 3 (.slice ao3 T.length cap3) T.length (pcells T) := (Kp.of_below (B := 0) (ts := []) hb3).owns HO2.out (by simp)
          clear hb3 d0 d1 d2 HO2
          go_wp2_with (at_builtin; refine wpList_append_own _ rfl _ _ 49 rfl w.heap.size 48 i0 _ 3 40 Tryz.underlying49 hi hz0 hz1 hz2 rfl (by decide) _ _ _ rfl (HO3.alloc _) ⟨w3.heap.size, 0, none⟩ 1 1 (Pr.cells p) rfl rfl (by exact one_pair _ _) (pair_one p) (by unfold maxLen; omega) (by omega) (by have := HB3.out.size; simp; omega) ?_)
          intro v9 w4 ho4 hg4 _
          have HB4 : Hid (Below w.heap.size w w4) := app_below HB3.out HO3 hg4
          have HO4 : Hid (w4.ownsRow w.heap.size 48 3 v9 (T ++ [p]).length (pcells (T ++ [p]))) := by
            have : pcells (T ++ [p]) = pcells T ++ Pr.cells p := by simp [pcells]
            rw [this, List.length_append]; exact ho4
          clear ho4 hg4 HO3
          go_wp2
          go_roundw
          case rel => exact ⟨k + 1, T ++ [p], by omega, by go_num, by simp; omega, by rw [← HT.out, HKD.out, if_neg (by simp), List.append_assoc]; exact rfl, HO4.out, HB4.out⟩
          case measure => simp [intOf]; omega
    · obtain rfl : k = Lp.length := by omega
      have hT : T = keep Lp := by have := HT.out; rw [List.drop_of_length_le (Nat.le_refl _)] at this; simpa [keep] using this
      subst hT
      have hp1 := keep_pos h1
      have hpl := keep_len Lp
      obtain ⟨gs, caps, rfl, hbgs, hgsl⟩ := HO.out.form (by omega)
      have SF : Hid (Calls Tryz.prog 91 #[.slice (some ⟨gs, 0, none⟩) (keep Lp).length caps, .func (.func 92) #[] #[]] wr fun e w' => SortPost (keep Lp) gs caps w.heap.size wr e w') := sortFunc_any (keep Lp) gs caps w.heap.size wr HO.out hp1 (by omega) hbgs HB.out.size (keep_distinct Lp)
      clear HT HO
      go_wp2_with fail
      refine Calls.mono SF.out ?_
      rintro e w5 ⟨rfl, Ms, hsame, hup, hown, hbel⟩
      have HF : Hid (SamePr (keep Lp) Ms ∧ Upto Ms Ms.length ∧ w5.ownsRow w.heap.size 48 3 (.slice (some ⟨gs, 0, none⟩) Ms.length caps) Ms.length (pcells Ms) ∧ Below w.heap.size w w5) := ⟨hsame, hup, hown, HB.out.trans hbel⟩
      have hlm : Ms.length = (keep Lp).length := hsame.1
      clear hsame hup hown hbel
      go_wp2
      go_ret
      refine ⟨.slice (some ⟨gs, 0, none⟩) (keep Lp).length caps, Ms, rfl, HF.out.1, HF.out.2.1, ?_, HF.out.2.2.2⟩
      rw [← hlm]
      exact HF.out.2.2.1
end Go.Proofs.YtakipjofboipmaaGreat

/- The walks of this proof: the bytes of a record . -/
namespace Go.Proofs.YtakipjofboipmaaGreat
open Go.RowKit Go.Sort

/-- A slice of these bytes, from block 'base' on. -/
def BR (base : Nat) (v : Value) (l : List UInt8) (w : World) : Prop := w.ownsRow base 5 1 v l.length (bcells l)

theorem BR.below {base : Nat} {v : Value} {l : List UInt8} {w w' : World} (h : BR base v l w) (hb : Below w.heap.size w w') : BR base v l w' :=
  (Kp.of_below (B := 0) (ts := []) hb).owns h (by simp)

theorem BR.form {base : Nat} {v : Value} {l : List UInt8} {w : World} (h : BR base v l w) : ∃ ao cap, v = .slice ao l.length cap := slice_form h

theorem byte_of {n : Nat} (h : n < 256) : (UInt8.ofNat n).toNat = n := by rw [UInt8.toNat_ofNat', Nat.mod_eq_of_lt h]

/-- What was appended. -/
theorem BR.of {base : Nat} {v : Value} {n : Nat} {xs : List Value} {l : List UInt8} {w : World} (h : w.ownsRow base 5 1 v n xs) (hn : n = l.length) (hx : xs = bcells l) : BR base v l w := by
  subst hn hx; exact h

theorem strCells_b (s : ByteArray) : Lib.strCells s = bcells s.data.toList := rfl

theorem ba_len (s : ByteArray) : s.data.toList.length = s.size := by rw [Array.length_toList, ByteArray.size_data]

/-- An append to a row of the call's own. -/
theorem own_below {base : Nat} {w w' : World} {v : Value} {e : TypeId} {size n : Nat} {xs : List Value} (ho : w.ownsRow base e size v n xs) (hg : w.grownBy w' v.ownBlock) (hb : base ≤ w.heap.size) : Below base w w' :=
  (Below.refl base w).grown hg hb fun k hk => (ho.lt k hk).1

def AppPost (base : Nat) (l : List UInt8) (w : World) (e : Ending) (w' : World) : Prop := ∃ v', e = .returned v' ∧ BR base v' l w' ∧ Kp base [5] w w'

set_option maxHeartbeats 1000000 in
theorem appendText_any (base : Nat) (v : Value) (l : List UInt8) (s : ByteArray) (w : World) (h : BR base v l w) (hb : base ≤ w.heap.size) (hn : l.length + 1 + s.size ≤ 1000000) (hs : s.size ≤ 8) :
    Calls Tryz.prog 165 #[v, .string s] w fun e w' => AppPost base (l ++ txB s) w e w' := by
  obtain ⟨i0, hi, hz0, hz1, hz2⟩ := info_parts Tryz.info5
  have hown : w.ownsRow base 5 1 v l.length (bcells l) := h
  clear h
  obtain ⟨n, hn0⟩ : ∃ n, l.length = n := ⟨_, rfl⟩
  obtain ⟨R, hR0⟩ : ∃ R, bcells l = R := ⟨_, rfl⟩
  rw [hn0, hR0] at hown
  rw [hn0] at hn
  have HN : Hid (l.length = n) := hn0
  have HR : Hid (bcells l = R) := hR0
  clear hn0 hR0
  obtain ⟨ao, cap, rfl⟩ := slice_form hown
  go_enter Tryz.func165, Tryz.ntmps165
  go_wp2_with (at_builtin; refine wpList_append_own _ rfl (.tmp 5) (.tmp 9) 71 rfl base 5 i0 _ 1 1 Tryz.underlying71 hi hz0 hz1 hz2 rfl (by decide) _ _ _ rfl (hown.alloc _) ⟨w.heap.size, 0, none⟩ 1 1 [.int .u8 (s.size : Int)] rfl rfl ?c1 ?c2 ?c3 ?c4 ?c5 ?_)
  case c1 =>
    intro j u hj
    match j, hj with
    | 0, hj => simp at hj; subst hj; simp [Addr.add]
    | j + 1, hj => simp at hj
  case c2 => intro u hu; simp at hu; subst hu; rfl
  case c3 => unfold maxLen; omega
  case c4 => omega
  case c5 => simp; omega
  intro v1 w1 ho1 hg1 _
  have B1 : Kp base [5] w w1 := ((Kp.refl base [5] w).alloc _).grown (hown.alloc _) hg1 (Nat.le_refl _) (by simp)
  have HB1 : Hid (Kp base [5] w w1) := B1
  have hb1 : base ≤ w1.heap.size := Nat.le_trans hb B1.size
  obtain ⟨ao1, cap1, rfl⟩ := slice_form ho1
  clear hg1 B1 hown
  go_wp2_with (at_builtin; refine Lib.wpList_append_own_string _ rfl (.tmp 10) (.tmp 11) 71 9 rfl base 5 i0 Tryz.underlying71 Tryz.underlying9 hi hz0 hz1 hz2 _ _ _ rfl ho1 s rfl ?d1 ?d2 ?d3 ?_)
  case d1 => unfold maxLen; omega
  case d2 => omega
  case d3 => exact hb1
  intro v2 w2 ho2 hg2 _
  have HF : Hid (BR base v2 (l ++ txB s) w2 ∧ Kp base [5] w w2) := by
    refine ⟨BR.of ho2 ?_ ?_, HB1.out.grown ho1 hg2 (Nat.le_refl _) (by simp)⟩
    · rw [List.length_append, txB_len, HN.out]; omega
    · rw [bcells_append, HR.out, strCells_b]
      simp only [txB, bcells, List.map_cons]
      rw [byte_of (by omega)]
  clear ho2 hg2 ho1
  go_wp2
  go_ret
  exact ⟨_, rfl, HF.out⟩

/-- One byte appended, at a step of a region that draws. -/
theorem BR.push {base : Nat} {l : List UInt8} {b : UInt8} {x : Int} {g cap : Nat} {w1 : World} (hx : (b.toNat : Int) = x) (h : w1.ownsRow base 5 1 (.slice (some ⟨g, 0, none⟩) (l.length + 1) cap) (l.length + 1) (bcells l ++ [.int .u8 x])) : BR base (.slice (some ⟨g, 0, none⟩) (l.length + 1) cap) (l ++ [b]) w1 := by
  subst hx
  exact BR.of h (by simp) (by simp [bcells])

set_option maxHeartbeats 2000000 in
set_option maxRecDepth 100000 in
theorem appendPair_any (base : Nat) (v : Value) (l : List UInt8) (p : Pr) (w : World) (h : BR base v l w) (hb : base ≤ w.heap.size) (hn : l.length + 100 ≤ 1000000) (ok : PrOk p) :
    Calls Tryz.prog 130 #[v, .agg #[.string p.k, .string p.v, .bool p.g]] w fun e w' => AppPost base (l ++ prB p) w e w' := by
  obtain ⟨i0, hi, hz0, hz1, hz2⟩ := info_parts Tryz.info5
  have HOWN : Hid (w.ownsRow base 5 1 v l.length (bcells l)) := h
  have hk6 := ok.hi
  have hv8 := ok.val
  clear h ok
  obtain ⟨k, vv, g⟩ := p
  simp only at hk6 hv8 ⊢
  have KA : Hid (∀ o, Kp base [5] w (w.alloc o)) := fun o => (Kp.refl _ _ _).alloc o
  cases g with
  | true =>
    obtain ⟨fin, hfin⟩ : ∃ fin, l ++ prB ⟨k, vv, true⟩ = fin := ⟨_, rfl⟩
    have HFIN : Hid (l ++ [1] ++ txB k = fin) := (by rw [← hfin]; simp [prB] : _ = fin)
    rw [hfin]
    clear hfin
    have HLEN : Hid ((l ++ [(1 : UInt8)]).length = l.length + 1) := List.length_append
    go_enter Tryz.func130, Tryz.ntmps130
    go_wp2
    go_region_held_law (fun w' => w'.cell? ⟨w.heap.size, 0, none⟩ = some (.string k)) (first | go_keep | assumption) (first
      | (refine step_append_lies _ rfl (.tmp 7) (.tmp 8) 71 rfl base 5 i0 _ 1 1 Tryz.underlying71 hi hz0 hz1 hz2 rfl (by decide) v l.length (bcells l) rfl (by exact (HOWN.out.alloc _).alloc _) ⟨w.heap.size + 1, 0, none⟩ 1 1 [.int .u8 1] rfl rfl (by intro j u hj; match j, hj with | 0, hj => (simp at hj; subst hj; simp [Addr.add]) | j + 1, hj => (simp at hj)) (by intro u hu; simp at hu; subst hu; rfl) (by omega) (by unfold maxLen; omega) (by omega) (by simp; omega) _ rfl ?_; intro g1 cap1 w1 ho1 hg1 hat hlt; have K1 : Hid (BR base (.slice (some ⟨g1, 0, none⟩) (l.length + 1) cap1) (l ++ [1]) w1) := BR.push rfl ho1; have B1 : Hid (Kp base [5] (w.alloc (.cells #[.string k, .string vv, .bool true] 48)) w1) := Kp.grown ((Kp.refl _ _ _).alloc _).drew (by exact (HOWN.out.alloc _).alloc _) hg1 (Nat.le_refl _) (by simp); have k0 : w1.cell? ⟨w.heap.size, 0, none⟩ = some (.string k) := (by simp [World.cell?, B1.out.keep (heap_alloc_new w _) (by simp)]); have k1 : w1.cell? ⟨w.heap.size, 1, none⟩ = some (.string vv) := (by simp [World.cell?, B1.out.keep (heap_alloc_new w _) (by simp)]); have hsz1 : base ≤ w1.heap.size := Nat.le_trans hb (Nat.le_trans (Nat.le_trans (Nat.le_succ _) (by simp)) B1.out.size); clear ho1 hg1 hat hlt)
      | (go_at_call 165; refine (appendText_any base _ (l ++ [1]) k _ K1.out hsz1 (by rw [HLEN.out]; omega) (by omega)).mono ?_; rintro e w2 ⟨v2, rfl, hbr2, hbl2⟩; have B2 := B1.out.trans hbl2; have HF : Hid (BR base v2 (l ++ [1] ++ txB k) w2 ∧ Kp base [5] w w2) := ⟨hbr2, (KA.out _).trans B2⟩; have m0 : w2.cell? ⟨w.heap.size, 0, none⟩ = some (.string k) := (by simp [World.cell?, B2.keep (heap_alloc_new w _) (by simp)]); clear hbr2 hbl2 B2))
    all_goals go_wp2
    all_goals go_ret
    all_goals (rw [← HFIN.out]; exact ⟨_, rfl, Hid.out (by assumption)⟩)
  | false =>
    obtain ⟨fin, hfin⟩ : ∃ fin, l ++ prB ⟨k, vv, false⟩ = fin := ⟨_, rfl⟩
    have HFIN : Hid (l ++ [0] ++ txB k ++ txB vv = fin) := (by rw [← hfin]; simp [prB] : _ = fin)
    rw [hfin]
    clear hfin
    have HLEN : Hid ((l ++ [(0 : UInt8)]).length = l.length + 1 ∧ (l ++ [(0 : UInt8)] ++ txB k).length = l.length + 1 + (k.size + 1)) := ⟨List.length_append, by rw [List.length_append, List.length_append, txB_len]; rfl⟩
    go_enter Tryz.func130, Tryz.ntmps130
    go_wp2
    go_region_held_law (fun w' => w'.cell? ⟨w.heap.size, 0, none⟩ = some (.string k) ∧ w'.cell? ⟨w.heap.size, 1, none⟩ = some (.string vv)) (first | go_keep | (constructor <;> assumption)) (first
      | (refine step_append_lies _ rfl (.tmp 13) (.tmp 14) 71 rfl base 5 i0 _ 1 1 Tryz.underlying71 hi hz0 hz1 hz2 rfl (by decide) v l.length (bcells l) rfl (by exact (HOWN.out.alloc _).alloc _) ⟨w.heap.size + 1, 0, none⟩ 1 1 [.int .u8 0] rfl rfl (by intro j u hj; match j, hj with | 0, hj => (simp at hj; subst hj; simp [Addr.add]) | j + 1, hj => (simp at hj)) (by intro u hu; simp at hu; subst hu; rfl) (by omega) (by unfold maxLen; omega) (by omega) (by simp; omega) _ rfl ?_; intro g1 cap1 w1 ho1 hg1 hat hlt; have K1 : Hid (BR base (.slice (some ⟨g1, 0, none⟩) (l.length + 1) cap1) (l ++ [0]) w1) := BR.push rfl ho1; have B1 : Hid (Kp base [5] (w.alloc (.cells #[.string k, .string vv, .bool false] 48)) w1) := Kp.grown ((Kp.refl _ _ _).alloc _).drew (by exact (HOWN.out.alloc _).alloc _) hg1 (Nat.le_refl _) (by simp); have k0 : w1.cell? ⟨w.heap.size, 0, none⟩ = some (.string k) := (by simp [World.cell?, B1.out.keep (heap_alloc_new w _) (by simp)]); have k1 : w1.cell? ⟨w.heap.size, 1, none⟩ = some (.string vv) := (by simp [World.cell?, B1.out.keep (heap_alloc_new w _) (by simp)]); have hsz1 : base ≤ w1.heap.size := Nat.le_trans hb (Nat.le_trans (Nat.le_trans (Nat.le_succ _) (by simp)) B1.out.size); clear ho1 hg1 hat hlt)
      | (go_at_call_of 165 (Value.string k); refine (appendText_any base _ (l ++ [0]) k _ K1.out hsz1 (by rw [HLEN.out.1]; omega) (by omega)).mono ?_; rintro e w2 ⟨v2, rfl, hbr2, hbl2⟩; have B2 : Hid _ := B1.out.trans hbl2; have K2 : Hid (BR base v2 (l ++ [0] ++ txB k) w2) := hbr2; have hsz2 : base ≤ w2.heap.size := Nat.le_trans hsz1 hbl2.size; have m0 : w2.cell? ⟨w.heap.size, 0, none⟩ = some (.string k) := (by simp [World.cell?, B2.out.keep (heap_alloc_new w _) (by simp)]); have m1 : w2.cell? ⟨w.heap.size, 1, none⟩ = some (.string vv) := (by simp [World.cell?, B2.out.keep (heap_alloc_new w _) (by simp)]); clear hbr2 hbl2)
      | (go_at_call_of 165 (Value.string vv); refine (appendText_any base _ (l ++ [0] ++ txB k) vv _ K2.out hsz2 (by rw [HLEN.out.2]; omega) (by omega)).mono ?_; rintro e w3 ⟨v3, rfl, hbr3, hbl3⟩; have B3 := B2.out.trans hbl3; have HF : Hid (BR base v3 (l ++ [0] ++ txB k ++ txB vv) w3 ∧ Kp base [5] w w3) := ⟨hbr3, (KA.out _).trans B3⟩; have m0 : w3.cell? ⟨w.heap.size, 0, none⟩ = some (.string k) := (by simp [World.cell?, B3.keep (heap_alloc_new w _) (by simp)]); have m1 : w3.cell? ⟨w.heap.size, 1, none⟩ = some (.string vv) := (by simp [World.cell?, B3.keep (heap_alloc_new w _) (by simp)]); clear hbr3 hbl3 B3))
    all_goals go_wp2
    all_goals go_ret
    all_goals (rw [← HFIN.out]; exact ⟨_, rfl, Hid.out (by assumption)⟩)
end Go.Proofs.YtakipjofboipmaaGreat

/- The walks of this proof: a record. -/
namespace Go.Proofs.YtakipjofboipmaaGreat
open Go.RowKit Go.Sort

theorem wrap_u32 {n : Nat} (h : n < 4294967296) : IntKind.u32.wrap (n : Int) = n := by
  show (n : Int) % 4294967296 = n
  omega

theorem bits_xor (a b : BitVec 32) : bits .xor .u32 a.toNat b.toNat = (a ^^^ b).toNat := by
  show IntKind.u32.wrap ((BitVec.ofInt 32 a.toNat ^^^ BitVec.ofInt 32 b.toNat).toNat : Int) = _
  rw [BitVec.ofInt_natCast, BitVec.ofInt_natCast, BitVec.ofNat_toNat, BitVec.ofNat_toNat, BitVec.setWidth_eq, BitVec.setWidth_eq]
  exact wrap_u32 (a ^^^ b).isLt

theorem bits_and1 (a : BitVec 32) : (bits .and .u32 a.toNat 1 == 1) = a.getLsbD 0 := by
  have e : bits .and .u32 a.toNat 1 = (a &&& 1#32).toNat := by
    show IntKind.u32.wrap ((BitVec.ofInt 32 a.toNat &&& BitVec.ofInt 32 1).toNat : Int) = _
    rw [BitVec.ofInt_natCast, BitVec.ofNat_toNat, BitVec.setWidth_eq]
    exact wrap_u32 (a &&& 1#32).isLt
  rw [e, BitVec.toNat_and]
  show (((a.toNat &&& 1 : Nat) : Int) == 1) = a.getLsbD 0
  rw [Nat.and_one_is_mod, BitVec.getLsbD, Nat.testBit_zero]
  by_cases h : a.toNat % 2 = 1
  · simp [h]
  · have : a.toNat % 2 = 0 := by omega
    simp [this]

theorem half_u32 (a : BitVec 32) : Int.ofNat a.toNat / (2 : Int) = Int.ofNat (a >>> (1 : Nat)).toNat := by
  rw [BitVec.toNat_ushiftRight, Nat.shiftRight_eq_div_pow]
  rfl

set_option maxHeartbeats 1000000 in
set_option maxRecDepth 100000 in
theorem shiftByte_any (c : BitVec 32) (w : World) :
    Calls Tryz.prog 166 #[.int .u32 c.toNat] w fun e w' => e = .returned (.int .u32 (itS 8 c).toNat) ∧ w' = w := by
  go_enter Tryz.func166, Tryz.ntmps166
  go_wp2
  go_loop [0, 4] (fun s0 i => ∃ (k : Nat), k ≤ 8 ∧ i = .int .i64 k ∧ s0 = .int .u32 (itS k c).toNat) (fun _ i => 8 - (intOf i).toNat)
  case atStart => exact ⟨0, by omega, rfl, rfl⟩
  case round =>
    obtain ⟨k, hk, rfl, rfl⟩ := hrel
    by_cases hlt : k < 8
    · go_wp2
      · rename_i hb
        rw [bits_and1] at hb
        refine ⟨⟨k + 1, by omega, by go_num, ?_⟩, by simp [intOf]; omega⟩
        rw [show ((itS k c).toNat : Int) / 2 = ((itS k c >>> (1 : Nat)).toNat : Int) from half_u32 _]
        have := bits_xor (itS k c >>> 1) 3988292384#32
        rw [show (((3988292384#32).toNat : Nat) : Int) = 3988292384 from rfl] at this
        rw [this]
        simp only [itS, st1, hb, if_true]
      · rename_i hb
        rw [bits_and1] at hb
        refine ⟨⟨k + 1, by omega, by go_num, ?_⟩, by simp [intOf]; omega⟩
        rw [show ((itS k c).toNat : Int) / 2 = ((itS k c >>> (1 : Nat)).toNat : Int) from half_u32 _]
        simp only [itS, st1, hb, Bool.false_eq_true, if_false]
    · go_wp2
      go_ret
      obtain rfl : k = 8 := by omega
      exact ⟨rfl, rfl⟩

set_option maxHeartbeats 1000000 in
set_option maxRecDepth 100000 in
theorem appendNumber_any (base : Nat) (v : Value) (l : List UInt8) (c : BitVec 32) (w : World) (h : BR base v l w) (hb : base ≤ w.heap.size) (hn : l.length + 4 ≤ 1000000) :
    Calls Tryz.prog 131 #[v, .int .u32 c.toNat] w fun e w' => AppPost base (l ++ num4 c) w e w' := by
  obtain ⟨i0, hi, hz0, hz1, hz2⟩ := info_parts Tryz.info5
  have hown : w.ownsRow base 5 1 v l.length (bcells l) := h
  clear h
  obtain ⟨n, hn0⟩ : ∃ n, l.length = n := ⟨_, rfl⟩
  obtain ⟨R, hR0⟩ : ∃ R, bcells l = R := ⟨_, rfl⟩
  rw [hn0, hR0] at hown
  rw [hn0] at hn
  have HN : Hid (l.length = n) := hn0
  have HR : Hid (bcells l = R) := hR0
  clear hn0 hR0
  obtain ⟨ao, cap, rfl⟩ := slice_form hown
  have h0 : (0 : Int) ≤ c.toNat := by omega
  have h1 : (c.toNat : Int) ≤ 4294967295 := by have := c.isLt; omega
  obtain ⟨x, hx⟩ : ∃ x : Int, (c.toNat : Int) = x := ⟨_, rfl⟩
  have HX : Hid ((c.toNat : Int) = x) := hx
  rw [hx] at h0 h1 ⊢
  clear hx
  go_enter Tryz.func131, Tryz.ntmps131
  go_wp2_with (at_builtin; refine wpList_append_own _ rfl (.tmp 5) (.tmp 17) 71 rfl base 5 i0 _ 1 1 Tryz.underlying71 hi hz0 hz1 hz2 rfl (by decide) _ _ _ rfl (hown.alloc _) ⟨w.heap.size, 0, none⟩ 4 4 (Array.toList _) rfl rfl (World.news_of_block (heap_alloc_new _ _)) ?c2 ?c3 ?c4 ?c5 ?_)
  case c2 => exact ⟨rfl, rfl, rfl, rfl⟩
  case c3 => unfold maxLen; omega
  case c4 => omega
  case c5 => simp; omega
  intro v1 w1 ho1 hg1 _
  have HF : Hid (BR base v1 (l ++ num4 c) w1 ∧ Kp base [5] w w1) := by
    refine ⟨BR.of ho1 ?_ ?_, ((Kp.refl base [5] w).alloc _).grown (hown.alloc _) hg1 (Nat.le_refl _) (by simp)⟩
    · rw [List.length_append, HN.out]; rfl
    · rw [bcells_append, HR.out]
      have hlt := c.isLt
      have hxx := HX.out
      have e0 : (x % 256) = ((UInt8.ofNat c.toNat).toNat : Int) := by rw [UInt8.toNat_ofNat']; omega
      have e1 : (x / 256 % 256) = ((UInt8.ofNat (c.toNat / 256)).toNat : Int) := by rw [UInt8.toNat_ofNat']; omega
      have e2 : (x / 65536 % 256) = ((UInt8.ofNat (c.toNat / 65536)).toNat : Int) := by rw [UInt8.toNat_ofNat']; omega
      have e3 : (x / 16777216) = ((UInt8.ofNat (c.toNat / 16777216)).toNat : Int) := by rw [UInt8.toNat_ofNat']; omega
      simp only [num4, bcells, List.map_cons, List.map_nil]
      rw [e0, e1, e2, e3]
  clear ho1 hg1 hown
  go_wp2
  go_ret
  exact ⟨_, rfl, HF.out⟩

theorem crc_snoc (c : BitVec 32) (l : List UInt8) (b : UInt8) : crc c (l ++ [b]) = itS 8 (crc c l ^^^ BitVec.ofNat 32 b.toNat) := by
  rw [crc_append]; rfl

theorem not_u32 (c : BitVec 32) : bits .xor .u32 4294967295 c.toNat = (~~~c).toNat := by
  have := bits_xor 4294967295#32 c
  rw [show (((4294967295#32).toNat : Nat) : Int) = 4294967295 from rfl] at this
  rw [this]
  have : (4294967295#32 : BitVec 32) = BitVec.allOnes 32 := by decide
  rw [this, BitVec.allOnes_xor]

set_option maxHeartbeats 1000000 in
set_option maxRecDepth 100000 in
theorem ceiling_any (base : Nat) (v : Value) (l : List UInt8) (w : World) (h : BR base v l w) (hn : l.length ≤ 1000000) :
    Calls Tryz.prog 132 #[v] w fun e w' => e = .returned (.int .u32 (ceil l).toNat) ∧ w' = w := by
  have hown : w.ownsRow base 5 1 v l.length (bcells l) := h
  clear h
  obtain ⟨ao, cap, rfl⟩ := slice_form hown
  have HO : Hid (w.ownsRow base 5 1 (.slice ao l.length cap) l.length (bcells l)) := hown
  have HCE : Hid (bits .xor .u32 IntKind.u32.max (crc 4294967295#32 l).toNat = (ceil l).toNat) := not_u32 _
  clear hown
  go_enter Tryz.func132, Tryz.ntmps132
  go_wp2
  go_loop [3, 8] (fun s3 i => ∃ (k : Nat), k ≤ l.length ∧ i = .int .i64 k ∧ s3 = .int .u32 (crc 4294967295#32 (l.take k)).toNat) (fun _ i => l.length - (intOf i).toNat)
  case atStart => exact ⟨0, by omega, rfl, rfl⟩
  case round =>
    obtain ⟨k, hk, rfl, rfl⟩ := hrel
    by_cases hlt : k < l.length
    · obtain ⟨g, cap', hv', _, _⟩ := World.ownsRow.form HO.out (by omega)
      simp only [Value.slice.injEq, true_and] at hv'
      obtain ⟨rfl, rfl⟩ := hv'
      obtain ⟨b, hlb⟩ : ∃ b, l[k]? = some b := ⟨_, List.getElem?_eq_getElem hlt⟩
      have hx : w.cell? ⟨g, k, none⟩ = some (.int .u8 b.toNat) := by
        rw [HO.out.cellAt k (by omega), bcells, List.getElem?_map, hlb]; rfl
      have HT : Hid (l.take (k + 1) = l.take k ++ [b]) := (by rw [List.take_add_one, hlb]; rfl : l.take (k + 1) = l.take k ++ [b])
      have hb0 : (0 : Int) ≤ b.toNat := by omega
      have hb1 : (b.toNat : Int) ≤ 255 := by have := b.toNat_lt; omega
      clear hlb
      obtain ⟨c, hc⟩ : ∃ c, crc 4294967295#32 (l.take k) = c := ⟨_, rfl⟩
      have HC : Hid (crc 4294967295#32 (l.take k) = c) := hc
      rw [hc]
      clear hc
      have HX : Hid (bits .xor .u32 c.toNat b.toNat = (c ^^^ BitVec.ofNat 32 b.toNat).toNat) := (by
        have := bits_xor c (BitVec.ofNat 32 b.toNat)
        rwa [BitVec.toNat_ofNat, Nat.mod_eq_of_lt (by have := b.toNat_lt; omega)] at this : _ = _)
      go_wp2_with fail
      rw [HX.out]
      refine (shiftByte_any _ _).mono ?_
      rintro e w1 ⟨rfl, rfl⟩
      have HE : Hid (itS 8 (c ^^^ BitVec.ofNat 32 b.toNat) = crc 4294967295#32 (l.take (k + 1))) := (by rw [HT.out, crc_snoc, HC.out] : _ = _)
      rw [HE.out]
      go_wp2
      go_round
      case rel => exact ⟨k + 1, by omega, by go_num, rfl⟩
      case measure => simp [intOf]; omega
    · obtain rfl : k = l.length := by omega
      rw [List.take_length]
      obtain ⟨c, hc⟩ : ∃ c, crc 4294967295#32 l = c := ⟨_, rfl⟩
      rw [hc] at HCE ⊢
      clear hc
      go_wp2
      go_ret
      rw [HCE.out]
      exact ⟨rfl, rfl⟩

/-- What Record comes to. -/
def RecPost (M : List Pr) (w : World) (e : Ending) (w' : World) : Prop := ∃ v : Value, e = .returned v ∧ BR w.heap.size v (recB M) w' ∧ Below w.heap.size w w'

theorem body_take {L : List Pr} {k : Nat} {p : Pr} (h : L[k]? = some p) : (L.take (k + 1)).flatMap prB = (L.take k).flatMap prB ++ prB p := by
  rw [List.take_add_one, h]
  simp

set_option maxHeartbeats 1000000 in
set_option maxRecDepth 100000 in
theorem record_any (L : List Pr) (v : Value) (base : Nat) (w : World) (h : w.ownsRow base 48 3 v L.length (pcells L)) (h4 : L.length ≤ 4) (ok : ∀ p ∈ L, PrOk p) :
    Calls Tryz.prog 86 #[v] w fun e w' => RecPost L w e w' := by
  have HPR : Hid (∀ w', 0 < L.length → Below w.heap.size w w' → ∃ g cap, v = .slice (some ⟨g, 0, none⟩) L.length cap ∧ base ≤ g ∧ g < w.heap.size ∧ L.length ≤ cap ∧ ∀ (k : Nat) p, L[k]? = some p → w'.cell? ⟨g, k * 3, none⟩ = some (.string p.k) ∧ w'.cell? ⟨g, k * 3 + 1, none⟩ = some (.string p.v) ∧ w'.cell? ⟨g, k * 3 + 2, none⟩ = some (.bool p.g)) := fun w' hl hb => pr_cells h hb hl
  obtain ⟨ao, cap, rfl⟩ := slice_form h
  have OK : Hid (∀ p ∈ L, PrOk p) := ok
  clear h ok
  obtain ⟨n0, hn0⟩ : ∃ n0, UInt8.ofNat L.length = n0 := ⟨_, rfl⟩
  have HN0 : Hid (UInt8.ofNat L.length = n0 ∧ (n0.toNat : Int) = (L.length : Int)) := ⟨hn0, by rw [← hn0, byte_of (by omega)]⟩
  clear hn0
  have R0 : Hid (BR w.heap.size (.slice (some ⟨w.heap.size, 0, none⟩) 1 1) (n0 :: ([] : List Pr).flatMap prB) (w.alloc (.cells #[.int .u8 (L.length : Int)] 5))) := BR.of (World.ownsRow_lit w #[.int .u8 (L.length : Int)] 1 (Nat.le_refl _) (by unfold maxLen; omega) rfl) rfl (by simp only [bcells, List.flatMap_nil, List.map_cons, List.map_nil, HN0.out.2])
  have K0 : Hid (∀ o, Kp w.heap.size [5] w (w.alloc o)) := fun o => (Kp.refl _ _ _).alloc o
  go_enter Tryz.func86, Tryz.ntmps86
  go_wp2
  go_loopw [3, 12] (fun s3 i wr => ∃ (k : Nat), k ≤ L.length ∧ i = .int .i64 k ∧ Hid (BR w.heap.size s3 (n0 :: (L.take k).flatMap prB) wr ∧ (n0 :: (L.take k).flatMap prB).length ≤ 1 + 17 * k) ∧ Hid (Kp w.heap.size [5] w wr)) (fun _ i _ => L.length - (intOf i).toNat)
  case atStart => exact ⟨0, Nat.zero_le _, rfl, ⟨by rw [List.take_zero]; exact R0.out, by simp⟩, K0.out _⟩
  case round =>
    clear R0 K0
    obtain ⟨k, hk, rfl, HB, HK⟩ := hrel
    have hbel : Below w.heap.size w wr := HK.out.belowB (Nat.le_refl _)
    have hsz : w.heap.size ≤ wr.heap.size := hbel.size
    by_cases hlt : k < L.length
    · obtain ⟨g, cap', hv', _, hgl, hcap, hcell⟩ := HPR.out wr (by omega) hbel
      simp only [Value.slice.injEq, true_and] at hv'
      obtain ⟨rfl, rfl⟩ := hv'
      obtain ⟨p, hp⟩ : ∃ p, L[k]? = some p := ⟨_, List.getElem?_eq_getElem hlt⟩
      obtain ⟨c0, c1, c2⟩ := hcell k p hp
      have OKp : Hid (PrOk p ∧ (prB p).length ≤ 17) := ⟨OK.out p (List.mem_of_getElem? hp), (prB_len (OK.out p (List.mem_of_getElem? hp))).2⟩
      have hgr : g < wr.heap.size := by omega
      have HTK : Hid (n0 :: (L.take (k + 1)).flatMap prB = (n0 :: (L.take k).flatMap prB) ++ prB p) := (by rw [body_take hp]; rfl : _ = _)
      clear hcell hp hbel
      go_wp2_with fail
      refine (appendPair_any w.heap.size _ (n0 :: (L.take k).flatMap prB) p _ (by exact HB.out.1.below ((Below.refl _ _).alloc (Nat.le_refl _) _)) (by simp; omega) (by have := HB.out.2; omega) OKp.out.1).mono ?_
      rintro e w2 ⟨v2, rfl, hbr, hkp⟩
      have HB2 : Hid (BR w.heap.size v2 (n0 :: (L.take (k + 1)).flatMap prB) w2 ∧ (n0 :: (L.take (k + 1)).flatMap prB).length ≤ 1 + 17 * (k + 1)) := by
        rw [HTK.out]
        exact ⟨hbr, by rw [List.length_append]; have := HB.out.2; have := OKp.out.2; omega⟩
      have HK2 : Hid (Kp w.heap.size [5] w w2) := (HK.out.alloc _).trans hkp
      clear hbr hkp
      go_wp2
      go_roundw
      case rel => exact ⟨k + 1, by omega, by go_num, HB2, HK2⟩
      case measure => simp [intOf]; omega
    · clear hbel
      obtain rfl : k = L.length := by omega
      obtain ⟨body, hbody⟩ : ∃ body, n0 :: (L.take L.length).flatMap prB = body := ⟨_, rfl⟩
      rw [hbody] at HB
      have HBO : Hid (body ++ num4 (ceil body) = recB L) := (by rw [← hbody, List.take_length]; unfold recB bodyB; rw [HN0.out.1] : _ = _)
      have hbl : body.length ≤ 100 := by have := HB.out.2; omega
      clear hbody
      go_wp2_with fail
      refine (ceiling_any w.heap.size _ body _ HB.out.1 (by omega)).mono ?_
      rintro e w2 ⟨rfl, rfl⟩
      go_wp2_with fail
      refine (appendNumber_any w.heap.size _ body (ceil body) _ HB.out.1 hsz (by omega)).mono ?_
      rintro e w3 ⟨v3, rfl, hbr, hkp⟩
      rw [HBO.out] at hbr
      have HF : Hid (BR w.heap.size v3 (recB L) w3 ∧ Kp w.heap.size [5] w w3) := ⟨hbr, HK.out.trans hkp⟩
      clear hbr hkp
      go_wp2
      go_ret
      exact ⟨_, rfl, HF.out.1, HF.out.2.belowB (Nat.le_refl _)⟩
end Go.Proofs.YtakipjofboipmaaGreat

/- The walks of this proof: the entries of a batch. -/
namespace Go.Proofs.YtakipjofboipmaaGreat
open Go.RowKit Go.Sort

theorem Tryz.info58 : (Tryz.prog.info? 58).map (fun i => (i.zero, i.size, i.bytes)) = some (some (.agg #[.string ⟨#[]⟩, .int .i64 0, .bool false, .string ⟨#[]⟩]), 4, 48) := by kernel_rfl

theorem one_entry (w : World) (x : En) (N : Nat) (hN : N = w.heap.size) : ∀ j u, (En.cells x)[j]? = some u → (w.alloc (.cells #[.string x.k, .int .i64 x.s, .bool x.g, .string x.v] 58)).cell? ((⟨N, 0, none⟩ : Addr).add j) = some u := by
  subst hN
  intro j u hj
  match j, hj with
  | 0, hj => simp [En.cells] at hj; subst hj; simp [Addr.add]
  | 1, hj => simp [En.cells] at hj; subst hj; simp [Addr.add]
  | 2, hj => simp [En.cells] at hj; subst hj; simp [Addr.add]
  | 3, hj => simp [En.cells] at hj; subst hj; simp [Addr.add]
  | j + 4, hj => simp [En.cells] at hj

theorem entry_one (x : En) : ∀ u ∈ En.cells x, u.oneCell' = true := by
  intro u hu; simp [En.cells] at hu; rcases hu with rfl | rfl | rfl | rfl <;> rfl

/-- What Entries comes to. -/
def EntPost (L : List Pr) (s : Int) (w : World) (e : Ending) (w' : World) : Prop :=
  ∃ v : Value, e = .returned v ∧ w'.ownsRow w.heap.size 58 4 v (L.map (toEn s)).length (ecells (L.map (toEn s))) ∧ Below w.heap.size w w'

set_option maxHeartbeats 1000000 in
set_option maxRecDepth 100000 in
theorem entries_any (L : List Pr) (v : Value) (base : Nat) (s : Int) (w : World) (h : w.ownsRow base 48 3 v L.length (pcells L)) (h4 : L.length ≤ 4) :
    Calls Tryz.prog 88 #[v, .int .i64 s] w fun e w' => EntPost L s w e w' := by
  obtain ⟨i0, hi, hz0, hz1, hz2⟩ := info_parts Tryz.info58
  have HPR : Hid (∀ w', 0 < L.length → Below w.heap.size w w' → ∃ g cap, v = .slice (some ⟨g, 0, none⟩) L.length cap ∧ base ≤ g ∧ g < w.heap.size ∧ L.length ≤ cap ∧ ∀ (k : Nat) p, L[k]? = some p → w'.cell? ⟨g, k * 3, none⟩ = some (.string p.k) ∧ w'.cell? ⟨g, k * 3 + 1, none⟩ = some (.string p.v) ∧ w'.cell? ⟨g, k * 3 + 2, none⟩ = some (.bool p.g)) := fun w' hl hb => pr_cells h hb hl
  obtain ⟨ao, cap, rfl⟩ := slice_form h
  clear h
  obtain ⟨M, hM⟩ : ∃ M, madeCells (Value.agg #[.string ⟨#[]⟩, .int .i64 0, .bool false, .string ⟨#[]⟩]).cells (((L.length : Nat) : Int).toNat * i0.size) = M := ⟨_, rfl⟩
  have hMs : M.size = L.length * 4 := by rw [← hM, size_madeCells, hz1]; simp
  have mk : ∀ W : World, (Instr.makeSlice 54 (.int .i64 0) (.int .i64 (L.length : Int))).run Tryz.prog W = .ok (.slice (some ⟨W.heap.size, 0, none⟩) 0 L.length) (W.alloc (.cells M 58)) := fun W => by
    have h := run_make (P := Tryz.prog) W 54 58 i0 (.agg #[.string ⟨#[]⟩, .int .i64 0, .bool false, .string ⟨#[]⟩]) Tryz.underlying54 hi hz0 .i64 .i64 0 (L.length : Int) (by omega) (by omega) (by rw [hz2]; omega) (by omega)
    rw [hM] at h
    simpa using h
  have OWN0 : Hid ((w.alloc (.cells M 58)).ownsRow w.heap.size 58 4 (.slice (some ⟨w.heap.size, 0, none⟩) 0 L.length) 0 []) := World.ownsRow_made w M L.length (Nat.le_refl _) (by unfold maxLen; omega) hMs
  have B0 : Hid (Below w.heap.size w (w.alloc (.cells M 58))) := (Below.refl _ _).alloc (Nat.le_refl _) _
  clear hM hMs
  go_enter Tryz.func88, Tryz.ntmps88
  go_wp2
  go_loopw [5, 13] (fun s5 i wr => ∃ k : Nat, k ≤ L.length ∧ i = .int .i64 k ∧ Hid (wr.ownsRow w.heap.size 58 4 s5 ((L.take k).map (toEn s)).length (ecells ((L.take k).map (toEn s)))) ∧ Hid (Below w.heap.size w wr)) (fun _ i _ => L.length - (intOf i).toNat)
  case atStart => exact ⟨0, Nat.zero_le _, rfl, OWN0.out, B0.out⟩
  case round =>
    clear OWN0 B0 mk
    obtain ⟨k, hk, rfl, HO, HB⟩ := hrel
    have hsz : w.heap.size ≤ wr.heap.size := HB.out.size
    have hlen : ((L.take k).map (toEn s)).length = k := by simp; omega
    by_cases hlt : k < L.length
    · obtain ⟨g, cap', hv', _, hgl, hcap, hcell⟩ := HPR.out wr (by omega) HB.out
      simp only [Value.slice.injEq, true_and] at hv'
      obtain ⟨rfl, rfl⟩ := hv'
      obtain ⟨p, hp⟩ : ∃ p, L[k]? = some p := ⟨_, List.getElem?_eq_getElem hlt⟩
      obtain ⟨c0, c1, c2⟩ := hcell k p hp
      have hgr : g < wr.heap.size := by omega
      have HT : Hid ((L.take (k + 1)).map (toEn s) = (L.take k).map (toEn s) ++ [toEn s p]) := by
        show _ = _
        rw [List.take_add_one, hp]; simp
      rw [hlen] at HO
      obtain ⟨ao5, cap5, rfl⟩ := slice_form HO.out
      clear hcell hp hlen
      go_wp2_with (at_builtin; refine wpList_append_own _ rfl (.tmp 17) (.tmp 26) 54 rfl w.heap.size 58 i0 _ 4 48 Tryz.underlying54 hi hz0 hz1 hz2 rfl (by decide) _ _ _ rfl (by exact (HO.out.alloc _).alloc _) ⟨wr.heap.size + 1, 0, none⟩ 1 1 (En.cells (toEn s p)) rfl rfl (by exact one_entry (wr.alloc _) (toEn s p) _ (by simp)) (entry_one _) (by unfold maxLen; omega) (by omega) (by simp; omega) ?_)
      intro v9 w2 ho2 hg2 _
      have HB2 : Hid (Below w.heap.size w w2) := ((HB.out.alloc HB.out.size _).alloc (by simp; omega) _).grown hg2 (by simp; omega) fun k hk => (HO.out.lt k hk).1
      have HO2 : Hid (w2.ownsRow w.heap.size 58 4 v9 ((L.take (k + 1)).map (toEn s)).length (ecells ((L.take (k + 1)).map (toEn s)))) := by
        rw [HT.out]
        have e : ecells ((L.take k).map (toEn s) ++ [toEn s p]) = ecells ((L.take k).map (toEn s)) ++ En.cells (toEn s p) := by simp [ecells]
        rw [e, List.length_append, show ((L.take k).map (toEn s)).length = k by simp; omega]
        rw [← List.map_take] at ho2
        exact ho2
      clear ho2 hg2 HO
      go_wp2
      go_roundw
      case rel => exact ⟨k + 1, by omega, by go_num, HO2, HB2⟩
      case measure => simp [intOf]; omega
    · obtain rfl : k = L.length := by omega
      rw [List.take_of_length_le (Nat.le_refl _)] at HO
      clear hlen
      go_wp2
      go_ret
      exact ⟨_, rfl, HO.out, HB.out⟩
end Go.Proofs.YtakipjofboipmaaGreat

/- The walks of this proof: laying entries together. -/
namespace Go.Proofs.YtakipjofboipmaaGreat
open Go.RowKit Go.Sort

theorem run_loadCells_rows {P : Program} (w : World) (a : Addr) (cs : List Value) (h : ∀ j v, cs[j]? = some v → w.cell? (a.add j) = some v) (n size : Nat) (len cap : Nat) (hl : cs.length = n * size) :
    (Builtin.firstCells size n (.slice (some a) len cap)).run P w = .ok cs.toArray w := run_firstCells_some (P := P) w size n a len cap cs hl h

/-- copy within a row of elements of some cells, the row written out. -/
theorem run_copy_rows {P : Program} (w : World) (dT sT ty elem : TypeId) (i : TypeInfo) (g o dLen dCap sLen sCap n : Nat) (dp sp : Option Addr) (a : Addr) (cur : Array Value) (t : TypeId) (cs : List Value)
    (hu : P.underlying dT = some (.slice elem)) (hi : P.info? elem = some i) (hg : w.heap[g]? = some (.cells cur t (0, 0))) (hn : Nat.min sLen dLen = n) (hcs : cs.length = n * i.size)
    (hpos : 0 < n → dp = some ⟨g, o, none⟩ ∧ sp = some a) (hsrc : ∀ j v, cs[j]? = some v → w.cell? (a.add j) = some v) (hfit : o + cs.length ≤ cur.size) (h1 : ∀ v ∈ cs, v.oneCell' = true) :
    (Builtin.copy_ #[dT, sT] ty #[.slice dp dLen dCap, .slice sp sLen sCap]).run P w = .ok (goInt n) (w.setRow g (cur.toList.take o ++ cs ++ cur.toList.drop (o + cs.length)).toArray) := by
  by_cases h0 : 0 < n
  · obtain ⟨rfl, rfl⟩ := hpos h0
    have hf := run_firstCells_some (P := P) w i.size n a sLen sCap cs hcs hsrc
    have hst := run_storeCells_at P g o t cs 0 cur w hg (by simpa using hfit) h1
    simp only [Nat.add_zero] at hst
    simp [Builtin.copy_, run_underlying hu, Builtin.lenOf, sizeOf, typeInfo, hi, hn, hf, hst]
  · obtain rfl : n = 0 := by omega
    have hc0 : cs = [] := List.eq_nil_of_length_eq_zero (by omega)
    subst hc0
    have hself : w.setRow g (cur.toList.take o ++ [] ++ cur.toList.drop (o + ([] : List Value).length)).toArray = w := by
      simp only [List.append_nil, List.length_nil, Nat.add_zero, List.take_append_drop]
      exact setRow_self w g cur t (0, 0) hg
    rw [hself]
    have hf : (Builtin.firstCells i.size 0 (.slice sp sLen sCap)).run P w = .ok #[] w := by
      cases sp with
      | none => simp [Builtin.firstCells]
      | some b => exact run_firstCells_some (P := P) w i.size 0 b sLen sCap [] (by simp) (by simp)
    cases dp with
    | none => simp [Builtin.copy_, run_underlying hu, Builtin.lenOf, sizeOf, typeInfo, hi, hn, hf]
    | some b => simp [Builtin.copy_, run_underlying hu, Builtin.lenOf, sizeOf, typeInfo, hi, hn, hf, storeCells]

theorem ecells_len (L : List En) : (ecells L).length = L.length * 4 := flat_len _ 4 (fun a => by rfl) L

theorem set4 {β : Type} (a b c d : β) : ∀ (n : Nat) (xs : List β), n + 3 < xs.length → (((xs.set n a).set (n + 1) b).set (n + 2) c).set (n + 3) d = xs.take n ++ [a, b, c, d] ++ xs.drop (n + 4)
  | 0, x :: y :: z :: u :: r, _ => by simp
  | 0, [], h => by simp at h
  | 0, [_], h => by simp at h
  | 0, [_, _], h => by simp at h
  | 0, [_, _, _], h => by simp at h
  | n + 1, [], h => by simp at h
  | n + 1, x :: r, h => by
    have ih := set4 a b c d n r (by simp at h; omega)
    simp only [List.set_cons_succ, List.take_succ_cons, List.cons_append, List.drop_succ_cons]
    rw [ih]

theorem ecells_set (L : List En) (k : Nat) (x : En) (hk : k < L.length) : ((((ecells L).set (k * 4) (.string x.k)).set (k * 4 + 1) (.int .i64 x.s)).set (k * 4 + 2) (.bool x.g)).set (k * 4 + 3) (.string x.v) = ecells (L.set k x) := by
  rw [set4 _ _ _ _ _ _ (by rw [ecells_len]; omega)]
  unfold ecells
  rw [flat_set _ 4 (fun a => by rfl) L k x hk, show k * 4 + 4 = (k + 1) * 4 by omega]
  rfl

/-- An entry stored into a row. -/
theorem put_entry {w : World} {base g cap : Nat} {L : List En} (h : w.ownsRow base 58 4 (.slice (some ⟨g, 0, none⟩) L.length cap) L.length (ecells L)) (k : Nat) (x : En) (hk : k < L.length) :
    ((((w.setCell ⟨g, k * 4, none⟩ (.string x.k)).setCell ⟨g, k * 4 + 1, none⟩ (.int .i64 x.s)).setCell ⟨g, k * 4 + 2, none⟩ (.bool x.g)).setCell ⟨g, k * 4 + 3, none⟩ (.string x.v)).ownsRow base 58 4 (.slice (some ⟨g, 0, none⟩) (L.set k x).length cap) (L.set k x).length (ecells (L.set k x)) := by
  have h4 := ((((h.stored (k * 4) (.string x.k)).1.stored (k * 4 + 1) (.int .i64 x.s)).1.stored (k * 4 + 2) (.bool x.g)).1.stored (k * 4 + 3) (.string x.v)).1
  rw [ecells_set L k x hk] at h4
  rw [List.length_set]; exact h4

/-- A part of a row copied to another place in it. -/
theorem copy_entries {w : World} {base g cap : Nat} {L : List En} (h : w.ownsRow base 58 4 (.slice (some ⟨g, 0, none⟩) L.length cap) L.length (ecells L)) (d s l : Nat) (hs : s + l ≤ L.length) (hd : d + l ≤ L.length) :
    ∃ cur : Array Value, w.heap[g]? = some (.cells cur 58 (0, 0)) ∧ base ≤ g ∧ d * 4 + (ecells ((L.drop s).take l)).length ≤ cur.size ∧
      (∀ j v, (ecells ((L.drop s).take l))[j]? = some v → w.cell? ((⟨g, s * 4, none⟩ : Addr).add j) = some v) ∧
      (w.setRow g (cur.toList.take (d * 4) ++ ecells ((L.drop s).take l) ++ cur.toList.drop (d * 4 + (ecells ((L.drop s).take l)).length)).toArray).ownsRow base 58 4 (.slice (some ⟨g, 0, none⟩) L.length cap) L.length (ecells (L.take d ++ (L.drop s).take l ++ L.drop (d + l))) := by
  have hlen : (ecells ((L.drop s).take l)).length = l * 4 := by rw [ecells_len, List.length_take, List.length_drop, Nat.min_eq_left (by omega)]
  rcases h.2 with ⟨h', _⟩ | ⟨g', cap', cur, hv, hb, hg, hnc, hcm, hsz, htake⟩
  · cases h'
  simp only [Value.slice.injEq, Option.some.injEq, Addr.mk.injEq, and_true, true_and] at hv
  obtain ⟨rfl, rfl⟩ := hv
  refine ⟨cur, hg, hb, by rw [hlen, hsz]; omega, fun j v hj => ?_, ?_⟩
  · have hadd : (⟨g, s * 4, none⟩ : Addr).add j = ⟨g, s * 4 + j, none⟩ := by unfold Addr.add; split <;> simp_all
    have hj' : j < l * 4 := by rw [← hlen]; exact (List.getElem?_eq_some_iff.1 hj).1
    rw [hadd, h.cellAt _ (by omega)]
    have e : ecells ((L.drop s).take l) = ((ecells L).drop (s * 4)).take (l * 4) := by
      unfold ecells
      rw [flat_drop _ 4 (fun a => by rfl), flat_take _ 4 (fun a => by rfl)]
    rw [e, List.getElem?_take, if_pos hj', List.getElem?_drop] at hj
    exact hj
  · refine ⟨?_, .inr ⟨g, cap, _, rfl, hb, setRow_heap w g cur _ 58 _ hg, hnc, hcm, ?_, ?_⟩⟩
    · rw [ecells_len]; simp only [List.length_append, List.length_take, List.length_drop]; omega
    · simp only [List.size_toArray, List.length_append, List.length_take, List.length_drop, Array.length_toList, hlen, hsz]; omega
    · have hA : cur.toList.take (d * 4) = ecells (L.take d) := by
        have : (cur.toList.take (L.length * 4)).take (d * 4) = cur.toList.take (d * 4) := by rw [List.take_take, Nat.min_eq_left (by omega)]
        rw [← this, htake]; exact flat_take _ 4 (fun a => by rfl) L d
      have hC : (cur.toList.drop (d * 4 + l * 4)).take (L.length * 4 - (d * 4 + l * 4)) = ecells (L.drop (d + l)) := by
        rw [← List.drop_take, htake, show d * 4 + l * 4 = (d + l) * 4 by omega]
        exact flat_drop _ 4 (fun a => by rfl) L (d + l)
      show List.take _ (_ ++ _ ++ _) = _
      rw [hlen, hA, List.take_append, List.take_of_length_le (by rw [List.length_append, ecells_len, ecells_len, List.length_take, List.length_take, List.length_drop]; omega)]
      have e2 : L.length * 4 - (ecells (L.take d) ++ ecells ((L.drop s).take l)).length = L.length * 4 - (d * 4 + l * 4) := by
        rw [List.length_append, ecells_len, hlen, List.length_take, Nat.min_eq_left (by omega)]
      rw [e2, hC]
      simp [ecells]
end Go.Proofs.YtakipjofboipmaaGreat
