/- The walks of this proof: the library's insertion sort over pairs. -/
import Derived.BigRegion
import Derived.Test.YtakipjofboipmaaGreatDoorJ15
import Derived.Test.YtakipjofboipmaaGreatDoorJ8
namespace Go.Proofs.YtakipjofboipmaaGreatDoor
open Go.RowKit Go.Sort

set_option maxHeartbeats 1000000 in
theorem byKey_any (a b : Pr) (w : World) :
    Calls Tryz.prog 160 #[.agg #[.string a.k, .string a.v, .bool a.g], .agg #[.string b.k, .string b.v, .bool b.g]] w fun e w' => e = .returned (.int .i64 (kc a.k b.k)) ∧ Below w.heap.size w w' := by
  go_enter Tryz.func160, Tryz.ntmps160
  go_wp2_with (go_at_call 149; refine (compare_any _ _ _).mono ?_; rintro e w' ⟨rfl, rfl⟩)
  go_ret
  exact ⟨rfl, ((Below.refl _ _).alloc (Nat.le_refl _) _).alloc (by simp) _⟩

theorem byKey_in (a b : Pr) (w : World) (d : Nat) (os : Array Obj) :
    Calls Tryz.prog 160 #[.agg #[.string a.k, .string a.v, .bool a.g], .agg #[.string b.k, .string b.v, .bool b.g]] (grow (redrawn w d) os) fun e w'' => e = .returned (.int .i64 (kc a.k b.k)) ∧ ∃ p : Regrown, w'' = grow (redrawn w p.d) p.os :=
  Calls.regrown_of (byKey_any a b _)

theorem owns_drew {w : World} {base : Nat} {e : TypeId} {size : Nat} {v : Value} {n : Nat} {xs : List Value} (h : w.ownsRow base e size v n xs) : w.drew.ownsRow base e size v n xs := h

/-- A pair stored into a row of pairs. -/
theorem put_pair {w : World} {base g cap : Nat} {L : List Pr} (h : w.ownsRow base 57 3 (.slice (some ⟨g, 0, none⟩) L.length cap) L.length (pcells L)) (hbg : base ≤ g) (k : Nat) (p : Pr) (hk : k < L.length) :
    (((w.setCell ⟨g, k * 3, none⟩ (.string p.k)).setCell ⟨g, k * 3 + 1, none⟩ (.string p.v)).setCell ⟨g, k * 3 + 2, none⟩ (.bool p.g)).ownsRow base 57 3 (.slice (some ⟨g, 0, none⟩) (L.set k p).length cap) (L.set k p).length (pcells (L.set k p)) ∧
    Below base w (((w.setCell ⟨g, k * 3, none⟩ (.string p.k)).setCell ⟨g, k * 3 + 1, none⟩ (.string p.v)).setCell ⟨g, k * 3 + 2, none⟩ (.bool p.g)) := by
  have h3 := (((h.stored (k * 3) (.string p.k)).1.stored (k * 3 + 1) (.string p.v)).1.stored (k * 3 + 2) (.bool p.g)).1
  rw [pcells_set L k p hk] at h3
  refine ⟨by rw [List.length_set]; exact h3, (((Below.refl _ _).setCell hbg _).setCell hbg _).setCell hbg _⟩

theorem swap_pairs {w : World} {base g cap : Nat} {L : List Pr} (h : w.ownsRow base 57 3 (.slice (some ⟨g, 0, none⟩) L.length cap) L.length (pcells L)) (hbg : base ≤ g) (m : Nat) (x y : Pr) (hm : m + 1 < L.length) :
    ((((((w.setCell ⟨g, (m + 1) * 3, none⟩ (.string x.k)).setCell ⟨g, (m + 1) * 3 + 1, none⟩ (.string x.v)).setCell ⟨g, (m + 1) * 3 + 2, none⟩ (.bool x.g)).setCell ⟨g, m * 3, none⟩ (.string y.k)).setCell ⟨g, m * 3 + 1, none⟩ (.string y.v)).setCell ⟨g, m * 3 + 2, none⟩ (.bool y.g)).ownsRow base 57 3 (.slice (some ⟨g, 0, none⟩) L.length cap) L.length (pcells (sw L m x y)) ∧
    Below base w ((((((w.setCell ⟨g, (m + 1) * 3, none⟩ (.string x.k)).setCell ⟨g, (m + 1) * 3 + 1, none⟩ (.string x.v)).setCell ⟨g, (m + 1) * 3 + 2, none⟩ (.bool x.g)).setCell ⟨g, m * 3, none⟩ (.string y.k)).setCell ⟨g, m * 3 + 1, none⟩ (.string y.v)).setCell ⟨g, m * 3 + 2, none⟩ (.bool y.g)) := by
  obtain ⟨h1, b1⟩ := put_pair h hbg (m + 1) x hm
  obtain ⟨h2, b2⟩ := put_pair h1 hbg m y (by simp; omega)
  simp only [List.length_set] at h2
  exact ⟨h2, b1.trans b2⟩

/-- What the sort comes to. -/
def SortPost (L : List Pr) (g cap base : Nat) (w : World) (e : Ending) (w' : World) : Prop :=
  e = .returned (.tuple #[]) ∧ ∃ M : List Pr, SamePr L M ∧ Upto M M.length ∧ w'.ownsRow base 57 3 (.slice (some ⟨g, 0, none⟩) M.length cap) M.length (pcells M) ∧ Below base w w'

set_option maxHeartbeats 1000000 in
set_option maxRecDepth 100000 in
theorem isort_any (L : List Pr) (g cap base : Nat) (w : World) (h : w.ownsRow base 57 3 (.slice (some ⟨g, 0, none⟩) L.length cap) L.length (pcells L)) (h1 : 1 ≤ L.length) (h4 : L.length ≤ 4) (hbg : base ≤ g) (hbase : base ≤ w.heap.size) (hd : Distinct L) :
    Calls Tryz.prog 242 #[.slice (some ⟨g, 0, none⟩) L.length cap, .int .i64 0, .int .i64 L.length, .func (.func 160) #[] #[]] w fun e w' => SortPost L g cap base w e w' := by
  have H : Hid (w.ownsRow base 57 3 (.slice (some ⟨g, 0, none⟩) L.length cap) L.length (pcells L)) := h
  have HD : Hid (Distinct L) := hd
  clear h hd
  go_enter Tryz.func242, Tryz.ntmps242
  go_wp2
  go_loopg [8, 9] L.length (fun kx s8 s9 wr => ∃ (i : Nat) (Lc : List Pr), s8 = .int .i64 i ∧ 1 ≤ i ∧ i ≤ L.length ∧ L.length - i ≤ kx ∧ Lc.length = L.length ∧ Hid (wr.ownsRow base 57 3 (.slice (some ⟨g, 0, none⟩) L.length cap) L.length (pcells Lc) ∧ SamePr L Lc ∧ Distinct Lc ∧ Upto Lc i ∧ Below base w wr))
  case atStart => exact ⟨1, L, rfl, Nat.le_refl _, h1, by omega, rfl, H.out, ⟨rfl, fun _ => Iff.rfl⟩, HD.out, fun a b p q hab hb => by omega, Below.refl _ _⟩
  case round =>
    obtain ⟨i, Lc, rfl, hi1, hin, hgk, hll, HO⟩ := hrel
    by_cases hlt : i < L.length
    · go_wp2
      go_loopg [9] i (fun kx s9 wr => ∃ (j : Nat) (Ld : List Pr), s9 = .int .i64 j ∧ j ≤ i ∧ j ≤ kx ∧ Ld.length = L.length ∧ Hid (wr.ownsRow base 57 3 (.slice (some ⟨g, 0, none⟩) L.length cap) L.length (pcells Ld) ∧ SamePr L Ld ∧ Distinct Ld ∧ But Ld j i ∧ Below base w wr))
      case atStart => exact ⟨i, Lc, rfl, Nat.le_refl _, Nat.le_refl _, hll, HO.out.1, HO.out.2.1, HO.out.2.2.1, but_start HO.out.2.2.2.1, HO.out.2.2.2.2⟩
      case round =>
        clear HO
        obtain ⟨j, Ld, rfl, hji, hgj, hld, HO⟩ := hrel
        by_cases hj0 : 0 < j
        · obtain ⟨m, rfl⟩ : ∃ m, j = m + 1 := ⟨j - 1, by omega⟩
          obtain ⟨x, hx⟩ : ∃ x, Ld[m]? = some x := ⟨_, List.getElem?_eq_getElem (by omega)⟩
          obtain ⟨y, hy⟩ : ∃ y, Ld[m + 1]? = some y := ⟨_, List.getElem?_eq_getElem (by omega)⟩
          rw [← hld] at HO
          obtain ⟨g', cap', hv', _, hgl, hcap, hcell⟩ := pr_cells HO.out.1 (Below.refl _ _) (by omega)
          simp only [Value.slice.injEq, Option.some.injEq, Addr.mk.injEq, and_true, true_and] at hv'
          obtain ⟨rfl, rfl⟩ := hv'
          obtain ⟨c0, c1, c2⟩ := hcell m x hx
          obtain ⟨d0, d1, d2⟩ := hcell (m + 1) y hy
          have c0' := cell_regrown c0
          have c1' := cell_regrown c1
          have c2' := cell_regrown c2
          have d0' := cell_regrown d0
          have d1' := cell_regrown d1
          have d2' := cell_regrown d2
          have hmi : (0 : Int) < (m : Int) + 1 := by omega
          have HX : Hid (Ld[m]? = some x ∧ Ld[m + 1]? = some y) := ⟨hx, hy⟩
          have hgl' : base ≤ wr.heap.size := Nat.le_trans hbase HO.out.2.2.2.2.size
          clear hx hy hcell
          by_cases hlv : kc y.k x.k < 0
          · go_wp2
            refine wp_region_quiet_below (by kernel_rfl) (by kernel_rfl) ?_
            repeat (first | go_big_quiet_step (exact byKey_in _ _ _ _ _) | quiet_step (exact byKey_in _ _ _ _ _))
            refine wpQuiet_nil ?_
            intro w2 hw'
            have hb := below_of_regrown hw'
            clear hw' c0' c1' c2' d0' d1' d2'
            have c0 := cell_later hb c0
            have c1 := cell_later hb c1
            have c2 := cell_later hb c2
            have d0 := cell_later hb d0
            have d1 := cell_later hb d1
            have d2 := cell_later hb d2
            have HO2 : Hid (w2.ownsRow base 57 3 (.slice (some ⟨g, 0, none⟩) Ld.length cap) Ld.length (pcells Ld) ∧ SamePr L Ld ∧ Distinct Ld ∧ But Ld (m + 1) i ∧ Below base w w2) := ⟨(Kp.of_below (B := 0) (ts := []) hb).owns HO.out.1 (by simp), HO.out.2.1, HO.out.2.2.1, HO.out.2.2.2.1, HO.out.2.2.2.2.trans (hb.mono hgl')⟩
            have hfz : ∀ o, w2.frozen? ⟨g, o, none⟩ = false := fun o => by
              rcases HO2.out.1.2 with ⟨h, _⟩ | ⟨g2, cap2, cur, hv, _, hg, _⟩
              · cases h
              · simp only [Value.slice.injEq, Option.some.injEq, Addr.mk.injEq, and_true, true_and] at hv
                obtain ⟨rfl, rfl⟩ := hv
                simp [World.frozen?, hg]
            have FIN := swap_pairs HO2.out.1 hbg m x y (by omega)
            have HF : Hid _ := FIN
            clear hb HO FIN
            have hm1 : (m : Int) < (L.length : Int) := by omega
            have hm2 : (m : Int) + 1 < (L.length : Int) := by omega
            have hmw : IntKind.i64.wrap (m : Int) = (m : Int) := by rw [IntKind.wrap_i64]; omega
            go_wp2
            go_region
            go_wp2
            go_roundg m
            case measure => omega
            case rel =>
              refine ⟨m, sw Ld m x y, rfl, by omega, Nat.le_refl _, by rw [sw_len]; exact hld, ?_⟩
              rw [← hld]
              exact ⟨owns_drew HF.out.1, HO2.out.2.1.trans (sw_same HX.out.1 HX.out.2), sw_distinct HO2.out.2.2.1 HX.out.1 HX.out.2, but_step HO2.out.2.2.2.1 hji HX.out.1 HX.out.2 hlv, (HO2.out.2.2.2.2.trans HF.out.2).drew⟩
          · go_wp2
            refine wp_region_quiet_below (by kernel_rfl) (by kernel_rfl) ?_
            repeat (first | go_big_quiet_step (exact byKey_in _ _ _ _ _) | quiet_step (exact byKey_in _ _ _ _ _))
            refine wpQuiet_nil ?_
            intro w2 hw'
            have hb := below_of_regrown hw'
            clear hw' c0' c1' c2' d0' d1' d2' c0 c1 c2 d0 d1 d2
            have HO2 : Hid (w2.ownsRow base 57 3 (.slice (some ⟨g, 0, none⟩) L.length cap) L.length (pcells Ld) ∧ SamePr L Ld ∧ Distinct Ld ∧ Upto Ld (i + 1) ∧ Below base w w2) := by
              refine ⟨by rw [← hld]; exact (Kp.of_below (B := 0) (ts := []) hb).owns HO.out.1 (by simp), HO.out.2.1, HO.out.2.2.1, but_stop HO.out.2.2.2.1 HO.out.2.2.1 hji (fun m' x' y' e hx' hy' => ?_), HO.out.2.2.2.2.trans (hb.mono hgl')⟩
              obtain rfl : m = m' := by omega
              rw [HX.out.1] at hx'; rw [HX.out.2] at hy'
              cases hx'; cases hy'
              omega
            clear hb HO
            go_wp2
            go_roundg (L.length - (i + 1))
            case measure => omega
            case rel => exact ⟨i + 1, Ld, by go_num, by omega, by omega, Nat.le_refl _, hld, HO2.out⟩
        · obtain rfl : j = 0 := by omega
          have HO2 : Hid (wr.ownsRow base 57 3 (.slice (some ⟨g, 0, none⟩) L.length cap) L.length (pcells Ld) ∧ SamePr L Ld ∧ Distinct Ld ∧ Upto Ld (i + 1) ∧ Below base w wr) := ⟨HO.out.1, HO.out.2.1, HO.out.2.2.1, but_stop HO.out.2.2.2.1 HO.out.2.2.1 (by omega) (fun m' x' y' e => by omega), HO.out.2.2.2.2⟩
          have hgl' : base ≤ wr.heap.size := Nat.le_trans hbase HO.out.2.2.2.2.size
          clear HO
          go_wp2
          refine wp_region_quiet_below (by kernel_rfl) (by kernel_rfl) ?_
          repeat (first | go_big_quiet_step (fail) | quiet_step (fail))
          refine wpQuiet_nil ?_
          intro w2 hw'
          have hb := below_of_regrown hw'
          have HO3 : Hid (w2.ownsRow base 57 3 (.slice (some ⟨g, 0, none⟩) L.length cap) L.length (pcells Ld) ∧ SamePr L Ld ∧ Distinct Ld ∧ Upto Ld (i + 1) ∧ Below base w w2) := ⟨(Kp.of_below (B := 0) (ts := []) hb).owns HO2.out.1 (by simp), HO2.out.2.1, HO2.out.2.2.1, HO2.out.2.2.2.1, HO2.out.2.2.2.2.trans (hb.mono hgl')⟩
          clear hb hw' HO2
          go_wp2
          go_roundg (L.length - (i + 1))
          case measure => omega
          case rel => exact ⟨i + 1, Ld, by go_num, by omega, by omega, Nat.le_refl _, hld, HO3.out⟩
    · obtain rfl : i = L.length := by omega
      go_wp2
      go_end0
      refine ⟨rfl, Lc, HO.out.2.1, by rw [hll]; exact HO.out.2.2.2.1, by rw [hll]; exact HO.out.1, HO.out.2.2.2.2⟩
end Go.Proofs.YtakipjofboipmaaGreatDoor

/- The walks of this proof: slices.SortFunc at few pairs. -/
namespace Go.Proofs.YtakipjofboipmaaGreatDoor
open Go.RowKit Go.Sort

set_option maxHeartbeats 1000000 in
set_option maxRecDepth 100000 in
theorem len64_any (n : Nat) (h1 : 1 ≤ n) (h4 : n ≤ 4) (w : World) :
    Calls Tryz.prog 222 #[.int .u64 n] w fun e w' => ∃ r : Int, e = .returned (.int .i64 r) ∧ w' = w := by
  obtain rfl | rfl | rfl | rfl : n = 1 ∨ n = 2 ∨ n = 3 ∨ n = 4 := by omega
  all_goals
    go_enter Tryz.func222, Tryz.ntmps222
    go_wp2
    go_ret
    exact ⟨_, rfl, rfl⟩

set_option maxHeartbeats 1000000 in
theorem blen_any (n : Nat) (h1 : 1 ≤ n) (h4 : n ≤ 4) (w : World) :
    Calls Tryz.prog 200 #[.int .u64 n] w fun e w' => ∃ r : Int, e = .returned (.int .i64 r) ∧ w' = w := by
  go_enter Tryz.func200, Tryz.ntmps200
  go_wp2_with (go_at_call 222; refine (len64_any n h1 h4 _).mono ?_; rintro e w' ⟨r, rfl, rfl⟩)
  go_ret
  exact ⟨_, rfl, rfl⟩

set_option maxHeartbeats 1000000 in
set_option maxRecDepth 100000 in
theorem pdq_any (L : List Pr) (g cap base : Nat) (r : Int) (w : World) (h : w.ownsRow base 57 3 (.slice (some ⟨g, 0, none⟩) L.length cap) L.length (pcells L)) (h1 : 1 ≤ L.length) (h4 : L.length ≤ 4) (hbg : base ≤ g) (hbase : base ≤ w.heap.size) (hd : Distinct L) :
    Calls Tryz.prog 205 #[.slice (some ⟨g, 0, none⟩) L.length cap, .int .i64 0, .int .i64 L.length, .int .i64 r, .func (.func 160) #[] #[]] w fun e w' => SortPost L g cap base w e w' := by
  have hi := isort_any L g cap base w h h1 h4 hbg hbase hd
  have HI : Hid _ := hi
  clear hi h hd
  go_enter Tryz.func205, Tryz.ntmps205
  go_wp2
  refine wp_loop_rounds 1 ?_
  rw [rounds_succ]
  go_wp2_with fail
  refine Calls.mono HI.out ?_
  rintro e w1 ⟨rfl, hpost⟩
  have HP : Hid _ := hpost
  clear hpost
  go_wp2
  go_end0
  exact ⟨rfl, HP.out⟩

set_option maxHeartbeats 1000000 in
theorem sortFunc_any (L : List Pr) (g cap base : Nat) (w : World) (h : w.ownsRow base 57 3 (.slice (some ⟨g, 0, none⟩) L.length cap) L.length (pcells L)) (h1 : 1 ≤ L.length) (h4 : L.length ≤ 4) (hbg : base ≤ g) (hbase : base ≤ w.heap.size) (hd : Distinct L) :
    Calls Tryz.prog 159 #[.slice (some ⟨g, 0, none⟩) L.length cap, .func (.func 160) #[] #[]] w fun e w' => SortPost L g cap base w e w' := by
  have hi := fun r => pdq_any L g cap base r w h h1 h4 hbg hbase hd
  have HI : Hid _ := hi
  clear hi h hd
  go_enter Tryz.func159, Tryz.ntmps159
  go_wp2_with fail
  refine (blen_any _ h1 h4 _).mono ?_
  rintro e w1 ⟨r, rfl, rfl⟩
  go_wp2_with fail
  refine Calls.mono (HI.out r) ?_
  rintro e w1 ⟨rfl, hpost⟩
  have HP : Hid _ := hpost
  clear hpost
  go_wp2
  go_end0
  exact ⟨rfl, HP.out⟩
end Go.Proofs.YtakipjofboipmaaGreatDoor

/- The walks of this proof: the pairs of a batch that count, in order. -/
namespace Go.Proofs.YtakipjofboipmaaGreatDoor
open Go.RowKit Go.Sort

/-- Whether a key comes again, asked of what is behind a pair. -/
theorem again_in {Lp : List Pr} {g k : Nat} (off c : Nat) (key : ByteArray) (w : World) (h4 : Lp.length ≤ 4) (hcell : ∀ (j : Nat) p, Lp[j]? = some p → w.cell? ⟨g, j * 3, none⟩ = some (.string p.k) ∧ w.cell? ⟨g, j * 3 + 1, none⟩ = some (.string p.v) ∧ w.cell? ⟨g, j * 3 + 2, none⟩ = some (.bool p.g))
    (hoff : k + 1 < Lp.length → off = (k + 1) * 3) (v : Value) (hv : v = .slice (some ⟨g, off, none⟩) (Lp.drop (k + 1)).length c) (d : Nat) (os : Array Obj) {r : Bool} (hr : ((Lp.drop (k + 1)).any fun q => decide (q.k = key)) = r) :
    Calls Tryz.prog 157 #[v, .string key] (grow (redrawn w d) os) fun e w'' => e = .returned (.bool r) ∧ ∃ p : Regrown, w'' = grow (redrawn w p.d) p.os := by
  subst hr
  refine Calls.regrown_of (hasKey_any (Lp.drop (k + 1)) v _ c key _ hv (by rw [List.length_drop]; omega) (fun b j p hp hb => ?_) (fun _ => rfl))
  simp only [Option.some.injEq] at hb
  subst hb
  rw [List.getElem?_drop] at hp
  have hl : k + 1 < Lp.length := by have := (List.getElem?_eq_some_iff.1 hp).1; omega
  obtain ⟨c0, c1, c2⟩ := hcell (k + 1 + j) p hp
  have e := hoff hl
  subst e
  have e3 : (k + 1) * 3 + j * 3 = (k + 1 + j) * 3 := by omega
  refine ⟨rfl, ?_, ?_, ?_⟩
  · simp only [e3]; exact cell_regrown c0 d os
  · simp only [e3]; exact cell_regrown c1 d os
  · simp only [e3]; exact cell_regrown c2 d os

theorem one_pair (w : World) (p : Pr) : ∀ j u, (Pr.cells p)[j]? = some u → (w.alloc (.cells #[.string p.k, .string p.v, .bool p.g] 57)).cell? ((⟨w.heap.size, 0, none⟩ : Addr).add j) = some u := by
  intro j u hj
  match j, hj with
  | 0, hj => simp [Pr.cells] at hj; subst hj; simp [Addr.add]
  | 1, hj => simp [Pr.cells] at hj; subst hj; simp [Addr.add]
  | 2, hj => simp [Pr.cells] at hj; subst hj; simp [Addr.add]
  | j + 3, hj => simp [Pr.cells] at hj

theorem pair_one (p : Pr) : ∀ u ∈ Pr.cells p, u.oneCell' = true := by
  intro u hu; simp [Pr.cells] at hu; rcases hu with rfl | rfl | rfl <;> rfl

/-- What Settle comes to. -/
def SettlePost (Lp : List Pr) (w : World) (e : Ending) (w' : World) : Prop :=
  ∃ (v : Value) (M : List Pr), e = .returned v ∧ SamePr (keep Lp) M ∧ Upto M M.length ∧ w'.ownsRow w.heap.size 57 3 v M.length (pcells M) ∧ Below w.heap.size w w'

set_option maxHeartbeats 2000000 in
set_option maxRecDepth 100000 in
theorem settle_any (Lp : List Pr) (v : Value) (base : Nat) (w : World) (h : w.ownsRow base 57 3 v Lp.length (pcells Lp)) (h1 : 1 ≤ Lp.length) (h4 : Lp.length ≤ 4) (ok : ∀ p ∈ Lp, PrOk p) :
    Calls Tryz.prog 105 #[v] w fun e w' => SettlePost Lp w e w' := by
  obtain ⟨i0, hi, hz0, hz1, hz2⟩ := info_parts Tryz.info57
  have HPR : Hid (∀ w', Below w.heap.size w w' → ∃ g cap, v = .slice (some ⟨g, 0, none⟩) Lp.length cap ∧ base ≤ g ∧ g < w.heap.size ∧ Lp.length ≤ cap ∧ ∀ (k : Nat) p, Lp[k]? = some p → w'.cell? ⟨g, k * 3, none⟩ = some (.string p.k) ∧ w'.cell? ⟨g, k * 3 + 1, none⟩ = some (.string p.v) ∧ w'.cell? ⟨g, k * 3 + 2, none⟩ = some (.bool p.g)) := fun w' hb => pr_cells h hb (by omega)
  obtain ⟨g, cap, rfl, _, hgw, hcap, hjunk⟩ := HPR.out w (Below.refl _ _)
  clear hjunk
  have HCELL : Hid (∀ w', Below w.heap.size w w' → ∀ (k : Nat) p, Lp[k]? = some p → w'.cell? ⟨g, k * 3, none⟩ = some (.string p.k) ∧ w'.cell? ⟨g, k * 3 + 1, none⟩ = some (.string p.v) ∧ w'.cell? ⟨g, k * 3 + 2, none⟩ = some (.bool p.g)) := fun w' hb => by
    obtain ⟨g', cap', e, _, _, _, hc⟩ := HPR.out w' hb
    simp only [Value.slice.injEq, Option.some.injEq, Addr.mk.injEq, and_true, true_and] at e
    obtain ⟨rfl, rfl⟩ := e
    exact hc
  have OK : Hid (∀ p ∈ Lp, PrOk p) := ok
  clear h HPR ok
  obtain ⟨M, hM⟩ : ∃ M, madeCells (Value.agg #[.string ⟨#[]⟩, .string ⟨#[]⟩, .bool false]).cells (((Lp.length : Nat) : Int).toNat * i0.size) = M := ⟨_, rfl⟩
  have hMs : M.size = Lp.length * 3 := by rw [← hM, size_madeCells, hz1]; simp
  have mk : ∀ W : World, (Instr.makeSlice 38 (.int .i64 0) (.int .i64 (Lp.length : Int))).run Tryz.prog W = .ok (.slice (some ⟨W.heap.size, 0, none⟩) 0 Lp.length) (W.alloc (.cells M 57)) := fun W => by
    have h := run_make (P := Tryz.prog) W 38 57 i0 (.agg #[.string ⟨#[]⟩, .string ⟨#[]⟩, .bool false]) Tryz.underlying38 hi hz0 .i64 .i64 0 (Lp.length : Int) (by omega) (by omega) (by rw [hz2]; omega) (by omega)
    rw [hM] at h
    simpa using h
  have OWN0 : Hid ((w.alloc (.cells M 57)).ownsRow w.heap.size 57 3 (.slice (some ⟨w.heap.size, 0, none⟩) 0 Lp.length) 0 []) := World.ownsRow_made w M Lp.length (Nat.le_refl _) (by unfold maxLen; omega) hMs
  have B0 : Hid (Below w.heap.size w (w.alloc (.cells M 57))) := (Below.refl _ _).alloc (Nat.le_refl _) _
  clear hM hMs
  go_enter Tryz.func105, Tryz.ntmps105
  go_wp2
  go_loopw [3, 11] (fun s3 i wr => ∃ (k : Nat) (T : List Pr), k ≤ Lp.length ∧ i = .int .i64 k ∧ T.length ≤ k ∧ Hid (T ++ keep (Lp.drop k) = keep Lp) ∧ Hid (wr.ownsRow w.heap.size 57 3 s3 T.length (pcells T)) ∧ Hid (Below w.heap.size w wr)) (fun _ i _ => Lp.length - (intOf i).toNat)
  case atStart => exact ⟨0, [], Nat.zero_le _, rfl, Nat.le_refl _, by simp [Hid], OWN0.out, B0.out⟩
  case round =>
    clear OWN0 B0 mk
    obtain ⟨k, T, hk, rfl, hTk, HT, HO, HB⟩ := hrel
    by_cases hlt : k < Lp.length
    · obtain ⟨p, hp⟩ : ∃ p, Lp[k]? = some p := ⟨_, List.getElem?_eq_getElem hlt⟩
      have hkd := keep_drop hp
      obtain ⟨c0, c1, c2⟩ := HCELL.out wr HB.out k p hp
      have OKp : Hid (PrOk p) := OK.out p (List.mem_of_getElem? hp)
      have hgr : g < wr.heap.size := Nat.lt_of_lt_of_le hgw HB.out.size
      have HB1 : Hid (∀ o, Below w.heap.size w (wr.alloc o)) := fun o => HB.out.alloc HB.out.size o
      have hsz : w.heap.size ≤ wr.heap.size := HB.out.size
      have hk1 : (k : Int) + 1 ≤ (Lp.length : Int) := by omega
      have hk0 : (0 : Int) ≤ (k : Int) + 1 := by omega
      have hkx : (p.k.size ≤ 1000) ∧ p.v.size ≤ 1000 := by have := OKp.out.hi; have := OKp.out.val; omega
      obtain ⟨r, hr⟩ : ∃ r, ((Lp.drop (k + 1)).any fun q => decide (q.k = p.k)) = r := ⟨_, rfl⟩
      rw [hr] at hkd
      have HR : Hid (((Lp.drop (k + 1)).any fun q => decide (q.k = p.k)) = r) := hr
      have HKD : Hid _ := hkd
      obtain ⟨ao3, cap3, rfl⟩ := slice_form HO.out
      clear hr hkd hp
      go_wp2
      refine wp_region_quiet_below (by kernel_rfl) (by kernel_rfl) ?_
      have b0 := cell_regrown (w := wr.alloc (.cells #[.string p.k, .string p.v, .bool p.g] 57)) (a := ⟨wr.heap.size, 0, none⟩) (v := .string p.k) (by simp)
      by_cases hce : cap = k + 1
      · subst hce
        repeat (first | go_big_quiet_step (first | exact again_in 0 0 _ _ h4 (HCELL.out _ (HB1.out _)) (fun h => absurd h (by omega)) _ (by rw [List.length_drop]; simp; omega) _ _ HR.out | exact again_in 0 (cap - (k + 1)) _ _ h4 (HCELL.out _ (HB1.out _)) (fun h => absurd h (by omega)) _ (by rw [List.length_drop]) _ _ HR.out) | quiet_step (first | exact again_in 0 0 _ _ h4 (HCELL.out _ (HB1.out _)) (fun h => absurd h (by omega)) _ (by rw [List.length_drop]; simp; omega) _ _ HR.out | exact again_in 0 (cap - (k + 1)) _ _ h4 (HCELL.out _ (HB1.out _)) (fun h => absurd h (by omega)) _ (by rw [List.length_drop]) _ _ HR.out))
        refine wpQuiet_nil ?_
        intro w2 hw'
        have hb := below_of_regrown hw'
        clear hw' b0
        have d0 := (hb.cell (p := ⟨wr.heap.size, 0, none⟩) (by simp)).trans (by simp : _ = some (Value.string p.k))
        have d1 := (hb.cell (p := ⟨wr.heap.size, 1, none⟩) (by simp)).trans (by simp : _ = some (Value.string p.v))
        have d2 := (hb.cell (p := ⟨wr.heap.size, 2, none⟩) (by simp)).trans (by simp : _ = some (Value.bool p.g))
        have hb2 : Below wr.heap.size wr w2 := below_trans' ((Below.refl _ wr).alloc (Nat.le_refl _) _) hb
        have HB2 : Hid (Below w.heap.size w w2) := below_trans' HB.out hb2
        have HO2 : Hid (w2.ownsRow w.heap.size 57 3 (.slice ao3 T.length cap3) T.length (pcells T)) := (Kp.of_below (B := 0) (ts := []) hb2).owns HO.out (by simp)
        clear hb hb2 HO c0 c1 c2
        cases r with
        | true =>
          go_wp2
          go_roundw
          case rel => exact ⟨k + 1, T, by omega, by go_num, by omega, by rw [← HT.out, HKD.out, if_pos rfl]; exact rfl, HO2.out, HB2.out⟩
          case measure => simp [intOf]; omega
        | false =>
          go_wp2_with fail
          refine (own_any p _ hkx.1 hkx.2).mono ?_
          rintro e w3 ⟨rfl, hb3⟩
          have HB3 : Hid (Below w.heap.size w w3) := below_trans' HB2.out hb3
          have HO3 : w3.ownsRow w.heap.size 57 3 (.slice ao3 T.length cap3) T.length (pcells T) := (Kp.of_below (B := 0) (ts := []) hb3).owns HO2.out (by simp)
          clear hb3 d0 d1 d2 HO2
          go_wp2_with (at_builtin; refine wpList_append_own _ rfl _ _ 38 rfl w.heap.size 57 i0 _ 3 40 Tryz.underlying38 hi hz0 hz1 hz2 rfl (by decide) _ _ _ rfl (HO3.alloc _) ⟨w3.heap.size, 0, none⟩ 1 1 (Pr.cells p) rfl rfl (by exact one_pair _ _) (pair_one p) (by unfold maxLen; omega) (by omega) (by have := HB3.out.size; simp; omega) ?_)
          intro v9 w4 ho4 hg4 _
          have HB4 : Hid (Below w.heap.size w w4) := app_below HB3.out HO3 hg4
          have HO4 : Hid (w4.ownsRow w.heap.size 57 3 v9 (T ++ [p]).length (pcells (T ++ [p]))) := by
            have : pcells (T ++ [p]) = pcells T ++ Pr.cells p := by simp [pcells]
            rw [this, List.length_append]; exact ho4
          clear ho4 hg4 HO3
          go_wp2
          go_roundw
          case rel => exact ⟨k + 1, T ++ [p], by omega, by go_num, by simp; omega, by rw [← HT.out, HKD.out, if_neg (by simp), List.append_assoc]; exact rfl, HO4.out, HB4.out⟩
          case measure => simp [intOf]; omega
      · repeat (first | go_big_quiet_step (exact again_in ((k + 1) * 3) (cap - (k + 1)) _ _ h4 (HCELL.out _ (HB1.out _)) (fun _ => rfl) _ (by rw [List.length_drop]) _ _ HR.out) | quiet_step (exact again_in ((k + 1) * 3) (cap - (k + 1)) _ _ h4 (HCELL.out _ (HB1.out _)) (fun _ => rfl) _ (by rw [List.length_drop]) _ _ HR.out))
        refine wpQuiet_nil ?_
        intro w2 hw'
        have hb := below_of_regrown hw'
        clear hw' b0
        have d0 := (hb.cell (p := ⟨wr.heap.size, 0, none⟩) (by simp)).trans (by simp : _ = some (Value.string p.k))
        have d1 := (hb.cell (p := ⟨wr.heap.size, 1, none⟩) (by simp)).trans (by simp : _ = some (Value.string p.v))
        have d2 := (hb.cell (p := ⟨wr.heap.size, 2, none⟩) (by simp)).trans (by simp : _ = some (Value.bool p.g))
        have hb2 : Below wr.heap.size wr w2 := below_trans' ((Below.refl _ wr).alloc (Nat.le_refl _) _) hb
        have HB2 : Hid (Below w.heap.size w w2) := below_trans' HB.out hb2
        have HO2 : Hid (w2.ownsRow w.heap.size 57 3 (.slice ao3 T.length cap3) T.length (pcells T)) := (Kp.of_below (B := 0) (ts := []) hb2).owns HO.out (by simp)
        clear hb hb2 HO c0 c1 c2
        cases r with
        | true =>
          go_wp2
          go_roundw
          case rel => exact ⟨k + 1, T, by omega, by go_num, by omega, by rw [← HT.out, HKD.out, if_pos rfl]; exact rfl, HO2.out, HB2.out⟩
          case measure => simp [intOf]; omega
        | false =>
          go_wp2_with fail
          refine (own_any p _ hkx.1 hkx.2).mono ?_
          rintro e w3 ⟨rfl, hb3⟩
          have HB3 : Hid (Below w.heap.size w w3) := below_trans' HB2.out hb3
          have HO3 : w3.ownsRow w.heap.size 57 3 (.slice ao3 T.length cap3) T.length (pcells T) := (Kp.of_below (B := 0) (ts := []) hb3).owns HO2.out (by simp)
          clear hb3 d0 d1 d2 HO2
          go_wp2_with (at_builtin; refine wpList_append_own _ rfl _ _ 38 rfl w.heap.size 57 i0 _ 3 40 Tryz.underlying38 hi hz0 hz1 hz2 rfl (by decide) _ _ _ rfl (HO3.alloc _) ⟨w3.heap.size, 0, none⟩ 1 1 (Pr.cells p) rfl rfl (by exact one_pair _ _) (pair_one p) (by unfold maxLen; omega) (by omega) (by have := HB3.out.size; simp; omega) ?_)
          intro v9 w4 ho4 hg4 _
          have HB4 : Hid (Below w.heap.size w w4) := app_below HB3.out HO3 hg4
          have HO4 : Hid (w4.ownsRow w.heap.size 57 3 v9 (T ++ [p]).length (pcells (T ++ [p]))) := by
            have : pcells (T ++ [p]) = pcells T ++ Pr.cells p := by simp [pcells]
            rw [this, List.length_append]; exact ho4
          clear ho4 hg4 HO3
          go_wp2
          go_roundw
          case rel => exact ⟨k + 1, T ++ [p], by omega, by go_num, by simp; omega, by rw [← HT.out, HKD.out, if_neg (by simp), List.append_assoc]; exact rfl, HO4.out, HB4.out⟩
          case measure => simp [intOf]; omega
    · obtain rfl : k = Lp.length := by omega
      have hT : T = keep Lp := by have := HT.out; rw [List.drop_of_length_le (Nat.le_refl _)] at this; simpa [keep] using this
      subst hT
      have hp1 := keep_pos h1
      have hpl := keep_len Lp
      obtain ⟨gs, caps, rfl, hbgs, hgsl⟩ := HO.out.form (by omega)
      have SF : Hid (Calls Tryz.prog 159 #[.slice (some ⟨gs, 0, none⟩) (keep Lp).length caps, .func (.func 160) #[] #[]] wr fun e w' => SortPost (keep Lp) gs caps w.heap.size wr e w') := sortFunc_any (keep Lp) gs caps w.heap.size wr HO.out hp1 (by omega) hbgs HB.out.size (keep_distinct Lp)
      clear HT HO
      go_wp2_with fail
      refine Calls.mono SF.out ?_
      rintro e w5 ⟨rfl, Ms, hsame, hup, hown, hbel⟩
      have HF : Hid (SamePr (keep Lp) Ms ∧ Upto Ms Ms.length ∧ w5.ownsRow w.heap.size 57 3 (.slice (some ⟨gs, 0, none⟩) Ms.length caps) Ms.length (pcells Ms) ∧ Below w.heap.size w w5) := ⟨hsame, hup, hown, HB.out.trans hbel⟩
      have hlm : Ms.length = (keep Lp).length := hsame.1
      clear hsame hup hown hbel
      go_wp2
      go_ret
      refine ⟨.slice (some ⟨gs, 0, none⟩) (keep Lp).length caps, Ms, rfl, HF.out.1, HF.out.2.1, ?_, HF.out.2.2.2⟩
      rw [← hlm]
      exact HF.out.2.2.1
end Go.Proofs.YtakipjofboipmaaGreatDoor
