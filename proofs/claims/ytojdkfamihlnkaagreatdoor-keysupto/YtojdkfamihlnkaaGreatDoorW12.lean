/- The walks of this proof: the library's insertion sort over pairs. -/
import Derived.Test.YtojdkfamihlnkaaGreatDoorW11
import Derived.Test.YtojdkfamihlnkaaGreatDoorO
import Derived.BigRegion
namespace Go.Proofs.YtojdkfamihlnkaaGreatDoor
open Go.RowKit Go.Sort

set_option maxHeartbeats 1000000 in
theorem byKey_any (a b : Pr) (w : World) :
    Calls Tryz.prog 105 #[.agg #[.string a.k, .string a.v, .bool a.g], .agg #[.string b.k, .string b.v, .bool b.g]] w fun e w' => e = .returned (.int .i64 (kc a.k b.k)) ∧ Below w.heap.size w w' := by
  go_enter Tryz.func105, Tryz.ntmps105
  go_wp2_with (go_at_call 122; refine (compare_any _ _ _).mono ?_; rintro e w' ⟨rfl, rfl⟩)
  go_ret
  exact ⟨rfl, ((Below.refl _ _).alloc (Nat.le_refl _) _).alloc (by simp) _⟩

theorem byKey_in (a b : Pr) (w : World) (d : Nat) (os : Array Obj) :
    Calls Tryz.prog 105 #[.agg #[.string a.k, .string a.v, .bool a.g], .agg #[.string b.k, .string b.v, .bool b.g]] (grow (redrawn w d) os) fun e w'' => e = .returned (.int .i64 (kc a.k b.k)) ∧ ∃ p : Regrown, w'' = grow (redrawn w p.d) p.os :=
  Calls.regrown_of (byKey_any a b _)

theorem owns_drew {w : World} {base : Nat} {e : TypeId} {size : Nat} {v : Value} {n : Nat} {xs : List Value} (h : w.ownsRow base e size v n xs) : w.drew.ownsRow base e size v n xs := h

/-- A pair stored into a row of pairs. -/
theorem put_pair {w : World} {base g cap : Nat} {L : List Pr} (h : w.ownsRow base 57 3 (.slice (some ⟨g, 0, none⟩) L.length cap) L.length (pcells L)) (hbg : base ≤ g) (k : Nat) (p : Pr) (hk : k < L.length) :
    (((w.setCell ⟨g, k * 3, none⟩ (.string p.k)).setCell ⟨g, k * 3 + 1, none⟩ (.string p.v)).setCell ⟨g, k * 3 + 2, none⟩ (.bool p.g)).ownsRow base 57 3 (.slice (some ⟨g, 0, none⟩) (L.set k p).length cap) (L.set k p).length (pcells (L.set k p)) ∧
    Below base w (((w.setCell ⟨g, k * 3, none⟩ (.string p.k)).setCell ⟨g, k * 3 + 1, none⟩ (.string p.v)).setCell ⟨g, k * 3 + 2, none⟩ (.bool p.g)) := by
  have h3 := (((h.stored (k * 3) (.string p.k)).1.stored (k * 3 + 1) (.string p.v)).1.stored (k * 3 + 2) (.bool p.g)).1
  rw [pcells_set L k p hk] at h3
  refine ⟨by rw [List.length_set]; exact h3, (((Below.refl _ _).setCell hbg _).setCell hbg _).setCell hbg _⟩

theorem swap_pairs {w : World} {base g cap : Nat} {L : List Pr} (h : w.ownsRow base 57 3 (.slice (some ⟨g, 0, none⟩) L.length cap) L.length (pcells L)) (hbg : base ≤ g) (m : Nat) (x y : Pr) (hm : m + 1 < L.length) :
    ((((((w.setCell ⟨g, (m + 1) * 3, none⟩ (.string x.k)).setCell ⟨g, (m + 1) * 3 + 1, none⟩ (.string x.v)).setCell ⟨g, (m + 1) * 3 + 2, none⟩ (.bool x.g)).setCell ⟨g, m * 3, none⟩ (.string y.k)).setCell ⟨g, m * 3 + 1, none⟩ (.string y.v)).setCell ⟨g, m * 3 + 2, none⟩ (.bool y.g)).ownsRow base 57 3 (.slice (some ⟨g, 0, none⟩) L.length cap) L.length (pcells (sw L m x y)) ∧
    Below base w ((((((w.setCell ⟨g, (m + 1) * 3, none⟩ (.string x.k)).setCell ⟨g, (m + 1) * 3 + 1, none⟩ (.string x.v)).setCell ⟨g, (m + 1) * 3 + 2, none⟩ (.bool x.g)).setCell ⟨g, m * 3, none⟩ (.string y.k)).setCell ⟨g, m * 3 + 1, none⟩ (.string y.v)).setCell ⟨g, m * 3 + 2, none⟩ (.bool y.g)) := by
  obtain ⟨h1, b1⟩ := put_pair h hbg (m + 1) x hm
  obtain ⟨h2, b2⟩ := put_pair h1 hbg m y (by simp; omega)
  simp only [List.length_set] at h2
  exact ⟨h2, b1.trans b2⟩

/-- What the sort comes to. -/
def SortPost (L : List Pr) (g cap base : Nat) (w : World) (e : Ending) (w' : World) : Prop :=
  e = .returned (.tuple #[]) ∧ ∃ M : List Pr, SamePr L M ∧ Upto M M.length ∧ w'.ownsRow base 57 3 (.slice (some ⟨g, 0, none⟩) M.length cap) M.length (pcells M) ∧ Below base w w'

set_option maxHeartbeats 1000000 in
set_option maxRecDepth 100000 in
theorem isort_any (L : List Pr) (g cap base : Nat) (w : World) (h : w.ownsRow base 57 3 (.slice (some ⟨g, 0, none⟩) L.length cap) L.length (pcells L)) (h1 : 1 ≤ L.length) (h4 : L.length ≤ 4) (hbg : base ≤ g) (hbase : base ≤ w.heap.size) (hd : Distinct L) :
    Calls Tryz.prog 133 #[.slice (some ⟨g, 0, none⟩) L.length cap, .int .i64 0, .int .i64 L.length, .func (.func 105) #[] #[]] w fun e w' => SortPost L g cap base w e w' := by
  have H : Hid (w.ownsRow base 57 3 (.slice (some ⟨g, 0, none⟩) L.length cap) L.length (pcells L)) := h
  have HD : Hid (Distinct L) := hd
  clear h hd
  go_enter Tryz.func133, Tryz.ntmps133
  go_wp2
  go_loopg [8, 9] L.length (fun kx s8 s9 wr => ∃ (i : Nat) (Lc : List Pr), s8 = .int .i64 i ∧ 1 ≤ i ∧ i ≤ L.length ∧ L.length - i ≤ kx ∧ Lc.length = L.length ∧ Hid (wr.ownsRow base 57 3 (.slice (some ⟨g, 0, none⟩) L.length cap) L.length (pcells Lc) ∧ SamePr L Lc ∧ Distinct Lc ∧ Upto Lc i ∧ Below base w wr))
  case atStart => exact ⟨1, L, rfl, Nat.le_refl _, h1, by omega, rfl, H.out, ⟨rfl, fun _ => Iff.rfl⟩, HD.out, fun a b p q hab hb => by omega, Below.refl _ _⟩
  case round =>
    obtain ⟨i, Lc, rfl, hi1, hin, hgk, hll, HO⟩ := hrel
    by_cases hlt : i < L.length
    · go_wp2
      go_loopg [9] i (fun kx s9 wr => ∃ (j : Nat) (Ld : List Pr), s9 = .int .i64 j ∧ j ≤ i ∧ j ≤ kx ∧ Ld.length = L.length ∧ Hid (wr.ownsRow base 57 3 (.slice (some ⟨g, 0, none⟩) L.length cap) L.length (pcells Ld) ∧ SamePr L Ld ∧ Distinct Ld ∧ But Ld j i ∧ Below base w wr))
      case atStart => exact ⟨i, Lc, rfl, Nat.le_refl _, Nat.le_refl _, hll, HO.out.1, HO.out.2.1, HO.out.2.2.1, but_start HO.out.2.2.2.1, HO.out.2.2.2.2⟩
      case round =>
        clear HO
        obtain ⟨j, Ld, rfl, hji, hgj, hld, HO⟩ := hrel
        by_cases hj0 : 0 < j
        · obtain ⟨m, rfl⟩ : ∃ m, j = m + 1 := ⟨j - 1, by omega⟩
          obtain ⟨x, hx⟩ : ∃ x, Ld[m]? = some x := ⟨_, List.getElem?_eq_getElem (by omega)⟩
          obtain ⟨y, hy⟩ : ∃ y, Ld[m + 1]? = some y := ⟨_, List.getElem?_eq_getElem (by omega)⟩
          rw [← hld] at HO
          obtain ⟨g', cap', hv', _, hgl, hcap, hcell⟩ := pr_cells HO.out.1 (Below.refl _ _) (by omega)
          simp only [Value.slice.injEq, Option.some.injEq, Addr.mk.injEq, and_true, true_and] at hv'
          obtain ⟨rfl, rfl⟩ := hv'
          obtain ⟨c0, c1, c2⟩ := hcell m x hx
          obtain ⟨d0, d1, d2⟩ := hcell (m + 1) y hy
          have c0' := cell_regrown c0
          have c1' := cell_regrown c1
          have c2' := cell_regrown c2
          have d0' := cell_regrown d0
          have d1' := cell_regrown d1
          have d2' := cell_regrown d2
          have hmi : (0 : Int) < (m : Int) + 1 := by omega
          have HX : Hid (Ld[m]? = some x ∧ Ld[m + 1]? = some y) := ⟨hx, hy⟩
          have hgl' : base ≤ wr.heap.size := Nat.le_trans hbase HO.out.2.2.2.2.size
          clear hx hy hcell
          by_cases hlv : kc y.k x.k < 0
          · go_wp2
            refine wp_region_quiet_below (by kernel_rfl) (by kernel_rfl) ?_
            repeat (first | go_big_quiet_step (exact byKey_in _ _ _ _ _) | quiet_step (exact byKey_in _ _ _ _ _))
            refine wpQuiet_nil ?_
            intro w2 hw'
            have hb := below_of_regrown hw'
            clear hw' c0' c1' c2' d0' d1' d2'
            have c0 := cell_later hb c0
            have c1 := cell_later hb c1
            have c2 := cell_later hb c2
            have d0 := cell_later hb d0
            have d1 := cell_later hb d1
            have d2 := cell_later hb d2
            have HO2 : Hid (w2.ownsRow base 57 3 (.slice (some ⟨g, 0, none⟩) Ld.length cap) Ld.length (pcells Ld) ∧ SamePr L Ld ∧ Distinct Ld ∧ But Ld (m + 1) i ∧ Below base w w2) := ⟨(Kp.of_below (B := 0) (ts := []) hb).owns HO.out.1 (by simp), HO.out.2.1, HO.out.2.2.1, HO.out.2.2.2.1, HO.out.2.2.2.2.trans (hb.mono hgl')⟩
            have hfz : ∀ o, w2.frozen? ⟨g, o, none⟩ = false := fun o => by
              rcases HO2.out.1.2 with ⟨h, _⟩ | ⟨g2, cap2, cur, hv, _, hg, _⟩
              · cases h
              · simp only [Value.slice.injEq, Option.some.injEq, Addr.mk.injEq, and_true, true_and] at hv
                obtain ⟨rfl, rfl⟩ := hv
                simp [World.frozen?, hg]
            have FIN := swap_pairs HO2.out.1 hbg m x y (by omega)
            have HF : Hid _ := FIN
            clear hb HO FIN
            have hm1 : (m : Int) < (L.length : Int) := by omega
            have hm2 : (m : Int) + 1 < (L.length : Int) := by omega
            have hmw : IntKind.i64.wrap (m : Int) = (m : Int) := by rw [IntKind.wrap_i64]; omega
            go_wp2
            go_region
            go_wp2
            go_roundg m
            case measure => omega
            case rel =>
              refine ⟨m, sw Ld m x y, rfl, by omega, Nat.le_refl _, by rw [sw_len]; exact hld, ?_⟩
              rw [← hld]
              exact ⟨owns_drew HF.out.1, HO2.out.2.1.trans (sw_same HX.out.1 HX.out.2), sw_distinct HO2.out.2.2.1 HX.out.1 HX.out.2, but_step HO2.out.2.2.2.1 hji HX.out.1 HX.out.2 hlv, (HO2.out.2.2.2.2.trans HF.out.2).drew⟩
          · go_wp2
            refine wp_region_quiet_below (by kernel_rfl) (by kernel_rfl) ?_
            repeat (first | go_big_quiet_step (exact byKey_in _ _ _ _ _) | quiet_step (exact byKey_in _ _ _ _ _))
            refine wpQuiet_nil ?_
            intro w2 hw'
            have hb := below_of_regrown hw'
            clear hw' c0' c1' c2' d0' d1' d2' c0 c1 c2 d0 d1 d2
            have HO2 : Hid (w2.ownsRow base 57 3 (.slice (some ⟨g, 0, none⟩) L.length cap) L.length (pcells Ld) ∧ SamePr L Ld ∧ Distinct Ld ∧ Upto Ld (i + 1) ∧ Below base w w2) := by
              refine ⟨by rw [← hld]; exact (Kp.of_below (B := 0) (ts := []) hb).owns HO.out.1 (by simp), HO.out.2.1, HO.out.2.2.1, but_stop HO.out.2.2.2.1 HO.out.2.2.1 hji (fun m' x' y' e hx' hy' => ?_), HO.out.2.2.2.2.trans (hb.mono hgl')⟩
              obtain rfl : m = m' := by omega
              rw [HX.out.1] at hx'; rw [HX.out.2] at hy'
              cases hx'; cases hy'
              omega
            clear hb HO
            go_wp2
            go_roundg (L.length - (i + 1))
            case measure => omega
            case rel => exact ⟨i + 1, Ld, by go_num, by omega, by omega, Nat.le_refl _, hld, HO2.out⟩
        · obtain rfl : j = 0 := by omega
          have HO2 : Hid (wr.ownsRow base 57 3 (.slice (some ⟨g, 0, none⟩) L.length cap) L.length (pcells Ld) ∧ SamePr L Ld ∧ Distinct Ld ∧ Upto Ld (i + 1) ∧ Below base w wr) := ⟨HO.out.1, HO.out.2.1, HO.out.2.2.1, but_stop HO.out.2.2.2.1 HO.out.2.2.1 (by omega) (fun m' x' y' e => by omega), HO.out.2.2.2.2⟩
          have hgl' : base ≤ wr.heap.size := Nat.le_trans hbase HO.out.2.2.2.2.size
          clear HO
          go_wp2
          refine wp_region_quiet_below (by kernel_rfl) (by kernel_rfl) ?_
          repeat (first | go_big_quiet_step (fail) | quiet_step (fail))
          refine wpQuiet_nil ?_
          intro w2 hw'
          have hb := below_of_regrown hw'
          have HO3 : Hid (w2.ownsRow base 57 3 (.slice (some ⟨g, 0, none⟩) L.length cap) L.length (pcells Ld) ∧ SamePr L Ld ∧ Distinct Ld ∧ Upto Ld (i + 1) ∧ Below base w w2) := ⟨(Kp.of_below (B := 0) (ts := []) hb).owns HO2.out.1 (by simp), HO2.out.2.1, HO2.out.2.2.1, HO2.out.2.2.2.1, HO2.out.2.2.2.2.trans (hb.mono hgl')⟩
          clear hb hw' HO2
          go_wp2
          go_roundg (L.length - (i + 1))
          case measure => omega
          case rel => exact ⟨i + 1, Ld, by go_num, by omega, by omega, Nat.le_refl _, hld, HO3.out⟩
    · obtain rfl : i = L.length := by omega
      go_wp2
      go_end0
      refine ⟨rfl, Lc, HO.out.2.1, by rw [hll]; exact HO.out.2.2.2.1, by rw [hll]; exact HO.out.1, HO.out.2.2.2.2⟩
end Go.Proofs.YtojdkfamihlnkaaGreatDoor
