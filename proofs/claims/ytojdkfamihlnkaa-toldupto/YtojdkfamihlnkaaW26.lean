/- The walks of this proof: the shop tells what its batches make. -/
import Derived.Test.YtojdkfamihlnkaaW25
namespace Go.Proofs.Ytojdkfamihlnkaa
open Go.RowKit Go.Sort

set_option maxHeartbeats 2000000 in
set_option maxRecDepth 100000 in
theorem tells_any (B hb : Nat) (x : St) (A : List (List Pr)) (at_ : Int) (n : Nat) (w : World) (hx : ShopAt B hb x A w) (ok : ShOk x A) (hq : seqOf x.S x.last at_ = some (n : Int)) (hn : n ≤ A.length) :
    Calls Try.prog 8 #[.pointer (some ⟨hb, 0, none⟩), .int .i64 at_, .int .i64 n] w fun e w' => e = .returned (.bool true) ∧ Below w.heap.size w w' := by
  obtain ⟨sb, vA, vS, su, la, o0, o1, hB, hs, hst, hall, hsn⟩ := id hx
  have c0 : w.cell? ⟨hb, 0, none⟩ = some (.pointer (some ⟨sb, 0, none⟩)) := by simp [World.cell?, hs]
  have hbl : hb < w.heap.size := lt_of_block hs
  have HSC : Hid (Calls Try.prog 24 #[.pointer (some ⟨sb, 0, none⟩), .string ⟨#[]⟩, .int .i64 100, .int .i64 at_] w fun e w' => Scanned A n w e w') := scan_tells B sb x A at_ n w hst ok hq hn
  have HV : Hid (∀ (k : ByteArray) (w1 : World), Below w.heap.size w w1 → Calls Try.prog 27 #[.pointer (some ⟨hb, 0, none⟩), .string k, .int .i64 n] w1 fun e w' => e = .returned (valAns A k n) ∧ Below w1.heap.size w1 w') := fun k w1 h1 => value_any B hb x A k n w1 (hx.below h1) ok.ok hn ok.few
  have HG : Hid (∀ (k : ByteArray) (w1 : World), k ∈ tk → Below w.heap.size w w1 → ∀ u, getVal x k at_ = u → ∀ d os, Calls Try.prog 25 #[.pointer (some ⟨sb, 0, none⟩), .string k, .int .i64 at_] (grow (redrawn w1 d) os) fun e w'' => e = .returned u ∧ ∃ p : Regrown, w'' = grow (redrawn w1 p.d) p.os) := fun k w1 hk h1 u hu d os => get_in x B sb k at_ w1 (hst.below h1) ok.st (by have := tk_ok hk; unfold maxLen; omega) u hu d os
  have HGV : Hid (∀ k, k ∈ tk → getVal x k at_ = match vk A k n with | some v => .tuple #[.string v, .int .i64 0] | none => .tuple #[.string ⟨#[]⟩, .int .i64 6]) := fun k hk => get_tells ok hq hn hk
  clear hx ok hq hs hst hall hsn
  go_enter Try.func8, Try.ntmps8
  go_wp2_with fail
  refine Calls.mono HSC.out ?_
  rintro e w1 ⟨vL, L, rfl, ho, hL, hb1⟩
  have HB1 : Hid (Below w.heap.size w w1) := hb1
  have HO : Hid (w1.ownsRow w.heap.size 78 3 vL L.length (pcells L)) := ho
  have HL : Hid (Listed A n L) := hL
  have c0 := cell_later hb1 c0
  clear ho hL hb1 HSC
  go_wp2
  go_loopw [9, 10] (fun s9 i wr => ∃ k : Nat, k ≤ 10 ∧ i = .int .i64 k ∧ s9 = .int .i64 (((tk.take k).countP fun y => (vk A y n).isSome : Nat) : Int) ∧ Hid (Below w1.heap.size w1 wr)) (fun _ i _ => 10 - (intOf i).toNat)
  case atStart => exact ⟨0, Nat.zero_le _, rfl, rfl, Below.refl _ _⟩
  case round =>
    obtain ⟨k, hk, rfl, rfl, HB⟩ := hrel
    by_cases hlt : k < 10
    · have c0 := cell_later HB.out c0
      have hbl2 : hb < wr.heap.size := block_lt_of_cell c0
      have HBw : Hid (Below w.heap.size w wr) := below_trans' HB1.out HB.out
      have hck : ((tk.take k).countP fun y => (vk A y n).isSome) ≤ 10 := Nat.le_trans (List.countP_le_length) (by simp; omega)
      have HCS : Hid (((tk.take (k + 1)).countP fun y => (vk A y n).isSome) = ((tk.take k).countP fun y => (vk A y n).isSome) + if (vk A (kof k) n).isSome = true then 1 else 0) := count_step hlt fun y => (vk A y n).isSome
      have HKI : Hid (∀ d os, Calls Try.prog 26 #[.int .i64 k] (grow (redrawn wr d) os) fun e w'' => e = .returned (.string (kof k)) ∧ ∃ p : Regrown, w'' = grow (redrawn wr p.d) p.os) := fun d os => key_in k wr (by omega) (by omega) d os
      cases hvk : vk A (kof k) n with
      | some v =>
        have HGI : Hid (∀ d os, Calls Try.prog 25 #[.pointer (some ⟨sb, 0, none⟩), .string (kof k), .int .i64 at_] (grow (redrawn wr d) os) fun e w'' => e = .returned (.tuple #[.string v, .int .i64 0]) ∧ ∃ p : Regrown, w'' = grow (redrawn wr p.d) p.os) := fun d os => HG.out _ wr (kof_mem k) HBw.out _ (by rw [HGV.out _ (kof_mem k), hvk]) d os
        have hva : valAns A (kof k) n = .tuple #[.string v, .bool true] := by unfold valAns; rw [hvk]
        have c0' := cell_regrown c0
        go_wp2_with fail
        refine wp_region_quiet_below (by kernel_rfl) (by kernel_rfl) ?_
        repeat (first | go_big_quiet_step (first | exact HKI.out _ _ | exact HGI.out _ _) | quiet_step (first | exact HKI.out _ _ | exact HGI.out _ _))
        refine wpQuiet_nil ?_
        intro w2 hw'
        have hb2 := below_of_regrown hw'
        clear hw' c0'
        go_wp2_with fail
        refine (key_any k _ (by omega) (by omega)).mono ?_
        rintro e w3 ⟨rfl, hb3⟩
        go_wp2_with fail
        have HB3 : Hid (Below wr.heap.size wr w3) := below_trans' hb2 hb3
        clear hb2 hb3
        refine Calls.mono (HV.out (kof k) w3 (below_trans' HBw.out HB3.out)) ?_
        rw [hva]
        rintro e w4 ⟨rfl, hb4⟩
        have HB4 : Hid (Below w1.heap.size w1 w4) := below_trans' (below_trans' HB.out HB3.out) hb4
        rw [hvk] at HCS
        clear hb4 HB3 hva hvk
        go_wp2
        go_roundw
        case rel => exact ⟨k + 1, hlt, by go_num, by congr 1; rw [HCS.out]; simp, HB4⟩
        case measure => simp [intOf]; omega
      | none =>
        have HGI : Hid (∀ d os, Calls Try.prog 25 #[.pointer (some ⟨sb, 0, none⟩), .string (kof k), .int .i64 at_] (grow (redrawn wr d) os) fun e w'' => e = .returned (.tuple #[.string ⟨#[]⟩, .int .i64 6]) ∧ ∃ p : Regrown, w'' = grow (redrawn wr p.d) p.os) := fun d os => HG.out _ wr (kof_mem k) HBw.out _ (by rw [HGV.out _ (kof_mem k), hvk]) d os
        have hva : valAns A (kof k) n = .tuple #[.string ⟨#[]⟩, .bool false] := by unfold valAns; rw [hvk]
        have c0' := cell_regrown c0
        go_wp2_with fail
        refine wp_region_quiet_below (by kernel_rfl) (by kernel_rfl) ?_
        repeat (first | go_big_quiet_step (first | exact HKI.out _ _ | exact HGI.out _ _) | quiet_step (first | exact HKI.out _ _ | exact HGI.out _ _))
        refine wpQuiet_nil ?_
        intro w2 hw'
        have hb2 := below_of_regrown hw'
        clear hw' c0'
        go_wp2_with fail
        refine (key_any k _ (by omega) (by omega)).mono ?_
        rintro e w3 ⟨rfl, hb3⟩
        go_wp2_with fail
        have HB3 : Hid (Below wr.heap.size wr w3) := below_trans' hb2 hb3
        clear hb2 hb3
        refine Calls.mono (HV.out (kof k) w3 (below_trans' HBw.out HB3.out)) ?_
        rw [hva]
        rintro e w4 ⟨rfl, hb4⟩
        have HB4 : Hid (Below w1.heap.size w1 w4) := below_trans' (below_trans' HB.out HB3.out) hb4
        rw [hvk] at HCS
        clear hb4 HB3 hva hvk
        go_wp2
        go_roundw
        case rel => exact ⟨k + 1, hlt, by go_num, by congr 1; rw [HCS.out]; simp, HB4⟩
        case measure => simp [intOf]; omega
    · obtain rfl : k = 10 := by omega
      have HLN : Hid (L.length = ((tk.take 10).countP fun y => (vk A y n).isSome)) := HL.out.len
      have hlt10 : ((tk.take 10).countP fun y => (vk A y n).isSome) ≤ 10 := Nat.le_trans (List.countP_le_length) (Nat.le_refl 10)
      generalize ((tk.take 10).countP fun y => (vk A y n).isSome) = c at HLN hlt10
      obtain rfl : L.length = c := HLN.out
      clear HLN HG HGV
      obtain ⟨aoL, capL, rfl⟩ := slice_form HO.out
      rw [show (((10 : Nat)) : Int) = 10 from rfl]
      go_wp2
      go_loopw [15] (fun i wx => ∃ j : Nat, j ≤ L.length ∧ i = .int .i64 j ∧ Hid (Below w1.heap.size w1 wx)) (fun i _ => L.length - (intOf i).toNat)
      case atStart => exact ⟨0, Nat.zero_le _, rfl, HB.out⟩
      case round =>
        clear HB
        obtain ⟨j, hj, rfl, HB⟩ := hrel
        by_cases hlt2 : j < L.length
        · obtain ⟨g, cap, hv', _, hgl, hcap, hcell⟩ := pr_cells HO.out HB.out (by omega)
          simp only [Value.slice.injEq, true_and] at hv'
          obtain ⟨rfl, rfl⟩ := hv'
          obtain ⟨p, hp⟩ : ∃ p, L[j]? = some p := ⟨_, List.getElem?_eq_getElem hlt2⟩
          obtain ⟨d0, d1, d2⟩ := hcell j p hp
          have hse := HL.out.seen p (List.mem_of_getElem? hp)
          rw [hse.1] at d2
          have hva : valAns A p.k n = .tuple #[.string p.v, .bool true] := by unfold valAns; rw [hse.2]
          have hgr : g < wr.heap.size := block_lt_of_cell d0
          obtain _ | m := j
          · clear hcell hse hp
            go_wp2_with fail
            refine Calls.mono (HV.out p.k wr (below_trans' HB1.out HB.out)) ?_
            rw [hva]
            rintro e w4 ⟨rfl, hb4⟩
            have HB4 : Hid (Below w1.heap.size w1 w4) := below_trans' HB.out hb4
            have d1 := cell_regrown (cell_later hb4 d1)
            have d2 := cell_regrown (cell_later hb4 d2)
            clear hva hb4 d0
            go_wp2_with fail
            refine wp_region_quiet_below (by kernel_rfl) (by kernel_rfl) ?_
            repeat (first | go_big_quiet_step (fail) | quiet_step (fail))
            refine wpQuiet_nil ?_
            intro w5 hw'
            have HB5 : Hid (Below w1.heap.size w1 w5) := below_trans' HB4.out (below_of_regrown hw')
            clear hw' HB4 d1 d2
            go_wp2
            go_roundw
            case rel => exact ⟨1, by omega, by go_num, HB5⟩
            case measure => simp [intOf]; omega
          · obtain ⟨q, hqm⟩ : ∃ q, L[m]? = some q := ⟨_, List.getElem?_eq_getElem (by omega)⟩
            obtain ⟨f0, _, _⟩ := hcell m q hqm
            have hless : Op.bytesLess q.k.toList p.k.toList = true := bl_kc (by
              have h1 := List.pairwise_iff_getElem.1 HL.out.ord m (m + 1) (by omega) (by omega) (by omega)
              rw [List.getElem?_eq_getElem (by omega)] at hqm hp
              rw [Option.some.inj hqm, Option.some.inj hp] at h1
              exact h1)
            clear hcell hse hp hqm
            go_wp2_with fail
            refine Calls.mono (HV.out p.k wr (below_trans' HB1.out HB.out)) ?_
            rw [hva]
            rintro e w4 ⟨rfl, hb4⟩
            have HB4 : Hid (Below w1.heap.size w1 w4) := below_trans' HB.out hb4
            have d1 := cell_regrown (cell_later hb4 d1)
            have d2 := cell_regrown (cell_later hb4 d2)
            have d0 := cell_regrown (cell_later hb4 d0)
            have f0 := cell_regrown (cell_later hb4 f0)
            clear hva hb4
            go_wp2_with fail
            refine wp_region_quiet_below (by kernel_rfl) (by kernel_rfl) ?_
            repeat (first | go_big_quiet_step (fail) | quiet_step (fail))
            refine wpQuiet_nil ?_
            intro w5 hw'
            have HB5 : Hid (Below w1.heap.size w1 w5) := below_trans' HB4.out (below_of_regrown hw')
            clear hw' HB4 d0 d1 d2 f0
            go_wp2
            go_roundw
            case rel => exact ⟨m + 2, by omega, by go_num, HB5⟩
            case measure => simp [intOf]; omega
        · obtain rfl : j = L.length := by omega
          go_wp2
          go_ret
          exact ⟨rfl, below_trans' HB1.out HB.out⟩
end Go.Proofs.Ytojdkfamihlnkaa
