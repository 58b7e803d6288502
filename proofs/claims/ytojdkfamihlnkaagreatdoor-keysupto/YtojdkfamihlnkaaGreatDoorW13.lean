/- The walks of this proof: slices.SortFunc at few pairs. -/
import Derived.Test.YtojdkfamihlnkaaGreatDoorW12
namespace Go.Proofs.YtojdkfamihlnkaaGreatDoor
open Go.RowKit Go.Sort

set_option maxHeartbeats 1000000 in
set_option maxRecDepth 100000 in
theorem len64_any (n : Nat) (h1 : 1 ≤ n) (h4 : n ≤ 4) (w : World) :
    Calls Tryz.prog 126 #[.int .u64 n] w fun e w' => ∃ r : Int, e = .returned (.int .i64 r) ∧ w' = w := by
  obtain rfl | rfl | rfl | rfl : n = 1 ∨ n = 2 ∨ n = 3 ∨ n = 4 := by omega
  all_goals
    go_enter Tryz.func126, Tryz.ntmps126
    go_wp2
    go_ret
    exact ⟨_, rfl, rfl⟩

set_option maxHeartbeats 1000000 in
theorem blen_any (n : Nat) (h1 : 1 ≤ n) (h4 : n ≤ 4) (w : World) :
    Calls Tryz.prog 121 #[.int .u64 n] w fun e w' => ∃ r : Int, e = .returned (.int .i64 r) ∧ w' = w := by
  go_enter Tryz.func121, Tryz.ntmps121
  go_wp2_with (go_at_call 126; refine (len64_any n h1 h4 _).mono ?_; rintro e w' ⟨r, rfl, rfl⟩)
  go_ret
  exact ⟨_, rfl, rfl⟩

set_option maxHeartbeats 1000000 in
set_option maxRecDepth 100000 in
theorem pdq_any (L : List Pr) (g cap base : Nat) (r : Int) (w : World) (h : w.ownsRow base 57 3 (.slice (some ⟨g, 0, none⟩) L.length cap) L.length (pcells L)) (h1 : 1 ≤ L.length) (h4 : L.length ≤ 4) (hbg : base ≤ g) (hbase : base ≤ w.heap.size) (hd : Distinct L) :
    Calls Tryz.prog 120 #[.slice (some ⟨g, 0, none⟩) L.length cap, .int .i64 0, .int .i64 L.length, .int .i64 r, .func (.func 105) #[] #[]] w fun e w' => SortPost L g cap base w e w' := by
  have hi := isort_any L g cap base w h h1 h4 hbg hbase hd
  have HI : Hid _ := hi
  clear hi h hd
  go_enter Tryz.func120, Tryz.ntmps120
  go_wp2
  refine wp_loop_rounds 1 ?_
  rw [rounds_succ]
  go_wp2_with fail
  refine Calls.mono HI.out ?_
  rintro e w1 ⟨rfl, hpost⟩
  have HP : Hid _ := hpost
  clear hpost
  go_wp2
  go_end0
  exact ⟨rfl, HP.out⟩

set_option maxHeartbeats 1000000 in
theorem sortFunc_any (L : List Pr) (g cap base : Nat) (w : World) (h : w.ownsRow base 57 3 (.slice (some ⟨g, 0, none⟩) L.length cap) L.length (pcells L)) (h1 : 1 ≤ L.length) (h4 : L.length ≤ 4) (hbg : base ≤ g) (hbase : base ≤ w.heap.size) (hd : Distinct L) :
    Calls Tryz.prog 104 #[.slice (some ⟨g, 0, none⟩) L.length cap, .func (.func 105) #[] #[]] w fun e w' => SortPost L g cap base w e w' := by
  have hi := fun r => pdq_any L g cap base r w h h1 h4 hbg hbase hd
  have HI : Hid _ := hi
  clear hi h hd
  go_enter Tryz.func104, Tryz.ntmps104
  go_wp2_with fail
  refine (blen_any _ h1 h4 _).mono ?_
  rintro e w1 ⟨r, rfl, rfl⟩
  go_wp2_with fail
  refine Calls.mono (HI.out r) ?_
  rintro e w1 ⟨rfl, hpost⟩
  have HP : Hid _ := hpost
  clear hpost
  go_wp2
  go_end0
  exact ⟨rfl, HP.out⟩
end Go.Proofs.YtojdkfamihlnkaaGreatDoor
