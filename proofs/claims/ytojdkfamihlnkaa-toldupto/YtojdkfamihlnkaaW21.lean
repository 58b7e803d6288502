/- The walks of this proof: pairs and batches out of raw numbers. -/
import Derived.Test.YtojdkfamihlnkaaW20
import Derived.Deep.RegionHeld
namespace Go.Proofs.Ytojdkfamihlnkaa
open Go.RowKit Go.Sort

/-- Which of n things a raw number speaks of. -/
def pk (c n : Int) : Int := (if c < 0 then -(c + 1) else c) % n

theorem pk_lt {c n : Int} (h : 0 < n) : 0 ≤ pk c n ∧ pk c n < n := ⟨Int.emod_nonneg _ (by omega), Int.emod_lt_of_pos _ h⟩

set_option maxHeartbeats 400000 in
theorem pick_any (c n : Int) (w : World) (h0 : -9223372036854775808 ≤ c) (h1 : c ≤ 9223372036854775807) (h2 : 0 < n) (h3 : n ≤ 1000000000) :
    Calls Try.prog 22 #[.int .i64 c, .int .i64 n] w fun e w' => e = .returned (.int .i64 (pk c n)) ∧ w' = w := by
  unfold pk
  by_cases hc : c < 0
  · rw [if_pos hc]
    have h4 : 0 ≤ -(c + 1) := by omega
    have h5 : -(c + 1) ≤ 9223372036854775807 := by omega
    go_enter Try.func22, Try.ntmps22
    go_wp2
    go_ret
    exact ⟨congrArg (fun z => Ending.returned (.int .i64 z)) (show -(c + 1).tmod n = -(c + 1) % n by rw [← Int.neg_tmod, Int.tmod_eq_emod_of_nonneg h4]), rfl⟩
  · rw [if_neg hc]
    go_enter Try.func22, Try.ntmps22
    go_wp2
    go_ret
    exact ⟨rfl, rfl⟩

/-- The ten keys. -/
def tk : List ByteArray := [⟨#[97]⟩, ⟨#[97, 98]⟩, ⟨#[98]⟩, ⟨#[0]⟩, ⟨#[255, 255]⟩, ⟨#[97, 98, 99, 100, 101, 102]⟩, ⟨#[98, 0]⟩, ⟨#[98, 97]⟩, ⟨#[126]⟩, ⟨#[97, 0]⟩]

def kof (c : Int) : ByteArray := tk.getD (pk c 10).toNat ⟨#[]⟩

set_option maxHeartbeats 1000000 in
theorem key_any (c : Int) (w : World) (h0 : -9223372036854775808 ≤ c) (h1 : c ≤ 9223372036854775807) :
    Calls Try.prog 26 #[.int .i64 c] w fun e w' => e = .returned (.string (kof c)) ∧ Below w.heap.size w w' := by
  have hp := pick_any c 10
  have HP : Hid (∀ w, Calls Try.prog 22 #[.int .i64 c, .int .i64 10] w fun e w' => e = .returned (.int .i64 (pk c 10)) ∧ w' = w) := fun w => hp w h0 h1 (by omega) (by omega)
  have hb := pk_lt (c := c) (n := 10) (by omega)
  unfold kof
  generalize pk c 10 = p at HP hb
  clear hp
  obtain ⟨hb0, hb1⟩ := hb
  obtain rfl | rfl | rfl | rfl | rfl | rfl | rfl | rfl | rfl | rfl : p = 0 ∨ p = 1 ∨ p = 2 ∨ p = 3 ∨ p = 4 ∨ p = 5 ∨ p = 6 ∨ p = 7 ∨ p = 8 ∨ p = 9 := by omega
  all_goals
    go_enter Try.func26, Try.ntmps26
    go_wp2_with fail
    refine Calls.mono (HP.out _) ?_
    rintro e w1 ⟨rfl, rfl⟩
    go_wp2
    go_ret
    exact ⟨rfl, (Below.refl _ _).alloc (Nat.le_refl _) _⟩

set_option maxHeartbeats 1000000 in
set_option maxRecDepth 100000 in
theorem digits_any (n : Int) (w : World) (h0 : 0 ≤ n) (h1 : n < 100) :
    Calls Try.prog 68 #[.int .i64 n] w fun e w' => ∃ s : ByteArray, e = .returned (.string s) ∧ s.size ≤ 8 ∧ Below w.heap.size w w' := by
  have hconv : (convert 98 9 (.slice (some ⟨w.heap.size, 0, none⟩) 2 2)).run Try.prog (w.alloc (.cells #[.int .u8 (48 + n / 10), .int .u8 (48 + n % 10)] 5)) = .ok (.string ([48 + n / 10, 48 + n % 10].foldl (fun r n => r.push (UInt8.ofNat n.toNat)) ByteArray.empty)) (w.alloc (.cells #[.int .u8 (48 + n / 10), .int .u8 (48 + n % 10)] 5)) := by
    rw [run_convert_bytes_string _ 98 9 5 _ _ _ Try.underlying98 Try.underlying5 Try.underlying9]
    refine run_bytesToString _ _ _ _ [48 + n / 10, 48 + n % 10] ?_
    have := run_loadCells_list (P := Try.prog) (w.alloc (.cells #[.int .u8 (48 + n / 10), .int .u8 (48 + n % 10)] 5)) ⟨w.heap.size, 0, none⟩ [.int .u8 (48 + n / 10), .int .u8 (48 + n % 10)] (cell_two_new w _ _ 5)
    exact this
  obtain ⟨s, hs⟩ : ∃ s, [48 + n / 10, 48 + n % 10].foldl (fun r n => r.push (UInt8.ofNat n.toNat)) ByteArray.empty = s := ⟨_, rfl⟩
  have hsz : s.size ≤ 8 := by rw [← hs]; simp [ByteArray.size_push]
  rw [hs] at hconv
  clear hs
  go_enter Try.func68, Try.ntmps68
  go_wp2
  go_ret
  exact ⟨s, rfl, hsz, (Below.refl _ _).alloc (Nat.le_refl _) _⟩

theorem key_in (c : Int) (w : World) (h0 : -9223372036854775808 ≤ c) (h1 : c ≤ 9223372036854775807) (d : Nat) (os : Array Obj) :
    Calls Try.prog 26 #[.int .i64 c] (grow (redrawn w d) os) fun e w'' => e = .returned (.string (kof c)) ∧ ∃ p : Regrown, w'' = grow (redrawn w p.d) p.os :=
  Calls.regrown_of (key_any c _ h0 h1)

end Go.Proofs.Ytojdkfamihlnkaa
