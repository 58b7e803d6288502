/- The walks of this proof: comparing keys and entries, looking for the place of one. -/
import Derived.Test.YtojdkfamihlnkaaGreatDoorK
import Derived.Test.YtojdkfamihlnkaaGreatDoorM
namespace Go.Proofs.YtojdkfamihlnkaaGreatDoor
open Go.RowKit

set_option maxHeartbeats 1000000 in
set_option maxRecDepth 100000 in
theorem compareString_any (a b : ByteArray) (w : World) :
    Calls Tryz.prog 142 #[.string a, .string b] w fun e w' => e = .returned (.int .i64 (kc a b)) ∧ w' = w := by
  go_enter Tryz.func142, Tryz.ntmps142
  go_wp2
  rw [run_callFunc_extern Tryz.func151 (by kernel_rfl) (by kernel_rfl) (by kernel_rfl) (e := Extern.BytealgCompare.compare) (by kernel_rfl), Lib.run_compareString]
  simp only [Result.andThen]
  rw [Oper.upon_value]
  go_wp2
  go_ret
  exact ⟨rfl, rfl⟩

set_option maxHeartbeats 400000 in
theorem compare_any (a b : ByteArray) (w : World) :
    Calls Tryz.prog 122 #[.string a, .string b] w fun e w' => e = .returned (.int .i64 (kc a b)) ∧ w' = w := by
  go_enter Tryz.func122, Tryz.ntmps122
  go_wp2_with (go_at_call 142; refine (compareString_any _ _ _).mono ?_; rintro e w' ⟨rfl, rfl⟩)
  go_ret
  exact ⟨rfl, rfl⟩

def ci (a b : Int) : Int := if a < b then -1 else if b < a then 1 else 0

set_option maxHeartbeats 400000 in
theorem cmpint_any (a b : Int) (w : World) :
    Calls Tryz.prog 143 #[.int .i64 a, .int .i64 b] w fun e w' => e = .returned (.int .i64 (ci a b)) ∧ w' = w := by
  by_cases h1 : a < b
  · have e : ci a b = -1 := by simp [ci, h1]
    rw [e]
    go_enter Tryz.func143, Tryz.ntmps143
    go_wp2
    go_ret
    exact ⟨rfl, rfl⟩
  · by_cases h2 : b < a
    · have e : ci a b = 1 := by simp [ci, h1, h2]
      rw [e]
      go_enter Tryz.func143, Tryz.ntmps143
      go_wp2
      go_ret
      exact ⟨rfl, rfl⟩
    · have e : ci a b = 0 := by simp [ci, h1, h2]
      rw [e]
      go_enter Tryz.func143, Tryz.ntmps143
      go_wp2
      go_ret
      exact ⟨rfl, rfl⟩

/-- An entry as a value. -/
def En.val (e : En) : Value := .agg #[.string e.k, .int .i64 e.s, .bool e.g, .string e.v]

set_option maxHeartbeats 400000 in
theorem order_any (a b : En) (w : World) :
    Calls Tryz.prog 124 #[a.val, b.val] w fun e w' => e = .returned (.int .i64 (oc a.k a.s b.k b.s)) ∧ Below w.heap.size w w' := by
  obtain ⟨k1, s1, g1, v1⟩ := a
  obtain ⟨k2, s2, g2, v2⟩ := b
  unfold En.val
  generalize hn : kc k1 k2 = n
  have H : Hid (kc k1 k2 = n) := hn
  clear hn
  by_cases h0 : n = 0
  · subst h0
    have e : oc k1 s1 k2 s2 = ci s2 s1 := by simp [oc, ci, H.out]
    simp only [e]
    go_enter Tryz.func124, Tryz.ntmps124
    go_wp2_with (first
      | (go_at_call 122; refine (compare_any _ _ _).mono ?_; rintro e w' ⟨rfl, rfl⟩; rw [H.out])
      | (go_at_call 143; refine (cmpint_any _ _ _).mono ?_; rintro e w' ⟨rfl, rfl⟩))
    go_ret
    exact ⟨rfl, ((Below.refl _ _).alloc (Nat.le_refl _) _).alloc (by simp) _⟩
  · have e : oc k1 s1 k2 s2 = n := by simp [oc, H.out, h0]
    simp only [e]
    have hb : (n != 0) = true := by simp [h0]
    go_enter Tryz.func124, Tryz.ntmps124
    go_wp2_with (first
      | (go_at_call 122; refine (compare_any _ _ _).mono ?_; rintro e w' ⟨rfl, rfl⟩; rw [H.out])
      | (go_at_call 143; refine (cmpint_any _ _ _).mono ?_; rintro e w' ⟨rfl, rfl⟩))
    go_ret
    exact ⟨rfl, ((Below.refl _ _).alloc (Nat.le_refl _) _).alloc (by simp) _⟩

end Go.Proofs.YtojdkfamihlnkaaGreatDoor
