/- The walks of this proof: a script. -/
import Derived.Test.YtojdkfamihlnkaaGreatDoorT8
namespace Go.Proofs.YtojdkfamihlnkaaGreatDoor
open Go.RowKit Go.Sort

/-- A script, as it lies in memory. -/
def OpsAt (W : World) (v : Value) (os : List OpD) : Prop :=
  ∃ (ao : Option Addr) (cap : Nat), v = .slice ao os.length cap ∧ ∀ (i : Nat) (o : OpD), os[i]? = some o → OpOk o W.heap.size W ∧ ∃ b : Addr, ao = some b ∧ b.spot = none ∧ ∀ f u, o.cells[f]? = some u → W.cell? ⟨b.block, b.off + i * 9 + f, none⟩ = some u

theorem WInv.zero (W : World) (hT : ∀ w', Below W.heap.size W w' → Tab w') : WInv (fun k => if k = W.heap.size then 1 else 0) W.heap.size [] [] 0 0 W.heap.size (W.alloc (.cells (bookCells (.slice none 0 0) (.slice none 0 0) (.slice none 0 0) (.slice none 0 0) 0) 36)) := by
  have hb : Below W.heap.size W (W.alloc (.cells (bookCells (.slice none 0 0) (.slice none 0 0) (.slice none 0 0) (.slice none 0 0) 0) 36)) := (Below.refl _ _).alloc (Nat.le_refl _) _
  refine ⟨⟨_, _, ⟨_, _, [], ?_, heap_alloc_new W _, OwnsIn.nil _ _ _ _, OwnsIn.nil _ _ _ _, fun i m l h => by simp at h⟩, OwnsIn.nil _ _ _ _, OwnsIn.nil _ _ _ _⟩, fun i q h => by simp at h, fun k hk => ?_, hb.size, fun w' h => hT w' (hb.trans h), by omega, by omega, by simp, by simp, fun p hp => by simp at hp, by simp⟩
  · show (if W.heap.size = W.heap.size then 1 else 0) = 1
    simp
  · by_cases h : k = W.heap.size
    · omega
    · simp [h] at hk

def op0 : OpD := ⟨1, 0, 0, 0, ⟨#[]⟩, false, [], none, 0, none, 0, 0, none, 0, 0⟩

set_option maxHeartbeats 4000000 in
set_option maxRecDepth 100000 in
theorem plays_any (os : List OpD) (v : Value) (W : World) (h : OpsAt W v os) (hT : ∀ w', Below W.heap.size W w' → Tab w') (hl : os.length ≤ 1048576) :
    Calls Tryz.prog 4 #[v, .int .i64 6] W fun e w' => e = .returned (.bool true) ∧ Below W.heap.size W w' := by
  obtain ⟨ao, cap, rfl, hos⟩ := h
  have HOS : Hid _ := hos
  have HT : Hid (∀ w', Below W.heap.size W w' → Tab w') := hT
  obtain ⟨w1, hw1⟩ : ∃ w1, W.alloc (.cells (bookCells (.slice none 0 0) (.slice none 0 0) (.slice none 0 0) (.slice none 0 0) 0) 36) = w1 := ⟨_, rfl⟩
  have H1 : Hid (WInv (fun k => if k = W.heap.size then 1 else 0) W.heap.size [] [] 0 0 W.heap.size w1 ∧ Below W.heap.size W w1) := by
    rw [← hw1]; exact ⟨WInv.zero W hT, (Below.refl _ _).alloc (Nat.le_refl _) _⟩
  have HO : Hid (Calls Tryz.prog 5 #[.pointer (some ⟨W.heap.size, 0, none⟩), .agg #[.int .i64 1, .int .i64 0, .int .i64 0, .int .i64 0, .string ⟨#[]⟩, .bool false, .slice none 0 0, .slice none 0 0, .slice none 0 0]] w1 fun e w' => WPost W.heap.size 0 W.heap.size w1 e w') := by
    obtain ⟨vss, vrs, a1, a2, a3⟩ := H1.out.1.bk
    exact (opens_any _ W.heap.size vss vrs [] 0 0 [] [] op0 w1 rfl a1 a2 a3 (by omega)).mono fun e w' hp => H1.out.1.opened (by omega) hp
  have HW1 : Hid (W.alloc (.cells (bookCells (.slice none 0 0) (.slice none 0 0) (.slice none 0 0) (.slice none 0 0) 0) 36) = w1) := hw1
  unfold bookCells at HW1
  clear hos hT hw1
  go_enter Tryz.func4, Tryz.ntmps4
  go_wp2_with fail
  rw [HW1.out]
  refine Calls.mono HO.out ?_
  rintro e w2 ⟨rfl, hb2, hinv⟩
  have I2 : Hid (Below W.heap.size W w2 ∧ ∃ own T P n, 1 ≤ T.length ∧ WInv own W.heap.size T P n 1 W.heap.size w2) := ⟨H1.out.2.trans hb2, hinv⟩
  clear hb2 hinv
  go_wp2
  go_loopg [7, 8, 9] os.length (fun kx s7 s8 s9 wr => ∃ k : Nat, k ≤ os.length ∧ os.length - k ≤ kx ∧ s7 = .int .i64 k ∧ Hid (Below W.heap.size W wr) ∧ Hid (∃ own T P n, 1 ≤ T.length ∧ WInv own W.heap.size T P n (k + 1) W.heap.size wr))
  case atStart => exact ⟨0, Nat.zero_le _, Nat.le_refl _, rfl, I2.out.1, I2.out.2⟩
  case round =>
    clear I2 H1 HO HW1
    obtain ⟨k, hk, hkk, rfl, HB, HI⟩ := hrel
    by_cases hlt : k < os.length
    · obtain ⟨o, ho⟩ : ∃ o, os[k]? = some o := ⟨_, List.getElem?_eq_getElem hlt⟩
      obtain ⟨hok, ⟨g, off, spot⟩, rfl, hsp, hcell⟩ := HOS.out k o ho
      simp only at hsp hcell
      subst hsp
      have p0 := cell_later HB.out (hcell 0 (.int .i64 o.K) rfl)
      have p1 := cell_later HB.out (hcell 1 (.int .i64 o.A) rfl)
      have p2 := cell_later HB.out (hcell 2 (.int .i64 o.B) rfl)
      have p3 := cell_later HB.out (hcell 3 (.int .i64 o.W) rfl)
      have p4 := cell_later HB.out (hcell 4 (.string o.S) rfl)
      have p5 := cell_later HB.out (hcell 5 (.bool o.F) rfl)
      have p6 := cell_later HB.out (hcell 6 (.slice o.aP o.L.length o.cP) rfl)
      have p7 := cell_later HB.out (hcell 7 (.slice o.aC o.lC o.cC) rfl)
      have p8 := cell_later HB.out (hcell 8 (.slice o.aK o.lK o.cK) rfl)
      simp only [Nat.add_zero] at p0
      have hkl : (k : Int) < (os.length : Int) := by omega
      by_cases hK : o.K ≤ 6
      · have HST : Hid (Calls Tryz.prog 6 #[.pointer (some ⟨W.heap.size, 0, none⟩), o.val] wr fun e w' => WPost W.heap.size (k + 1) W.heap.size wr e w') := by
          obtain ⟨own, T, P, n, hT1, hinv⟩ := HI.out
          exact step_any own W.heap.size T P n (k + 1) W.heap.size o wr hinv (hok.on HB.out) hT1 (by omega) hK
        have HKP : Hid (∀ w3 own T P n, WInv own W.heap.size T P n (k + 1 + 1) W.heap.size w3 → Calls Tryz.prog 7 #[.pointer (some ⟨W.heap.size, 2, none⟩)] w3 fun e w' => e = .returned (.bool true) ∧ Below w3.heap.size w3 w') := fun w3 own T P n hinv => by
          obtain ⟨vss, vrs, a1, _, _⟩ := hinv.bk
          exact kept_any _ W.heap.size vss vrs P n w3 a1 (fun w' h' => hinv.tab w' (h'.mono hinv.lowN)) (by have := hinv.pl; omega) (fun p hp => by have := hinv.pb p hp; omega)
        have hgt : ¬ (6 : Int) < o.K := by omega
        unfold OpD.val OpD.cells at HST
        clear hok hcell ho
        go_wp2_with fail
        refine Calls.mono HST.out ?_
        rintro e w3 ⟨rfl, hb3, own, T, P, n, hT1, hinv⟩
        have B3 : Hid (Below W.heap.size W w3) := HB.out.trans hb3
        have I3 : Hid (1 ≤ T.length ∧ WInv own W.heap.size T P n (k + 1 + 1) W.heap.size w3) := ⟨hT1, hinv⟩
        have HW3 : Hid _ := HKP.out w3 own T P n hinv
        clear hb3 hT1 hinv
        go_wp2_with fail
        refine Calls.mono HW3.out ?_
        rintro e w4 ⟨rfl, hb4⟩
        have I4 : Hid (Below W.heap.size W w4 ∧ ∃ own T P n, 1 ≤ T.length ∧ WInv own W.heap.size T P n (k + 1 + 1) W.heap.size w4) := ⟨B3.out.trans (hb4.mono B3.out.size), own, T, P, n, I3.out.1, I3.out.2.below hb4⟩
        clear hb4
        go_wp2
        go_roundg (os.length - (k + 1))
        case measure => omega
        case rel => exact ⟨k + 1, by omega, Nat.le_refl _, by go_num, I4.out.1, I4.out.2⟩
      · have hgt : (6 : Int) < o.K := by omega
        have I4 : Hid (∃ own T P n, 1 ≤ T.length ∧ WInv own W.heap.size T P n (k + 1 + 1) W.heap.size wr) := by
          obtain ⟨own, T, P, n, hT1, hinv⟩ := HI.out
          exact ⟨own, T, P, n, hT1, hinv.later (by omega)⟩
        clear hok hcell ho
        go_wp2
        go_roundg (os.length - (k + 1))
        case measure => omega
        case rel => exact ⟨k + 1, by omega, Nat.le_refl _, by go_num, HB.out, I4.out⟩
    · go_wp2
      go_ret
      exact ⟨rfl, HB.out⟩

set_option maxHeartbeats 400000 in
theorem keysLaw_any (os : List OpD) (v : Value) (W : World) (h : OpsAt W v os) (hT : ∀ w', Below W.heap.size W w' → Tab w') (hl : os.length ≤ 1048576) :
    Calls Tryz.prog 3 #[v] W fun e w' => e = .returned (.bool true) ∧ Below W.heap.size W w' := by
  have HP : Hid _ := plays_any os v W h hT hl
  clear h hT
  go_enter Tryz.func3, Tryz.ntmps3
  go_wp2_with fail
  refine Calls.mono HP.out ?_
  rintro e w1 ⟨rfl, hb⟩
  have HB : Hid (Below W.heap.size W w1) := hb
  clear hb
  go_wp2
  go_ret
  exact ⟨rfl, HB.out⟩
end Go.Proofs.YtojdkfamihlnkaaGreatDoor
