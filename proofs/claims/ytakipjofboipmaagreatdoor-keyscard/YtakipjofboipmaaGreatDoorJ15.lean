/- The walks of this proof: a pair of one's own; a key among pairs. -/
import Derived.Test.YtakipjofboipmaaGreatDoorJ13
import Derived.Test.YtakipjofboipmaaGreatDoorJ14
namespace Go.Proofs.YtakipjofboipmaaGreatDoor
open Go.RowKit Go.Sort

theorem below_of_regrown {w w' : World} (h : ∃ p : Regrown, w' = grow (redrawn w p.d) p.os) : Below w.heap.size w w' := by
  obtain ⟨p, rfl⟩ := h
  exact below_regrown w p.d p.os

theorem clone_in (s : ByteArray) (hs : s.size ≤ 1000) (w : World) (d : Nat) (os : Array Obj) :
    Calls Tryz.prog 204 #[.string s] (grow (redrawn w d) os) fun e w'' => e = .returned (.string s) ∧ ∃ p : Regrown, w'' = grow (redrawn w p.d) p.os :=
  Calls.regrown_of (clone_any s _ hs)

set_option maxHeartbeats 4000000 in
set_option maxRecDepth 100000 in
theorem own_any (p : Pr) (w : World) (hk : p.k.size ≤ 1000) (hv : p.v.size ≤ 1000) :
    Calls Tryz.prog 158 #[.agg #[.string p.k, .string p.v, .bool p.g]] w fun e w' => e = .returned (.agg #[.string p.k, .string p.v, .bool p.g]) ∧ Below w.heap.size w w' := by
  go_enter Tryz.func158, Tryz.ntmps158
  go_wp2
  have b0 := cell_regrown (w := (w.alloc (Obj.cells #[Value.string p.k, Value.string p.v, Value.bool p.g] 57)).alloc (Obj.cells #[Value.string ⟨#[]⟩, Value.string ⟨#[]⟩, Value.bool false] 57)) (a := ⟨w.heap.size, 0, none⟩) (v := .string p.k) (by simp)
  have b1 := cell_regrown (w := (w.alloc (Obj.cells #[Value.string p.k, Value.string p.v, Value.bool p.g] 57)).alloc (Obj.cells #[Value.string ⟨#[]⟩, Value.string ⟨#[]⟩, Value.bool false] 57)) (a := ⟨w.heap.size, 1, none⟩) (v := .string p.v) (by simp)
  have b2 := cell_regrown (w := (w.alloc (Obj.cells #[Value.string p.k, Value.string p.v, Value.bool p.g] 57)).alloc (Obj.cells #[Value.string ⟨#[]⟩, Value.string ⟨#[]⟩, Value.bool false] 57)) (a := ⟨w.heap.size, 2, none⟩) (v := .bool p.g) (by simp)
  refine wp_region_quiet_tail 9 (by kernel_rfl) (by kernel_rfl) ?_
  simp only [List.take_succ_cons, List.take_zero, List.drop_succ_cons, List.drop_zero]
  repeat (first | go_big_quiet_step (first | exact clone_in _ hk _ _ _ | exact clone_in _ hv _ _ _) | quiet_step (first | exact clone_in _ hk _ _ _ | exact clone_in _ hv _ _ _))
  refine wpQuiet_nil ?_
  intro w2 hw'
  have hb := below_of_regrown hw'
  clear hw' b0 b1 b2
  have r0 := (hb.cell (p := ⟨w.heap.size + 1, 0, none⟩) (by simp)).trans (by simp : _ = some (Value.string ⟨#[]⟩))
  have r1 := (hb.cell (p := ⟨w.heap.size + 1, 1, none⟩) (by simp)).trans (by simp : _ = some (Value.string ⟨#[]⟩))
  have r2 := (hb.cell (p := ⟨w.heap.size + 1, 2, none⟩) (by simp)).trans (by simp : _ = some (Value.bool false))
  have f0 := (hb.frozen (p := ⟨w.heap.size + 1, 0, none⟩) (by simp)).trans (by simp : _ = false)
  have f1 := (hb.frozen (p := ⟨w.heap.size + 1, 1, none⟩) (by simp)).trans (by simp : _ = false)
  have f2 := (hb.frozen (p := ⟨w.heap.size + 1, 2, none⟩) (by simp)).trans (by simp : _ = false)
  have HB : Hid (Below w.heap.size w w2) := below_trans' (((Below.refl _ w).alloc (Nat.le_refl _) _).alloc (by simp) _) hb
  clear hb
  go_wp2
  exact bodyPost_ret (v := .agg #[.string p.k, .string p.v, .bool p.g]) (by simp [results, Tryz.results158, go_sem, r0, r1, r2]) rfl ⟨rfl, ((HB.out.setCell (Nat.le_succ _) _).setCell (Nat.le_succ _) _).setCell (Nat.le_succ _) _⟩

set_option maxHeartbeats 1000000 in
theorem hasKey_any (L : List Pr) (v : Value) (ao : Option Addr) (cap : Nat) (key : ByteArray) (w : World) (hv : v = .slice ao L.length cap) (hl : L.length ≤ 4)
    (hc : ∀ b, ∀ (k : Nat) p, L[k]? = some p → ao = some b → b.spot = none ∧ w.cell? ⟨b.block, b.off + k * 3, none⟩ = some (.string p.k) ∧ w.cell? ⟨b.block, b.off + k * 3 + 1, none⟩ = some (.string p.v) ∧ w.cell? ⟨b.block, b.off + k * 3 + 2, none⟩ = some (.bool p.g)) (hne : 0 < L.length → ao.isSome = true) :
    Calls Tryz.prog 157 #[v, .string key] w fun e w' => e = .returned (.bool (L.any fun p => decide (p.k = key))) ∧ Below w.heap.size w w' := by
  subst hv
  have HC : Hid _ := hc
  clear hc
  go_enter Tryz.func157, Tryz.ntmps157
  go_wp2
  go_loopw [9] (fun i wr => ∃ k : Nat, k ≤ L.length ∧ i = .int .i64 k ∧ Hid (Below w.heap.size w wr) ∧ Hid (∀ j p, j < k → L[j]? = some p → p.k ≠ key)) (fun i _ => L.length - (intOf i).toNat)
  case atStart => exact ⟨0, Nat.zero_le _, rfl, Below.refl _ _, fun j p h => absurd h (Nat.not_lt_zero _)⟩
  case round =>
    obtain ⟨k, hk, rfl, HB, HN⟩ := hrel
    by_cases hlt : k < L.length
    · obtain ⟨⟨g, off, spot⟩, rfl⟩ := Option.isSome_iff_exists.1 (hne (by omega))
      obtain ⟨p, hp⟩ : ∃ p, L[k]? = some p := ⟨_, List.getElem?_eq_getElem hlt⟩
      obtain ⟨hsp, c0, c1, c2⟩ := HC.out ⟨g, off, spot⟩ k p hp rfl
      simp only at hsp c0 c1 c2
      subst hsp
      have c0 := cell_later HB.out c0
      have c1 := cell_later HB.out c1
      have c2 := cell_later HB.out c2
      have hgl : g < wr.heap.size := block_lt_of_cell c0
      have HP : Hid (L[k]? = some p) := hp
      clear hp
      by_cases hkk : p.k = key
      · have hfin : Hid ((L.any fun p => decide (p.k = key)) = true) := List.any_eq_true.2 ⟨p, List.mem_of_getElem? HP.out, by simp [hkk]⟩
        subst hkk
        go_wp2
        go_ret
        exact ⟨by rw [hfin.out]; rfl, HB.out.alloc HB.out.size _⟩
      · have hnb := str_ne hkk
        go_wp2
        go_roundw
        case rel => exact ⟨k + 1, by omega, by go_num, HB.out.alloc HB.out.size _, fun j p' hj hp' => by
          rcases Nat.lt_succ_iff_lt_or_eq.1 hj with h | rfl
          · exact HN.out j p' h hp'
          · rw [HP.out] at hp'; cases hp'; exact hkk⟩
        case measure => simp [intOf]; omega
    · have hfin : Hid ((L.any fun p => decide (p.k = key)) = false) := by
        refine List.any_eq_false.2 fun p hp => ?_
        obtain ⟨j, hj, rfl⟩ := List.getElem_of_mem hp
        simpa using HN.out j _ (by omega) (List.getElem?_eq_getElem hj)
      go_wp2
      go_ret
      exact ⟨by rw [hfin.out]; rfl, HB.out⟩
end Go.Proofs.YtakipjofboipmaaGreatDoor
