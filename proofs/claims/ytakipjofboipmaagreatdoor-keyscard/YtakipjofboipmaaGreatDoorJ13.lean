/- The walks of this proof: pairs of one's own. -/
import Derived.Lib.BufferWrite
import Derived.Lib.UnsafeStr
import Derived.Test.YtakipjofboipmaaGreatDoorJ12
namespace Go.Proofs.YtakipjofboipmaaGreatDoor
open Go.RowKit Go.Sort

theorem Tryz.info5 : (Tryz.prog.info? 5).map (fun i => (i.zero, i.size, i.bytes)) = some (some (.int .u8 0), 1, 1) := by kernel_rfl

set_option maxHeartbeats 2000000 in
set_option maxRecDepth 100000 in
theorem sclone_any (s : ByteArray) (w : World) (hs : s.size ≤ 1000) :
    Calls Tryz.prog 241 #[.string s] w fun e w' => e = .returned (.string s) ∧ Below w.heap.size w w' := by
  by_cases h0 : s.size = 0
  · obtain rfl : s = ⟨#[]⟩ := by
      apply ByteArray.ext
      exact Array.eq_empty_of_size_eq_zero h0
    go_enter Tryz.func241, Tryz.ntmps241
    go_wp2
    go_ret
    exact ⟨rfl, Below.refl _ _⟩
  · obtain ⟨i0, hi, hz0, hz1, hz2⟩ := info_parts Tryz.info5
    obtain ⟨M, hM⟩ : ∃ M, madeCells (Value.int .u8 0).cells (((s.size : Nat) : Int).toNat * i0.size) = M := ⟨_, rfl⟩
    have hMs : M.size = s.size := by rw [← hM, size_madeCells, hz1]; simp
    have mk : ∀ W : World, (Instr.makeSlice 75 (.int .i64 (s.size : Int)) (.int .i64 (s.size : Int))).run Tryz.prog W = .ok (.slice (some ⟨W.heap.size, 0, none⟩) s.size s.size) (W.alloc (.cells M 5)) := fun W => by
      have h := run_make (P := Tryz.prog) W 75 5 i0 (.int .u8 0) Tryz.underlying75 hi hz0 .i64 .i64 (s.size : Int) (s.size : Int) (by omega) (by omega) (by rw [hz2]; omega) (by omega)
      rw [hM] at h
      simpa using h
    clear hM
    obtain ⟨Y, hY⟩ : ∃ Y, (M.toList.take 0 ++ Lib.byteCells s.data.toList ++ M.toList.drop (0 + s.size)).toArray = Y := ⟨_, rfl⟩
    have cp := Lib.run_copy_row_string (P := Tryz.prog) (w.alloc (.cells M 5)) 75 9 3 5 w.heap.size 0 s.size s.size s M 5 Tryz.underlying75 (by rw [hi]; simp [hz1]) (heap_alloc_new w _) (Nat.le_refl _) (by omega)
    rw [hY] at cp
    have hYl : Y.toList = Lib.byteCells s.data.toList := by
      rw [← hY, List.take_zero, List.nil_append, List.drop_of_length_le (by rw [Array.length_toList]; omega), List.append_nil]
    have row : ((w.alloc (.cells M 5)).setRow w.heap.size Y).heap[w.heap.size]? = some (.cells Y 5 (0, 0)) := setRow_heap _ _ M _ 5 (0, 0) (heap_alloc_new w _)
    have hYs : Y.size = s.size := by rw [← Array.length_toList, hYl, Lib.byteCells_length, ← Lib.size_eq]
    have us := Lib.run_unsafeString_row (P := Tryz.prog) ((w.alloc (.cells M 5)).setRow w.heap.size Y) 336 3 9 5 Tryz.underlying336 (by simp [Program.cellsOf, hi, hz1]) w.heap.size Y.size (by unfold World.shape?; rw [row]) s.data.toList
      (fun e => h0 (by rw [Lib.size_eq, e]; rfl)) (by rw [← Lib.size_eq]; omega) (by rw [← Lib.size_eq]; omega)
      (fun j x hx => Lib.cells_of_row row Y.size j _ (by rw [List.take_of_length_le (by rw [Array.length_toList]; exact Nat.le_refl _), hYl]; simp [Lib.byteCells, hx]))
    rw [← Lib.size_eq] at us
    have hz : ((s.size : Int) == 0) = false := by rw [beq_eq_false_iff_ne]; omega
    have hpos : 0 < s.size := by omega
    have B1 : Hid (Below w.heap.size w ((w.alloc (.cells M 5)).setRow w.heap.size Y)) := ((Below.refl _ w).alloc (Nat.le_refl _) _).trans ⟨rfl, rfl, rfl, by simp, fun k hk => setRow_other _ _ _ _ (by omega)⟩
    clear hY hYl row hMs
    go_enter Tryz.func241, Tryz.ntmps241
    go_wp2
    go_ret
    exact ⟨rfl, Lib.below_freeze B1.out (p := ⟨w.heap.size, 0, none⟩) (Nat.le_refl _) _⟩

set_option maxHeartbeats 400000 in
theorem clone_any (s : ByteArray) (w : World) (hs : s.size ≤ 1000) :
    Calls Tryz.prog 204 #[.string s] w fun e w' => e = .returned (.string s) ∧ Below w.heap.size w w' := by
  go_enter Tryz.func204, Tryz.ntmps204
  go_wp2_with (go_at_call 241; refine (sclone_any _ _ hs).mono ?_; rintro e w' ⟨rfl, hb⟩; have HB : Hid (Below w.heap.size w w') := hb; clear hb)
  go_ret
  exact ⟨rfl, by assumption⟩
end Go.Proofs.YtakipjofboipmaaGreatDoor
