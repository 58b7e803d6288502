/- The walks of this proof: the entries of a batch. -/
import Derived.Test.YtojdkfamihlnkaaGreatDoorW16
namespace Go.Proofs.YtojdkfamihlnkaaGreatDoor
open Go.RowKit Go.Sort

theorem Tryz.info61 : (Tryz.prog.info? 61).map (fun i => (i.zero, i.size, i.bytes)) = some (some (.agg #[.string ⟨#[]⟩, .int .i64 0, .bool false, .string ⟨#[]⟩]), 4, 48) := by kernel_rfl

/-- What a batch makes of a pair. -/
def toEn (s : Int) (p : Pr) : En := ⟨p.k, s, p.g, p.v⟩

theorem one_entry (w : World) (x : En) (N : Nat) (hN : N = w.heap.size) : ∀ j u, (En.cells x)[j]? = some u → (w.alloc (.cells #[.string x.k, .int .i64 x.s, .bool x.g, .string x.v] 61)).cell? ((⟨N, 0, none⟩ : Addr).add j) = some u := by
  subst hN
  intro j u hj
  match j, hj with
  | 0, hj => simp [En.cells] at hj; subst hj; simp [Addr.add]
  | 1, hj => simp [En.cells] at hj; subst hj; simp [Addr.add]
  | 2, hj => simp [En.cells] at hj; subst hj; simp [Addr.add]
  | 3, hj => simp [En.cells] at hj; subst hj; simp [Addr.add]
  | j + 4, hj => simp [En.cells] at hj

theorem entry_one (x : En) : ∀ u ∈ En.cells x, u.oneCell' = true := by
  intro u hu; simp [En.cells] at hu; rcases hu with rfl | rfl | rfl | rfl <;> rfl

/-- What Entries comes to. -/
def EntPost (L : List Pr) (s : Int) (w : World) (e : Ending) (w' : World) : Prop :=
  ∃ v : Value, e = .returned v ∧ w'.ownsRow w.heap.size 61 4 v (L.map (toEn s)).length (ecells (L.map (toEn s))) ∧ Below w.heap.size w w'

set_option maxHeartbeats 1000000 in
set_option maxRecDepth 100000 in
theorem entries_any (L : List Pr) (v : Value) (base : Nat) (s : Int) (w : World) (h : w.ownsRow base 57 3 v L.length (pcells L)) (h4 : L.length ≤ 4) :
    Calls Tryz.prog 101 #[v, .int .i64 s] w fun e w' => EntPost L s w e w' := by
  obtain ⟨i0, hi, hz0, hz1, hz2⟩ := info_parts Tryz.info61
  have HPR : Hid (∀ w', 0 < L.length → Below w.heap.size w w' → ∃ g cap, v = .slice (some ⟨g, 0, none⟩) L.length cap ∧ base ≤ g ∧ g < w.heap.size ∧ L.length ≤ cap ∧ ∀ (k : Nat) p, L[k]? = some p → w'.cell? ⟨g, k * 3, none⟩ = some (.string p.k) ∧ w'.cell? ⟨g, k * 3 + 1, none⟩ = some (.string p.v) ∧ w'.cell? ⟨g, k * 3 + 2, none⟩ = some (.bool p.g)) := fun w' hl hb => pr_cells h hb hl
  obtain ⟨ao, cap, rfl⟩ := slice_form h
  clear h
  obtain ⟨M, hM⟩ : ∃ M, madeCells (Value.agg #[.string ⟨#[]⟩, .int .i64 0, .bool false, .string ⟨#[]⟩]).cells (((L.length : Nat) : Int).toNat * i0.size) = M := ⟨_, rfl⟩
  have hMs : M.size = L.length * 4 := by rw [← hM, size_madeCells, hz1]; simp
  have mk : ∀ W : World, (Instr.makeSlice 59 (.int .i64 0) (.int .i64 (L.length : Int))).run Tryz.prog W = .ok (.slice (some ⟨W.heap.size, 0, none⟩) 0 L.length) (W.alloc (.cells M 61)) := fun W => by
    have h := run_make (P := Tryz.prog) W 59 61 i0 (.agg #[.string ⟨#[]⟩, .int .i64 0, .bool false, .string ⟨#[]⟩]) Tryz.underlying59 hi hz0 .i64 .i64 0 (L.length : Int) (by omega) (by omega) (by rw [hz2]; omega) (by omega)
    rw [hM] at h
    simpa using h
  have OWN0 : Hid ((w.alloc (.cells M 61)).ownsRow w.heap.size 61 4 (.slice (some ⟨w.heap.size, 0, none⟩) 0 L.length) 0 []) := World.ownsRow_made w M L.length (Nat.le_refl _) (by unfold maxLen; omega) hMs
  have B0 : Hid (Below w.heap.size w (w.alloc (.cells M 61))) := (Below.refl _ _).alloc (Nat.le_refl _) _
  clear hM hMs
  go_enter Tryz.func101, Tryz.ntmps101
  go_wp2
  go_loopw [5, 13] (fun s5 i wr => ∃ k : Nat, k ≤ L.length ∧ i = .int .i64 k ∧ Hid (wr.ownsRow w.heap.size 61 4 s5 ((L.take k).map (toEn s)).length (ecells ((L.take k).map (toEn s)))) ∧ Hid (Below w.heap.size w wr)) (fun _ i _ => L.length - (intOf i).toNat)
  case atStart => exact ⟨0, Nat.zero_le _, rfl, OWN0.out, B0.out⟩
  case round =>
    clear OWN0 B0 mk
    obtain ⟨k, hk, rfl, HO, HB⟩ := hrel
    have hsz : w.heap.size ≤ wr.heap.size := HB.out.size
    have hlen : ((L.take k).map (toEn s)).length = k := by simp; omega
    by_cases hlt : k < L.length
    · obtain ⟨g, cap', hv', _, hgl, hcap, hcell⟩ := HPR.out wr (by omega) HB.out
      simp only [Value.slice.injEq, true_and] at hv'
      obtain ⟨rfl, rfl⟩ := hv'
      obtain ⟨p, hp⟩ : ∃ p, L[k]? = some p := ⟨_, List.getElem?_eq_getElem hlt⟩
      obtain ⟨c0, c1, c2⟩ := hcell k p hp
      have hgr : g < wr.heap.size := by omega
      have HT : Hid ((L.take (k + 1)).map (toEn s) = (L.take k).map (toEn s) ++ [toEn s p]) := by
        show _ = _
        rw [List.take_add_one, hp]; simp
      rw [hlen] at HO
      obtain ⟨ao5, cap5, rfl⟩ := slice_form HO.out
      clear hcell hp hlen
      go_wp2_with (at_builtin; refine wpList_append_own _ rfl (.tmp 17) (.tmp 26) 59 rfl w.heap.size 61 i0 _ 4 48 Tryz.underlying59 hi hz0 hz1 hz2 rfl (by decide) _ _ _ rfl (by exact (HO.out.alloc _).alloc _) ⟨wr.heap.size + 1, 0, none⟩ 1 1 (En.cells (toEn s p)) rfl rfl (by exact one_entry (wr.alloc _) (toEn s p) _ (by simp)) (entry_one _) (by unfold maxLen; omega) (by omega) (by simp; omega) ?_)
      intro v9 w2 ho2 hg2 _
      have HB2 : Hid (Below w.heap.size w w2) := ((HB.out.alloc HB.out.size _).alloc (by simp; omega) _).grown hg2 (by simp; omega) fun k hk => (HO.out.lt k hk).1
      have HO2 : Hid (w2.ownsRow w.heap.size 61 4 v9 ((L.take (k + 1)).map (toEn s)).length (ecells ((L.take (k + 1)).map (toEn s)))) := by
        rw [HT.out]
        have e : ecells ((L.take k).map (toEn s) ++ [toEn s p]) = ecells ((L.take k).map (toEn s)) ++ En.cells (toEn s p) := by simp [ecells]
        rw [e, List.length_append, show ((L.take k).map (toEn s)).length = k by simp; omega]
        rw [← List.map_take] at ho2
        exact ho2
      clear ho2 hg2 HO
      go_wp2
      go_roundw
      case rel => exact ⟨k + 1, by omega, by go_num, HO2, HB2⟩
      case measure => simp [intOf]; omega
    · obtain rfl : k = L.length := by omega
      rw [List.take_of_length_le (Nat.le_refl _)] at HO
      clear hlen
      go_wp2
      go_ret
      exact ⟨_, rfl, HO.out, HB.out⟩
end Go.Proofs.YtojdkfamihlnkaaGreatDoor
