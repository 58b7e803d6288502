/- The walks of this proof: Tables. -/
import Derived.Test.YtakipjofboipmaaGreatJ12
import Derived.Deep.RegionHeld3
import Derived.Test.YtakipjofboipmaaGreatJ14
import Derived.Deep.DeepCutAuto
namespace Go.Proofs.YtakipjofboipmaaGreat
open Go.RowKit Go.Sort

theorem Tryz.info56 : (Tryz.prog.info? 56).map (fun i => (i.zero, i.size, i.bytes)) = some (some (.agg #[.int .i64 0, .slice none 0 0]), 2, 32) := by kernel_rfl

theorem ec_one (E : List En) : ∀ u ∈ ecells E, u.oneCell' = true := by
  intro u hu
  obtain ⟨x, _, hx⟩ := List.mem_flatMap.1 hu
  exact entry_one x u hx

/-- What Clone of entries comes to. -/
def ClonePost (E : List En) (w : World) (e : Ending) (w' : World) : Prop :=
  ∃ v, e = .returned v ∧ w'.ownsRow w.heap.size 58 4 v E.length (ecells E) ∧ Below w.heap.size w w'

set_option maxHeartbeats 1000000 in
set_option maxRecDepth 100000 in
theorem cloneE_any (E : List En) (base g cap : Nat) (w : World) (ho : w.ownsRow base 58 4 (.slice (some ⟨g, 0, none⟩) E.length cap) E.length (ecells E)) (hf : E.length < 1000000000) :
    Calls Tryz.prog 128 #[.slice (some ⟨g, 0, none⟩) E.length cap] w fun e w' => ClonePost E w e w' := by
  obtain ⟨i0, hi, hz0, hz1, hz2⟩ := info_parts Tryz.info58
  have HC : Hid (∀ (w' : World), Below w.heap.size w w' → ∀ j u, (ecells E)[j]? = some u → w'.cell? ((⟨g, 0, none⟩ : Addr).add j) = some u) := fun w' hb j u hj => by
    have hjl : j < E.length * 4 := by rw [← ecells_len]; exact (List.getElem?_eq_some_iff.1 hj).1
    rw [add_lit, Nat.zero_add]
    refine cell_later hb ?_
    rw [ho.cellAt j (by omega)]
    exact hj
  have HB : Hid (Below w.heap.size w (w.alloc (.cells #[] 58))) := (Below.refl _ _).alloc (Nat.le_refl _) _
  have HO : Hid ((w.alloc (.cells #[] 58)).ownsRow w.heap.size 58 4 (.slice (some ⟨w.heap.size, 0, none⟩) 0 0) 0 []) := World.ownsRow_made w #[] 0 (Nat.le_refl _) (by unfold maxLen; omega) (by simp)
  have heq : ∀ W : World, (binOp .eql 54 (.slice (some ⟨g, 0, none⟩) E.length cap) (.slice none 0 0)).run Tryz.prog W = .ok (.bool false) W := fun W => Lib.run_eql_slice_nil W 54 58 _ _ _ _ _ Tryz.underlying54
  clear ho
  go_enter Tryz.func128, Tryz.ntmps128
  go_wp2_with (at_builtin; refine wpList_append_own _ rfl (.tmp 5) (.tmp 6) 54 rfl w.heap.size 58 i0 _ 4 48 Tryz.underlying54 hi hz0 hz1 hz2 rfl (by decide) _ 0 [] rfl (by exact HO.out) ⟨g, 0, none⟩ E.length cap (ecells E) rfl (ecells_len E) (by exact HC.out _ HB.out) (ec_one E) (by unfold maxLen; omega) (by omega) (by simp) ?_)
  intro v9 w2 ho2 hg2 _
  have HF : Hid (ClonePost E w (.returned v9) w2) := ⟨v9, rfl, by simpa using ho2, HB.out.grown hg2 (by simp) fun k hk => (HO.out.lt k hk).1⟩
  clear ho2 hg2
  go_wp2
  go_ret
  exact HF.out

/-- Tables that were told, as cells. -/
def tcells (T : List Lb) (Vs : List Value) : List Value := (T.zip Vs).flatMap fun x => [.int .i64 x.1.1, x.2]

/-- Tables that were told. -/
def TabsAt (w : World) (base : Nat) (v : Value) (T : List Lb) : Prop :=
  ∃ Vs : List Value, Vs.length = T.length ∧ w.ownsRow base 56 2 v T.length (tcells T Vs) ∧ ∀ (k : Nat) t u, T[k]? = some t → Vs[k]? = some u → w.ownsRow base 58 4 u t.2.length (ecells t.2)

/-- What Tell comes to. -/
def TellPost (t : Lb) (w : World) (e : Ending) (w' : World) : Prop :=
  ∃ v, e = .returned (.agg #[.int .i64 t.1, v]) ∧ w'.ownsRow w.heap.size 58 4 v t.2.length (ecells t.2) ∧ Below w.heap.size w w'

set_option maxHeartbeats 4000000 in
set_option maxRecDepth 100000 in
theorem tell_any (t : Lb) (base g cap b o : Nat) (w : World) (h0 : w.cell? ⟨b, o, none⟩ = some (.slice (some ⟨g, 0, none⟩) t.2.length cap)) (h1 : w.cell? ⟨b, o + 1, none⟩ = some (.int .i64 t.1))
    (ho : w.ownsRow base 58 4 (.slice (some ⟨g, 0, none⟩) t.2.length cap) t.2.length (ecells t.2)) (hf : t.2.length < 1000000000) :
    Calls Tryz.prog 78 #[.pointer (some ⟨b, o, none⟩)] w fun e w' => TellPost t w e w' := by
  have hbl : b < w.heap.size := block_lt_of_cell h0
  have B1 : Hid (Below w.heap.size w (w.alloc (.cells #[.int .i64 0, .slice none 0 0] 56))) := (Below.refl _ _).alloc (Nat.le_refl _) _
  have HC : Hid (∀ w2, Below (w.alloc (.cells #[.int .i64 0, .slice none 0 0] 56)).heap.size (w.alloc (.cells #[.int .i64 0, .slice none 0 0] 56)) w2 → Calls Tryz.prog 128 #[.slice (some ⟨g, 0, none⟩) t.2.length cap] w2 fun e w' => ClonePost t.2 w2 e w') := fun w2 hb =>
    cloneE_any t.2 base g cap w2 ((Kp.of_below (B := 0) (ts := []) (below_trans' B1.out hb)).owns ho (by simp)) hf
  have HS : Hid (∀ w2, Below (w.alloc (.cells #[.int .i64 0, .slice none 0 0] 56)).heap.size (w.alloc (.cells #[.int .i64 0, .slice none 0 0] 56)) w2 → w2.cell? ⟨b, o, none⟩ = some (.slice (some ⟨g, 0, none⟩) t.2.length cap) ∧ w2.cell? ⟨b, o + 1, none⟩ = some (.int .i64 t.1)) := fun w2 hb => ⟨cell_later (below_trans' B1.out hb) h0, cell_later (below_trans' B1.out hb) h1⟩
  have BD : Hid (Below (w.alloc (.cells #[.int .i64 0, .slice none 0 0] 56)).heap.size (w.alloc (.cells #[.int .i64 0, .slice none 0 0] 56)) (w.alloc (.cells #[.int .i64 0, .slice none 0 0] 56)).drew) := (Below.refl _ _).drew
  clear ho h0 h1
  go_enter Tryz.func78, Tryz.ntmps78
  go_wp2
  refine wp_region_held_drew (S := fun w' => w'.cell? ⟨b, o, none⟩ = some (.slice (some ⟨g, 0, none⟩) t.2.length cap) ∧ w'.cell? ⟨b, o + 1, none⟩ = some (.int .i64 t.1)) (by kernel_rfl) (HS.out _ BD.out) ?_
  intro hS
  refine wpAnyH_take (i := 0) (v := .pointer (some ⟨b, o, none⟩)) rfl (by kernel_rfl) (by kernel_rfl) (by kernel_rfl) (fun _ _ _ h => h) (Or.inl ⟨by rfl, ?_⟩) hS ?_
  · intro w0 h
    obtain ⟨k0, k1⟩ := h
    go_simp
  simp only [Act.put]
  refine wpAnyH_take (i := 1) (v := .pointer (some ⟨b, o, none⟩)) rfl (by kernel_rfl) (by kernel_rfl) (by kernel_rfl) (fun _ _ _ h => h) (Or.inl ⟨by rfl, ?_⟩) hS ?_
  · intro w0 h
    obtain ⟨k0, k1⟩ := h
    go_simp
  simp only [Act.put]
  refine wpAnyH_take (i := 2) (v := .pointer (some ⟨b, o + 1, none⟩)) rfl (by kernel_rfl) (by kernel_rfl) (by kernel_rfl) (fun _ _ _ h => h) (Or.inl ⟨by rfl, ?_⟩) hS ?_
  · intro w0 h
    obtain ⟨k0, k1⟩ := h
    go_simp
  simp only [Act.put]
  refine wpAnyH_take (i := 3) (v := .int .i64 t.1) rfl (by kernel_rfl) (by kernel_rfl) (by kernel_rfl) (fun _ _ _ h => h) (Or.inl ⟨by rfl, ?_⟩) hS ?_
  · intro w0 h
    obtain ⟨k0, k1⟩ := h
    go_simp
  simp only [Act.put]
  refine wpAnyH_take (i := 4) (v := .pointer (some ⟨b, o, none⟩)) rfl (by kernel_rfl) (by kernel_rfl) (by kernel_rfl) (fun _ _ _ h => h) (Or.inl ⟨by rfl, ?_⟩) hS ?_
  · intro w0 h
    obtain ⟨k0, k1⟩ := h
    go_simp
  simp only [Act.put]
  refine wpAnyH_take (i := 5) (v := .pointer (some ⟨b, o, none⟩)) rfl (by kernel_rfl) (by kernel_rfl) (by kernel_rfl) (fun _ _ _ h => h) (Or.inl ⟨by rfl, ?_⟩) hS ?_
  · intro w0 h
    obtain ⟨k0, k1⟩ := h
    go_simp
  simp only [Act.put]
  refine wpAnyH_take (i := 6) (v := .pointer (some ⟨b, o, none⟩)) rfl (by kernel_rfl) (by kernel_rfl) (by kernel_rfl) (fun _ _ _ h => h) (Or.inl ⟨by rfl, ?_⟩) hS ?_
  · intro w0 h
    obtain ⟨k0, k1⟩ := h
    go_simp
  simp only [Act.put]
  refine wpAnyH_take (i := 7) (v := .pointer (some ⟨b, o, none⟩)) rfl (by kernel_rfl) (by kernel_rfl) (by kernel_rfl) (fun _ _ _ h => h) (Or.inl ⟨by rfl, ?_⟩) hS ?_
  · intro w0 h
    obtain ⟨k0, k1⟩ := h
    go_simp
  simp only [Act.put]
  refine wpAnyH_take (i := 8) (v := .slice (some ⟨g, 0, none⟩) t.2.length cap) rfl (by kernel_rfl) (by kernel_rfl) (by kernel_rfl) (fun _ _ _ h => h) (Or.inl ⟨by rfl, ?_⟩) hS ?_
  · intro w0 h
    obtain ⟨k0, k1⟩ := h
    go_simp
  simp only [Act.put]
  refine wpAnyH_ready (rs := [9]) (by kernel_rfl) (by simp) ?_
  refine AllReadyH.cons rfl (fun K' hK => ?_) AllReadyH.nil
  rw [if_pos (by rfl)]
  go_wp2_with fail
  refine Calls.mono (HC.out _ BD.out) ?_
  rintro e w3 ⟨v, rfl, ho3, hb3⟩
  have hb := below_trans' BD.out hb3
  have hS3 := HS.out w3 hb
  have r0 := (hb.cell (p := ⟨w.heap.size, 0, none⟩) (by simp)).trans (by simp : _ = some (Value.int .i64 0))
  have r1 := (hb.cell (p := ⟨w.heap.size, 1, none⟩) (by simp)).trans (by simp : _ = some (Value.slice none 0 0))
  have f0 := (hb.frozen (p := ⟨w.heap.size, 0, none⟩) (by simp)).trans (by simp : _ = false)
  have f1 := (hb.frozen (p := ⟨w.heap.size, 1, none⟩) (by simp)).trans (by simp : _ = false)
  have hsz : w.heap.size < w3.heap.size := Nat.lt_of_lt_of_le (by simp) hb.size
  have HF : Hid (TellPost t w (.returned (.agg #[.int .i64 t.1, v])) ((w3.setCell ⟨w.heap.size, 0, none⟩ (.int .i64 t.1)).setCell ⟨w.heap.size, 1, none⟩ v)) := by
    have hne : v.ownBlock ≠ some w.heap.size := fun e => by
      have h := (ho3.lt _ e).1
      have h2 : w.heap.size + 1 ≤ w.heap.size := by simpa using h
      omega
    exact ⟨v, rfl, owns_base ((ho2b ho3 hne _).2 _) (by simp), ((below_trans' B1.out hb).setCell (Nat.le_refl _) _).setCell (Nat.le_refl _) _⟩
  obtain ⟨aov, capv, rfl⟩ := slice_form ho3
  have H4 : Hid (∀ u, ((w3.setCell ⟨w.heap.size, 0, none⟩ (.int .i64 t.1)).setCell ⟨w.heap.size, 1, none⟩ u).cell? ⟨b, o, none⟩ = some (.slice (some ⟨g, 0, none⟩) t.2.length cap) ∧ ((w3.setCell ⟨w.heap.size, 0, none⟩ (.int .i64 t.1)).setCell ⟨w.heap.size, 1, none⟩ u).cell? ⟨b, o + 1, none⟩ = some (.int .i64 t.1)) := fun u => by
    have hne : w.heap.size ≠ b := by omega
    refine ⟨?_, ?_⟩
    · rw [World.cell?_setCell_far _ _ _ _ hne, World.cell?_setCell_far _ _ _ _ hne]; exact hS3.1
    · rw [World.cell?_setCell_far _ _ _ _ hne, World.cell?_setCell_far _ _ _ _ hne]; exact hS3.2
  clear ho3 hb3 hb HC HS B1 BD hS
  go_wp2_with fail
  refine hK.out _ _ hS3 (fun hS => ?_)
  clear hK K' hS3
  refine wpAnyH_ready (rs := [10]) (by kernel_rfl) (by simp) ?_
  refine AllReadyH.cons rfl (fun K' hK => ?_) AllReadyH.nil
  rw [if_pos (by rfl)]
  go_wp2_with fail
  refine hK.out _ _ hS (fun _ => ?_)
  clear hK K'
  refine wpAnyH_ready (rs := [11]) (by kernel_rfl) (by simp) ?_
  refine AllReadyH.cons rfl (fun K' hK => ?_) AllReadyH.nil
  rw [if_pos (by rfl)]
  go_wp2_with fail
  refine hK.out _ _ (H4.out _) (fun _ => ?_)
  clear hK K'
  refine wpAnyH_done (by kernel_rfl) ?_ _
  go_wp2
  exact bodyPost_ret (v := .agg #[.int .i64 t.1, .slice aov t.2.length capv]) (by simp [results, Tryz.results78, go_sem, r0, r1]) rfl HF.out
end Go.Proofs.YtakipjofboipmaaGreat

/- The walks of this proof: Tables. -/
namespace Go.Proofs.YtakipjofboipmaaGreat
open Go.RowKit Go.Sort

theorem tcells_get {T : List Lb} {Vs : List Value} {k : Nat} {t : Lb} {v : Value} (ht : T[k]? = some t) (hv : Vs[k]? = some v) : (tcells T Vs)[k * 2]? = some (.int .i64 t.1) ∧ (tcells T Vs)[k * 2 + 1]? = some v := by
  have hz : (T.zip Vs)[k]? = some (t, v) := by rw [List.getElem?_zip_eq_some]; exact ⟨ht, hv⟩
  exact ⟨flat_get _ 2 (fun _ => rfl) _ k (t, v) 0 hz (by omega), flat_get _ 2 (fun _ => rfl) _ k (t, v) 1 hz (by omega)⟩

theorem tcells_len {T : List Lb} {Vs : List Value} (h : Vs.length = T.length) : (tcells T Vs).length = T.length * 2 := by
  unfold tcells
  rw [flat_len _ 2 (fun _ => rfl), List.length_zip]
  rw [h, Nat.min_self]

theorem tcells_snoc {T : List Lb} {Vs : List Value} (h : Vs.length = T.length) (t : Lb) (v : Value) : tcells (T ++ [t]) (Vs ++ [v]) = tcells T Vs ++ [.int .i64 t.1, v] := by
  unfold tcells
  rw [List.zip_append h.symm]
  simp

theorem two_new (w : World) (a b : Value) (e : TypeId) (N : Nat) (hN : N = w.heap.size) : ∀ j u, [a, b][j]? = some u → (w.alloc (.cells #[a, b] e)).cell? ((⟨N, 0, none⟩ : Addr).add j) = some u := by
  subst hN
  intro j u hj
  match j, hj with
  | 0, hj => simp at hj; subst hj; simp [Addr.add]
  | 1, hj => simp at hj; subst hj; simp [Addr.add]
  | j + 2, hj => simp at hj

/-- What Tables comes to. -/
def TabPost (T : List Lb) (w : World) (e : Ending) (w' : World) : Prop :=
  ∃ v, e = .returned v ∧ TabsAt w' w.heap.size v T ∧ Below w.heap.size w w'

set_option maxHeartbeats 4000000 in
set_option maxRecDepth 100000 in
theorem tellLaid_any (T : List Lb) (vL : Value) (D F : Nat → Prop) (sb : Nat) (w : World) (hv : w.cell? ⟨sb, 1, none⟩ = some vL) (hT : TabsIn w D F vL T) (hTf : T.length < 1000000000) (hne : ∀ t ∈ T, t.2 ≠ []) (hf : ∀ t ∈ T, t.2.length < 1000000000) :
    Calls Tryz.prog 50 #[.pointer (some ⟨sb, 0, none⟩)] w fun e w' => TabPost T w e w' := by
  obtain ⟨i0, hi, hz0, hz1, hz2⟩ := info_parts Tryz.info56
  obtain ⟨Ws, hWl, hWo, hWr⟩ := hT
  have hsb : sb < w.heap.size := block_lt_of_cell hv
  obtain ⟨ao, cap, rfl⟩ := slice_form hWo.own
  -- an element of the row, in a later world
  have HEL : Hid (∀ (k : Nat) (w2 : World), k < T.length → Below w.heap.size w w2 → ∃ (g0 g cp : Nat) (t : Lb), ao = some ⟨g0, 0, none⟩ ∧ g0 < w.heap.size ∧ T[k]? = some t ∧ T.length ≤ cap ∧ w2.cell? ⟨g0, k * 2, none⟩ = some (.slice (some ⟨g, 0, none⟩) t.2.length cp) ∧ w2.cell? ⟨g0, k * 2 + 1, none⟩ = some (.int .i64 t.1) ∧ Calls Tryz.prog 78 #[.pointer (some ⟨g0, k * 2, none⟩)] w2 fun e w' => TellPost t w2 e w') := fun k w2 hk hb => by
    obtain ⟨t, ht⟩ : ∃ t, T[k]? = some t := ⟨_, List.getElem?_eq_getElem hk⟩
    obtain ⟨u, hu⟩ : ∃ u, Ws[k]? = some u := ⟨_, List.getElem?_eq_getElem (by omega)⟩
    obtain ⟨q1, q2⟩ := lcells_get ht hu
    have hlen := lcells_len hWl
    rcases hWo.own.2 with ⟨h0, h00⟩ | ⟨g0, cap', cur, hv', _, hg, hnc, _⟩
    · omega
    · simp only [Value.slice.injEq, true_and] at hv'
      obtain ⟨rfl, rfl⟩ := hv'
      have d0 : w.cell? ⟨g0, k * 2, none⟩ = some u := by rw [hWo.own.cellAt _ (by omega)]; exact q1
      have d1 : w.cell? ⟨g0, k * 2 + 1, none⟩ = some (.int .i64 t.1) := by rw [hWo.own.cellAt _ (by omega)]; exact q2
      have hr := hWr k t u ht hu
      have htm : t ∈ T := List.mem_of_getElem? ht
      obtain ⟨g, cp, rfl, _⟩ := row_cell (fun a => by rfl) hr.own (by have := hne t htm; cases h : t.2 with | nil => exact absurd h this | cons _ _ => simp)
      have e0 := cell_later hb d0
      have e1 := cell_later hb d1
      exact ⟨g0, g, cp, t, rfl, lt_of_block hg, ht, hnc, e0, e1, tell_any t 0 g cp g0 (k * 2) w2 e0 e1 ((Kp.of_below (B := 0) (ts := []) hb).owns hr.own (by simp)) (hf t htm)⟩
  obtain ⟨M, hM⟩ : ∃ M, madeCells (Value.agg #[.int .i64 0, .slice none 0 0]).cells (((T.length : Nat) : Int).toNat * i0.size) = M := ⟨_, rfl⟩
  have hMs : M.size = T.length * 2 := by rw [← hM, size_madeCells, hz1]; simp
  have mk : ∀ W : World, (Instr.makeSlice 39 (.int .i64 0) (.int .i64 (T.length : Int))).run Tryz.prog W = .ok (.slice (some ⟨W.heap.size, 0, none⟩) 0 T.length) (W.alloc (.cells M 56)) := fun W => by
    have h := run_make (P := Tryz.prog) W 39 56 i0 (.agg #[.int .i64 0, .slice none 0 0]) Tryz.underlying39 hi hz0 .i64 .i64 0 (T.length : Int) (by omega) (by omega) (by rw [hz2]; omega) (by omega)
    rw [hM] at h
    simpa using h
  have B0 : Hid (Below w.heap.size w (w.alloc (.cells M 56))) := (Below.refl _ _).alloc (Nat.le_refl _) _
  have INV0 : Hid (∃ Vs : List Value, Vs.length = 0 ∧ (w.alloc (.cells M 56)).ownsRow w.heap.size 56 2 (.slice (some ⟨w.heap.size, 0, none⟩) 0 T.length) 0 (tcells (T.take 0) Vs) ∧ ∀ (k : Nat) t u, (T.take 0)[k]? = some t → Vs[k]? = some u → (w.alloc (.cells M 56)).ownsRow w.heap.size 58 4 u t.2.length (ecells t.2)) := by
    refine ⟨[], rfl, ?_, fun k t u h => by simp at h⟩
    simpa [tcells] using World.ownsRow_made w M T.length (Nat.le_refl _) (by unfold maxLen; omega) hMs
  have hv1 : (w.alloc (.cells M 56)).cell? ⟨sb, 1, none⟩ = some (.slice ao T.length cap) := cell_later B0.out hv
  clear hM hMs hWo hWr hWl
  go_enter Tryz.func50, Tryz.ntmps50
  go_wp2
  go_loopw [3, 16] (fun s3 i wr => ∃ k : Nat, k ≤ T.length ∧ i = .int .i64 k ∧ Hid (∃ Vs : List Value, Vs.length = k ∧ wr.ownsRow w.heap.size 56 2 s3 k (tcells (T.take k) Vs) ∧ ∀ (j : Nat) t u, (T.take k)[j]? = some t → Vs[j]? = some u → wr.ownsRow w.heap.size 58 4 u t.2.length (ecells t.2)) ∧ Hid (Below w.heap.size w wr)) (fun _ i _ => T.length - (intOf i).toNat)
  case atStart => exact ⟨0, Nat.zero_le _, rfl, INV0.out, B0.out⟩
  case round =>
    clear INV0 B0 mk hv1
    obtain ⟨k, hk, rfl, HI, HB⟩ := hrel
    have hvr := cell_later HB.out hv
    have hsbr : sb < wr.heap.size := block_lt_of_cell hvr
    by_cases hlt : k < T.length
    · obtain ⟨g0, g, cp, t, rfl, hg0, ht, hcap, d0, d1, hcall⟩ := HEL.out k wr hlt HB.out
      have HCALL : Hid _ := hcall
      have hg0r : g0 < wr.heap.size := block_lt_of_cell d0
      have HT : Hid (T[k]? = some t) := ht
      clear hcall ht
      obtain ⟨Vs, hVl, hVo, hVr⟩ := HI.out
      obtain ⟨ao3, cap3, rfl⟩ := slice_form hVo
      have HVO : Hid (wr.ownsRow w.heap.size 56 2 (.slice ao3 k cap3) k (tcells (T.take k) Vs)) := hVo
      have HVR : Hid (∀ (j : Nat) t u, (T.take k)[j]? = some t → Vs[j]? = some u → wr.ownsRow w.heap.size 58 4 u t.2.length (ecells t.2)) := hVr
      clear hVo hVr HI
      go_wp2_with fail
      refine Calls.mono HCALL.out ?_
      rintro e w2 ⟨u, rfl, ho2, hb2⟩
      have HB2 : Hid (Below w.heap.size w w2) := below_trans' HB.out hb2
      have k2 : Kp 0 [] wr w2 := Kp.of_below hb2
      have HO2 : Hid (w2.ownsRow w.heap.size 56 2 (.slice ao3 k cap3) k (tcells (T.take k) Vs)) := k2.owns HVO.out (by simp)
      have HR2 : Hid (∀ (j : Nat) t u, (T.take k)[j]? = some t → Vs[j]? = some u → w2.ownsRow w.heap.size 58 4 u t.2.length (ecells t.2)) := fun j t u h1 h2 => k2.owns (HVR.out j t u h1 h2) (by simp)
      have HU : Hid (w2.ownsRow w.heap.size 58 4 u t.2.length (ecells t.2)) := owns_base ho2 HB.out.size
      have hu1 : u.oneCell' = true := by obtain ⟨a, c, rfl⟩ := slice_form ho2; rfl
      clear ho2 hb2 k2 HVO HVR HCALL
      go_wp2_with (at_builtin; refine wpList_append_own _ rfl (.tmp 19) (.tmp 27) 39 rfl w.heap.size 56 i0 _ 2 32 Tryz.underlying39 hi hz0 hz1 hz2 rfl (by decide) _ _ _ rfl (by exact HO2.out.alloc _) ⟨w2.heap.size, 0, none⟩ 1 1 [.int .i64 t.1, u] rfl rfl (by exact two_new w2 _ _ _ _ rfl) (by intro z hz; simp at hz; rcases hz with rfl | rfl <;> first | rfl | exact hu1) (by unfold maxLen; omega) (by omega) (by have := HB2.out.size; simp; omega) ?_)
      intro v9 w3 ho3 hg3 _
      have HB3 : Hid (Below w.heap.size w w3) := (HB2.out.alloc HB2.out.size _).grown hg3 (by have := HB2.out.size; simp; omega) fun k hk => (HO2.out.lt k hk).1
      have hk3 : Kp w.heap.size [56] w2 w3 := ((Kp.refl _ _ w2).alloc _).grown (HO2.out.alloc _) hg3 (Nat.le_refl _) (by simp)
      have HI3 : Hid (∃ Vs : List Value, Vs.length = k + 1 ∧ w3.ownsRow w.heap.size 56 2 v9 (k + 1) (tcells (T.take (k + 1)) Vs) ∧ ∀ (j : Nat) t u, (T.take (k + 1))[j]? = some t → Vs[j]? = some u → w3.ownsRow w.heap.size 58 4 u t.2.length (ecells t.2)) := by
        have hl : Vs.length = (T.take k).length := by rw [List.length_take]; omega
        have e : T.take (k + 1) = T.take k ++ [t] := by rw [List.take_add_one, HT.out]; rfl
        refine ⟨Vs ++ [u], by simp [hVl], ?_, ?_⟩
        · rw [e, tcells_snoc hl]; exact ho3
        · rw [e]
          intro j t' u' h1 h2
          by_cases hj : j < k
          · rw [List.getElem?_append_left (by omega)] at h1 h2
            exact hk3.owns (HR2.out j t' u' h1 h2) (by simp)
          · have hj2 : j = k := by
              have := (List.getElem?_eq_some_iff.1 h2).1
              simp at this; omega
            subst hj2
            rw [List.getElem?_append_right (by omega)] at h1 h2
            have e1 : j - (T.take j).length = 0 := by omega
            have e2 : j - Vs.length = 0 := by omega
            rw [e1] at h1
            rw [e2] at h2
            simp only [List.getElem?_cons_zero, Option.some.injEq] at h1 h2
            subst h1 h2
            exact hk3.owns HU.out (by simp)
      clear ho3 hg3 hk3 HO2 HR2 HU HB2 HB
      go_wp2
      go_roundw
      case rel => exact ⟨k + 1, by omega, by go_num, HI3, HB3⟩
      case measure => simp [intOf]; omega
    · obtain rfl : k = T.length := by omega
      have HF : Hid (∀ s3, (∃ Vs : List Value, Vs.length = T.length ∧ wr.ownsRow w.heap.size 56 2 s3 T.length (tcells (T.take T.length) Vs) ∧ ∀ (j : Nat) t u, (T.take T.length)[j]? = some t → Vs[j]? = some u → wr.ownsRow w.heap.size 58 4 u t.2.length (ecells t.2)) → TabPost T w (.returned s3) wr) := fun s3 h => by
        rw [List.take_of_length_le (Nat.le_refl _)] at h
        exact ⟨s3, rfl, h, HB.out⟩
      clear HEL
      go_wp2
      go_ret
      exact HF.out _ HI.out

set_option maxHeartbeats 1000000 in
theorem tables_sin (N sb : Nat) (x : St) (w : World) (hx : SIn N sb x w) (ok : StOk x) :
    Calls Tryz.prog 16 #[.pointer (some ⟨sb, 0, none⟩)] w fun e w' => TabPost x.T w e w' := by
  obtain ⟨D, F, h1, h2, h3, h4, vE, vL, vR, vS, hB, hs, hE, hT, hR, hS⟩ := hx
  have c1 : w.cell? ⟨sb, 1, none⟩ = some vL := by simp [World.cell?, hs]
  have hsb : sb < w.heap.size := lt_of_block hs
  have H : Hid _ := tellLaid_any x.T vL D F sb w c1 hT ok.lv.tfew ok.lv.tne (fun t ht => Nat.lt_of_le_of_lt (sub_len (ok.lv.tsorted t ht) ok.sorted fun e he => (ok.lv.tsub t ht e he).1) ok.few)
  clear hs hE hT hR hS
  go_enter Tryz.func16, Tryz.ntmps16
  go_wp2_with fail
  refine Calls.mono H.out ?_
  rintro e w2 ⟨v, rfl, ht, hb⟩
  have HF : Hid (TabPost x.T w (.returned v) w2) := ⟨v, rfl, ht, hb⟩
  clear ht hb
  go_wp2
  go_ret
  exact HF.out
end Go.Proofs.YtakipjofboipmaaGreat

/- The walks of this proof: an entry that a batch made; an entry ahead of another; one that is newer. -/
namespace Go.Proofs.YtakipjofboipmaaGreat
open Go.RowKit Go.Sort

set_option maxHeartbeats 1000000 in
set_option maxRecDepth 100000 in
theorem less_any (a b : En) (w : World) (h : elt a b) :
    Calls Tryz.prog 48 #[a.val, b.val] w fun e w' => e = .returned (.bool true) ∧ Below w.heap.size w w' := by
  obtain ⟨k1, s1, g1, v1⟩ := a
  obtain ⟨k2, s2, g2, v2⟩ := b
  unfold En.val
  unfold elt at h
  rw [oc_lt] at h
  simp only at h
  have hle := bytesLess_kc k1 k2
  rcases h with h | ⟨h, hs⟩
  · have e : Op.bytesLess k1.toList k2.toList = true := by rw [hle]; simp [h]
    clear hle h
    go_enter Tryz.func48, Tryz.ntmps48
    go_wp2
    go_ret
    exact ⟨rfl, ((Below.refl _ _).alloc (Nat.le_refl _) _).alloc (by simp) _⟩
  · obtain rfl := h
    have e : Op.bytesLess k1.toList k1.toList = false := by rw [hle]; simp [kc_self]
    have hs2 : decide (s2 < s1) = true := by simp; omega
    clear hle
    go_enter Tryz.func48, Tryz.ntmps48
    go_wp2
    go_ret
    exact ⟨rfl, ((Below.refl _ _).alloc (Nat.le_refl _) _).alloc (by simp) _⟩

set_option maxHeartbeats 1000000 in
set_option maxRecDepth 100000 in
/-- None of a list that stands ahead is older, where all of the key are newer. -/
theorem newer_any (E : List En) (v : Value) (a : En) (w : World) (hc : EnRow w v E) (hn : E.length < 1000000000) (h : ∀ e ∈ E, e.k = a.k → a.s < e.s) :
    Calls Tryz.prog 49 #[v, a.val] w fun e w' => e = .returned (.bool false) ∧ Below w.heap.size w w' := by
  obtain ⟨ao, cap, rfl, hrow⟩ := hc.form
  obtain ⟨k2, s2, g2, v2⟩ := a
  unfold En.val
  have HH : Hid (∀ e ∈ E, e.k = k2 → s2 < e.s) := h
  have HR : Hid (0 < E.length → ∃ b, ao = some ⟨b, 0, none⟩ ∧ EnAt w b E) := hrow
  obtain ⟨W, hW⟩ : ∃ W, w.alloc (.cells #[.string k2, .int .i64 s2, .bool g2, .string v2] 58) = W := ⟨_, rfl⟩
  have HBW : Hid (Below w.heap.size w W) := by show Below _ _ _; rw [← hW]; exact (Below.refl _ _).alloc (Nat.le_refl _) _
  have b0 : W.cell? ⟨w.heap.size, 0, none⟩ = some (.string k2) := by rw [← hW]; simp
  have b1 : W.cell? ⟨w.heap.size, 1, none⟩ = some (.int .i64 s2) := by rw [← hW]; simp
  have HW : Hid (w.alloc (.cells #[.string k2, .int .i64 s2, .bool g2, .string v2] 58) = W) := hW
  clear h hrow hc hW
  go_enter Tryz.func49, Tryz.ntmps49
  go_wp2
  rw [HW.out]
  go_loopw [5] (fun i wr => ∃ k : Nat, k ≤ E.length ∧ i = .int .i64 k ∧ Hid (Below W.heap.size W wr)) (fun i _ => E.length - (intOf i).toNat)
  case atStart => exact ⟨0, Nat.zero_le _, rfl, Below.refl _ _⟩
  case round =>
    obtain ⟨k, hk, rfl, HB⟩ := hrel
    by_cases hlt : k < E.length
    · obtain ⟨b, rfl, hE⟩ := HR.out (by omega)
      obtain ⟨e, he⟩ : ∃ e, E[k]? = some e := ⟨_, List.getElem?_eq_getElem hlt⟩
      obtain ⟨c0, c1, _, _⟩ := ((hE.below HBW.out).below HB.out) k e he
      have hbl : b < wr.heap.size := block_lt_of_cell c0
      have d0 := cell_later HB.out b0
      have d1 := cell_later HB.out b1
      have hwl : w.heap.size < wr.heap.size := block_lt_of_cell d0
      have HX := HH.out e (List.mem_of_getElem? he)
      clear hE he
      have c0' := cell_regrown c0
      have c1' := cell_regrown c1
      have d0' := cell_regrown d0
      have d1' := cell_regrown d1
      by_cases hk2 : e.k = k2
      · have hd : decide (e.s ≤ s2) = false := by have := HX hk2; simp; omega
        subst hk2
        clear HX
        go_wp2_with fail
        refine wp_region_quiet_below (by kernel_rfl) (by kernel_rfl) ?_
        repeat (first | go_big_quiet_step (fail) | quiet_step (fail))
        refine wpQuiet_nil ?_
        intro w5 hw'
        have HB5 : Hid (Below W.heap.size W w5) := below_trans' HB.out (below_of_regrown hw')
        clear hw' c0' c1' d0' d1' HB c0 c1 d0 d1
        go_wp2
        go_roundw
        case rel => exact ⟨k + 1, by omega, by go_num, HB5⟩
        case measure => simp [intOf]; omega
      · have hnb := str_ne hk2
        clear HX
        go_wp2_with fail
        refine wp_region_quiet_below (by kernel_rfl) (by kernel_rfl) ?_
        repeat (first | go_big_quiet_step (fail) | quiet_step (fail))
        refine wpQuiet_nil ?_
        intro w5 hw'
        have HB5 : Hid (Below W.heap.size W w5) := below_trans' HB.out (below_of_regrown hw')
        clear hw' c0' c1' d0' d1' HB c0 c1 d0 d1
        go_wp2
        go_roundw
        case rel => exact ⟨k + 1, by omega, by go_num, HB5⟩
        case measure => simp [intOf]; omega
    · obtain rfl : k = E.length := by omega
      go_wp2
      go_ret
      exact ⟨rfl, below_trans' HBW.out HB.out⟩

set_option maxHeartbeats 2000000 in
set_option maxRecDepth 100000 in
theorem made_any (B hb : Nat) (x : St) (A : List (List Pr)) (a : En) (w : World) (hx : DeskAt B hb x A w) (ok : ∀ b ∈ A, BOk b) (hA : A.length < 100000000) (hr : Rel x.E A) (ha : a ∈ x.E) :
    Calls Tryz.prog 47 #[.pointer (some ⟨hb, 0, none⟩), a.val] w fun e w' => e = .returned (.bool true) ∧ Below w.heap.size w w' := by
  obtain ⟨i, c, p, hci, hp, rfl⟩ := (hr a).1 ha
  rw [keep_mem] at hp
  have hiA : i < A.length := (List.getElem?_eq_some_iff.1 hci).1
  have hco := ok c (List.mem_of_getElem? hci)
  have hc1 := hco.lo
  have hc4 := hco.hi
  obtain ⟨sb, vA, a2, a3, a4, a5, a6, hB, hs, _, hall⟩ := hx
  have s1 : w.cell? ⟨hb, 1, none⟩ = some vA := by simp [World.cell?, hs]
  obtain ⟨g, cap, gi, ci, rfl, hgl, cg, hgil, hce⟩ := all_cells hall hci (by omega)
  have hbl : hb < w.heap.size := lt_of_block hs
  obtain ⟨pk', pv, pg⟩ := p
  unfold En.val
  simp only [toEn]
  simp only at hp
  obtain ⟨W, hW⟩ : ∃ W, w.alloc (.cells #[.string pk', .int .i64 ((i : Int) + 1), .bool pg, .string pv] 58) = W := ⟨_, rfl⟩
  have hbW : Below w.heap.size w W := by rw [← hW]; exact (Below.refl _ _).alloc (Nat.le_refl _) _
  have HBW : Hid (Below w.heap.size w W) := hbW
  have b0 : W.cell? ⟨w.heap.size, 0, none⟩ = some (.string pk') := by rw [← hW]; simp
  have b1 : W.cell? ⟨w.heap.size, 1, none⟩ = some (.int .i64 ((i : Int) + 1)) := by rw [← hW]; simp
  have b2 : W.cell? ⟨w.heap.size, 2, none⟩ = some (.bool pg) := by rw [← hW]; simp
  have b3 : W.cell? ⟨w.heap.size, 3, none⟩ = some (.string pv) := by rw [← hW]; simp
  have s1 := cell_later hbW s1
  have cg := cell_later hbW cg
  have HCE : Hid (∀ (k : Nat) p, c[k]? = some p → W.cell? ⟨gi, k * 3, none⟩ = some (.string p.k) ∧ W.cell? ⟨gi, k * 3 + 1, none⟩ = some (.string p.v) ∧ W.cell? ⟨gi, k * 3 + 2, none⟩ = some (.bool p.g)) := fun k p h => ⟨cell_later hbW (hce k p h).1, cell_later hbW (hce k p h).2.1, cell_later hbW (hce k p h).2.2⟩
  have HW : Hid (w.alloc (.cells #[.string pk', .int .i64 ((i : Int) + 1), .bool pg, .string pv] 58) = W) := hW
  have HP : Hid (lastP c pk' = some ⟨pk', pv, pg⟩) := hp
  have hgW : g < W.heap.size := block_lt_of_cell cg
  have hbW2 : hb < W.heap.size := block_lt_of_cell s1
  have hwW : w.heap.size < W.heap.size := block_lt_of_cell b0
  have hd1 : decide ((i : Int) + 1 < 1) = false := by simp; omega
  have hd2 : decide ((A.length : Int) < (i : Int) + 1) = false := by simp; omega
  have hgiW : gi < W.heap.size := Nat.lt_of_lt_of_le hgil hbW.size
  clear hs hall hce hp hbW hW ha hr ok hco hci
  have s1' := cell_regrown s1
  have cg' := cell_regrown cg
  have b1' := cell_regrown b1
  go_enter Tryz.func47, Tryz.ntmps47
  go_wp2_with fail
  rw [HW.out]
  refine wp_region_quiet_below (by kernel_rfl) (by kernel_rfl) ?_
  repeat (first | go_big_quiet_step (fail) | quiet_step (fail))
  refine wpQuiet_nil ?_
  intro w5 hw'
  have hb5 := below_of_regrown hw'
  have HB5 : Hid (Below W.heap.size W w5) := hb5
  have s1' := cell_regrown (cell_later hb5 s1)
  have cg' := cell_regrown (cell_later hb5 cg)
  have b1' := cell_regrown (cell_later hb5 b1)
  clear hw' hb5
  go_wp2_with fail
  refine wp_region_quiet_below (by kernel_rfl) (by kernel_rfl) ?_
  repeat (first | go_big_quiet_step (fail) | quiet_step (fail))
  refine wpQuiet_nil ?_
  intro w6 hw'
  have HB6 : Hid (Below W.heap.size W w6) := below_trans' HB5.out (below_of_regrown hw')
  clear hw' HB5 s1' cg' b1'
  go_wp2
  go_loopg [6] c.length (fun kx s6 wx => ∃ r : Nat, s6 = .int .i64 ((r : Int) - 1) ∧ r ≤ kx ∧ r ≤ c.length ∧ Hid (Below W.heap.size W wx) ∧ Hid (lastP c pk' = lastP (c.take r) pk'))
  case atStart => exact ⟨c.length, rfl, Nat.le_refl _, Nat.le_refl _, HB6.out, by show _ = _; rw [List.take_of_length_le (Nat.le_refl _)]⟩
  case round =>
    clear HB6
    obtain ⟨r, rfl, hrk, hrb, HB, HL⟩ := hrel
    obtain _ | j := r
    · have := HL.out
      rw [HP.out] at this
      simp [lastP] at this
    · have e1 : (((j + 1 : Nat) : Int) - 1) = j := by omega
      rw [e1]
      clear e1
      obtain ⟨q, hq⟩ : ∃ q, c[j]? = some q := ⟨_, List.getElem?_eq_getElem (by omega)⟩
      obtain ⟨d0, d1, d2⟩ := HCE.out j q hq
      have HT : Hid (lastP c pk' = if q.k = pk' then some q else lastP (c.take j) pk') := by
        show _ = _
        rw [HL.out, lastP_take pk' hq]
      have d0 := cell_later HB.out d0
      have d1 := cell_later HB.out d1
      have d2 := cell_later HB.out d2
      have e0 := cell_later HB.out b0
      have e2 := cell_later HB.out b2
      have e3 := cell_later HB.out b3
      have d0' := cell_regrown d0
      have e0' := cell_regrown e0
      have hgr : gi < wr.heap.size := block_lt_of_cell d0
      have hwr : w.heap.size < wr.heap.size := block_lt_of_cell e0
      clear hq HL
      by_cases hk : q.k = pk'
      · have hqq : q = ⟨pk', pv, pg⟩ := by
          have := HT.out
          rw [HP.out, if_pos hk] at this
          exact (Option.some.inj this).symm
        subst hqq
        simp only at d0 d1 d2 d0'
        go_wp2_with fail
        refine wp_region_quiet_below (by kernel_rfl) (by kernel_rfl) ?_
        repeat (first | go_big_quiet_step (fail) | quiet_step (fail))
        refine wpQuiet_nil ?_
        intro w7 hw'
        have hb7 := below_of_regrown hw'
        have HB7 : Hid (Below W.heap.size W w7) := below_trans' HB.out hb7
        have d1' := cell_regrown (cell_later hb7 d1)
        have d2' := cell_regrown (cell_later hb7 d2)
        have e2' := cell_regrown (cell_later hb7 e2)
        have e3' := cell_regrown (cell_later hb7 e3)
        clear hw' hb7 d0' e0'
        go_wp2_with fail
        refine wp_region_quiet_below (by kernel_rfl) (by kernel_rfl) ?_
        repeat (first | go_big_quiet_step (fail) | quiet_step (fail))
        refine wpQuiet_nil ?_
        intro w8 hw'
        have HB8 : Hid (Below W.heap.size W w8) := below_trans' HB7.out (below_of_regrown hw')
        clear hw' HB7
        go_wp2
        go_ret
        exact ⟨rfl, below_trans' HBW.out HB8.out⟩
      · have hnb := str_ne hk
        go_wp2_with fail
        refine wp_region_quiet_below (by kernel_rfl) (by kernel_rfl) ?_
        repeat (first | go_big_quiet_step (fail) | quiet_step (fail))
        refine wpQuiet_nil ?_
        intro w7 hw'
        have HB7 : Hid (Below W.heap.size W w7) := below_trans' HB.out (below_of_regrown hw')
        clear hw' d0' e0'
        go_wp2
        go_roundg j
        case measure => omega
        case rel => exact ⟨j, rfl, Nat.le_refl _, by omega, HB7.out, by show _ = _; rw [HT.out, if_neg hk]⟩
end Go.Proofs.YtakipjofboipmaaGreat

/- The walks of this proof: tables that stand as they should. -/
namespace Go.Proofs.YtakipjofboipmaaGreat
open Go.RowKit Go.Sort

/-- Tables that stand as they should, of entries of E. -/
structure Shape (E : List En) (T : List Lb) : Prop where
  few : T.length < 1000000000
  lev2 : ∀ t ∈ T, 0 ≤ t.1 ∧ t.1 ≤ 2
  ne : ∀ t ∈ T, t.2 ≠ []
  lev : T.Pairwise fun a b => a.1 < b.1 ∨ (a.1 = 0 ∧ b.1 = 0)
  sorted : ∀ t ∈ T, Sorted t.2
  sub : ∀ t ∈ T, ∀ e ∈ t.2, e ∈ E
  lens : ∀ t ∈ T, t.2.length < 1000000000
  lay : LayX (T.map (·.2))

theorem StOk.shape {x : St} (ok : StOk x) : Shape x.E x.T where
  few := ok.lv.tfew
  lev2 := ok.lv.lev2
  ne := ok.lv.tne
  lev := ok.lv.lev
  sorted := ok.lv.tsorted
  sub t ht e he := (ok.lv.tsub t ht e he).1
  lens t ht := Nat.lt_of_le_of_lt (sub_len (ok.lv.tsorted t ht) ok.sorted fun e he => (ok.lv.tsub t ht e he).1) ok.few
  lay := ok.lv.lay

theorem Shape.newer {E : List En} {T : List Lb} (h : Shape E T) {i j : Nat} {t u : Lb} (hu : T[j]? = some u) (ht : T[i]? = some t) (hji : j < i) {a : En} (ha : a ∈ t.2) : ∀ e ∈ u.2, e.k = a.k → a.s < e.s := by
  intro e he hk
  have hl := h.lay
  unfold LayX at hl
  rw [List.pairwise_map, List.pairwise_iff_getElem] at hl
  obtain ⟨h1, rfl⟩ := List.getElem?_eq_some_iff.1 hu
  obtain ⟨h2, rfl⟩ := List.getElem?_eq_some_iff.1 ht
  exact hl j i h1 h2 hji e he a ha hk

theorem Shape.levs {E : List En} {T : List Lb} (h : Shape E T) {i j : Nat} {t u : Lb} (hu : T[j]? = some u) (ht : T[i]? = some t) (hji : j < i) : u.1 < t.1 ∨ (u.1 = 0 ∧ t.1 = 0) := by
  have hl := h.lev
  rw [List.pairwise_iff_getElem] at hl
  obtain ⟨h1, rfl⟩ := List.getElem?_eq_some_iff.1 hu
  obtain ⟨h2, rfl⟩ := List.getElem?_eq_some_iff.1 ht
  exact hl j i h1 h2 hji

/-- The cells of tables that were told. -/
theorem TabsAt.cells {w : World} {base : Nat} {v : Value} {T : List Lb} (h : TabsAt w base v T) (hl : 0 < T.length) (hne : ∀ t ∈ T, t.2 ≠ []) :
    ∃ g cap, v = .slice (some ⟨g, 0, none⟩) T.length cap ∧ T.length ≤ cap ∧ g < w.heap.size ∧ ∀ (k : Nat) t, T[k]? = some t → ∃ gk ck, w.cell? ⟨g, k * 2, none⟩ = some (.int .i64 t.1) ∧ w.cell? ⟨g, k * 2 + 1, none⟩ = some (.slice (some ⟨gk, 0, none⟩) t.2.length ck) ∧ t.2.length ≤ ck ∧ gk < w.heap.size ∧ EnAt w gk t.2 := by
  obtain ⟨Vs, hV, ho, hr⟩ := h
  rcases ho.2 with ⟨_, h0⟩ | ⟨g, cap, cur, rfl, _, hg, hnc, _⟩
  · omega
  · refine ⟨g, cap, rfl, hnc, lt_of_block hg, fun k t ht => ?_⟩
    have hk : k < T.length := (List.getElem?_eq_some_iff.1 ht).1
    obtain ⟨u, hu⟩ : ∃ u, Vs[k]? = some u := ⟨_, List.getElem?_eq_getElem (by omega)⟩
    obtain ⟨q1, q2⟩ := tcells_get ht hu
    have hlen := tcells_len hV
    have htm : t ∈ T := List.mem_of_getElem? ht
    have hn0 : 0 < t.2.length := by have := hne t htm; cases h : t.2 with | nil => exact absurd h this | cons _ _ => simp
    obtain ⟨gk, ck, rfl, _, hgk, hck, hcell⟩ := row_cell (fun a => by rfl) (hr k t u ht hu) hn0
    refine ⟨gk, ck, ?_, ?_, hck, hgk, fun j e he => ⟨hcell j e 0 he (by omega), hcell j e 1 he (by omega), hcell j e 2 he (by omega), hcell j e 3 he (by omega)⟩⟩
    · rw [ho.cellAt _ (by omega)]; exact q1
    · rw [ho.cellAt _ (by omega)]; exact q2

theorem TabsAt.kept {w w' : World} {base N : Nat} {ts : List Nat} {v : Value} {T : List Lb} (h : TabsAt w base v T) (k : Kp N ts w w') (h1 : 56 ∉ ts) (h2 : 58 ∉ ts) : TabsAt w' base v T := by
  obtain ⟨Vs, hV, ho, hr⟩ := h
  exact ⟨Vs, hV, k.owns ho h1, fun i t u a b => k.owns (hr i t u a b) h2⟩

theorem TabsAt.below {w w' : World} {base : Nat} {v : Value} {T : List Lb} (h : TabsAt w base v T) (hb : Below w.heap.size w w') : TabsAt w' base v T := h.kept (Kp.of_below (B := 0) (ts := []) hb) (by simp) (by simp)

theorem less_in (a b : En) (h : elt a b) (w : World) (d : Nat) (os : Array Obj) :
    Calls Tryz.prog 48 #[a.val, b.val] (grow (redrawn w d) os) fun e w'' => e = .returned (.bool true) ∧ ∃ p : Regrown, w'' = grow (redrawn w p.d) p.os :=
  Calls.regrown_of (less_any a b _ h)

theorem newer_in (E : List En) (v : Value) (a : En) (w : World) (hc : EnRow w v E) (hn : E.length < 1000000000) (h : ∀ e ∈ E, e.k = a.k → a.s < e.s) (d : Nat) (os : Array Obj) :
    Calls Tryz.prog 49 #[v, a.val] (grow (redrawn w d) os) fun e w'' => e = .returned (.bool false) ∧ ∃ p : Regrown, w'' = grow (redrawn w p.d) p.os :=
  Calls.regrown_of (newer_any E v a _ (hc.below (below_of_regrown ⟨⟨d, os⟩, rfl⟩)) hn h)

set_option maxHeartbeats 4000000 in
set_option maxRecDepth 100000 in
theorem shaped_any (B hb : Nat) (x : St) (A : List (List Pr)) (T : List Lb) (base : Nat) (v : Value) (w : World) (hx : DeskAt B hb x A w) (ok : ShOk x A) (hT : TabsAt w base v T) (sh : Shape x.E T) :
    Calls Tryz.prog 15 #[.pointer (some ⟨hb, 0, none⟩), v] w fun e w' => e = .returned (.bool true) ∧ Below w.heap.size w w' := by
  have SH : Hid (Shape x.E T) := sh
  have HT : Hid (TabsAt w base v T) := hT
  have hTf := sh.few
  have HM : Hid (∀ (a : En) (w' : World), a ∈ x.E → Below w.heap.size w w' → Calls Tryz.prog 47 #[.pointer (some ⟨hb, 0, none⟩), a.val] w' fun e w'' => e = .returned (.bool true) ∧ Below w'.heap.size w' w'') := fun a w' ha hbw => made_any B hb x A a w' (hx.below hbw) ok.ok ok.few ok.rel ha
  obtain ⟨aoV, capV, rfl⟩ : ∃ ao cap, v = .slice ao T.length cap := by obtain ⟨Vs, _, ho, _⟩ := hT; exact slice_form ho
  clear hx ok hT sh
  go_enter Tryz.func15, Tryz.ntmps15
  go_wp2
  go_loopg [5, 6, 7, 8, 9] T.length (fun kx i _ _ _ _ wr => ∃ k : Nat, k ≤ T.length ∧ i = .int .i64 k ∧ T.length - k ≤ kx ∧ Hid (Below w.heap.size w wr))
  case atStart => exact ⟨0, Nat.zero_le _, rfl, Nat.le_refl _, Below.refl _ _⟩
  case round =>
    obtain ⟨i, hi, rfl, hkx, HB⟩ := hrel
    by_cases hlt : i < T.length
    · obtain ⟨g, cap, hv, hcap, hgl, hcell⟩ := (HT.out.below HB.out).cells (by omega) SH.out.ne
      simp only [Value.slice.injEq, true_and] at hv
      obtain ⟨rfl, rfl⟩ := hv
      obtain ⟨t, ht⟩ : ∃ t, T[i]? = some t := ⟨_, List.getElem?_eq_getElem hlt⟩
      have htm : t ∈ T := List.mem_of_getElem? ht
      obtain ⟨gi, ci, c0, c1, hci, hgi, hEn⟩ := hcell i t ht
      obtain ⟨W, hW⟩ : ∃ W, wr.alloc (.cells #[.int .i64 t.1, .slice (some ⟨gi, 0, none⟩) t.2.length ci] 56) = W := ⟨_, rfl⟩
      have hbW : Below wr.heap.size wr W := by rw [← hW]; exact (Below.refl _ _).alloc (Nat.le_refl _) _
      have HBW : Hid (Below w.heap.size w W) := below_trans' HB.out hbW
      have b0 : W.cell? ⟨wr.heap.size, 0, none⟩ = some (.int .i64 t.1) := by rw [← hW]; simp
      have b1 : W.cell? ⟨wr.heap.size, 1, none⟩ = some (.slice (some ⟨gi, 0, none⟩) t.2.length ci) := by rw [← hW]; simp
      have HW : Hid (wr.alloc (.cells #[.int .i64 t.1, .slice (some ⟨gi, 0, none⟩) t.2.length ci] 56) = W) := hW
      have HEN : Hid (EnAt W gi t.2) := hEn.below hbW
      have HCE : Hid (∀ (k : Nat) t, T[k]? = some t → ∃ gk ck, W.cell? ⟨g, k * 2, none⟩ = some (.int .i64 t.1) ∧ W.cell? ⟨g, k * 2 + 1, none⟩ = some (.slice (some ⟨gk, 0, none⟩) t.2.length ck) ∧ t.2.length ≤ ck ∧ gk < W.heap.size ∧ EnAt W gk t.2) := fun k u hu => by
        obtain ⟨gk, ck, q0, q1, q2, q3, q4⟩ := hcell k u hu
        exact ⟨gk, ck, cell_later hbW q0, cell_later hbW q1, q2, Nat.lt_of_lt_of_le q3 hbW.size, q4.below hbW⟩
      have hl2 := SH.out.lev2 t htm
      have hlen := SH.out.lens t htm
      have hl0 : 0 < t.2.length := by have := SH.out.ne t htm; cases h : t.2 with | nil => exact absurd h this | cons _ _ => simp
      have hgW : g < W.heap.size := Nat.lt_of_lt_of_le hgl hbW.size
      have hgiW : gi < W.heap.size := Nat.lt_of_lt_of_le hgi hbW.size
      have hwW : wr.heap.size < W.heap.size := block_lt_of_cell b0
      have HTT : Hid (T[i]? = some t ∧ t ∈ T) := ⟨ht, htm⟩
      have hz : (((t.2.length : Nat) : Int) == 0) = false := beq_eq_false_iff_ne.2 (by omega)
      have hd0 : decide (t.1 < 0) = false := by simp; omega
      have hd2 : decide (2 < t.1) = false := by simp; omega
      have b0' := cell_regrown b0
      have b1' := cell_regrown b1
      -- what stands ahead
      have AHEAD : Hid (i = 0 ∨ ∃ (j : Nat) (u : Lb), i = j + 1 ∧ W.cell? ⟨g, j * 2, none⟩ = some (.int .i64 u.1) ∧ (u.1 < t.1 ∨ (u.1 = 0 ∧ t.1 = 0))) := by
        obtain _ | j := i
        · exact .inl rfl
        · have hjl : j < T.length := by omega
          obtain ⟨u, hu⟩ : ∃ u, T[j]? = some u := ⟨_, List.getElem?_eq_getElem hjl⟩
          obtain ⟨gk, ck, q0, _⟩ := HCE.out j u hu
          exact .inr ⟨j, u, rfl, q0, SH.out.levs hu ht (by omega)⟩
      clear hcell hEn ht htm hW hbW HB
      go_upto_region 5 with fail
      rw [HW.out]
      go_cut [64] (fun s64 wx => s64 = .bool false ∧ Hid (Below W.heap.size W wx))
      case first =>
        rcases AHEAD.out with h0 | ⟨j, u, hij, q0, hlev⟩
        · subst h0
          refine wp_region_quiet_below (by kernel_rfl) (by kernel_rfl) ?_
          repeat (first | go_big_quiet_step (fail) | quiet_step (fail))
          refine wpQuiet_nil ?_
          intro w5 hw'
          have HB5 : Hid (Below W.heap.size W w5) := below_of_regrown hw'
          go_wp2_with fail
          go_meet
          exact ⟨rfl, HB5⟩
        · subst hij
          have q0' := cell_regrown q0
          have hdp : decide ((0 : Int) < ((j + 1 : Nat) : Int)) = true := decide_eq_true (by omega)
          have hw1 : IntKind.i64.wrap (((j + 1 : Nat) : Int) - 1) = (j : Int) := by rw [IntKind.wrap_i64]; omega
          rcases hlev with hlev | ⟨hu0, ht0⟩
          · have hd5 : decide (t.1 < u.1) = false := by simp; omega
            have hd6 : (u.1 == t.1) = false := by simp; omega
            refine wp_region_quiet_below (by kernel_rfl) (by kernel_rfl) ?_
            repeat (first | go_big_quiet_step (fail) | quiet_step (fail))
            refine wpQuiet_nil ?_
            intro w5 hw'
            have HB5 : Hid (Below W.heap.size W w5) := below_of_regrown hw'
            go_wp2_with fail
            go_meet
            exact ⟨rfl, HB5⟩
          · have hd5 : decide (t.1 < u.1) = false := by simp; omega
            have hd6 : (u.1 == t.1) = true := by simp; omega
            have hd7 : decide (0 < t.1) = false := by simp; omega
            refine wp_region_quiet_below (by kernel_rfl) (by kernel_rfl) ?_
            repeat (first | go_big_quiet_step (fail) | quiet_step (fail))
            refine wpQuiet_nil ?_
            intro w5 hw'
            have HB5 : Hid (Below W.heap.size W w5) := below_of_regrown hw'
            go_wp2_with fail
            go_meet
            exact ⟨rfl, HB5⟩
      case rest =>
        obtain ⟨rfl, HBC⟩ := hcut
        clear AHEAD b0' b1' hz hd0 hd2
        go_wp2
        go_loopg [7, 8, 9] t.2.length (fun kx i7 _ _ wq => ∃ k : Nat, k ≤ t.2.length ∧ i7 = .int .i64 k ∧ t.2.length - k ≤ kx ∧ Hid (Below W.heap.size W wq))
        case atStart => exact ⟨0, Nat.zero_le _, rfl, Nat.le_refl _, HBC⟩
        case round =>
          clear HBC
          obtain ⟨k, hk, rfl, hkx2, HB2⟩ := hrel
          have b1q := cell_later HB2.out b1
          have hwq := block_lt_of_cell b1q
          by_cases hkl : k < t.2.length
          · obtain ⟨a, ha⟩ : ∃ a, t.2[k]? = some a := ⟨_, List.getElem?_eq_getElem hkl⟩
            obtain ⟨c0, c1, c2, c3⟩ := (HEN.out.below HB2.out) k a ha
            have hgq : gi < wr.heap.size := block_lt_of_cell c0
            have HAM : Hid (a ∈ t.2) := List.mem_of_getElem? ha
            have HMC : Hid (Calls Tryz.prog 47 #[.pointer (some ⟨hb, 0, none⟩), .agg #[.string a.k, .int .i64 a.s, .bool a.g, .string a.v]] wr fun e w'' => e = .returned (.bool true) ∧ Below wr.heap.size wr w'') := HM.out a wr (SH.out.sub t HTT.out.2 a HAM.out) (below_trans' HBW.out HB2.out)
            have PREV : Hid (k = 0 ∨ ∃ (m : Nat) (p : En), k = m + 1 ∧ elt p a ∧ wr.cell? ⟨gi, m * 4, none⟩ = some (.string p.k) ∧ wr.cell? ⟨gi, m * 4 + 1, none⟩ = some (.int .i64 p.s) ∧ wr.cell? ⟨gi, m * 4 + 2, none⟩ = some (.bool p.g) ∧ wr.cell? ⟨gi, m * 4 + 3, none⟩ = some (.string p.v)) := by
              obtain _ | m := k
              · exact .inl rfl
              · have hml : m < t.2.length := by omega
                obtain ⟨p, hp⟩ : ∃ p, t.2[m]? = some p := ⟨_, List.getElem?_eq_getElem hml⟩
                obtain ⟨d0, d1, d2, d3⟩ := (HEN.out.below HB2.out) m p hp
                refine .inr ⟨m, p, rfl, ?_, d0, d1, d2, d3⟩
                have hso := SH.out.sorted t HTT.out.2
                unfold Sorted at hso
                rw [List.pairwise_iff_getElem] at hso
                obtain ⟨e1, rfl⟩ := List.getElem?_eq_some_iff.1 ha
                obtain ⟨e2, rfl⟩ := List.getElem?_eq_some_iff.1 hp
                exact hso m (m + 1) e2 e1 (by omega)
            have HAK : Hid (t.2[k]? = some a) := ha
            clear ha
            go_wp2_with fail
            refine Calls.mono HMC.out ?_
            rintro e w3 ⟨rfl, hb3⟩
            have HB3 : Hid (Below W.heap.size W w3) := below_trans' HB2.out hb3
            have c0 := cell_later hb3 c0
            have c1 := cell_later hb3 c1
            have c2 := cell_later hb3 c2
            have c3 := cell_later hb3 c3
            have b1r := cell_later hb3 b1q
            have hwr3 := block_lt_of_cell b1r
            have hgr3 : gi < w3.heap.size := block_lt_of_cell c0
            have c0' := cell_regrown c0
            have c1' := cell_regrown c1
            have c2' := cell_regrown c2
            have c3' := cell_regrown c3
            have b1' := cell_regrown b1r
            have PREV3 : Hid (k = 0 ∨ ∃ (m : Nat) (p : En), k = m + 1 ∧ elt p a ∧ w3.cell? ⟨gi, m * 4, none⟩ = some (.string p.k) ∧ w3.cell? ⟨gi, m * 4 + 1, none⟩ = some (.int .i64 p.s) ∧ w3.cell? ⟨gi, m * 4 + 2, none⟩ = some (.bool p.g) ∧ w3.cell? ⟨gi, m * 4 + 3, none⟩ = some (.string p.v)) := by
              rcases PREV.out with h | ⟨m, p, h1, h2, d0, d1, d2, d3⟩
              · exact .inl h
              · exact .inr ⟨m, p, h1, h2, cell_later hb3 d0, cell_later hb3 d1, cell_later hb3 d2, cell_later hb3 d3⟩
            clear hb3 HMC PREV HB2
            go_upto_region 11 with fail
            go_cut [99] (fun s99 wx => s99 = .bool false ∧ Hid (Below W.heap.size W wx))
            case first =>
              rcases PREV3.out with h0 | ⟨m, p, hkm, hpa, d0, d1, d2, d3⟩
              · subst h0
                refine wp_region_quiet_below (by kernel_rfl) (by kernel_rfl) ?_
                repeat (first | go_big_quiet_step (fail) | quiet_step (fail))
                refine wpQuiet_nil ?_
                intro w5 hw'
                have HB5 : Hid (Below W.heap.size W w5) := below_trans' HB3.out (below_of_regrown hw')
                clear hw'
                go_wp2_with fail
                go_meet
                exact ⟨rfl, HB5⟩
              · subst hkm
                have d0' := cell_regrown d0
                have d1' := cell_regrown d1
                have d2' := cell_regrown d2
                have d3' := cell_regrown d3
                have hdp : decide ((0 : Int) < ((m + 1 : Nat) : Int)) = true := decide_eq_true (by omega)
                have hw1 : IntKind.i64.wrap (((m + 1 : Nat) : Int) - 1) = (m : Int) := by rw [IntKind.wrap_i64]; omega
                have HLI : Hid (∀ d os, Calls Tryz.prog 48 #[.agg #[.string p.k, .int .i64 p.s, .bool p.g, .string p.v], .agg #[.string a.k, .int .i64 a.s, .bool a.g, .string a.v]] (grow (redrawn w3 d) os) fun e w'' => e = .returned (.bool true) ∧ ∃ p : Regrown, w'' = grow (redrawn w3 p.d) p.os) := fun d os => less_in p a hpa w3 d os
                refine wp_region_quiet_below (by kernel_rfl) (by kernel_rfl) ?_
                repeat (first | go_big_quiet_step (exact HLI.out _ _) | quiet_step (exact HLI.out _ _))
                refine wpQuiet_nil ?_
                intro w5 hw'
                have HB5 : Hid (Below W.heap.size W w5) := below_trans' HB3.out (below_of_regrown hw')
                clear hw'
                go_wp2_with fail
                go_meet
                exact ⟨rfl, HB5⟩
            case rest =>
              obtain ⟨rfl, HBD⟩ := hcut
              clear PREV3 HB3 c0' c1' c2' c3' b1' b1r c0 c1 c2 c3 hwr3 hgr3
              go_wp2
              go_loopg [9] i (fun kx i9 wx => ∃ j : Nat, j ≤ i ∧ i9 = .int .i64 j ∧ i - j ≤ kx ∧ Hid (Below W.heap.size W wx))
              case atStart => exact ⟨0, Nat.zero_le _, rfl, Nat.le_refl _, HBD⟩
              case round =>
                clear HBD
                obtain ⟨j, hj, rfl, hkx3, HB4⟩ := hrel
                have b1s := cell_later HB4.out b1
                have hws := block_lt_of_cell b1s
                by_cases hji : j < i
                · have hjT : j < T.length := by omega
                  obtain ⟨u, hu⟩ : ∃ u, T[j]? = some u := ⟨_, List.getElem?_eq_getElem hjT⟩
                  obtain ⟨gj, cj, q0, q1, q2, q3, q4⟩ := HCE.out j u hu
                  have hum : u ∈ T := List.mem_of_getElem? hu
                  have HNI : Hid (∀ d os, Calls Tryz.prog 49 #[.slice (some ⟨gj, 0, none⟩) u.2.length cj, .agg #[.string a.k, .int .i64 a.s, .bool a.g, .string a.v]] (grow (redrawn wr d) os) fun e w'' => e = .returned (.bool false) ∧ ∃ p : Regrown, w'' = grow (redrawn wr p.d) p.os) := fun d os => newer_in u.2 _ a wr (.inr ⟨gj, cj, rfl, q2, q4.below HB4.out⟩) (SH.out.lens u hum) (SH.out.newer hu HTT.out.1 hji HAM.out) d os
                  have q1' := cell_regrown (cell_later HB4.out q1)
                  have b1' := cell_regrown b1s
                  have hgs : g < wr.heap.size := block_lt_of_cell (cell_later HB4.out q1)
                  obtain ⟨c0, c1, c2, c3⟩ := (HEN.out.below HB4.out) k a HAK.out
                  have c0' := cell_regrown c0
                  have c1' := cell_regrown c1
                  have c2' := cell_regrown c2
                  have c3' := cell_regrown c3
                  clear q4 hu hum
                  go_wp2_with fail
                  refine wp_region_quiet_below (by kernel_rfl) (by kernel_rfl) ?_
                  repeat (first | go_big_quiet_step (exact HNI.out _ _) | quiet_step (exact HNI.out _ _))
                  refine wpQuiet_nil ?_
                  intro w5 hw'
                  have HB5 : Hid (Below W.heap.size W w5) := below_trans' HB4.out (below_of_regrown hw')
                  clear hw' c0' c1' c2' c3' b1' q1' c0 c1 c2 c3
                  go_wp2
                  go_roundg (i - (j + 1))
                  case measure => omega
                  case rel => exact ⟨j + 1, by omega, by go_num, Nat.le_refl _, HB5⟩
                · obtain rfl : j = i := by omega
                  go_wp2
                  go_roundg (t.2.length - (k + 1))
                  case measure => omega
                  case rel => exact ⟨k + 1, by omega, by go_num, Nat.le_refl _, HB4⟩
          · obtain rfl : k = t.2.length := by omega
            have HBE : Hid (Below w.heap.size w wr) := below_trans' HBW.out HB2.out
            go_wp2
            go_roundg (T.length - (i + 1))
            case measure => omega
            case rel => exact ⟨i + 1, by omega, by go_num, Nat.le_refl _, HBE⟩
    · obtain rfl : i = T.length := by omega
      go_wp2
      go_ret
      exact ⟨rfl, HB.out⟩
end Go.Proofs.YtakipjofboipmaaGreat
