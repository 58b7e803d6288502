/- The walks of this proof: Flush. -/
import Derived.Test.YtakipjofboipmaaGreatJ10
import Derived.Deep.RegionHeld
namespace Go.Proofs.YtakipjofboipmaaGreat
open Go.RowKit Go.Sort

/-- A table more, its entries in block g, which is no longer the store's to write. -/
def Less (D : Nat → Prop) (g : Nat) : Nat → Prop := fun k => D k ∧ k ≠ g
def More (F : Nat → Prop) (g : Nat) : Nat → Prop := fun k => F k ∨ k = g

theorem OwnsIn.less {w : World} {D : Nat → Prop} {e : TypeId} {size : Nat} {v : Value} {n : Nat} {xs : List Value} {g : Nat} (h : OwnsIn w D e size v n xs) (hg : v.ownBlock ≠ some g) : OwnsIn w (Less D g) e size v n xs :=
  ⟨h.own, fun g' hg' => ⟨h.dom g' hg', fun e => hg (by rw [hg', e])⟩⟩

theorem OwnsIn.other {w : World} {D : Nat → Prop} {e e' : TypeId} {size : Nat} {v : Value} {n : Nat} {xs : List Value} {g : Nat} {c : Array Value} {f : Nat × Nat} (h : OwnsIn w D e size v n xs) (hg : w.heap[g]? = some (.cells c e' f)) (he : e ≠ e') : v.ownBlock ≠ some g := fun hv => by
  rcases h.own.2 with ⟨rfl, _⟩ | ⟨g', cap, cur, rfl, _, hgg, _⟩
  · simp [Value.ownBlock] at hv
  · simp only [Value.ownBlock, Option.some.injEq] at hv
    subst hv
    rw [hg] at hgg
    simp only [Option.some.injEq, Obj.cells.injEq] at hgg
    exact he hgg.2.1.symm

theorem lc_one {T : List Lb} {Vs : List Value} {w : World} {F : Nat → Prop} (hr : ∀ (k : Nat) t v, T[k]? = some t → Vs[k]? = some v → OwnsIn w F 58 4 v t.2.length (ecells t.2)) : ∀ u ∈ lcells T Vs, u.oneCell' = true := by
  intro u hu
  obtain ⟨x, hx, hu⟩ := List.mem_flatMap.1 hu
  obtain ⟨k, hk⟩ := List.mem_iff_getElem?.1 hx
  rw [List.getElem?_zip_eq_some] at hk
  obtain ⟨ao, cap, hv⟩ := slice_form (hr k x.1 x.2 hk.1 hk.2).own
  simp only [List.mem_cons, List.not_mem_nil, or_false] at hu
  rcases hu with rfl | rfl
  · rw [hv]; rfl
  · rfl

/-- What layDown comes to. -/
def LaidPost (D F : Nat → Prop) (sb : Nat) (vR a3 a4 a5 a6 a7 : Value) (T : List Lb) (R : List En) (w : World) (e : Ending) (w' : World) : Prop :=
  e = .returned (.tuple #[]) ∧ ∃ (g : Nat) (vL : Value), D g ∧ w.heap.size ≤ g ∧ g < w'.heap.size ∧ w'.heap[sb]? = some (.cells #[.slice none 0 0, vL, vR, a3, a4, a5, a6, a7] 118 (0, 0)) ∧ TabsIn w' (Less D g) (More F g) vL ((0, R) :: T) ∧ Kd D [118, 169] w w' ∧ (∃ c f, w'.heap[g]? = some (.cells c 58 f))

set_option maxHeartbeats 4000000 in
set_option maxRecDepth 100000 in
theorem layDown_any (D F : Nat → Prop) (sb : Nat) (vE vL vR a3 a4 a5 a6 a7 : Value) (T : List Lb) (O : List En) (Q : List Int) (vQ : Value) (w : World) (hs : w.heap[sb]? = some (.cells #[vE, vL, vR, a3, a4, a5, a6, a7] 118 (0, 0))) (hB : D sb) (hD : Opn D w) (hE : OwnsIn w D 58 4 vE O.length (ecells O)) (hT : TabsIn w D F vL T) (hsO : Sorted O) (hO1 : O ≠ []) (hfew : O.length < 100000000) (hTf : T.length < 1000000000) (hQ : IntRow w vQ Q) (h4 : Q.length ≤ 4) :
    Calls Tryz.prog 57 #[.pointer (some ⟨sb, 0, none⟩), vQ] w fun e w' => LaidPost D F sb vR a3 a4 a5 a6 a7 T (ndAll Q false O) w e w' := by
  have hOl : 1 ≤ O.length := List.length_pos_iff.2 hO1
  obtain ⟨R, hR⟩ : ∃ R, ndAll Q false O = R := ⟨_, rfl⟩
  have hRl : 1 ≤ R.length := by rw [← hR]; exact List.length_pos_iff.2 (ndAll_ne Q hO1)
  have hsb : sb < w.heap.size := lt_of_block hs
  obtain ⟨Vs, hVl, hTo, hTr⟩ := hT
  obtain ⟨g, cap, rfl, hg0, hgl, hcap, hcell⟩ := row_cell (fun a => by rfl) hE.own (by omega)
  have hEn : EnAt w g O := fun j e he => ⟨hcell j e 0 he (by omega), hcell j e 1 he (by omega), hcell j e 2 he (by omega), hcell j e 3 he (by omega)⟩
  have c0 : w.cell? ⟨sb, 0, none⟩ = some (.slice (some ⟨g, 0, none⟩) O.length cap) := by simp [World.cell?, hs]
  have c1 : w.cell? ⟨sb, 1, none⟩ = some vL := by simp [World.cell?, hs]
  have HDN : Hid (Calls Tryz.prog 94 #[.pointer (some ⟨sb, 0, none⟩), vQ] w.drew fun e w' => DownPost R w.drew e w') := by
    rw [← hR]
    exact down_any Q vQ O sb g cap w.drew c0 hEn hgl hcap hfew hsO hQ h4
  obtain ⟨aoL, capL, hvL⟩ := slice_form hTo.own
  have HINS : Hid (∀ (w2 : World) (v : Value), Below w.heap.size w w2 → w2.ownsRow w.heap.size 58 4 v R.length (ecells R) →
      Calls Tryz.prog 93 #[vL, .int .i64 0, .slice (some ⟨w2.heap.size, 0, none⟩) 1 1] (w2.alloc (.cells #[v, .int .i64 0] 169)) fun e w' => InsPost D T.length 0 (lcells T Vs) v (.int .i64 0) (w2.alloc (.cells #[v, .int .i64 0] 169)) e w') := fun w2 v hb ho => by
    obtain ⟨ao, cp, hv⟩ := slice_form ho
    exact insert_any D vL T.length 0 (lcells T Vs) v (.int .i64 0) w2.heap.size (w2.alloc (.cells #[v, .int .i64 0] 169)) ((hTo.below hb).alloc _) ((hD.later hb.size).later (by simp)) (lc_one hTr) (heap_alloc_new w2 _) ⟨by rw [hv]; rfl, rfl⟩ (fun e => by have := ((hTo.below hb).own.lt _ e).2; omega) (Nat.zero_le _) hTf
  have HFIN : Hid (∀ (w2 w4 : World) (v v' : Value), Below w.heap.size w w2 → w2.ownsRow w.heap.size 58 4 v R.length (ecells R) → OwnsIn w4 D 169 2 v' (T.length + 1) ((lcells T Vs).take (0 * 2) ++ [v, .int .i64 0] ++ (lcells T Vs).drop (0 * 2)) → Kd D [169] (w2.alloc (.cells #[v, .int .i64 0] 169)) w4 →
      w4.heap[sb]? = some (.cells #[.slice (some ⟨g, 0, none⟩) O.length cap, vL, vR, a3, a4, a5, a6, a7] 118 (0, 0)) ∧
      LaidPost D F sb vR a3 a4 a5 a6 a7 T R w (.returned (.tuple #[])) ((w4.setCell ⟨sb, 1, none⟩ v').setCell ⟨sb, 0, none⟩ (.slice none 0 0))) := fun w2 w4 v v' hb ho ho' hk => by
    have k24 : Kd D [118, 169] w w4 := ((Kd.of_below hb).trans ((Kd.refl D _ w2).alloc _)).trans (hk.mono (by simp))
    have k24' : Kd D [169] w w4 := ((Kd.of_below hb).trans ((Kd.refl D _ w2).alloc _)).trans hk
    have hs4 := k24'.keep hs (by simp)
    refine ⟨hs4, rfl, ?_⟩
    obtain ⟨gR, cp, rfl, hbR, hgR⟩ := ho.form (by omega)
    obtain ⟨cur, hcur⟩ : ∃ cur, w2.heap[gR]? = some (.cells cur 58 (0, 0)) := by
      rcases ho.2 with ⟨h, h0⟩ | ⟨g', cp', cur, hv, _, hg', _⟩
      · omega
      · simp only [Value.slice.injEq, Option.some.injEq, Addr.mk.injEq, and_true] at hv
        obtain ⟨rfl, _⟩ := hv
        exact ⟨cur, hg'⟩
    have hkA : Kd D [169] w2 w4 := ((Kd.refl D _ w2).alloc _).trans hk
    have hg4 : w4.heap[gR]? = some (.cells cur 58 (0, 0)) := hkA.keep hcur (by simp)
    have k5 := Kd.field hB hs4 1 v'
    have s5 := set_field hs4 1 v'
    simp only [List.setIfInBounds_toArray, List.set_cons_succ, List.set_cons_zero] at s5
    have k6 := Kd.field hB s5 0 (.slice none 0 0)
    have s6 := set_field s5 0 (.slice none 0 0)
    simp only [List.setIfInBounds_toArray, List.set_cons_zero] at s6
    have k46 : Kd D [118] w4 ((w4.setCell ⟨sb, 1, none⟩ v').setCell ⟨sb, 0, none⟩ (.slice none 0 0)) := k5.trans k6
    have hDg : D gR := hD gR hbR
    refine ⟨gR, v', hDg, hbR, Nat.lt_of_lt_of_le (lt_of_block hg4) k46.size, s6, ⟨.slice (some ⟨gR, 0, none⟩) R.length cp :: Vs, by simp [hVl], ?_, ?_⟩, k24.trans (k46.mono (by simp)), cur, (0, 0), k46.keep hg4 (by simp)⟩
    · have h7 := k46.ownsIn ho' (by simp)
      have h8 := h7.less (h7.other (k46.keep hg4 (by simp)) (by decide))
      simpa [lcells] using h8
    · intro i t u ht hu
      cases i with
      | zero =>
        simp only [List.getElem?_cons_zero, Option.some.injEq] at ht hu
        subst ht hu
        exact ⟨owns_base (k46.owns (hkA.owns ho (by simp)) (by simp)) (Nat.zero_le _), fun g' e => .inr (by simp only [Value.ownBlock, Option.some.injEq] at e; exact e.symm)⟩
      | succ i =>
        simp only [List.getElem?_cons_succ] at ht hu
        have := hTr i t u ht hu
        exact ⟨k46.owns (k24'.owns this.own (by simp)) (by simp), fun g' e => .inl (this.dom g' e)⟩
  rw [hR]
  obtain ⟨aoQ, capQ, rfl, hqq⟩ := hQ
  subst hvL
  have HF : Hid (Opn D w) := hD
  clear hs hD hE hTo hTr hVl hsO hcell hEn hqq hR hO1
  go_enter Tryz.func57, Tryz.ntmps57
  go_wp2
  refine wp_region_held_drew (S := fun _ => True) (by kernel_rfl) trivial ?_
  intro _
  refine wpAnyH_take (i := 0) (v := .pointer (some ⟨sb, 0, none⟩)) rfl (by kernel_rfl) (by kernel_rfl) (by kernel_rfl) (fun _ _ _ h => h) (Or.inl ⟨by rfl, ?_⟩) trivial ?_
  · intro w0 _
    go_simp
  simp only [Act.put]
  refine wpAnyH_take (i := 1) (v := .pointer (some ⟨sb, 0, none⟩)) rfl (by kernel_rfl) (by kernel_rfl) (by kernel_rfl) (fun _ _ _ h => h) (Or.inl ⟨by rfl, ?_⟩) trivial ?_
  · intro w0 _
    go_simp
  simp only [Act.put]
  refine wpAnyH_take (i := 2) (v := .pointer (some ⟨sb, 0, none⟩)) rfl (by kernel_rfl) (by kernel_rfl) (by kernel_rfl) (fun _ _ _ h => h) (Or.inl ⟨by rfl, ?_⟩) trivial ?_
  · intro w0 _
    go_simp
  simp only [Act.put]
  refine wpAnyH_take (i := 3) (v := .pointer (some ⟨sb, 1, none⟩)) rfl (by kernel_rfl) (by kernel_rfl) (by kernel_rfl) (fun _ _ _ h => h) (Or.inl ⟨by rfl, ?_⟩) trivial ?_
  · intro w0 _
    go_simp
  simp only [Act.put]
  refine wpAnyH_take (i := 5) (v := .pointer (some ⟨sb, 0, none⟩)) rfl (by kernel_rfl) (by kernel_rfl) (by kernel_rfl) (fun _ _ _ h => h) (Or.inl ⟨by rfl, ?_⟩) trivial ?_
  · intro w0 _
    go_simp
  simp only [Act.put]
  refine wpAnyH_take (i := 6) (v := .pointer (some ⟨sb, 0, none⟩)) rfl (by kernel_rfl) (by kernel_rfl) (by kernel_rfl) (fun _ _ _ h => h) (Or.inl ⟨by rfl, ?_⟩) trivial ?_
  · intro w0 _
    go_simp
  simp only [Act.put]
  refine wpAnyH_take (i := 7) (v := .pointer (some ⟨sb, 0, none⟩)) rfl (by kernel_rfl) (by kernel_rfl) (by kernel_rfl) (fun _ _ _ h => h) (Or.inl ⟨by rfl, ?_⟩) trivial ?_
  · intro w0 _
    go_simp
  simp only [Act.put]
  refine wpAnyH_take (i := 8) (v := .slice aoQ Q.length capQ) rfl (by kernel_rfl) (by kernel_rfl) (by kernel_rfl) (fun _ _ _ h => h) (Or.inl ⟨by rfl, ?_⟩) trivial ?_
  · intro w0 _
    go_simp
  simp only [Act.put]
  refine wpAnyH_ready (rs := [4, 9]) (by kernel_rfl) (by simp) ?_
  refine AllReadyH.cons rfl (fun K' hK => ?_) (AllReadyH.cons rfl (fun K' hK => ?_) AllReadyH.nil)
  · rw [if_pos (by rfl)]
    go_wp2_with fail
    refine hK.out _ _ trivial (fun _ => ?_)
    clear hK K'
    refine wpAnyH_ready (rs := [9]) (by kernel_rfl) (by simp) ?_
    refine AllReadyH.cons rfl (fun K' hK => ?_) AllReadyH.nil
    rw [if_pos (by rfl)]
    go_wp2_with fail
    refine HDN.out.mono ?_
    rintro e w2 ⟨v, rfl, ho2, hb2'⟩
    have hb2 : Below w.heap.size w w2 := ⟨hb2'.os, hb2'.tape, hb2'.output, hb2'.size, hb2'.block⟩
    have B2 : Hid (Below w.heap.size w w2 ∧ w2.ownsRow w.heap.size 58 4 v R.length (ecells R)) := ⟨hb2, ho2⟩
    obtain ⟨aoR, capR, rfl⟩ := slice_form ho2
    clear ho2 hb2' hb2
    go_wp2_with fail
    refine hK.out _ _ trivial (fun _ => ?_)
    clear hK K'
    refine wpAnyH_ready (rs := [10]) (by kernel_rfl) (by simp) ?_
    refine AllReadyH.cons rfl (fun K' hK => ?_) AllReadyH.nil
    rw [if_pos (by rfl)]
    go_wp2_with fail
    refine hK.out _ _ trivial (fun _ => ?_)
    clear hK K'
    refine wpAnyH_ready (rs := [11]) (by kernel_rfl) (by simp) ?_
    refine AllReadyH.cons rfl (fun K' hK => ?_) AllReadyH.nil
    rw [if_pos (by rfl)]
    go_wp2_with fail
    refine Calls.mono (HINS.out w2 _ B2.out.1 B2.out.2) ?_
    rintro e w4 ⟨v', rfl, ho4, hk4⟩
    have hf := HFIN.out w2 w4 _ v' B2.out.1 B2.out.2 ho4 hk4
    have m1 : w4.cell? ⟨sb, 1, none⟩ = some (.slice aoL T.length capL) := by simp [World.cell?, hf.1]
    have f1 : w4.frozen? ⟨sb, 1, none⟩ = false := by simp [World.frozen?, hf.1]
    have m0 : (w4.setCell ⟨sb, 1, none⟩ v').cell? ⟨sb, 0, none⟩ = some (.slice (some ⟨g, 0, none⟩) O.length cap) := by simp [World.cell?, set_field hf.1 1 v']
    have f0 : (w4.setCell ⟨sb, 1, none⟩ v').frozen? ⟨sb, 0, none⟩ = false := by simp [World.frozen?, set_field hf.1 1 v']
    have FIN : Hid (LaidPost D F sb vR a3 a4 a5 a6 a7 T R w (.returned (.tuple #[])) ((w4.setCell ⟨sb, 1, none⟩ v').setCell ⟨sb, 0, none⟩ (.slice none 0 0))) := hf.2
    have hsb4 : sb < w4.heap.size := lt_of_block hf.1
    obtain ⟨ao', cap', rfl⟩ := slice_form ho4.own
    clear ho4 hk4 hf HINS HFIN HDN
    go_wp2_with fail
    refine hK.out _ _ trivial (fun _ => ?_)
    clear hK K'
    refine wpAnyH_take (i := 12) (v := .pointer (some ⟨sb, 0, none⟩)) rfl (by kernel_rfl) (by kernel_rfl) (by kernel_rfl) (fun _ _ _ h => h) (Or.inl ⟨by rfl, ?_⟩) trivial ?_
    · intro w0 _
      go_simp
    simp only [Act.put]
    refine wpAnyH_take (i := 13) (v := .pointer (some ⟨sb, 1, none⟩)) rfl (by kernel_rfl) (by kernel_rfl) (by kernel_rfl) (fun _ _ _ h => h) (Or.inl ⟨by rfl, ?_⟩) trivial ?_
    · intro w0 _
      go_simp
    simp only [Act.put]
    refine wpAnyH_ready (rs := [14]) (by kernel_rfl) (by simp) ?_
    refine AllReadyH.cons rfl (fun K' hK => ?_) AllReadyH.nil
    rw [if_pos (by rfl)]
    go_wp2_with fail
    refine hK.out _ _ trivial (fun _ => ?_)
    clear hK K'
    refine wpAnyH_done (by kernel_rfl) ?_ _
    go_wp2
    go_end0
    exact FIN.out
  · rw [if_pos (by rfl)]
    go_wp2_with fail
    refine HDN.out.mono ?_
    rintro e w2 ⟨v, rfl, ho2, hb2'⟩
    have hb2 : Below w.heap.size w w2 := ⟨hb2'.os, hb2'.tape, hb2'.output, hb2'.size, hb2'.block⟩
    have B2 : Hid (Below w.heap.size w w2 ∧ w2.ownsRow w.heap.size 58 4 v R.length (ecells R)) := ⟨hb2, ho2⟩
    have c1' := cell_later hb2 c1
    have hsb2 : sb < w2.heap.size := block_lt_of_cell c1'
    obtain ⟨aoR, capR, rfl⟩ := slice_form ho2
    clear ho2 hb2' hb2
    go_wp2_with fail
    refine hK.out _ _ trivial (fun _ => ?_)
    clear hK K'
    refine wpAnyH_ready (rs := [4, 10]) (by kernel_rfl) (by simp) ?_
    refine AllReadyH.cons rfl (fun K' hK => ?_) (AllReadyH.cons rfl (fun K' hK => ?_) AllReadyH.nil)
    · rw [if_pos (by rfl)]
      go_wp2_with fail
      refine hK.out _ _ trivial (fun _ => ?_)
      clear hK K'
      refine wpAnyH_ready (rs := [10]) (by kernel_rfl) (by simp) ?_
      refine AllReadyH.cons rfl (fun K' hK => ?_) AllReadyH.nil
      rw [if_pos (by rfl)]
      go_wp2_with fail
      refine hK.out _ _ trivial (fun _ => ?_)
      clear hK K' c1'
      refine wpAnyH_ready (rs := [11]) (by kernel_rfl) (by simp) ?_
      refine AllReadyH.cons rfl (fun K' hK => ?_) AllReadyH.nil
      rw [if_pos (by rfl)]
      go_wp2_with fail
      refine Calls.mono (HINS.out w2 _ B2.out.1 B2.out.2) ?_
      rintro e w4 ⟨v', rfl, ho4, hk4⟩
      have hf := HFIN.out w2 w4 _ v' B2.out.1 B2.out.2 ho4 hk4
      have m1 : w4.cell? ⟨sb, 1, none⟩ = some (.slice aoL T.length capL) := by simp [World.cell?, hf.1]
      have f1 : w4.frozen? ⟨sb, 1, none⟩ = false := by simp [World.frozen?, hf.1]
      have m0 : (w4.setCell ⟨sb, 1, none⟩ v').cell? ⟨sb, 0, none⟩ = some (.slice (some ⟨g, 0, none⟩) O.length cap) := by simp [World.cell?, set_field hf.1 1 v']
      have f0 : (w4.setCell ⟨sb, 1, none⟩ v').frozen? ⟨sb, 0, none⟩ = false := by simp [World.frozen?, set_field hf.1 1 v']
      have FIN : Hid (LaidPost D F sb vR a3 a4 a5 a6 a7 T R w (.returned (.tuple #[])) ((w4.setCell ⟨sb, 1, none⟩ v').setCell ⟨sb, 0, none⟩ (.slice none 0 0))) := hf.2
      have hsb4 : sb < w4.heap.size := lt_of_block hf.1
      obtain ⟨ao', cap', rfl⟩ := slice_form ho4.own
      clear ho4 hk4 hf HINS HFIN HDN
      go_wp2_with fail
      refine hK.out _ _ trivial (fun _ => ?_)
      clear hK K'
      refine wpAnyH_take (i := 12) (v := .pointer (some ⟨sb, 0, none⟩)) rfl (by kernel_rfl) (by kernel_rfl) (by kernel_rfl) (fun _ _ _ h => h) (Or.inl ⟨by rfl, ?_⟩) trivial ?_
      · intro w0 _
        go_simp
      simp only [Act.put]
      refine wpAnyH_take (i := 13) (v := .pointer (some ⟨sb, 1, none⟩)) rfl (by kernel_rfl) (by kernel_rfl) (by kernel_rfl) (fun _ _ _ h => h) (Or.inl ⟨by rfl, ?_⟩) trivial ?_
      · intro w0 _
        go_simp
      simp only [Act.put]
      refine wpAnyH_ready (rs := [14]) (by kernel_rfl) (by simp) ?_
      refine AllReadyH.cons rfl (fun K' hK => ?_) AllReadyH.nil
      rw [if_pos (by rfl)]
      go_wp2_with fail
      refine hK.out _ _ trivial (fun _ => ?_)
      clear hK K'
      refine wpAnyH_done (by kernel_rfl) ?_ _
      go_wp2
      go_end0
      exact FIN.out
    · rw [if_pos (by rfl)]
      go_wp2_with fail
      refine hK.out _ _ trivial (fun _ => ?_)
      clear hK K'
      refine wpAnyH_ready (rs := [4]) (by kernel_rfl) (by simp) ?_
      refine AllReadyH.cons rfl (fun K' hK => ?_) AllReadyH.nil
      rw [if_pos (by rfl)]
      go_wp2_with fail
      refine hK.out _ _ trivial (fun _ => ?_)
      clear hK K' c1'
      refine wpAnyH_ready (rs := [11]) (by kernel_rfl) (by simp) ?_
      refine AllReadyH.cons rfl (fun K' hK => ?_) AllReadyH.nil
      rw [if_pos (by rfl)]
      go_wp2_with fail
      refine Calls.mono (HINS.out w2 _ B2.out.1 B2.out.2) ?_
      rintro e w4 ⟨v', rfl, ho4, hk4⟩
      have hf := HFIN.out w2 w4 _ v' B2.out.1 B2.out.2 ho4 hk4
      have m1 : w4.cell? ⟨sb, 1, none⟩ = some (.slice aoL T.length capL) := by simp [World.cell?, hf.1]
      have f1 : w4.frozen? ⟨sb, 1, none⟩ = false := by simp [World.frozen?, hf.1]
      have m0 : (w4.setCell ⟨sb, 1, none⟩ v').cell? ⟨sb, 0, none⟩ = some (.slice (some ⟨g, 0, none⟩) O.length cap) := by simp [World.cell?, set_field hf.1 1 v']
      have f0 : (w4.setCell ⟨sb, 1, none⟩ v').frozen? ⟨sb, 0, none⟩ = false := by simp [World.frozen?, set_field hf.1 1 v']
      have FIN : Hid (LaidPost D F sb vR a3 a4 a5 a6 a7 T R w (.returned (.tuple #[])) ((w4.setCell ⟨sb, 1, none⟩ v').setCell ⟨sb, 0, none⟩ (.slice none 0 0))) := hf.2
      have hsb4 : sb < w4.heap.size := lt_of_block hf.1
      obtain ⟨ao', cap', rfl⟩ := slice_form ho4.own
      clear ho4 hk4 hf HINS HFIN HDN
      go_wp2_with fail
      refine hK.out _ _ trivial (fun _ => ?_)
      clear hK K'
      refine wpAnyH_take (i := 12) (v := .pointer (some ⟨sb, 0, none⟩)) rfl (by kernel_rfl) (by kernel_rfl) (by kernel_rfl) (fun _ _ _ h => h) (Or.inl ⟨by rfl, ?_⟩) trivial ?_
      · intro w0 _
        go_simp
      simp only [Act.put]
      refine wpAnyH_take (i := 13) (v := .pointer (some ⟨sb, 1, none⟩)) rfl (by kernel_rfl) (by kernel_rfl) (by kernel_rfl) (fun _ _ _ h => h) (Or.inl ⟨by rfl, ?_⟩) trivial ?_
      · intro w0 _
        go_simp
      simp only [Act.put]
      refine wpAnyH_ready (rs := [14]) (by kernel_rfl) (by simp) ?_
      refine AllReadyH.cons rfl (fun K' hK => ?_) AllReadyH.nil
      rw [if_pos (by rfl)]
      go_wp2_with fail
      refine hK.out _ _ trivial (fun _ => ?_)
      clear hK K'
      refine wpAnyH_done (by kernel_rfl) ?_ _
      go_wp2
      go_end0
      exact FIN.out
end Go.Proofs.YtakipjofboipmaaGreat

/- The walks of this proof: Flush. -/
namespace Go.Proofs.YtakipjofboipmaaGreat
open Go.RowKit Go.Sort

/-- What Flush comes to. -/
def FlushPost (D F : Nat → Prop) (sb : Nat) (x : St) (w : World) (e : Ending) (w' : World) : Prop :=
  (x.B = [] ∧ e = .returned (.int .i64 8) ∧ w' = w) ∨
  (x.B ≠ [] ∧ e = .returned (.int .i64 0) ∧ ∃ g, w.heap.size ≤ g ∧ g < w'.heap.size ∧ StoreAt (Less D g) (More F g) sb x.fl w' ∧ Kd D [118, 169] w w')

theorem M_len {x : St} (ok : StOk x) : x.M.length ≤ x.E.length := sub_len ok.lv.msorted ok.sorted fun e he => ((ok.lv.mem e).1 he).1

set_option maxHeartbeats 2000000 in
set_option maxRecDepth 100000 in
theorem flush_any (D F : Nat → Prop) (sb : Nat) (x : St) (w : World) (hx : StoreAt D F sb x w) (hD : Opn D w) (ok : StOk x) (hfew : x.E.length < 100000000) (hTf : x.T.length + 1 < 1000000000) :
    Calls Tryz.prog 19 #[.pointer (some ⟨sb, 0, none⟩)] w fun e w' => FlushPost D F sb x w e w' := by
  have HR : Hid _ := hasRecords_any x D F sb w hx ok
  obtain ⟨vE, vL, vR, vS, hB, hs, hE, hT, hRr, hS⟩ := hx
  have hsb : sb < w.heap.size := lt_of_block hs
  by_cases hb : x.B = []
  · have hd : decide (x.B ≠ []) = false := by simp [hb]
    rw [hd] at HR
    clear hs hE hT hRr hS
    go_enter Tryz.func19, Tryz.ntmps19
    go_wp2_with fail
    refine Calls.mono HR.out ?_
    rintro e w0 ⟨rfl, rfl⟩
    go_wp2
    go_ret
    exact .inl ⟨hb, rfl, rfl⟩
  · have hd : decide (x.B ≠ []) = true := by simp [hb]
    rw [hd] at HR
    have c5 : w.cell? ⟨sb, 5, none⟩ = some vS := by simp [World.cell?, hs]
    have HQ : Hid (Calls Tryz.prog 58 #[.pointer (some ⟨sb, 5, none⟩)] w.drew fun e w' => ∃ vq, e = .returned vq ∧ IntRow w' vq x.Q ∧ Below w.drew.heap.size w.drew w') := snapSeqs_any x.S vS 0 sb w.drew ok.snaps c5 hS.own
    have hMl := M_len ok
    have HL : Hid (∀ w1 vq, Below w.heap.size w w1 → IntRow w1 vq x.Q → Calls Tryz.prog 57 #[.pointer (some ⟨sb, 0, none⟩), vq] w1 fun e w' => LaidPost D F sb vR (.int .i64 (rl (x.B.take x.sy))) (.int .i64 x.la) vS (.int .i64 x.lastSnap) (.int .i64 x.last) x.T (ndAll x.Q false x.M) w1 e w') := fun w1 vq hb1 hq =>
      layDown_any D F sb vE vL vR _ _ _ _ _ x.T x.M x.Q vq w1 ((hb1.block sb hsb).trans hs) hB (hD.later hb1.size) (hE.below hb1) (hT.kd (Kd.of_below (D := D) (ts := []) hb1) (by simp) (by simp)) ok.lv.msorted (M_ne ok hb) (by omega) (by omega) hq (by show (x.S.map (·.q)).length ≤ 4; rw [List.length_map]; exact ok.snaps)
    have HF : Hid (∀ w1 w2 e, Below w.heap.size w w1 → LaidPost D F sb vR (.int .i64 (rl (x.B.take x.sy))) (.int .i64 x.la) vS (.int .i64 x.lastSnap) (.int .i64 x.last) x.T (ndAll x.Q false x.M) w1 e w2 →
        ∃ vL', w2.heap[sb]? = some (.cells #[.slice none 0 0, vL', vR, .int .i64 (rl (x.B.take x.sy)), .int .i64 x.la, vS, .int .i64 x.lastSnap, .int .i64 x.last] 118 (0, 0)) ∧
        FlushPost D F sb x w (.returned (.int .i64 0)) (((w2.setCell ⟨sb, 2, none⟩ (.slice none 0 0)).setCell ⟨sb, 3, none⟩ (.int .i64 0)).setCell ⟨sb, 4, none⟩ (.int .i64 x.last))) := fun w1 w2 e hb1 h => by
      obtain ⟨_, g, vL', hDg, hg1, hg2, hs2, hT2, hk2, c, f, hgc⟩ := h
      refine ⟨vL', hs2, .inr ⟨hb, rfl, g, Nat.le_trans hb1.size hg1, ?_⟩⟩
      have s3 := set_field hs2 2 (.slice none 0 0)
      simp only [List.setIfInBounds_toArray, List.set_cons_succ, List.set_cons_zero] at s3
      have s4 := set_field s3 3 (.int .i64 0)
      simp only [List.setIfInBounds_toArray, List.set_cons_succ, List.set_cons_zero] at s4
      have s5 := set_field s4 4 (.int .i64 x.last)
      simp only [List.setIfInBounds_toArray, List.set_cons_succ, List.set_cons_zero] at s5
      have k : Kd D [118] w2 (((w2.setCell ⟨sb, 2, none⟩ (.slice none 0 0)).setCell ⟨sb, 3, none⟩ (.int .i64 0)).setCell ⟨sb, 4, none⟩ (.int .i64 x.last)) := ((Kd.field hB hs2 2 _).trans (Kd.field hB s3 3 _)).trans (Kd.field hB s4 4 _)
      have hsg : sb ≠ g := fun e => by rw [← e, hs2] at hgc; simp at hgc
      have kS : Kd D [118, 169] w (((w2.setCell ⟨sb, 2, none⟩ (.slice none 0 0)).setCell ⟨sb, 3, none⟩ (.int .i64 0)).setCell ⟨sb, 4, none⟩ (.int .i64 x.last)) := ((Kd.of_below hb1).trans hk2).trans (k.mono (by simp))
      have hS5 := kS.ownsIn hS (by simp)
      refine ⟨Nat.lt_of_lt_of_le hg2 k.size, ⟨.slice none 0 0, vL', .slice none 0 0, vS, ⟨hB, hsg⟩, ?_, ?_, ?_, ?_, ?_⟩, kS⟩
      · exact s5
      · exact ⟨World.ownsRow_nil _ _ _ _, fun g' e => by simp [Value.ownBlock] at e⟩
      · exact hT2.kd k (by simp) (by simp)
      · exact OwnsJ.nil _ _
      · exact hS5.less (hS5.other (k.keep hgc (by simp)) (by decide))
    clear hs hE hT hRr hS ok hMl hD
    go_enter Tryz.func19, Tryz.ntmps19
    go_wp2_with fail
    refine Calls.mono HR.out ?_
    rintro e w0 ⟨rfl, rfl⟩
    go_wp2
    go_region_with (first
      | (go_at_call 58; refine Calls.mono HQ.out ?_; rintro e w1 ⟨vq, rfl, hq, hb1⟩; have B1 : Hid (Below w0.heap.size w0 w1 ∧ IntRow w1 vq x.Q) := ⟨⟨hb1.os, hb1.tape, hb1.output, hb1.size, hb1.block⟩, hq⟩; obtain ⟨aoq, capq, rfl, _⟩ := hq; clear hb1)
      | (go_at_call 57; refine Calls.mono (HL.out _ _ B1.out.1 B1.out.2) ?_; rintro e w2 hlp; obtain ⟨vL', hs2, hfin⟩ := HF.out _ _ _ B1.out.1 hlp; obtain ⟨rfl, _⟩ := hlp; have FIN : Hid (FlushPost D F sb x w0 (.returned (.int .i64 0)) (((w2.setCell ⟨sb, 2, none⟩ (.slice none 0 0)).setCell ⟨sb, 3, none⟩ (.int .i64 0)).setCell ⟨sb, 4, none⟩ (.int .i64 x.last))) := hfin; have HS2 : Hid _ := hs2; clear hfin hs2))
    have c7 : w2.cell? ⟨sb, 7, none⟩ = some (.int .i64 x.last) := by simp [World.cell?, HS2.out]
    have c2 : w2.cell? ⟨sb, 2, none⟩ = some vR := by simp [World.cell?, HS2.out]
    have c3 : w2.cell? ⟨sb, 3, none⟩ = some (.int .i64 (rl (x.B.take x.sy))) := by simp [World.cell?, HS2.out]
    have c4 : w2.cell? ⟨sb, 4, none⟩ = some (.int .i64 x.la) := by simp [World.cell?, HS2.out]
    have f2 : w2.frozen? ⟨sb, 2, none⟩ = false := by simp [World.frozen?, HS2.out]
    have f3 : w2.frozen? ⟨sb, 3, none⟩ = false := by simp [World.frozen?, HS2.out]
    have f4 : w2.frozen? ⟨sb, 4, none⟩ = false := by simp [World.frozen?, HS2.out]
    go_wp2
    go_ret
    exact FIN.out
end Go.Proofs.YtakipjofboipmaaGreat

/- The walks of this proof: where the tables of a level begin. -/
namespace Go.Proofs.YtakipjofboipmaaGreat
open Go.RowKit Go.Sort

set_option maxHeartbeats 400000 in
theorem start1_any (v : Value) (l lev : Int) (pb : Nat) (w : World) (h : w.cell? ⟨pb, 0, none⟩ = some (.int .i64 l)) :
    Calls Tryz.prog 142 #[.agg #[v, .int .i64 lev], .pointer (some ⟨pb, 0, none⟩)] w fun e w' => e = .returned (.bool (decide (l ≤ lev))) ∧ Below w.heap.size w w' := by
  have hpb : pb < w.heap.size := block_lt_of_cell h
  have h' := cell_later ((Below.refl _ w).alloc (Nat.le_refl _) (.cells #[v, .int .i64 lev] 169)) h
  go_enter Tryz.func142, Tryz.ntmps142
  go_wp2
  go_ret
  exact ⟨rfl, (Below.refl _ _).alloc (Nat.le_refl _) _⟩

theorem stIdx_hit {T : List Lb} {l : Int} {k : Nat} {t : Lb} (ht : T[k]? = some t) (hl : l ≤ t.1) (hno : ∀ j t', j < k → T[j]? = some t' → t'.1 < l) : stIdx T l = k := by
  obtain ⟨hk, rfl⟩ := List.getElem?_eq_some_iff.1 ht
  refine (List.findIdx_eq hk).2 ⟨by simpa using hl, fun j hj => ?_⟩
  have := hno j _ hj (List.getElem?_eq_getElem (by omega))
  simp only [decide_eq_false_iff_not]
  omega

theorem stIdx_end {T : List Lb} {l : Int} (hno : ∀ j t', j < T.length → T[j]? = some t' → t'.1 < l) : stIdx T l = T.length := by
  refine List.findIdx_eq_length.2 fun t ht => ?_
  obtain ⟨j, hj, rfl⟩ := List.getElem_of_mem ht
  have := hno j _ hj (List.getElem?_eq_getElem hj)
  simp only [decide_eq_false_iff_not]
  omega

/-- What IndexFunc hands back. -/
def idxOf (T : List Lb) (l : Int) : Int := if stIdx T l < T.length then stIdx T l else -1

set_option maxHeartbeats 1000000 in
theorem indexLaid_any (T : List Lb) (v : Value) (l : Int) (pb : Nat) (w : World) (hT : LdRow w v T) (hf : T.length < 1000000000) (hp : w.cell? ⟨pb, 0, none⟩ = some (.int .i64 l)) :
    Calls Tryz.prog 141 #[v, .func (.func 142) #[] #[.pointer (some ⟨pb, 0, none⟩)]] w fun e w' => e = .returned (.int .i64 (idxOf T l)) ∧ Below w.heap.size w w' := by
  obtain ⟨ao, cap, rfl, hc⟩ := hT
  have HC : Hid _ := hc
  clear hc
  go_enter Tryz.func141, Tryz.ntmps141
  go_wp2
  go_loopw [8] (fun i wr => ∃ k : Nat, k ≤ T.length ∧ i = .int .i64 k ∧ Hid (Below w.heap.size w wr) ∧ Hid (∀ j t', j < k → T[j]? = some t' → t'.1 < l)) (fun i _ => T.length - (intOf i).toNat)
  case atStart => exact ⟨0, Nat.zero_le _, rfl, Below.refl _ _, fun j t' h => absurd h (Nat.not_lt_zero _)⟩
  case round =>
    obtain ⟨k, hk, rfl, HB, HN⟩ := hrel
    by_cases hlt : k < T.length
    · obtain ⟨g, rfl, hcap, hcell⟩ := HC.out (by omega)
      obtain ⟨t, ht⟩ : ∃ t, T[k]? = some t := ⟨_, List.getElem?_eq_getElem hlt⟩
      obtain ⟨vt, d0, _, d1⟩ := hcell k t ht
      have d0 := cell_later HB.out d0
      have d1 := cell_later HB.out d1
      have hgr : g < wr.heap.size := block_lt_of_cell d0
      have HP : Hid _ := start1_any vt l t.1 pb wr (cell_later HB.out hp)
      have HT : Hid (T[k]? = some t) := ht
      clear hcell ht
      by_cases hl : l ≤ t.1
      · have hd : decide (l ≤ t.1) = true := decide_eq_true hl
        rw [hd] at HP
        have hfin : Hid (idxOf T l = k) := (by unfold idxOf; rw [stIdx_hit HT.out hl HN.out, if_pos hlt] : idxOf T l = k)
        go_wp2_with fail
        refine Calls.mono HP.out ?_
        rintro e w2 ⟨rfl, hb2⟩
        have HB2 : Hid (Below w.heap.size w w2) := below_trans' HB.out hb2
        clear hb2
        go_wp2
        go_ret
        exact ⟨by rw [hfin.out]; rfl, HB2.out⟩
      · have hd : decide (l ≤ t.1) = false := decide_eq_false hl
        rw [hd] at HP
        go_wp2_with fail
        refine Calls.mono HP.out ?_
        rintro e w2 ⟨rfl, hb2⟩
        have HB2 : Hid (Below w.heap.size w w2) := below_trans' HB.out hb2
        clear hb2
        go_wp2
        go_roundw
        case rel => exact ⟨k + 1, by omega, by go_num, HB2, fun j t' hj ht' => by
          rcases Nat.lt_succ_iff_lt_or_eq.1 hj with h | rfl
          · exact HN.out j t' h ht'
          · rw [HT.out] at ht'; cases ht'; omega⟩
        case measure => simp [intOf]; omega
    · obtain rfl : k = T.length := by omega
      have hfin : Hid (idxOf T l = -1) := (by unfold idxOf; rw [stIdx_end HN.out, if_neg (by omega)] : idxOf T l = -1)
      go_wp2
      go_ret
      exact ⟨by rw [hfin.out]; rfl, HB.out⟩

set_option maxHeartbeats 1000000 in
theorem start_any (T : List Lb) (v : Value) (sb : Nat) (l : Int) (w : World) (hv : w.cell? ⟨sb, 1, none⟩ = some v) (hT : LdRow w v T) (hf : T.length < 1000000000) :
    Calls Tryz.prog 95 #[.pointer (some ⟨sb, 0, none⟩), .int .i64 l] w fun e w' => e = .returned (.int .i64 (stIdx T l)) ∧ Below w.heap.size w w' := by
  have hsb : sb < w.heap.size := block_lt_of_cell hv
  have hb0 : Below w.heap.size w (w.alloc (.cells #[.int .i64 l] 3)) := (Below.refl _ _).alloc (Nat.le_refl _) _
  have HI : Hid _ := indexLaid_any T v l w.heap.size (w.alloc (.cells #[.int .i64 l] 3)) (hT.below hb0) hf (by simp)
  have hle := stIdx_le T l
  have HB0 : Hid (Below w.heap.size w (w.alloc (.cells #[.int .i64 l] 3))) := hb0
  have hv0 := cell_later hb0 hv
  obtain ⟨ao, cap, rfl, _⟩ := hT
  clear hb0
  unfold idxOf at HI
  by_cases hlt : stIdx T l < T.length
  · rw [if_pos hlt] at HI
    go_enter Tryz.func95, Tryz.ntmps95
    go_wp2_with fail
    refine Calls.mono HI.out ?_
    rintro e w2 ⟨rfl, hb2⟩
    have HB2 : Hid (Below w.heap.size w w2) := below_trans' HB0.out hb2
    clear hb2
    go_wp2
    go_ret
    exact ⟨rfl, HB2.out⟩
  · rw [if_neg hlt] at HI
    have hfin : Hid (stIdx T l = T.length) := (by omega : stIdx T l = T.length)
    go_enter Tryz.func95, Tryz.ntmps95
    go_wp2_with fail
    refine Calls.mono HI.out ?_
    rintro e w2 ⟨rfl, hb2⟩
    have HB2 : Hid (Below w.heap.size w w2) := below_trans' HB0.out hb2
    have hv2 := cell_later hb2 hv0
    clear hb2
    go_wp2
    go_ret
    exact ⟨by rw [hfin.out]; rfl, HB2.out⟩

set_option maxHeartbeats 1000000 in
theorem hasTable_any (T : List Lb) (v : Value) (sb : Nat) (l : Int) (w : World) (hv : w.cell? ⟨sb, 1, none⟩ = some v) (hT : LdRow w v T) (hf : T.length < 1000000000) (h0 : 0 ≤ l) (h2 : l < 2) :
    Calls Tryz.prog 59 #[.pointer (some ⟨sb, 0, none⟩), .int .i64 l] w fun e w' => e = .returned (.bool (decide (stIdx T l < stIdx T (l + 1)))) ∧ Below w.heap.size w w' := by
  have HS : Hid (∀ w1 l', Below w.heap.size w w1 → Calls Tryz.prog 95 #[.pointer (some ⟨sb, 0, none⟩), .int .i64 l'] w1 fun e w' => e = .returned (.int .i64 (stIdx T l')) ∧ Below w1.heap.size w1 w') := fun w1 l' hb => start_any T v sb l' w1 (cell_later hb hv) (hT.below hb) hf
  have hsb : sb < w.heap.size := block_lt_of_cell hv
  clear hT
  go_enter Tryz.func59, Tryz.ntmps59
  go_wp2_with fail
  refine Calls.mono (HS.out _ _ (Below.refl _ _)) ?_
  rintro e w1 ⟨rfl, hb1⟩
  have HB1 : Hid (Below w.heap.size w w1) := hb1
  clear hb1
  go_wp2_with fail
  refine Calls.mono (HS.out _ _ HB1.out) ?_
  rintro e w2 ⟨rfl, hb2⟩
  have HB2 : Hid (Below w.heap.size w w2) := below_trans' HB1.out hb2
  clear hb2
  go_wp2
  go_ret
  exact ⟨rfl, HB2.out⟩
end Go.Proofs.YtakipjofboipmaaGreat

/- The walks of this proof: tables laid together. -/
namespace Go.Proofs.YtakipjofboipmaaGreat
open Go.RowKit Go.Sort

/-- Tables that lie in a part of a row, their entries in memory below N. -/
def MidAt (w : World) (g o N : Nat) (X : List Lb) : Prop :=
  ∀ (k : Nat) t, X[k]? = some t → ∃ gN capN curN, w.cell? ⟨g, o + k * 2, none⟩ = some (.slice (some ⟨gN, 0, none⟩) t.2.length capN) ∧ w.cell? ⟨g, o + k * 2 + 1, none⟩ = some (.int .i64 t.1) ∧ gN < N ∧ w.heap[gN]? = some (.cells curN 58 (0, 0)) ∧ w.ownsRow 0 58 4 (.slice (some ⟨gN, 0, none⟩) t.2.length capN) t.2.length (ecells t.2)

theorem MidAt.below {w w' : World} {g o N : Nat} {X : List Lb} (h : MidAt w g o N X) (hg : g < N) (hb : Below N w w') : MidAt w' g o N X := fun k t ht => by
  obtain ⟨gN, capN, curN, h1, h2, h3, h4, h5⟩ := h k t ht
  refine ⟨gN, capN, curN, (hb.cell (p := ⟨g, o + k * 2, none⟩) hg).trans h1, (hb.cell (p := ⟨g, o + k * 2 + 1, none⟩) hg).trans h2, h3, (hb.block gN h3).trans h4, ?_⟩
  refine ⟨h5.1, ?_⟩
  rcases h5.2 with h0 | ⟨g', cap, cur, hv, hb0, hg', r⟩
  · exact .inl h0
  · simp only [Value.slice.injEq, Option.some.injEq, Addr.mk.injEq, and_true] at hv
    obtain ⟨rfl, _, rfl⟩ := hv
    exact .inr ⟨gN, capN, cur, rfl, Nat.zero_le _, (hb.block gN h3).trans hg', r⟩

/-- What Merge of tables comes to. -/
def MergePost (R : List En) (lev : Int) (w : World) (e : Ending) (w' : World) : Prop :=
  ∃ v, e = .returned (.agg #[v, .int .i64 lev]) ∧ w'.ownsRow w.heap.size 58 4 v R.length (ecells R) ∧ Below w.heap.size w w'

theorem flat_take_succ {X : List Lb} {k : Nat} {t : Lb} (h : X[k]? = some t) : (X.take (k + 1)).flatMap (·.2) = (X.take k).flatMap (·.2) ++ t.2 := by
  rw [List.take_add_one, h]; simp

set_option maxHeartbeats 4000000 in
set_option maxRecDepth 100000 in
theorem mergeTables_any (X : List Lb) (g o cap : Nat) (lev : Int) (Q : List Int) (vQ : Value) (w : World) (hX : MidAt w g o w.heap.size X) (hg : g < w.heap.size) (h1 : 1 ≤ X.length) (hXf : X.length < 1000000000) (hne : ∀ t ∈ X, t.2 ≠ []) (hso : ∀ t ∈ X, Sorted t.2) (hlay : LayX (X.map (·.2))) (hfew : (X.flatMap (·.2)).length < 100000000) (hQ : IntRow w vQ Q) (h4 : Q.length ≤ 4) :
    Calls Tryz.prog 96 #[.slice (some ⟨g, o, none⟩) X.length cap, .int .i64 lev, vQ] w fun e w' => MergePost (ndAll Q (lev == 2) (srt (X.flatMap (·.2)))) lev w e w' := by
  have HX : Hid (MidAt w g o w.heap.size X) := hX
  have HNE : Hid (∀ t ∈ X, t.2 ≠ []) := hne
  have HSO : Hid (∀ t ∈ X, Sorted t.2) := hso
  have HLAY : Hid (LayX (X.map (·.2))) := hlay
  have HFEW : Hid ((X.flatMap (·.2)).length < 100000000) := hfew
  have HQ : Hid (IntRow w vQ Q) := hQ
  obtain ⟨aoQ, capQ, rfl, _⟩ := hQ
  obtain ⟨W, hW⟩ : ∃ W, (w.alloc (.cells #[.slice none 0 0, .int .i64 0] 169)).alloc (.cells #[.slice none 0 0, .int .i64 lev] 169) = W := ⟨_, rfl⟩
  have hbW : Below w.heap.size w W := by rw [← hW]; exact ((Below.refl _ _).alloc (Nat.le_refl _) _).alloc (by simp) _
  have hWt : W.heap[w.heap.size + 1]? = some (.cells #[.slice none 0 0, .int .i64 lev] 169 (0, 0)) := by
    rw [← hW]
    have := heap_alloc_new (w.alloc (.cells #[.slice none 0 0, .int .i64 0] 169)) (.cells #[.slice none 0 0, .int .i64 lev] 169)
    simpa using this
  have hW0 : W.heap[w.heap.size]? = some (.cells #[.slice none 0 0, .int .i64 0] 169 (0, 0)) := by
    rw [← hW, Below.heap_alloc _ _ _ (by simp)]
    exact heap_alloc_new w _
  have HW : Hid ((w.alloc (.cells #[.slice none 0 0, .int .i64 0] 169)).alloc (.cells #[.slice none 0 0, .int .i64 lev] 169) = W) := hW
  have START : Hid (∃ vE : Value, W.heap[w.heap.size + 1]? = some (.cells #[vE, .int .i64 lev] 169 (0, 0)) ∧ W.heap[w.heap.size]? = some (.cells #[.slice none 0 0, .int .i64 0] 169 (0, 0)) ∧ OwnsIn W (fun k => w.heap.size + 1 ≤ k) 58 4 vE (srt ((X.take 0).flatMap (·.2))).length (ecells (srt ((X.take 0).flatMap (·.2)))) ∧ Below w.heap.size w W) :=
    ⟨.slice none 0 0, hWt, hW0, ⟨by simpa [srt, ecells] using World.ownsRow_nil W 0 58 4, fun g' e => by simp [Value.ownBlock] at e⟩, hbW⟩
  clear hX hne hso hlay hfew hW hbW hWt hW0
  go_enter Tryz.func96, Tryz.ntmps96
  go_wp2
  rw [HW.out]
  go_loopw [14] (fun i wr => ∃ k : Nat, k ≤ X.length ∧ i = .int .i64 k ∧ Hid (∃ vE : Value, wr.heap[w.heap.size + 1]? = some (.cells #[vE, .int .i64 lev] 169 (0, 0)) ∧ wr.heap[w.heap.size]? = some (.cells #[.slice none 0 0, .int .i64 0] 169 (0, 0)) ∧ OwnsIn wr (fun k => w.heap.size + 1 ≤ k) 58 4 vE (srt ((X.take k).flatMap (·.2))).length (ecells (srt ((X.take k).flatMap (·.2)))) ∧ Below w.heap.size w wr)) (fun i _ => X.length - (intOf i).toNat)
  case atStart => exact ⟨0, Nat.zero_le _, rfl, START.out⟩
  case round =>
    clear START
    obtain ⟨k, hk, rfl, HI⟩ := hrel
    by_cases hlt : k < X.length
    · obtain ⟨vE, hm1, hm0, hoE, hb⟩ := HI.out
      obtain ⟨t, ht⟩ : ∃ t, X[k]? = some t := ⟨_, List.getElem?_eq_getElem hlt⟩
      have htX : t ∈ X := List.mem_of_getElem? ht
      obtain ⟨gN, capN, curN, d0, d1, hgN, hcN, hoN⟩ := (HX.out.below hg hb) k t ht
      have hgr : g < wr.heap.size := block_lt_of_cell d0
      have hsz1 : w.heap.size + 1 < wr.heap.size := lt_of_block hm1
      obtain ⟨W2, hW2⟩ : ∃ W2, wr.alloc (.cells #[.slice (some ⟨gN, 0, none⟩) t.2.length capN, .int .i64 t.1] 169) = W2 := ⟨_, rfl⟩
      have hb2 : Below wr.heap.size wr W2 := by rw [← hW2]; exact (Below.refl _ _).alloc (Nat.le_refl _) _
      have hdist : DistE ((X.take (k + 1)).flatMap (·.2)) := by
        have := dist_flat (X := (X.take (k + 1)).map (·.2)) (List.Pairwise.sublist ((List.take_sublist _ _).map (fun t : Lb => t.2)) HLAY.out) (fun a ha => by
          obtain ⟨u, hu, rfl⟩ := List.mem_map.1 ha
          exact HSO.out u (List.mem_of_mem_take hu))
        rwa [List.flatMap_map] at this
      have hdist0 : DistE ((X.take k).flatMap (·.2)) := by
        rw [flat_take_succ ht] at hdist
        exact (List.pairwise_append.1 hdist).1
      have hlen : (srt ((X.take k).flatMap (·.2))).length + t.2.length < 100000000 := by
        rw [srt_len]
        have e1 := flat_take_succ ht
        have e2 : (X.take (k + 1)).flatMap (·.2) ++ (X.drop (k + 1)).flatMap (·.2) = X.flatMap (·.2) := by rw [← List.flatMap_append, List.take_append_drop]
        have := HFEW.out
        rw [← e2, List.length_append, e1, List.length_append] at this
        omega
      have HL : Hid (Calls Tryz.prog 87 #[.pointer (some ⟨w.heap.size + 1, 0, none⟩), .slice (some ⟨gN, 0, none⟩) t.2.length capN] W2 fun e w' => LayPost (srt ((X.take k).flatMap (·.2))) t.2 (fun k => w.heap.size + 1 ≤ k) 169 (w.heap.size + 1) [.int .i64 lev] W2 e w') :=
        lay_any _ t.2 (fun k => w.heap.size + 1 ≤ k) (w.heap.size + 1) gN capN vE 169 [.int .i64 lev] curN W2 (by decide) ((hb2.block _ (by omega)).trans hm1) (Nat.le_refl _) (fun k hk => by have := hb2.size; omega) (hoE.below hb2) ((hb2.block _ (lt_of_block hcN)).trans hcN) ((Kp.of_below (B := 0) (ts := []) hb2).owns hoN (by simp)) (fun e => by have h1 : w.heap.size + 1 ≤ gN := hoE.dom _ e; omega) (srt_sorted hdist0) (HSO.out t htX)
          (fun y hy z hz hh => by
            rw [flat_take_succ ht] at hdist
            exact (List.pairwise_append.1 hdist).2.2 y (srt_mem.1 hy) z hz hh) (by omega) (List.length_pos_iff.2 (HNE.out t htX))
      have HW2 : Hid (wr.alloc (.cells #[.slice (some ⟨gN, 0, none⟩) t.2.length capN, .int .i64 t.1] 169) = W2) := hW2
      have HN2 : Hid (∀ w3 e, LayPost (srt ((X.take k).flatMap (·.2))) t.2 (fun k => w.heap.size + 1 ≤ k) 169 (w.heap.size + 1) [.int .i64 lev] W2 e w3 → e = .returned (.tuple #[]) ∧ (∃ vE : Value, w3.heap[w.heap.size + 1]? = some (.cells #[vE, .int .i64 lev] 169 (0, 0)) ∧ w3.heap[w.heap.size]? = some (.cells #[.slice none 0 0, .int .i64 0] 169 (0, 0)) ∧ OwnsIn w3 (fun k => w.heap.size + 1 ≤ k) 58 4 vE (srt ((X.take (k + 1)).flatMap (·.2))).length (ecells (srt ((X.take (k + 1)).flatMap (·.2)))) ∧ Below w.heap.size w w3)) := fun w3 e h => by
        obtain ⟨rfl, V, F, hs3, ho3, hsF, hmF, hlF, hk3⟩ := h
        have hF : F = srt ((X.take (k + 1)).flatMap (·.2)) := sorted_ext hsF (srt_sorted hdist) fun y => by
          rw [hmF, srt_mem, srt_mem, flat_take_succ ht, List.mem_append]
        rw [hF] at ho3
        have hm0' : W2.heap[w.heap.size]? = some (.cells #[.slice none 0 0, .int .i64 0] 169 (0, 0)) := (hb2.block _ (by omega)).trans hm0
        exact ⟨rfl, V, hs3, hk3.keepN hm0' (by omega), ho3, (hb.trans (hb2.mono hb.size)).trans (hk3.belowN (by have := hb.size; have := hb2.size; omega) fun k hk => by omega)⟩
      have t0 : wr.cell? ⟨w.heap.size + 1, 0, none⟩ = some vE := by simp [World.cell?, hm1]
      clear HI hm1 hm0 hoE hb ht htX hcN hoN hW2 hb2 hdist hdist0 hlen
      go_wp2_with fail
      rw [HW2.out]
      refine Calls.mono HL.out ?_
      rintro e w3 hlp
      obtain ⟨rfl, hnew⟩ := HN2.out _ _ hlp
      have NEW : Hid (∃ vE : Value, w3.heap[w.heap.size + 1]? = some (.cells #[vE, .int .i64 lev] 169 (0, 0)) ∧ w3.heap[w.heap.size]? = some (.cells #[.slice none 0 0, .int .i64 0] 169 (0, 0)) ∧ OwnsIn w3 (fun k => w.heap.size + 1 ≤ k) 58 4 vE (srt ((X.take (k + 1)).flatMap (·.2))).length (ecells (srt ((X.take (k + 1)).flatMap (·.2)))) ∧ Below w.heap.size w w3) := hnew
      clear hlp hnew HN2 HL
      go_wp2
      go_roundw
      case rel => exact ⟨k + 1, by omega, by go_num, NEW⟩
      case measure => simp [intOf]; omega
    · obtain rfl : k = X.length := by omega
      obtain ⟨vE, hm1, hm0, hoE, hb⟩ := HI.out
      rw [List.take_length] at hoE
      obtain ⟨O, hO⟩ : ∃ O, srt (X.flatMap (·.2)) = O := ⟨_, rfl⟩
      have hdist : DistE (X.flatMap (·.2)) := by
        have := dist_flat (X := X.map (·.2)) HLAY.out (fun a ha => by
          obtain ⟨u, hu, rfl⟩ := List.mem_map.1 ha
          exact HSO.out u hu)
        rwa [List.flatMap_map] at this
      have hsO : Sorted O := by rw [← hO]; exact srt_sorted hdist
      have hOl : O.length < 100000000 := by rw [← hO, srt_len]; exact HFEW.out
      have hO1 : 1 ≤ O.length := by
        obtain ⟨t, ht⟩ : ∃ t, X[0]? = some t := ⟨_, List.getElem?_eq_getElem (by omega)⟩
        obtain ⟨y, ys, hy⟩ := List.exists_cons_of_ne_nil (HNE.out t (List.mem_of_getElem? ht))
        have : y ∈ O := by rw [← hO, srt_mem]; exact List.mem_flatMap.2 ⟨t, List.mem_of_getElem? ht, by rw [hy]; exact List.mem_cons_self⟩
        exact List.length_pos_of_mem this
      rw [hO] at hoE
      have HOO : Hid (srt (X.flatMap (·.2)) = O) := hO
      obtain ⟨gE, capE, rfl, _, hgE, hcapE, hcell⟩ := row_cell (fun a => by rfl) hoE.own (by omega)
      have hEn : EnAt wr gE O := fun j e he => ⟨hcell j e 0 he (by omega), hcell j e 1 he (by omega), hcell j e 2 he (by omega), hcell j e 3 he (by omega)⟩
      have HK : Hid _ := keepNeeded_any Q (.slice aoQ Q.length capQ) O (w.heap.size + 1) gE capE lev wr hm1 hEn hgE hcapE hOl hsO (HQ.out.below hb) h4
      have HM : Hid (wr.heap[w.heap.size]? = some (.cells #[.slice none 0 0, .int .i64 0] 169 (0, 0)) ∧ Below w.heap.size w wr ∧ w.heap.size + 1 < wr.heap.size) := ⟨hm0, hb, lt_of_block hm1⟩
      clear HI hm1 hm0 hoE hb hO hdist hsO hOl hO1 hcell hEn
      go_wp2_with fail
      refine Calls.mono HK.out ?_
      rintro e w2 ⟨rfl, v', xs, hgs, hs2, ho2, hg2⟩
      obtain ⟨b3, b1, b2⟩ := HM.out
      have h20 : w2.heap[w.heap.size]? = some (.cells #[.slice none 0 0, .int .i64 0] 169 (0, 0)) := (hg2.block _ (by omega) (fun e => by have := Option.some.inj e; omega)).trans b3
      have hbl : Below w.heap.size w w2 := b1.trans (grown_below hg2 (by omega) (by omega))
      obtain ⟨R, hR⟩ : ∃ R, ndAll Q (lev == 2) O = R := ⟨_, rfl⟩
      rw [ndAll_all Q (lev == 2) hgs, hR] at ho2
      have HRR : Hid (ndAll Q (lev == 2) O = R) := hR
      have HO : Hid (w2.ownsRow w.heap.size 58 4 v' R.length (ecells R)) := owns_base ho2 (by omega)
      have c0 : w2.cell? ⟨w.heap.size + 1, 0, none⟩ = some v' := by simp [World.cell?, hs2]
      have c1 : w2.cell? ⟨w.heap.size + 1, 1, none⟩ = some (.int .i64 lev) := by simp [World.cell?, hs2]
      have d0 : w2.cell? ⟨w.heap.size, 0, none⟩ = some (.slice none 0 0) := by simp [World.cell?, h20]
      have d1 : w2.cell? ⟨w.heap.size, 1, none⟩ = some (.int .i64 0) := by simp [World.cell?, h20]
      have f0 : w2.frozen? ⟨w.heap.size, 0, none⟩ = false := by simp [World.frozen?, h20]
      have f1 : w2.frozen? ⟨w.heap.size, 1, none⟩ = false := by simp [World.frozen?, h20]
      have FIN : Hid (∀ u, ((w2.setCell ⟨w.heap.size, 0, none⟩ v').setCell ⟨w.heap.size, 1, none⟩ u).ownsRow w.heap.size 58 4 v' R.length (ecells R) ∧ Below w.heap.size w ((w2.setCell ⟨w.heap.size, 0, none⟩ v').setCell ⟨w.heap.size, 1, none⟩ u)) := fun u => by
        have hne : v'.ownBlock ≠ some w.heap.size := fun e => by have := (ho2.lt _ e).1; omega
        exact ⟨(ho2b HO.out hne v').2 u, (hbl.setCell (Nat.le_refl _) _).setCell (Nat.le_refl _) _⟩
      obtain ⟨aov, capv, rfl⟩ := slice_form ho2
      clear hgs hs2 ho2 hg2 b1 b2 b3 h20 hbl hR HM HK
      go_wp2
      exact bodyPost_ret (v := .agg #[.slice aov R.length capv, .int .i64 lev]) (by simp [results, Tryz.results96, go_sem, d0, d1]) rfl (by rw [HOO.out, HRR.out]; exact ⟨_, rfl, FIN.out _⟩)
end Go.Proofs.YtakipjofboipmaaGreat
