/- The walks of this proof: making a snapshot. -/
import Derived.Deep.AppendLies
import Derived.Deep.RegionLaw
import Derived.Test.YtakipjofboipmaaGreatDoorJ10
namespace Go.Proofs.YtakipjofboipmaaGreatDoor
open Go.RowKit Go.Sort

theorem Tryz.info205 : (Tryz.prog.info? 205).map (fun i => (i.zero, i.size, i.bytes)) = some (some (.agg #[.int .i64 0, .int .i64 0]), 2, 16) := by kernel_rfl

theorem StoreAt.drew {D F : Nat → Prop} {sb : Nat} {x : St} {w : World} (h : StoreAt D F sb x w) : StoreAt D F sb x w.drew := h

/-- A field of a store that is written. -/
theorem set_field {w : World} {sb : Nat} {a0 a1 a2 a3 a4 a5 a6 a7 : Value} {t : TypeId} (h : w.heap[sb]? = some (.cells #[a0, a1, a2, a3, a4, a5, a6, a7] t (0, 0))) (i : Nat) (v : Value) :
    (w.setCell ⟨sb, i, none⟩ v).heap[sb]? = some (.cells (#[a0, a1, a2, a3, a4, a5, a6, a7].setIfInBounds i v) t (0, 0)) := heap_setCell_same w sb i _ t v h

/-- What a store holds besides its snapshots. -/
def Rest (D F : Nat → Prop) (x : St) (vE vL vR : Value) (w : World) : Prop :=
  OwnsIn w D 61 4 vE x.M.length (ecells x.M) ∧ TabsIn w D F vL x.T ∧ OwnsJ w D vR x.J

theorem Rest.kd {D F D' : Nat → Prop} {x : St} {vE vL vR : Value} {w w' : World} {ts : List Nat} (h : Rest D F x vE vL vR w) (k : Kd D' ts w w') (h1 : 61 ∉ ts) (h2 : 209 ∉ ts) (h3 : 5 ∉ ts) : Rest D F x vE vL vR w' :=
  ⟨k.ownsIn h.1 h1, h.2.1.kd k h2 h1, k.ownsJ h.2.2 h3⟩

/-- The snapshots' row put into its field. -/
theorem put_snaps {D F : Nat → Prop} {sb : Nat} {x : St} {w : World} {vE vL vR vS vS' : Value} {ls : Int} {S' : List Sn} (hs : w.heap[sb]? = some (.cells #[vE, vL, vR, .int .i64 (rl (x.B.take x.sy)), .int .i64 x.la, vS, .int .i64 ls, .int .i64 x.last] 82 (0, 0))) (hB : D sb)
    (hE : Rest D F x vE vL vR w) (hS : OwnsIn w D 205 2 vS' S'.length (scells S')) :
    StoreAt D F sb { x with S := S', lastSnap := ls } (w.setCell ⟨sb, 5, none⟩ vS') := by
  have k := Kd.field hB hs 5 vS'
  have r := hE.kd k (by simp) (by simp) (by simp)
  refine ⟨vE, vL, vR, vS', hB, ?_, r.1, r.2.1, r.2.2, k.ownsIn hS (by simp)⟩
  rw [set_field hs 5 vS']
  simp

theorem snaps_snoc {w : World} {D : Nat → Prop} {v : Value} {S : List Sn} {s : Sn} (h : OwnsIn w D 205 2 v (S.length + 1) (scells S ++ Sn.cells s)) : OwnsIn w D 205 2 v (S ++ [s]).length (scells (S ++ [s])) := by
  have e : scells (S ++ [s]) = scells S ++ Sn.cells s := by simp [scells]
  rw [e, List.length_append]
  exact h

set_option maxHeartbeats 1000000 in
theorem isFull_any (x : St) (D F : Nat → Prop) (sb : Nat) (w : World) (hx : StoreAt D F sb x w) (ok : StOk x) :
    Calls Tryz.prog 66 #[.pointer (some ⟨sb, 5, none⟩)] w fun e w' => e = .returned (.bool (decide (4 ≤ x.S.length))) ∧ w' = w := by
  obtain ⟨vE, vL, vR, vS, hB, hs, hE, hT, hR, hS⟩ := hx
  obtain ⟨ao, cap, rfl⟩ := slice_form hS.own
  have c3 : w.cell? ⟨sb, 5, none⟩ = some (.slice ao x.S.length cap) := by simp [World.cell?, hs]
  have hl4 := ok.snaps
  have e : decide ((4 : Int) ≤ (x.S.length : Int)) = decide (4 ≤ x.S.length) := by simp only [decide_eq_decide]; omega
  rw [← e]
  clear e hs hE hT hR hS
  go_enter Tryz.func66, Tryz.ntmps66
  go_wp2
  go_ret
  exact ⟨rfl, rfl⟩

set_option maxHeartbeats 2000000 in
theorem addSnap_any (x : St) (D F : Nat → Prop) (sb : Nat) (q : Int) (w : World) (hx : StoreAt D F sb x w) (ok : StOk x) (hBw : Opn D w) (h0 : 0 ≤ x.lastSnap) (h1 : x.lastSnap < 1100000000000) :
    Calls Tryz.prog 67 #[.pointer (some ⟨sb, 5, none⟩), .int .i64 q] w fun e w' => e = .returned (.int .i64 (x.lastSnap + 1)) ∧ StoreAt D F sb { x with S := x.S ++ [⟨x.lastSnap + 1, q⟩], lastSnap := x.lastSnap + 1 } w' ∧ Kd D [82, 205] w w' := by
  obtain ⟨vE, vL, vR, vS, hB, hs, hE, hT, hR, hS⟩ := hx
  obtain ⟨i0, hi, hz0, hz1, hz2⟩ := info_parts Tryz.info205
  obtain ⟨ls, hls⟩ : ∃ ls, x.lastSnap = ls := ⟨_, rfl⟩
  have hl4 := ok.snaps
  rw [hls] at hs h0 h1 ⊢
  have c4 : w.cell? ⟨sb, 6, none⟩ = some (.int .i64 ls) := by simp [World.cell?, hs]
  have f4 : w.frozen? ⟨sb, 6, none⟩ = false := by simp [World.frozen?, hs]
  have k1 := Kd.field hB hs 6 (.int .i64 (ls + 1))
  have s1 := set_field hs 6 (.int .i64 (ls + 1))
  have r1 : Rest D F x vE vL vR _ := Rest.kd ⟨hE, hT, hR⟩ k1 (by simp) (by simp) (by simp)
  have o1 := k1.ownsIn hS (by simp)
  generalize hw1 : w.setCell ⟨sb, 6, none⟩ (.int .i64 (ls + 1)) = w1 at k1 s1 r1 o1
  simp only [List.setIfInBounds_toArray, List.set_cons_succ, List.set_cons_zero] at s1
  have H : Hid (StOk x ∧ Kd D [82] w w1 ∧ w1.heap[sb]? = some (.cells #[vE, vL, vR, .int .i64 (rl (x.B.take x.sy)), .int .i64 x.la, vS, .int .i64 (ls + 1), .int .i64 x.last] 82 (0, 0)) ∧ Rest D F x vE vL vR w1 ∧ D sb) := ⟨ok, k1, s1, r1, hB⟩
  have c3 : w1.cell? ⟨sb, 5, none⟩ = some vS := by simp [World.cell?, s1]
  have c4' : w1.cell? ⟨sb, 6, none⟩ = some (.int .i64 (ls + 1)) := by simp [World.cell?, s1]
  have hsz1 : sb < w1.heap.size := lt_of_block s1
  have HD1 : Hid (Opn D w1) := hBw.later k1.size
  have HW : Hid (w.setCell ⟨sb, 6, none⟩ (.int .i64 (ls + 1)) = w1) := hw1
  have HO : Hid (OwnsIn w1 D 205 2 vS x.S.length (scells x.S)) := o1
  clear hBw hs hE hT hR hS ok k1 s1 r1 o1 hw1
  go_enter Tryz.func67, Tryz.ntmps67
  go_wp2
  rw [HW.out]
  go_region_law (refine step_append_lies _ rfl _ _ 78 rfl 0 205 i0 _ 2 16 Tryz.underlying78 hi hz0 hz1 hz2 rfl (by decide) vS x.S.length (scells x.S) rfl (by exact HO.out.own.alloc _) ⟨w1.heap.size, 0, none⟩ 1 1 (Sn.cells ⟨ls + 1, q⟩) rfl rfl (by intro j u hj; match j, hj with | 0, hj => (simp [Sn.cells] at hj; subst hj; simp [Addr.add]) | 1, hj => (simp [Sn.cells] at hj; subst hj; simp [Addr.add]) | j + 2, hj => (simp [Sn.cells] at hj)) (by intro u hu; simp [Sn.cells] at hu; rcases hu with rfl | rfl <;> rfl) (by omega) (by unfold maxLen; omega) (by omega) (Nat.zero_le _) _ rfl ?_; intro g cap w2 hown hgrow hat hlt; have K2 : Hid (Kd D [205] w1 w2) := Kd.grown ((Kd.refl _ _ _).alloc _).drew (by exact HO.out.alloc _) hgrow (by simp); have c3b : w2.cell? ⟨sb, 5, none⟩ = some vS := (by simp [World.cell?, K2.out.keep H.out.2.2.1 (by simp)]); have f3b : w2.frozen? ⟨sb, 5, none⟩ = false := (by simp [World.frozen?, K2.out.keep H.out.2.2.1 (by simp)]); have c4b : w2.cell? ⟨sb, 6, none⟩ = some (.int .i64 (ls + 1)) := (by simp [World.cell?, K2.out.keep H.out.2.2.1 (by simp)]); have HN : Hid (OwnsIn w2 D 205 2 (.slice (some ⟨g, 0, none⟩) (x.S.length + 1) cap) (x.S.length + 1) (scells x.S ++ Sn.cells ⟨ls + 1, q⟩)) := HO.out.put HD1.out hown (hat.imp id fun e => by rw [e]; simp); clear hown hgrow hat hlt)
  all_goals go_wp2
  all_goals go_ret
  all_goals exact ⟨rfl, put_snaps (K2.out.keep H.out.2.2.1 (by simp)) H.out.2.2.2.2 (H.out.2.2.2.1.kd K2.out (by simp) (by simp) (by simp)) (snaps_snoc HN.out), ((H.out.2.1.mono (by simp)).trans (K2.out.mono (by simp))).trans ((Kd.field H.out.2.2.2.2 (K2.out.keep H.out.2.2.1 (by simp)) 5 _).mono (by simp))⟩

set_option maxHeartbeats 1000000 in
theorem snap_any (x : St) (D F : Nat → Prop) (sb : Nat) (w : World) (hx : StoreAt D F sb x w) (ok : StOk x) (hBw : Opn D w) (h0 : 0 ≤ x.lastSnap) (h1 : x.lastSnap < 1100000000000) :
    Calls Tryz.prog 26 #[.pointer (some ⟨sb, 0, none⟩)] w fun e w' =>
      (x.S.length = 4 ∧ e = .returned (.tuple #[.int .i64 0, .int .i64 7]) ∧ w' = w) ∨
      (x.S.length < 4 ∧ e = .returned (.tuple #[.int .i64 (x.lastSnap + 1), .int .i64 0]) ∧ StoreAt D F sb { x with S := x.S ++ [⟨x.lastSnap + 1, x.last⟩], lastSnap := x.lastSnap + 1 } w' ∧ Kd D [82, 205] w w') := by
  have hf := isFull_any x D F sb w hx ok
  have hl4 := ok.snaps
  by_cases h4 : 4 ≤ x.S.length
  · simp only [h4, decide_true] at hf
    have HF : Hid _ := hf
    clear hf hx
    go_enter Tryz.func26, Tryz.ntmps26
    go_wp2_with fail
    refine Calls.mono HF.out ?_
    rintro e w0 ⟨rfl, rfl⟩
    go_wp2
    go_ret2
    exact .inl ⟨by omega, rfl, rfl⟩
  · simp only [h4, decide_false] at hf
    have HF : Hid _ := hf
    have HA : Hid (∀ w', StoreAt D F sb x w' → Opn D w' → Calls Tryz.prog 67 #[.pointer (some ⟨sb, 5, none⟩), .int .i64 x.last] w' fun e w'' => e = .returned (.int .i64 (x.lastSnap + 1)) ∧ StoreAt D F sb { x with S := x.S ++ [⟨x.lastSnap + 1, x.last⟩], lastSnap := x.lastSnap + 1 } w'' ∧ Kd D [82, 205] w' w'') := fun w' hw hb => addSnap_any x D F sb x.last w' hw ok hb h0 h1
    have HX : Hid (StoreAt D F sb x w) := hx
    obtain ⟨vE, vL, vR, vS, hB, hs, hE, hT, hR, hS⟩ := hx
    have c5 : w.cell? ⟨sb, 7, none⟩ = some (.int .i64 x.last) := by simp [World.cell?, hs]
    have HBW : Hid (Opn D w) := hBw
    clear hBw hf hs hE hT hR hS
    go_enter Tryz.func26, Tryz.ntmps26
    go_wp2_with fail
    refine Calls.mono HF.out ?_
    rintro e w0 ⟨rfl, rfl⟩
    go_wp2
    go_region_with (go_at_call 67; refine Calls.mono (HA.out _ (by exact HX.out.drew) HBW.out) ?_; rintro e w2 ⟨rfl, hst, hkp⟩; have HR2 : Hid (StoreAt D F sb { x with S := x.S ++ [⟨x.lastSnap + 1, x.last⟩], lastSnap := x.lastSnap + 1 } w2 ∧ Kd D [82, 205] w0 w2) := ⟨hst, (Kd.refl _ _ _).drew.trans hkp⟩; clear hst hkp)
    all_goals go_wp2
    all_goals go_ret2
    all_goals exact .inr ⟨by omega, rfl, Hid.out (by assumption)⟩
end Go.Proofs.YtakipjofboipmaaGreatDoor
