/- The walks of this proof: making a snapshot. -/
import Derived.Test.YtojdkfamihlnkaaGreatDoorW6
import Derived.Deep.AppendLies
import Derived.Deep.RegionLaw
namespace Go.Proofs.YtojdkfamihlnkaaGreatDoor
open Go.RowKit Go.Sort

theorem Tryz.info165 : (Tryz.prog.info? 165).map (fun i => (i.zero, i.size, i.bytes)) = some (some (.agg #[.int .i64 0, .int .i64 0]), 2, 16) := by kernel_rfl

/-- A field of a store that is written. -/
theorem set_field {w : World} {sb : Nat} {a0 a1 a2 a3 a4 a5 : Value} {t : TypeId} (h : w.heap[sb]? = some (.cells #[a0, a1, a2, a3, a4, a5] t (0, 0))) (i : Nat) (v : Value) :
    (w.setCell ⟨sb, i, none⟩ v).heap[sb]? = some (.cells (#[a0, a1, a2, a3, a4, a5].setIfInBounds i v) t (0, 0)) := heap_setCell_same w sb i _ t v h

/-- The snapshots' row put into its field. -/
theorem put_snaps {D : Nat → Prop} {sb : Nat} {x : St} {w : World} {vE vR vS vS' : Value} {ls : Int} {S' : List Sn} {R : List Value} (hs : w.heap[sb]? = some (.cells #[vE, vR, .int .i64 x.synced, vS, .int .i64 ls, .int .i64 x.last] 81 (0, 0))) (hB : D sb)
    (hE : OwnsIn w D 61 4 vE x.E.length (ecells x.E)) (hR : OwnsIn w D 5 1 vR R.length R) (hl : R.length ≤ x.jl) (hS : OwnsIn w D 165 2 vS' S'.length (scells S')) :
    StoreAt D sb { x with S := S', lastSnap := ls } (w.setCell ⟨sb, 3, none⟩ vS') := by
  have k := Kd.field hB hs 3 vS'
  refine ⟨vE, vR, vS', R, hB, ?_, k.ownsIn hE (by simp), k.ownsIn hR (by simp), k.ownsIn hS (by simp), hl⟩
  rw [set_field hs 3 vS']
  simp

theorem snaps_snoc {w : World} {D : Nat → Prop} {v : Value} {S : List Sn} {s : Sn} (h : OwnsIn w D 165 2 v (S.length + 1) (scells S ++ Sn.cells s)) : OwnsIn w D 165 2 v (S ++ [s]).length (scells (S ++ [s])) := by
  have e : scells (S ++ [s]) = scells S ++ Sn.cells s := by simp [scells]
  rw [e, List.length_append]
  exact h

set_option maxHeartbeats 1000000 in
theorem isFull_any (x : St) (D : Nat → Prop) (sb : Nat) (w : World) (hx : StoreAt D sb x w) (ok : StOk x) :
    Calls Tryz.prog 59 #[.pointer (some ⟨sb, 3, none⟩)] w fun e w' => e = .returned (.bool (decide (4 ≤ x.S.length))) ∧ w' = w := by
  obtain ⟨vE, vR, vS, R, hB, hs, hE, hR, hS, hl⟩ := hx
  obtain ⟨ao, cap, rfl⟩ := slice_form hS.own
  have c3 : w.cell? ⟨sb, 3, none⟩ = some (.slice ao x.S.length cap) := by simp [World.cell?, hs]
  have hl4 := ok.snaps
  have e : decide ((4 : Int) ≤ (x.S.length : Int)) = decide (4 ≤ x.S.length) := by simp only [decide_eq_decide]; omega
  rw [← e]
  clear e hs hE hR hS hl
  go_enter Tryz.func59, Tryz.ntmps59
  go_wp2
  go_ret
  exact ⟨rfl, rfl⟩

set_option maxHeartbeats 2000000 in
theorem addSnap_any (x : St) (D : Nat → Prop) (sb : Nat) (q : Int) (w : World) (hx : StoreAt D sb x w) (ok : StOk x) (hBw : Opn D w) (h0 : 0 ≤ x.lastSnap) (h1 : x.lastSnap < 1000000000) :
    Calls Tryz.prog 60 #[.pointer (some ⟨sb, 3, none⟩), .int .i64 q] w fun e w' => e = .returned (.int .i64 (x.lastSnap + 1)) ∧ StoreAt D sb { x with S := x.S ++ [⟨x.lastSnap + 1, q⟩], lastSnap := x.lastSnap + 1 } w' ∧ Kd D [81, 165] w w' := by
  obtain ⟨vE, vR, vS, R, hB, hs, hE, hR, hS, hl⟩ := hx
  obtain ⟨i0, hi, hz0, hz1, hz2⟩ := info_parts Tryz.info165
  obtain ⟨ls, hls⟩ : ∃ ls, x.lastSnap = ls := ⟨_, rfl⟩
  have hl4 := ok.snaps
  rw [hls] at hs h0 h1 ⊢
  have c4 : w.cell? ⟨sb, 4, none⟩ = some (.int .i64 ls) := by simp [World.cell?, hs]
  have f4 : w.frozen? ⟨sb, 4, none⟩ = false := by simp [World.frozen?, hs]
  have k1 := Kd.field hB hs 4 (.int .i64 (ls + 1))
  have s1 := set_field hs 4 (.int .i64 (ls + 1))
  have e1 := k1.ownsIn hE (by simp)
  have r1 := k1.ownsIn hR (by simp)
  have o1 := k1.ownsIn hS (by simp)
  generalize hw1 : w.setCell ⟨sb, 4, none⟩ (.int .i64 (ls + 1)) = w1 at k1 s1 e1 r1 o1
  simp only [List.setIfInBounds_toArray, List.set_cons_succ, List.set_cons_zero] at s1
  have H : Hid (StOk x ∧ Kd D [81] w w1 ∧ w1.heap[sb]? = some (.cells #[vE, vR, .int .i64 x.synced, vS, .int .i64 (ls + 1), .int .i64 x.last] 81 (0, 0)) ∧ OwnsIn w1 D 61 4 vE x.E.length (ecells x.E) ∧ OwnsIn w1 D 5 1 vR R.length R ∧ R.length ≤ x.jl ∧ D sb) := ⟨ok, k1, s1, e1, r1, hl, hB⟩
  have c3 : w1.cell? ⟨sb, 3, none⟩ = some vS := by simp [World.cell?, s1]
  have c4' : w1.cell? ⟨sb, 4, none⟩ = some (.int .i64 (ls + 1)) := by simp [World.cell?, s1]
  have hsz1 : sb < w1.heap.size := lt_of_block s1
  have HD1 : Hid (Opn D w1) := hBw.later k1.size
  have HW : Hid (w.setCell ⟨sb, 4, none⟩ (.int .i64 (ls + 1)) = w1) := hw1
  have HO : Hid (OwnsIn w1 D 165 2 vS x.S.length (scells x.S)) := o1
  clear hBw hs hE hR hS hl ok k1 s1 e1 r1 o1 hw1
  go_enter Tryz.func60, Tryz.ntmps60
  go_wp2
  rw [HW.out]
  go_region_law (refine step_append_lies _ rfl _ _ 77 rfl 0 165 i0 _ 2 16 Tryz.underlying77 hi hz0 hz1 hz2 rfl (by decide) vS x.S.length (scells x.S) rfl (by exact HO.out.own.alloc _) ⟨w1.heap.size, 0, none⟩ 1 1 (Sn.cells ⟨ls + 1, q⟩) rfl rfl (by intro j u hj; match j, hj with | 0, hj => (simp [Sn.cells] at hj; subst hj; simp [Addr.add]) | 1, hj => (simp [Sn.cells] at hj; subst hj; simp [Addr.add]) | j + 2, hj => (simp [Sn.cells] at hj)) (by intro u hu; simp [Sn.cells] at hu; rcases hu with rfl | rfl <;> rfl) (by omega) (by unfold maxLen; omega) (by omega) (Nat.zero_le _) _ rfl ?_; intro g cap w2 hown hgrow hat hlt; have K2 : Hid (Kd D [165] w1 w2) := Kd.grown ((Kd.refl _ _ _).alloc _).drew (by exact HO.out.alloc _) hgrow (by simp); have c3b : w2.cell? ⟨sb, 3, none⟩ = some vS := (by simp [World.cell?, K2.out.keep H.out.2.2.1 (by simp)]); have f3b : w2.frozen? ⟨sb, 3, none⟩ = false := (by simp [World.frozen?, K2.out.keep H.out.2.2.1 (by simp)]); have c4b : w2.cell? ⟨sb, 4, none⟩ = some (.int .i64 (ls + 1)) := (by simp [World.cell?, K2.out.keep H.out.2.2.1 (by simp)]); have HN : Hid (OwnsIn w2 D 165 2 (.slice (some ⟨g, 0, none⟩) (x.S.length + 1) cap) (x.S.length + 1) (scells x.S ++ Sn.cells ⟨ls + 1, q⟩)) := HO.out.put HD1.out hown (hat.imp id fun e => by rw [e]; simp); clear hown hgrow hat hlt)
  all_goals go_wp2
  all_goals go_ret
  all_goals exact ⟨rfl, put_snaps (K2.out.keep H.out.2.2.1 (by simp)) H.out.2.2.2.2.2.2 (K2.out.ownsIn H.out.2.2.2.1 (by simp)) (K2.out.ownsIn H.out.2.2.2.2.1 (by simp)) H.out.2.2.2.2.2.1 (snaps_snoc HN.out), ((H.out.2.1.mono (by simp)).trans (K2.out.mono (by simp))).trans ((Kd.field H.out.2.2.2.2.2.2 (K2.out.keep H.out.2.2.1 (by simp)) 3 _).mono (by simp))⟩

set_option maxHeartbeats 1000000 in
theorem snap_any (x : St) (D : Nat → Prop) (sb : Nat) (w : World) (hx : StoreAt D sb x w) (ok : StOk x) (hBw : Opn D w) (h0 : 0 ≤ x.lastSnap) (h1 : x.lastSnap < 1000000000) :
    Calls Tryz.prog 23 #[.pointer (some ⟨sb, 0, none⟩)] w fun e w' =>
      (x.S.length = 4 ∧ e = .returned (.tuple #[.int .i64 0, .int .i64 7]) ∧ w' = w) ∨
      (x.S.length < 4 ∧ e = .returned (.tuple #[.int .i64 (x.lastSnap + 1), .int .i64 0]) ∧ StoreAt D sb { x with S := x.S ++ [⟨x.lastSnap + 1, x.last⟩], lastSnap := x.lastSnap + 1 } w' ∧ Kd D [81, 165] w w') := by
  have hf := isFull_any x D sb w hx ok
  have hl4 := ok.snaps
  by_cases h4 : 4 ≤ x.S.length
  · simp only [h4, decide_true] at hf
    have HF : Hid _ := hf
    clear hf hx
    go_enter Tryz.func23, Tryz.ntmps23
    go_wp2_with fail
    refine Calls.mono HF.out ?_
    rintro e w0 ⟨rfl, rfl⟩
    go_wp2
    go_ret2
    exact .inl ⟨by omega, rfl, rfl⟩
  · simp only [h4, decide_false] at hf
    have HF : Hid _ := hf
    have HA : Hid (∀ w', StoreAt D sb x w' → Opn D w' → Calls Tryz.prog 60 #[.pointer (some ⟨sb, 3, none⟩), .int .i64 x.last] w' fun e w'' => e = .returned (.int .i64 (x.lastSnap + 1)) ∧ StoreAt D sb { x with S := x.S ++ [⟨x.lastSnap + 1, x.last⟩], lastSnap := x.lastSnap + 1 } w'' ∧ Kd D [81, 165] w' w'') := fun w' hw hb => addSnap_any x D sb x.last w' hw ok hb h0 h1
    have HX : Hid (StoreAt D sb x w) := hx
    obtain ⟨vE, vR, vS, R, hB, hs, hE, hR, hS, hl⟩ := hx
    have c5 : w.cell? ⟨sb, 5, none⟩ = some (.int .i64 x.last) := by simp [World.cell?, hs]
    have HBW : Hid (Opn D w) := hBw
    clear hBw hf hs hE hR hS hl
    go_enter Tryz.func23, Tryz.ntmps23
    go_wp2_with fail
    refine Calls.mono HF.out ?_
    rintro e w0 ⟨rfl, rfl⟩
    go_wp2
    go_region_with (go_at_call 60; refine Calls.mono (HA.out _ (by exact HX.out.kept (D' := D) (ts := []) (Kd.refl _ _ _).drew (by simp) (by simp) (by simp) (by simp)) HBW.out) ?_; rintro e w2 ⟨rfl, hst, hkp⟩; have HR2 : Hid (StoreAt D sb { x with S := x.S ++ [⟨x.lastSnap + 1, x.last⟩], lastSnap := x.lastSnap + 1 } w2 ∧ Kd D [81, 165] w0 w2) := ⟨hst, (Kd.refl _ _ _).drew.trans hkp⟩; clear hst hkp)
    all_goals go_wp2
    all_goals go_ret2
    all_goals exact .inr ⟨by omega, rfl, Hid.out (by assumption)⟩
end Go.Proofs.YtojdkfamihlnkaaGreatDoor
