/- The walks of this proof: making a snapshot. -/
import Derived.Test.YtojdkfamihlnkaaW6
import Derived.Deep.AppendLies
import Derived.Deep.RegionLaw
namespace Go.Proofs.Ytojdkfamihlnkaa
open Go.RowKit Go.Sort

theorem Try.info128 : (Try.prog.info? 128).map (fun i => (i.zero, i.size, i.bytes)) = some (some (.agg #[.int .i64 0, .int .i64 0]), 2, 16) := by kernel_rfl

/-- A field of a store that is written. -/
theorem set_field {w : World} {sb : Nat} {a0 a1 a2 a3 a4 a5 : Value} {t : TypeId} (h : w.heap[sb]? = some (.cells #[a0, a1, a2, a3, a4, a5] t (0, 0))) (i : Nat) (v : Value) :
    (w.setCell ⟨sb, i, none⟩ v).heap[sb]? = some (.cells (#[a0, a1, a2, a3, a4, a5].setIfInBounds i v) t (0, 0)) := heap_setCell_same w sb i _ t v h

theorem Kp.field {B : Nat} {w : World} {sb : Nat} {a : Array Value} {t : TypeId} (hB : B ≤ sb) (h : w.heap[sb]? = some (.cells a t (0, 0))) (i : Nat) (v : Value) : Kp B [t] w (w.setCell ⟨sb, i, none⟩ v) :=
  (Kp.refl B [t] w).setCell hB h (by simp) v

/-- The snapshots' row put into its field. -/
theorem put_snaps {B sb : Nat} {x : St} {w : World} {vE vR vS vS' : Value} {ls : Int} {S' : List Sn} {R : List Value} (hs : w.heap[sb]? = some (.cells #[vE, vR, .int .i64 x.synced, vS, .int .i64 ls, .int .i64 x.last] 105 (0, 0))) (hB : B ≤ sb)
    (hE : w.ownsRow B 123 4 vE x.E.length (ecells x.E)) (hR : w.ownsRow B 5 1 vR R.length R) (hl : R.length ≤ x.jl) (hS : w.ownsRow B 128 2 vS' S'.length (scells S')) :
    StoreAt B sb { x with S := S', lastSnap := ls } (w.setCell ⟨sb, 3, none⟩ vS') := by
  have k := Kp.field hB hs 3 vS'
  refine ⟨vE, vR, vS', R, hB, ?_, k.owns hE (by simp), k.owns hR (by simp), k.owns hS (by simp), hl⟩
  rw [set_field hs 3 vS']
  simp

theorem snaps_snoc {w : World} {B : Nat} {v : Value} {S : List Sn} {s : Sn} (h : w.ownsRow B 128 2 v (S.length + 1) (scells S ++ Sn.cells s)) : w.ownsRow B 128 2 v (S ++ [s]).length (scells (S ++ [s])) := by
  have e : scells (S ++ [s]) = scells S ++ Sn.cells s := by simp [scells]
  rw [e, List.length_append]
  exact h

set_option maxHeartbeats 1000000 in
theorem isFull_any (x : St) (B sb : Nat) (w : World) (hx : StoreAt B sb x w) (ok : StOk x) :
    Calls Try.prog 42 #[.pointer (some ⟨sb, 3, none⟩)] w fun e w' => e = .returned (.bool (decide (4 ≤ x.S.length))) ∧ w' = w := by
  obtain ⟨vE, vR, vS, R, hB, hs, hE, hR, hS, hl⟩ := hx
  obtain ⟨ao, cap, rfl⟩ := slice_form hS
  have c3 : w.cell? ⟨sb, 3, none⟩ = some (.slice ao x.S.length cap) := by simp [World.cell?, hs]
  have hl4 := ok.snaps
  have e : decide ((4 : Int) ≤ (x.S.length : Int)) = decide (4 ≤ x.S.length) := by simp only [decide_eq_decide]; omega
  rw [← e]
  clear e hs hE hR hS hl
  go_enter Try.func42, Try.ntmps42
  go_wp2
  go_ret
  exact ⟨rfl, rfl⟩

set_option maxHeartbeats 2000000 in
theorem addSnap_any (x : St) (B sb : Nat) (q : Int) (w : World) (hx : StoreAt B sb x w) (ok : StOk x) (hBw : B ≤ w.heap.size) (h0 : 0 ≤ x.lastSnap) (h1 : x.lastSnap < 1000000000) :
    Calls Try.prog 43 #[.pointer (some ⟨sb, 3, none⟩), .int .i64 q] w fun e w' => e = .returned (.int .i64 (x.lastSnap + 1)) ∧ StoreAt B sb { x with S := x.S ++ [⟨x.lastSnap + 1, q⟩], lastSnap := x.lastSnap + 1 } w' ∧ Kp B [105, 128] w w' := by
  obtain ⟨vE, vR, vS, R, hB, hs, hE, hR, hS, hl⟩ := hx
  obtain ⟨i0, hi, hz0, hz1, hz2⟩ := info_parts Try.info128
  obtain ⟨ls, hls⟩ : ∃ ls, x.lastSnap = ls := ⟨_, rfl⟩
  have hl4 := ok.snaps
  rw [hls] at hs h0 h1 ⊢
  have c4 : w.cell? ⟨sb, 4, none⟩ = some (.int .i64 ls) := by simp [World.cell?, hs]
  have f4 : w.frozen? ⟨sb, 4, none⟩ = false := by simp [World.frozen?, hs]
  have k1 := Kp.field hB hs 4 (.int .i64 (ls + 1))
  have s1 := set_field hs 4 (.int .i64 (ls + 1))
  have e1 := k1.owns hE (by simp)
  have r1 := k1.owns hR (by simp)
  have o1 := k1.owns hS (by simp)
  generalize hw1 : w.setCell ⟨sb, 4, none⟩ (.int .i64 (ls + 1)) = w1 at k1 s1 e1 r1 o1
  simp only [List.setIfInBounds_toArray, List.set_cons_succ, List.set_cons_zero] at s1
  have H : Hid (StOk x ∧ Kp B [105] w w1 ∧ w1.heap[sb]? = some (.cells #[vE, vR, .int .i64 x.synced, vS, .int .i64 (ls + 1), .int .i64 x.last] 105 (0, 0)) ∧ w1.ownsRow B 123 4 vE x.E.length (ecells x.E) ∧ w1.ownsRow B 5 1 vR R.length R ∧ R.length ≤ x.jl ∧ B ≤ sb) := ⟨ok, k1, s1, e1, r1, hl, hB⟩
  have c3 : w1.cell? ⟨sb, 3, none⟩ = some vS := by simp [World.cell?, s1]
  have c4' : w1.cell? ⟨sb, 4, none⟩ = some (.int .i64 (ls + 1)) := by simp [World.cell?, s1]
  have hsz1 : sb < w1.heap.size := lt_of_block s1
  have hBs1 : B ≤ w1.heap.size := Nat.le_trans hBw k1.size
  have HW : Hid (w.setCell ⟨sb, 4, none⟩ (.int .i64 (ls + 1)) = w1) := hw1
  have HO : Hid (w1.ownsRow B 128 2 vS x.S.length (scells x.S)) := o1
  clear hs hE hR hS hl ok k1 s1 e1 r1 o1 hw1
  go_enter Try.func43, Try.ntmps43
  go_wp2
  rw [HW.out]
  go_region_law (refine step_append_lies _ rfl _ _ 101 rfl B 128 i0 _ 2 16 Try.underlying101 hi hz0 hz1 hz2 rfl (by decide) vS x.S.length (scells x.S) rfl (by exact HO.out.alloc _) ⟨w1.heap.size, 0, none⟩ 1 1 (Sn.cells ⟨ls + 1, q⟩) rfl rfl (by intro j u hj; match j, hj with | 0, hj => (simp [Sn.cells] at hj; subst hj; simp [Addr.add]) | 1, hj => (simp [Sn.cells] at hj; subst hj; simp [Addr.add]) | j + 2, hj => (simp [Sn.cells] at hj)) (by intro u hu; simp [Sn.cells] at hu; rcases hu with rfl | rfl <;> rfl) (by omega) (by unfold maxLen; omega) (by omega) (by simp; omega) _ rfl ?_; intro g cap w2 hown hgrow hat hlt; have K2 : Hid (Kp B [128] w1 w2) := Kp.grown ((Kp.refl _ _ _).alloc _).drew (by exact HO.out.alloc _) hgrow (Nat.le_refl _) (by simp); have c3b : w2.cell? ⟨sb, 3, none⟩ = some vS := (by simp [World.cell?, K2.out.keep H.out.2.2.1 (by simp)]); have f3b : w2.frozen? ⟨sb, 3, none⟩ = false := (by simp [World.frozen?, K2.out.keep H.out.2.2.1 (by simp)]); have c4b : w2.cell? ⟨sb, 4, none⟩ = some (.int .i64 (ls + 1)) := (by simp [World.cell?, K2.out.keep H.out.2.2.1 (by simp)]); have HN : Hid (w2.ownsRow B 128 2 (.slice (some ⟨g, 0, none⟩) (x.S.length + 1) cap) (x.S.length + 1) (scells x.S ++ Sn.cells ⟨ls + 1, q⟩)) := hown; clear hown hgrow hat hlt)
  all_goals go_wp2
  all_goals go_ret
  all_goals exact ⟨rfl, put_snaps (K2.out.keep H.out.2.2.1 (by simp)) H.out.2.2.2.2.2.2 (K2.out.owns H.out.2.2.2.1 (by simp)) (K2.out.owns H.out.2.2.2.2.1 (by simp)) H.out.2.2.2.2.2.1 (snaps_snoc HN.out), ((H.out.2.1.mono (by simp)).trans (K2.out.mono (by simp))).trans ((Kp.field H.out.2.2.2.2.2.2 (K2.out.keep H.out.2.2.1 (by simp)) 3 _).mono (by simp))⟩

set_option maxHeartbeats 1000000 in
theorem snap_any (x : St) (B sb : Nat) (w : World) (hx : StoreAt B sb x w) (ok : StOk x) (hBw : B ≤ w.heap.size) (h0 : 0 ≤ x.lastSnap) (h1 : x.lastSnap < 1000000000) :
    Calls Try.prog 28 #[.pointer (some ⟨sb, 0, none⟩)] w fun e w' =>
      (x.S.length = 4 ∧ e = .returned (.tuple #[.int .i64 0, .int .i64 7]) ∧ w' = w) ∨
      (x.S.length < 4 ∧ e = .returned (.tuple #[.int .i64 (x.lastSnap + 1), .int .i64 0]) ∧ StoreAt B sb { x with S := x.S ++ [⟨x.lastSnap + 1, x.last⟩], lastSnap := x.lastSnap + 1 } w' ∧ Kp B [105, 128] w w') := by
  have hf := isFull_any x B sb w hx ok
  have hl4 := ok.snaps
  by_cases h4 : 4 ≤ x.S.length
  · simp only [h4, decide_true] at hf
    have HF : Hid _ := hf
    clear hf hx
    go_enter Try.func28, Try.ntmps28
    go_wp2_with fail
    refine Calls.mono HF.out ?_
    rintro e w0 ⟨rfl, rfl⟩
    go_wp2
    go_ret2
    exact .inl ⟨by omega, rfl, rfl⟩
  · simp only [h4, decide_false] at hf
    have HF : Hid _ := hf
    have HA : Hid (∀ w', StoreAt B sb x w' → B ≤ w'.heap.size → Calls Try.prog 43 #[.pointer (some ⟨sb, 3, none⟩), .int .i64 x.last] w' fun e w'' => e = .returned (.int .i64 (x.lastSnap + 1)) ∧ StoreAt B sb { x with S := x.S ++ [⟨x.lastSnap + 1, x.last⟩], lastSnap := x.lastSnap + 1 } w'' ∧ Kp B [105, 128] w' w'') := fun w' hw hb => addSnap_any x B sb x.last w' hw ok hb h0 h1
    have HX : Hid (StoreAt B sb x w) := hx
    obtain ⟨vE, vR, vS, R, hB, hs, hE, hR, hS, hl⟩ := hx
    have c5 : w.cell? ⟨sb, 5, none⟩ = some (.int .i64 x.last) := by simp [World.cell?, hs]
    clear hf hs hE hR hS hl
    go_enter Try.func28, Try.ntmps28
    go_wp2_with fail
    refine Calls.mono HF.out ?_
    rintro e w0 ⟨rfl, rfl⟩
    go_wp2
    go_region_with (go_at_call 43; refine Calls.mono (HA.out _ (by exact HX.out.kept (B' := 0) (ts := []) (Kp.refl _ _ _).drew (by simp) (by simp) (by simp) (by simp)) hBw) ?_; rintro e w2 ⟨rfl, hst, hkp⟩; have HR2 : Hid (StoreAt B sb { x with S := x.S ++ [⟨x.lastSnap + 1, x.last⟩], lastSnap := x.lastSnap + 1 } w2 ∧ Kp B [105, 128] w0 w2) := ⟨hst, (Kp.refl _ _ _).drew.trans hkp⟩; clear hst hkp)
    all_goals go_wp2
    all_goals go_ret2
    all_goals exact .inr ⟨by omega, rfl, Hid.out (by assumption)⟩
end Go.Proofs.Ytojdkfamihlnkaa
