/- The walks of this proof: the document's store: Write, New. -/
import Derived.Test.YtojdkfamihlnkaaGreatDoorR6
import Derived.Test.YtojdkfamihlnkaaGreatDoorR5
namespace Go.Proofs.YtojdkfamihlnkaaGreatDoor
open Go.RowKit Go.Sort

theorem Tryz.info38 : (Tryz.prog.info? 38).map (fun i => (i.zero, i.size, i.bytes)) = some (some (.slice none 0 0), 1, 24) := by kernel_rfl

theorem flt_ok {L : List Pr} (h : flt L = 0) : 1 ≤ L.length ∧ L.length ≤ 4 ∧ ∀ p ∈ L, PrOk p := by
  unfold flt at h
  split at h
  · cases h
  · rename_i h0
    split at h
    · cases h
    · rename_i h1
      split at h
      · cases h
      · rename_i h2
        split at h
        · cases h
        · rename_i h3
          refine ⟨by omega, by omega, fun p hp => ?_⟩
          simp only [List.any_eq_true, not_exists, not_and] at h1 h2 h3
          have h4 := h1 p hp
          have h5 := h2 p hp
          have h6 := h3 p hp
          simp only [noKey, Bool.or_eq_true, decide_eq_true_eq, not_or] at h4
          simp only [isLong, decide_eq_true_eq] at h5
          refine ⟨by omega, by omega, by omega, fun hg => ?_⟩
          simp only [goneW, hg, Bool.true_and, Bool.not_eq_true', Bool.not_eq_false, List.isEmpty_iff] at h6
          have h7 : p.v.data = #[] := by
            rw [ByteArray.toList_eq] at h6
            exact Array.toList_eq_nil_iff.1 h6
          cases hv : p.v with
          | mk d => rw [hv] at h7; simp only at h7; rw [h7]

/-- What Write comes to, by the document. -/
def RefWritePost (D : Nat → Prop) (rb : Nat) (y : Rf) (L : List Pr) (w : World) (e : Ending) (w' : World) : Prop :=
  (flt L ≠ 0 ∧ e = .returned (.tuple #[.int .i64 0, .int .i64 (flt L)]) ∧ Below w.heap.size w w') ∨
  (flt L = 0 ∧ e = .returned (.tuple #[.int .i64 ((y.A.length : Int) + 1), .int .i64 0]) ∧ ∃ C, SamePr (keep L) C ∧ Upto C C.length ∧ RefAt D rb { y with A := y.A ++ [C] } w' ∧ Kd D [84, 38] w w')

/-- One batch more. -/
theorem AllAt.snoc {D : Nat → Prop} {w w' : World} {vA vN vc : Value} {A : List (List Pr)} {Ws : List Value} {C : List Pr} (hW : OwnsIn w D 38 1 vA A.length Ws) (hb : ∀ (i : Nat) (b : List Pr), A[i]? = some b → ∃ vi, Ws[i]? = some vi ∧ OwnsIn w D 57 3 vi b.length (pcells b))
    (k : Kd D [38] w w') (hN : OwnsIn w' D 38 1 vN (A.length + 1) (Ws ++ [vc])) (hC : OwnsIn w' D 57 3 vc C.length (pcells C)) : AllAt D w' vN (A ++ [C]) := by
  have hWl : Ws.length = A.length := by have := hW.own.1; omega
  refine ⟨Ws ++ [vc], by rw [List.length_append]; exact hN, fun i b hi => ?_⟩
  by_cases hlt : i < A.length
  · rw [List.getElem?_append_left hlt] at hi
    obtain ⟨vi, h1, h2⟩ := hb i b hi
    exact ⟨vi, by rw [List.getElem?_append_left (by omega)]; exact h1, k.ownsIn h2 (by simp)⟩
  · have hil : i < (A ++ [C]).length := (List.getElem?_eq_some_iff.1 hi).1
    rw [List.length_append, List.length_singleton] at hil
    obtain rfl : i = A.length := by omega
    simp at hi
    subst hi
    exact ⟨vc, by rw [← hWl]; simp, hC⟩

set_option maxHeartbeats 4000000 in
set_option maxRecDepth 100000 in
theorem refWrite_any (D : Nat → Prop) (rb : Nat) (y : Rf) (L : List Pr) (v : Value) (sync : Bool) (w : World) (hy : RefAt D rb y w) (hD : Opn D w) (ok : RfOk y) (hP : PairsAt w v L) :
    Calls Tryz.prog 48 #[.pointer (some ⟨rb, 0, none⟩), v, .bool sync] w fun e w' => RefWritePost D rb y L w e w' := by
  have HF : Hid _ := fault_any L v w hP
  unfold RefWritePost
  by_cases hf : flt L = 0
  · obtain ⟨i0, hi, hz0, hz1, hz2⟩ := info_parts Tryz.info38
    rw [hf] at HF
    obtain ⟨h1, h4, hok⟩ := flt_ok hf
    have HCT : Hid (∀ w1, Below w.heap.size w w1 → Calls Tryz.prog 76 #[v] w1 fun e w' => CountPost L w1 e w') := fun w1 hb => counted_any L v w1 (hP.below hb) h4 (fun p hp => (hok p hp).lo)
    have HY : Hid (RefAt D rb y w) := hy
    have HD : Hid (Opn D w) := hD
    have hfew := ok.few
    generalize hpost : (fun (e : Ending) (w' : World) => (flt L ≠ 0 ∧ e = Ending.returned (.tuple #[.int .i64 0, .int .i64 (flt L)]) ∧ Below w.heap.size w w') ∨
      (flt L = 0 ∧ e = .returned (.tuple #[.int .i64 ((y.A.length : Int) + 1), .int .i64 0]) ∧ ∃ C, SamePr (keep L) C ∧ Upto C C.length ∧ RefAt D rb { y with A := y.A ++ [C] } w' ∧ Kd D [84, 38] w w')) = PP
    have HPP : Hid (∀ e w', e = Ending.returned (.tuple #[.int .i64 ((y.A.length : Int) + 1), .int .i64 0]) → ∀ C, SamePr (keep L) C → Upto C C.length → RefAt D rb { y with A := y.A ++ [C] } w' → Kd D [84, 38] w w' → PP e w') := fun e w' he C h2 h3 h4 h5 => by
      rw [← hpost]; exact .inr ⟨hf, he, C, h2, h3, h4, h5⟩
    clear hpost hy hD ok hP hf hok
    go_enter Tryz.func48, Tryz.ntmps48
    go_wp2_with fail
    refine Calls.mono HF.out ?_
    rintro e w1 ⟨rfl, hb1⟩
    have B1 : Hid (Below w.heap.size w w1) := hb1
    have hy1 := HY.out.below hb1
    obtain ⟨vA, vS, vT, la, sy, hB, hs, hA, hS⟩ := hy1
    obtain ⟨Ws, hW, hbs⟩ := hA
    obtain ⟨aoA, capA, rfl⟩ := slice_form hW.own
    have c0 : w1.cell? ⟨rb, 0, none⟩ = some (.slice aoA y.A.length capA) := by simp [World.cell?, hs]
    have f0 : w1.frozen? ⟨rb, 0, none⟩ = false := by simp [World.frozen?, hs]
    have hrb1 : rb < w1.heap.size := lt_of_block hs
    have H : Hid (D rb ∧ w1.heap[rb]? = some (.cells #[.slice aoA y.A.length capA, .int .i64 la, .int .i64 sy, vS, .int .i64 y.num, vT] 84 (0, 0)) ∧ OwnsIn w1 D 38 1 (.slice aoA y.A.length capA) y.A.length Ws ∧ (∀ (i : Nat) (b : List Pr), y.A[i]? = some b → ∃ vi, Ws[i]? = some vi ∧ OwnsIn w1 D 57 3 vi b.length (pcells b)) ∧ OwnsIn w1 D 133 2 vS y.S.length (scells y.S) ∧ Opn D w1) := ⟨hB, hs, hW, hbs, hS, HD.out.later hb1.size⟩
    clear hb1 hB hs hW hbs hS HF
    go_wp2
    rename_i K HK0
    have HK : Hid _ := HK0
    clear HK0
    have REST : Hid (∀ (C : List Pr) (g cap : Nat) (aoC : Option Addr) (capC : Nat) (w2 w3 : World), SamePr (keep L) C → Upto C C.length → Below w1.heap.size w1 w2 → AllAt D w3 (.slice (some ⟨g, 0, none⟩) (y.A.length + 1) cap) (y.A ++ [C]) → Kd D [38] w2 w3 → w3.heap[rb]? = some (.cells #[.slice aoA y.A.length capA, .int .i64 la, .int .i64 sy, vS, .int .i64 y.num, vT] 84 (0, 0)) →
        K { tmps := #[.pointer (some ⟨rb, 0, none⟩), v, .bool sync, undef, undef, undef, .int .i64 0, .int .i64 0, .int .i64 0, v, .int .i64 0, .int .i64 0, .bool false, undef, .pointer (some ⟨rb, 0, none⟩), .pointer (some ⟨rb, 0, none⟩), .pointer (some ⟨rb, 0, none⟩), .pointer (some ⟨rb, 0, none⟩), .slice aoA y.A.length capA, v, .slice aoC C.length capC, .slice (some ⟨w2.heap.size, 0, none⟩) 1 1, .slice (some ⟨g, 0, none⟩) (y.A.length + 1) cap, .pointer (some ⟨rb, 0, none⟩), .pointer (some ⟨rb, 0, none⟩), undef, undef, undef, undef, undef, undef, undef, undef, undef, undef, undef, undef, undef, undef], defers := [] } (w3.setCell ⟨rb, 0, none⟩ (.slice (some ⟨g, 0, none⟩) (y.A.length + 1) cap))) := by
      intro C g cap aoC capC w2 w3 hsm hup hb2 hall hkd hs3
      have hk0 := Kd.field H.out.1 hs3 0 (.slice (some ⟨g, 0, none⟩) (y.A.length + 1) cap)
      have hs4 := set_field hs3 0 (.slice (some ⟨g, 0, none⟩) (y.A.length + 1) cap)
      simp only [List.setIfInBounds_toArray, List.set_cons_zero] at hs4
      have hS4 : OwnsIn _ D 133 2 vS y.S.length (scells y.S) := hk0.ownsIn (hkd.ownsIn (H.out.2.2.2.2.1.below hb2) (by simp)) (by simp)
      have hA4 := hall.kept hk0 (by simp) (by simp)
      have K4 : Hid (Kd D [84, 38] w (w3.setCell ⟨rb, 0, none⟩ (.slice (some ⟨g, 0, none⟩) (y.A.length + 1) cap))) := (((Kd.of_below B1.out).trans (Kd.of_below hb2)).trans (hkd.mono (by simp))).trans (hk0.mono (by simp))
      generalize w3.setCell ⟨rb, 0, none⟩ (.slice (some ⟨g, 0, none⟩) (y.A.length + 1) cap) = w4 at hs4 hS4 hA4 K4
      have c0b : w4.cell? ⟨rb, 0, none⟩ = some (.slice (some ⟨g, 0, none⟩) (y.A.length + 1) cap) := by simp [World.cell?, hs4]
      have c2b : w4.cell? ⟨rb, 2, none⟩ = some (.int .i64 sy) := by simp [World.cell?, hs4]
      have f2b : w4.frozen? ⟨rb, 2, none⟩ = false := by simp [World.frozen?, hs4]
      have N4 : Hid (SamePr (keep L) C ∧ Upto C C.length ∧ w4.heap[rb]? = some (.cells #[.slice (some ⟨g, 0, none⟩) (y.A.length + 1) cap, .int .i64 la, .int .i64 sy, vS, .int .i64 y.num, vT] 84 (0, 0)) ∧ OwnsIn w4 D 133 2 vS y.S.length (scells y.S) ∧ AllAt D w4 (.slice (some ⟨g, 0, none⟩) (y.A.length + 1) cap) (y.A ++ [C])) := ⟨hsm, hup, hs4, hS4, hA4⟩
      clear hsm hup hb2 hall hkd hs3 hk0 hs4 hS4 hA4
      refine HK.out _ _ ?_
      clear HK
      cases sync with
      | false =>
        go_wp2
        exact HPP.out _ _ (by simp) C N4.out.1 N4.out.2.1 ⟨_, vS, vT, la, sy, H.out.1, N4.out.2.2.1, N4.out.2.2.2.2, N4.out.2.2.2.1⟩ K4.out
      | true =>
        have hk5 := Kd.field H.out.1 N4.out.2.2.1 2 (.int .i64 ((y.A.length : Int) + 1))
        have hs5 := set_field N4.out.2.2.1 2 (.int .i64 ((y.A.length : Int) + 1))
        simp only [List.setIfInBounds_toArray, List.set_cons_succ, List.set_cons_zero] at hs5
        have K5 : Hid (Kd D [84, 38] w (w4.setCell ⟨rb, 2, none⟩ (.int .i64 ((y.A.length : Int) + 1)))) := K4.out.trans (hk5.mono (by simp))
        have N5 : Hid (RefAt D rb { y with A := y.A ++ [C] } (w4.setCell ⟨rb, 2, none⟩ (.int .i64 ((y.A.length : Int) + 1)))) := ⟨_, vS, vT, la, _, H.out.1, hs5, N4.out.2.2.2.2.kept hk5 (by simp) (by simp), hk5.ownsIn N4.out.2.2.2.1 (by simp)⟩
        have c0c : (w4.setCell ⟨rb, 2, none⟩ (.int .i64 ((y.A.length : Int) + 1))).cell? ⟨rb, 0, none⟩ = some (.slice (some ⟨g, 0, none⟩) (y.A.length + 1) cap) := by simp [World.cell?, hs5]
        clear hk5 hs5
        go_wp2
        exact HPP.out _ _ (by simp) C N4.out.1 N4.out.2.1 N5.out K5.out
    refine wp_region_held_drew (S := fun _ => True) (by kernel_rfl) trivial ?_
    intro _
    refine wpAnyH_take (i := 0) (v := .pointer (some ⟨rb, 0, none⟩)) rfl (by kernel_rfl) (by kernel_rfl) (by kernel_rfl) (fun _ _ _ h => h) (Or.inl ⟨by rfl, ?_⟩) trivial ?_
    · intro w0 _
      go_simp
    simp only [Act.put]
    refine wpAnyH_take (i := 1) (v := .pointer (some ⟨rb, 0, none⟩)) rfl (by kernel_rfl) (by kernel_rfl) (by kernel_rfl) (fun _ _ _ h => h) (Or.inl ⟨by rfl, ?_⟩) trivial ?_
    · intro w0 _
      go_simp
    simp only [Act.put]
    refine wpAnyH_take (i := 2) (v := .pointer (some ⟨rb, 0, none⟩)) rfl (by kernel_rfl) (by kernel_rfl) (by kernel_rfl) (fun _ _ _ h => h) (Or.inl ⟨by rfl, ?_⟩) trivial ?_
    · intro w0 _
      go_simp
    simp only [Act.put]
    refine wpAnyH_take (i := 3) (v := .pointer (some ⟨rb, 0, none⟩)) rfl (by kernel_rfl) (by kernel_rfl) (by kernel_rfl) (fun _ _ _ h => h) (Or.inl ⟨by rfl, ?_⟩) trivial ?_
    · intro w0 _
      go_simp
    simp only [Act.put]
    refine wpAnyH_take (i := 5) (v := v) rfl (by kernel_rfl) (by kernel_rfl) (by kernel_rfl) (fun _ _ _ h => h) (Or.inl ⟨by rfl, ?_⟩) trivial ?_
    · intro w0 _
      go_simp
    simp only [Act.put]
    refine wpAnyH_ready (rs := [4, 6]) (by kernel_rfl) (by simp) ?_
    refine AllReadyH.cons rfl (fun K' hK => ?_) (AllReadyH.cons rfl (fun K' hK => ?_) AllReadyH.nil)
    · rw [if_pos (by rfl)]
      go_wp2_with fail
      refine hK.out _ _ trivial (fun _ => ?_)
      clear hK K'
      refine wpAnyH_ready (rs := [6]) (by kernel_rfl) (by simp) ?_
      refine AllReadyH.cons rfl (fun K' hK => ?_) AllReadyH.nil
      rw [if_pos (by rfl)]
      go_wp2_with fail
      refine (HCT.out _ (by exact B1.out.drew)).mono ?_
      rintro e w2 ⟨vc, C, rfl, hsm, hup, hoc, hbc⟩
      obtain ⟨aoC, capC, rfl⟩ := slice_form hoc
      have B2 : Hid (Below w1.heap.size w1 w2) := ⟨hbc.os, hbc.tape, hbc.output, hbc.size, hbc.block⟩
      have m0 : w2.cell? ⟨rb, 0, none⟩ = some (.slice aoA y.A.length capA) := cell_later B2.out c0
      have A2 : Hid (SamePr (keep L) C ∧ Upto C C.length ∧ OwnsIn w2 D 57 3 (.slice aoC C.length capC) C.length (pcells C)) := ⟨hsm, hup, OwnsIn.fresh hoc H.out.2.2.2.2.2 (Nat.le_refl _)⟩
      have hrb2 : rb < w2.heap.size := Nat.lt_of_lt_of_le hrb1 B2.out.size
      clear hsm hup hoc hbc
      go_wp2_with fail
      refine hK.out _ _ trivial (fun _ => ?_)
      clear hK K'
      refine wpAnyH_ready (rs := [7]) (by kernel_rfl) (by simp) ?_
      refine AllReadyH.cons rfl (fun K' hK => ?_) AllReadyH.nil
      rw [if_pos (by rfl)]
      go_wp2_with fail
      refine hK.out _ _ trivial (fun _ => ?_)
      clear hK K'
      refine wpAnyH_ready (rs := [8]) (by kernel_rfl) (by simp) ?_
      refine AllReadyH.cons rfl (fun K' hK => ?_) AllReadyH.nil
      rw [if_pos (by rfl)]
      refine wp_append_lies _ (.tmp 18) (.tmp 21) 28 rfl 0 38 i0 _ 1 24 Tryz.underlying28 hi hz0 hz1 hz2 rfl (by decide) (.slice aoA y.A.length capA) y.A.length Ws rfl (by exact (H.out.2.2.1.below B2.out).own.alloc _) ⟨w2.heap.size, 0, none⟩ 1 1 [.slice aoC C.length capC] rfl rfl (by intro j u hj; match j, hj with | 0, hj => (simp at hj; subst hj; simp [Addr.add]) | j + 1, hj => (simp at hj)) (by intro u hu; simp at hu; subst hu; rfl) (by omega) (by unfold maxLen; omega) (by omega) (Nat.zero_le _) _ rfl ?_
      intro g cap w3 hown hgrow hat hlt
      have K3 : Hid (Kd D [38] w2 w3) := Kd.grown ((Kd.refl _ _ _).alloc _) (by exact (H.out.2.2.1.below B2.out).alloc _) hgrow (by simp)
      have A3 : Hid (AllAt D w3 (.slice (some ⟨g, 0, none⟩) (y.A.length + 1) cap) (y.A ++ [C])) := AllAt.snoc (H.out.2.2.1.below B2.out) (fun i b hb => by obtain ⟨vi, h1, h2⟩ := H.out.2.2.2.1 i b hb; exact ⟨vi, h1, h2.below B2.out⟩) K3.out (H.out.2.2.1.put H.out.2.2.2.2.2 hown (hat.imp id fun e => by rw [e]; have := B2.out.size; simp; omega)) (K3.out.ownsIn A2.out.2.2 (by simp))
      have s3 : Hid (w3.heap[rb]? = some (.cells #[.slice aoA y.A.length capA, .int .i64 la, .int .i64 sy, vS, .int .i64 y.num, vT] 84 (0, 0))) := K3.out.keep ((B2.out.block rb hrb1).trans H.out.2.1) (by simp)
      have m3 : w3.cell? ⟨rb, 0, none⟩ = some (.slice aoA y.A.length capA) := by simp [World.cell?, s3.out]
      have f3 : w3.frozen? ⟨rb, 0, none⟩ = false := by simp [World.frozen?, s3.out]
      clear hown hgrow hat hlt
      refine hK.out _ _ trivial (fun _ => ?_)
      clear hK K'
      simp only [Act.put]
      refine wpAnyH_take (i := 9) (v := .pointer (some ⟨rb, 0, none⟩)) rfl (by kernel_rfl) (by kernel_rfl) (by kernel_rfl) (fun _ _ _ h => h) (Or.inl ⟨by rfl, ?_⟩) trivial ?_
      · intro w0 _
        go_simp
      simp only [Act.put]
      refine wpAnyH_take (i := 10) (v := .pointer (some ⟨rb, 0, none⟩)) rfl (by kernel_rfl) (by kernel_rfl) (by kernel_rfl) (fun _ _ _ h => h) (Or.inl ⟨by rfl, ?_⟩) trivial ?_
      · intro w0 _
        go_simp
      simp only [Act.put]
      refine wpAnyH_ready (rs := [11]) (by kernel_rfl) (by simp) ?_
      refine AllReadyH.cons rfl (fun K' hK => ?_) AllReadyH.nil
      rw [if_pos (by rfl)]
      go_wp2_with fail
      refine hK.out _ _ trivial (fun _ => ?_)
      clear hK K'
      refine wpAnyH_done (by kernel_rfl) ?_ _
      exact REST.out C g cap aoC capC w2 w3 A2.out.1 A2.out.2.1 B2.out A3.out K3.out s3.out
    · rw [if_pos (by rfl)]
      go_wp2_with fail
      refine (HCT.out _ (by exact B1.out.drew)).mono ?_
      rintro e w2 ⟨vc, C, rfl, hsm, hup, hoc, hbc⟩
      obtain ⟨aoC, capC, rfl⟩ := slice_form hoc
      have B2 : Hid (Below w1.heap.size w1 w2) := ⟨hbc.os, hbc.tape, hbc.output, hbc.size, hbc.block⟩
      have m0 : w2.cell? ⟨rb, 0, none⟩ = some (.slice aoA y.A.length capA) := cell_later B2.out c0
      have A2 : Hid (SamePr (keep L) C ∧ Upto C C.length ∧ OwnsIn w2 D 57 3 (.slice aoC C.length capC) C.length (pcells C)) := ⟨hsm, hup, OwnsIn.fresh hoc H.out.2.2.2.2.2 (Nat.le_refl _)⟩
      have hrb2 : rb < w2.heap.size := Nat.lt_of_lt_of_le hrb1 B2.out.size
      clear hsm hup hoc hbc
      go_wp2_with fail
      refine hK.out _ _ trivial (fun _ => ?_)
      clear hK K'
      refine wpAnyH_ready (rs := [4, 7]) (by kernel_rfl) (by simp) ?_
      refine AllReadyH.cons rfl (fun K' hK => ?_) (AllReadyH.cons rfl (fun K' hK => ?_) AllReadyH.nil)
      · rw [if_pos (by rfl)]
        go_wp2_with fail
        refine hK.out _ _ trivial (fun _ => ?_)
        clear hK K'
        refine wpAnyH_ready (rs := [7]) (by kernel_rfl) (by simp) ?_
        refine AllReadyH.cons rfl (fun K' hK => ?_) AllReadyH.nil
        rw [if_pos (by rfl)]
        go_wp2_with fail
        refine hK.out _ _ trivial (fun _ => ?_)
        clear hK K'
        refine wpAnyH_ready (rs := [8]) (by kernel_rfl) (by simp) ?_
        refine AllReadyH.cons rfl (fun K' hK => ?_) AllReadyH.nil
        rw [if_pos (by rfl)]
        refine wp_append_lies _ (.tmp 18) (.tmp 21) 28 rfl 0 38 i0 _ 1 24 Tryz.underlying28 hi hz0 hz1 hz2 rfl (by decide) (.slice aoA y.A.length capA) y.A.length Ws rfl (by exact (H.out.2.2.1.below B2.out).own.alloc _) ⟨w2.heap.size, 0, none⟩ 1 1 [.slice aoC C.length capC] rfl rfl (by intro j u hj; match j, hj with | 0, hj => (simp at hj; subst hj; simp [Addr.add]) | j + 1, hj => (simp at hj)) (by intro u hu; simp at hu; subst hu; rfl) (by omega) (by unfold maxLen; omega) (by omega) (Nat.zero_le _) _ rfl ?_
        intro g cap w3 hown hgrow hat hlt
        have K3 : Hid (Kd D [38] w2 w3) := Kd.grown ((Kd.refl _ _ _).alloc _) (by exact (H.out.2.2.1.below B2.out).alloc _) hgrow (by simp)
        have A3 : Hid (AllAt D w3 (.slice (some ⟨g, 0, none⟩) (y.A.length + 1) cap) (y.A ++ [C])) := AllAt.snoc (H.out.2.2.1.below B2.out) (fun i b hb => by obtain ⟨vi, h1, h2⟩ := H.out.2.2.2.1 i b hb; exact ⟨vi, h1, h2.below B2.out⟩) K3.out (H.out.2.2.1.put H.out.2.2.2.2.2 hown (hat.imp id fun e => by rw [e]; have := B2.out.size; simp; omega)) (K3.out.ownsIn A2.out.2.2 (by simp))
        have s3 : Hid (w3.heap[rb]? = some (.cells #[.slice aoA y.A.length capA, .int .i64 la, .int .i64 sy, vS, .int .i64 y.num, vT] 84 (0, 0))) := K3.out.keep ((B2.out.block rb hrb1).trans H.out.2.1) (by simp)
        have m3 : w3.cell? ⟨rb, 0, none⟩ = some (.slice aoA y.A.length capA) := by simp [World.cell?, s3.out]
        have f3 : w3.frozen? ⟨rb, 0, none⟩ = false := by simp [World.frozen?, s3.out]
        clear hown hgrow hat hlt
        refine hK.out _ _ trivial (fun _ => ?_)
        clear hK K'
        simp only [Act.put]
        refine wpAnyH_take (i := 9) (v := .pointer (some ⟨rb, 0, none⟩)) rfl (by kernel_rfl) (by kernel_rfl) (by kernel_rfl) (fun _ _ _ h => h) (Or.inl ⟨by rfl, ?_⟩) trivial ?_
        · intro w0 _
          go_simp
        simp only [Act.put]
        refine wpAnyH_take (i := 10) (v := .pointer (some ⟨rb, 0, none⟩)) rfl (by kernel_rfl) (by kernel_rfl) (by kernel_rfl) (fun _ _ _ h => h) (Or.inl ⟨by rfl, ?_⟩) trivial ?_
        · intro w0 _
          go_simp
        simp only [Act.put]
        refine wpAnyH_ready (rs := [11]) (by kernel_rfl) (by simp) ?_
        refine AllReadyH.cons rfl (fun K' hK => ?_) AllReadyH.nil
        rw [if_pos (by rfl)]
        go_wp2_with fail
        refine hK.out _ _ trivial (fun _ => ?_)
        clear hK K'
        refine wpAnyH_done (by kernel_rfl) ?_ _
        exact REST.out C g cap aoC capC w2 w3 A2.out.1 A2.out.2.1 B2.out A3.out K3.out s3.out
      · rw [if_pos (by rfl)]
        go_wp2_with fail
        refine hK.out _ _ trivial (fun _ => ?_)
        clear hK K'
        refine wpAnyH_ready (rs := [4]) (by kernel_rfl) (by simp) ?_
        refine AllReadyH.cons rfl (fun K' hK => ?_) AllReadyH.nil
        rw [if_pos (by rfl)]
        go_wp2_with fail
        refine hK.out _ _ trivial (fun _ => ?_)
        clear hK K'
        refine wpAnyH_ready (rs := [8]) (by kernel_rfl) (by simp) ?_
        refine AllReadyH.cons rfl (fun K' hK => ?_) AllReadyH.nil
        rw [if_pos (by rfl)]
        refine wp_append_lies _ (.tmp 18) (.tmp 21) 28 rfl 0 38 i0 _ 1 24 Tryz.underlying28 hi hz0 hz1 hz2 rfl (by decide) (.slice aoA y.A.length capA) y.A.length Ws rfl (by exact (H.out.2.2.1.below B2.out).own.alloc _) ⟨w2.heap.size, 0, none⟩ 1 1 [.slice aoC C.length capC] rfl rfl (by intro j u hj; match j, hj with | 0, hj => (simp at hj; subst hj; simp [Addr.add]) | j + 1, hj => (simp at hj)) (by intro u hu; simp at hu; subst hu; rfl) (by omega) (by unfold maxLen; omega) (by omega) (Nat.zero_le _) _ rfl ?_
        intro g cap w3 hown hgrow hat hlt
        have K3 : Hid (Kd D [38] w2 w3) := Kd.grown ((Kd.refl _ _ _).alloc _) (by exact (H.out.2.2.1.below B2.out).alloc _) hgrow (by simp)
        have A3 : Hid (AllAt D w3 (.slice (some ⟨g, 0, none⟩) (y.A.length + 1) cap) (y.A ++ [C])) := AllAt.snoc (H.out.2.2.1.below B2.out) (fun i b hb => by obtain ⟨vi, h1, h2⟩ := H.out.2.2.2.1 i b hb; exact ⟨vi, h1, h2.below B2.out⟩) K3.out (H.out.2.2.1.put H.out.2.2.2.2.2 hown (hat.imp id fun e => by rw [e]; have := B2.out.size; simp; omega)) (K3.out.ownsIn A2.out.2.2 (by simp))
        have s3 : Hid (w3.heap[rb]? = some (.cells #[.slice aoA y.A.length capA, .int .i64 la, .int .i64 sy, vS, .int .i64 y.num, vT] 84 (0, 0))) := K3.out.keep ((B2.out.block rb hrb1).trans H.out.2.1) (by simp)
        have m3 : w3.cell? ⟨rb, 0, none⟩ = some (.slice aoA y.A.length capA) := by simp [World.cell?, s3.out]
        have f3 : w3.frozen? ⟨rb, 0, none⟩ = false := by simp [World.frozen?, s3.out]
        clear hown hgrow hat hlt
        refine hK.out _ _ trivial (fun _ => ?_)
        clear hK K'
        simp only [Act.put]
        refine wpAnyH_take (i := 9) (v := .pointer (some ⟨rb, 0, none⟩)) rfl (by kernel_rfl) (by kernel_rfl) (by kernel_rfl) (fun _ _ _ h => h) (Or.inl ⟨by rfl, ?_⟩) trivial ?_
        · intro w0 _
          go_simp
        simp only [Act.put]
        refine wpAnyH_take (i := 10) (v := .pointer (some ⟨rb, 0, none⟩)) rfl (by kernel_rfl) (by kernel_rfl) (by kernel_rfl) (fun _ _ _ h => h) (Or.inl ⟨by rfl, ?_⟩) trivial ?_
        · intro w0 _
          go_simp
        simp only [Act.put]
        refine wpAnyH_ready (rs := [11]) (by kernel_rfl) (by simp) ?_
        refine AllReadyH.cons rfl (fun K' hK => ?_) AllReadyH.nil
        rw [if_pos (by rfl)]
        go_wp2_with fail
        refine hK.out _ _ trivial (fun _ => ?_)
        clear hK K'
        refine wpAnyH_done (by kernel_rfl) ?_ _
        exact REST.out C g cap aoC capC w2 w3 A2.out.1 A2.out.2.1 B2.out A3.out K3.out s3.out
  · have hz : (flt L == 0) = false := by rw [beq_eq_false_iff_ne]; exact hf
    clear hy hD ok hP
    obtain ⟨fv, hfv⟩ : ∃ fv, flt L = fv := ⟨_, rfl⟩
    rw [hfv] at HF hz hf ⊢
    clear hfv
    go_enter Tryz.func48, Tryz.ntmps48
    go_wp2_with fail
    refine Calls.mono HF.out ?_
    rintro e w1 ⟨rfl, hb1⟩
    have B1 : Hid (Below w.heap.size w w1) := hb1
    clear hb1
    go_wp2
    go_ret2
    exact .inl ⟨hf, rfl, B1.out⟩

def rNew : Obj := .cells #[.slice none 0 0, .int .i64 0, .int .i64 0, .slice none 0 0, .int .i64 0, .slice none 0 0] 84
def sNew : Obj := .cells #[.slice none 0 0, .slice none 0 0, .int .i64 0, .slice none 0 0, .int .i64 0, .int .i64 0] 81

set_option maxHeartbeats 400000 in
theorem refNew_any (w : World) : Calls Tryz.prog 9 #[] w fun e w' => e = .returned (.pointer (some ⟨w.heap.size, 0, none⟩)) ∧ w' = w.alloc rNew := by
  unfold rNew
  go_enter Tryz.func9, Tryz.ntmps9
  go_wp2
  go_ret
  exact ⟨rfl, rfl⟩

set_option maxHeartbeats 400000 in
theorem new_any (w : World) : Calls Tryz.prog 8 #[] w fun e w' => e = .returned (.pointer (some ⟨w.heap.size, 0, none⟩)) ∧ w' = w.alloc sNew := by
  unfold sNew
  go_enter Tryz.func8, Tryz.ntmps8
  go_wp2
  go_ret
  exact ⟨rfl, rfl⟩

theorem OwnsIn.nil (w : World) (D : Nat → Prop) (e : TypeId) (size : Nat) : OwnsIn w D e size (.slice none 0 0) 0 [] := ⟨World.ownsRow_nil _ _ _ _, fun g hg => by simp [Value.ownBlock] at hg⟩

theorem RefAt.new {D : Nat → Prop} (w : World) (hD : D w.heap.size) : RefAt D w.heap.size ⟨[], [], 0⟩ (w.alloc rNew) :=
  ⟨_, _, _, 0, 0, hD, heap_alloc_new w _, ⟨[], OwnsIn.nil _ _ _ _, fun i b h => by simp at h⟩, OwnsIn.nil _ _ _ _⟩

theorem StoreAt.new {D : Nat → Prop} (w : World) (hD : D w.heap.size) : StoreAt D w.heap.size ⟨[], [], 0, 0, 0, 0⟩ (w.alloc sNew) :=
  ⟨_, _, _, [], hD, heap_alloc_new w _, OwnsIn.nil _ _ _ _, OwnsIn.nil _ _ _ _, OwnsIn.nil _ _ _ _, Nat.le_refl _⟩

end Go.Proofs.YtojdkfamihlnkaaGreatDoor
