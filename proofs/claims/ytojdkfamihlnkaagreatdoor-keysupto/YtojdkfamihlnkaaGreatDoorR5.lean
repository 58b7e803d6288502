/- The walks of this proof: the document's store: snapshots. -/
import Derived.Test.YtojdkfamihlnkaaGreatDoorR4
namespace Go.Proofs.YtojdkfamihlnkaaGreatDoor
open Go.RowKit Go.Sort

theorem Tryz.info133 : (Tryz.prog.info? 133).map (fun i => (i.zero, i.size, i.bytes)) = some (some (.agg #[.int .i64 0, .int .i64 0]), 2, 16) := by kernel_rfl

theorem sncells_snoc {w : World} {D : Nat → Prop} {v : Value} {S : List Sn} {s : Sn} (h : OwnsIn w D 133 2 v (S.length + 1) (scells S ++ Sn.cells s)) : OwnsIn w D 133 2 v (S ++ [s]).length (scells (S ++ [s])) := by
  have e : scells (S ++ [s]) = scells S ++ Sn.cells s := by simp [scells]
  rw [e, List.length_append]
  exact h

/-- The snapshots' row put into its field. -/
theorem rput_snaps {D : Nat → Prop} {rb : Nat} {y : Rf} {w : World} {vA vS vS' vT : Value} {la sy nm : Int} {S' : List Sn} (hs : w.heap[rb]? = some (.cells #[vA, .int .i64 la, .int .i64 sy, vS, .int .i64 nm, vT] 84 (0, 0))) (hB : D rb)
    (hA : AllAt D w vA y.A) (hS : OwnsIn w D 133 2 vS' S'.length (scells S')) :
    RefAt D rb { y with S := S', num := nm } (w.setCell ⟨rb, 3, none⟩ vS') := by
  have k := Kd.field hB hs 3 vS'
  refine ⟨vA, vS', vT, la, sy, hB, ?_, hA.kept k (by simp) (by simp), k.ownsIn hS (by simp)⟩
  rw [set_field hs 3 vS']
  simp

set_option maxHeartbeats 2000000 in
theorem refSnap_any (D : Nat → Prop) (rb : Nat) (y : Rf) (w : World) (hy : RefAt D rb y w) (hD : Opn D w) (ok : RfOk y) (h0 : 0 ≤ y.num) (h1 : y.num < 1000000000) :
    Calls Tryz.prog 24 #[.pointer (some ⟨rb, 0, none⟩)] w fun e w' =>
      (y.S.length = 4 ∧ e = .returned (.tuple #[.int .i64 0, .int .i64 7]) ∧ w' = w) ∨
      (y.S.length < 4 ∧ e = .returned (.tuple #[.int .i64 (y.num + 1), .int .i64 0]) ∧ RefAt D rb { y with S := y.S ++ [⟨y.num + 1, y.A.length⟩], num := y.num + 1 } w' ∧ Kd D [84, 133] w w') := by
  obtain ⟨vA, vS, vT, la, sy, hB, hs, hA, hS⟩ := hy
  obtain ⟨i0, hi, hz0, hz1, hz2⟩ := info_parts Tryz.info133
  have hl4 := ok.snaps
  obtain ⟨aoS, capS, rfl⟩ := slice_form hS.own
  by_cases h4 : y.S.length = 4
  · have c3 : w.cell? ⟨rb, 3, none⟩ = some (.slice aoS 4 capS) := by simp [World.cell?, hs, h4]
    clear hs hA hS ok
    go_enter Tryz.func24, Tryz.ntmps24
    go_wp2
    go_ret2
    exact .inl ⟨h4, rfl, rfl⟩
  · have c3 : w.cell? ⟨rb, 3, none⟩ = some (.slice aoS y.S.length capS) := by simp [World.cell?, hs]
    have hd4 : ((y.S.length : Int) == 4) = false := by rw [beq_eq_false_iff_ne]; omega
    obtain ⟨nm, hnm⟩ : ∃ nm, y.num = nm := ⟨_, rfl⟩
    rw [hnm] at hs h0 h1 ⊢
    have c4 : w.cell? ⟨rb, 4, none⟩ = some (.int .i64 nm) := by simp [World.cell?, hs]
    have f4 : w.frozen? ⟨rb, 4, none⟩ = false := by simp [World.frozen?, hs]
    have k1 := Kd.field hB hs 4 (.int .i64 (nm + 1))
    have s1 := set_field hs 4 (.int .i64 (nm + 1))
    have a1 := hA.kept k1 (by simp) (by simp)
    have o1 := k1.ownsIn hS (by simp)
    generalize hw1 : w.setCell ⟨rb, 4, none⟩ (.int .i64 (nm + 1)) = w1 at k1 s1 a1 o1
    simp only [List.setIfInBounds_toArray, List.set_cons_succ, List.set_cons_zero] at s1
    have HA1 : Hid (AllAt D w1 vA y.A) := a1
    obtain ⟨Ws, hW, _⟩ := a1
    obtain ⟨aoA, capA, rfl⟩ := slice_form hW.own
    have H : Hid (Kd D [84] w w1 ∧ w1.heap[rb]? = some (.cells #[.slice aoA y.A.length capA, .int .i64 la, .int .i64 sy, .slice aoS y.S.length capS, .int .i64 (nm + 1), vT] 84 (0, 0)) ∧ D rb) := ⟨k1, s1, hB⟩
    have c0' : w1.cell? ⟨rb, 0, none⟩ = some (.slice aoA y.A.length capA) := by simp [World.cell?, s1]
    have c3' : w1.cell? ⟨rb, 3, none⟩ = some (.slice aoS y.S.length capS) := by simp [World.cell?, s1]
    have c4' : w1.cell? ⟨rb, 4, none⟩ = some (.int .i64 (nm + 1)) := by simp [World.cell?, s1]
    have HD1 : Hid (Opn D w1) := hD.later k1.size
    have hrb1 : rb < w1.heap.size := lt_of_block s1
    have HW : Hid (w.setCell ⟨rb, 4, none⟩ (.int .i64 (nm + 1)) = w1) := hw1
    have HO : Hid (OwnsIn w1 D 133 2 (.slice aoS y.S.length capS) y.S.length (scells y.S)) := o1
    clear hs hA hS ok k1 s1 o1 hw1 hW hD hnm
    go_enter Tryz.func24, Tryz.ntmps24
    go_wp2
    rw [HW.out]
    go_region_law (refine step_append_lies _ rfl _ _ 82 rfl 0 133 i0 _ 2 16 Tryz.underlying82 hi hz0 hz1 hz2 rfl (by decide) (.slice aoS y.S.length capS) y.S.length (scells y.S) rfl (by exact HO.out.own.alloc _) ⟨w1.heap.size, 0, none⟩ 1 1 (Sn.cells ⟨nm + 1, y.A.length⟩) rfl rfl (by intro j u hj; match j, hj with | 0, hj => (simp [Sn.cells] at hj; subst hj; simp [Addr.add]) | 1, hj => (simp [Sn.cells] at hj; subst hj; simp [Addr.add]) | j + 2, hj => (simp [Sn.cells] at hj)) (by intro u hu; simp [Sn.cells] at hu; rcases hu with rfl | rfl <;> rfl) (by omega) (by unfold maxLen; omega) (by omega) (Nat.zero_le _) _ rfl ?_; intro g cap w2 hown hgrow hat hlt; have K2 : Hid (Kd D [133] w1 w2) := Kd.grown ((Kd.refl _ _ _).alloc _).drew (by exact HO.out.alloc _) hgrow (by simp); have c3b : w2.cell? ⟨rb, 3, none⟩ = some (.slice aoS y.S.length capS) := (by simp [World.cell?, K2.out.keep H.out.2.1 (by simp)]); have f3b : w2.frozen? ⟨rb, 3, none⟩ = false := (by simp [World.frozen?, K2.out.keep H.out.2.1 (by simp)]); have c4b : w2.cell? ⟨rb, 4, none⟩ = some (.int .i64 (nm + 1)) := (by simp [World.cell?, K2.out.keep H.out.2.1 (by simp)]); have HN : Hid (OwnsIn w2 D 133 2 (.slice (some ⟨g, 0, none⟩) (y.S.length + 1) cap) (y.S.length + 1) (scells y.S ++ Sn.cells ⟨nm + 1, y.A.length⟩)) := HO.out.put HD1.out hown (hat.imp id fun e => by rw [e]; simp); clear hown hgrow hat hlt)
    all_goals go_wp2
    all_goals go_ret2
    all_goals exact .inr ⟨by omega, rfl, rput_snaps (K2.out.keep H.out.2.1 (by simp)) H.out.2.2 (HA1.out.kept K2.out (by simp) (by simp)) (sncells_snoc HN.out), ((H.out.1.mono (by simp)).trans (K2.out.mono (by simp))).trans ((Kd.field H.out.2.2 (K2.out.keep H.out.2.1 (by simp)) 3 _).mono (by simp))⟩

theorem take_filter {S : List Sn} {k : Nat} {s : Sn} (f : Sn → Bool) (h : S[k]? = some s) : (S.take (k + 1)).filter f = (S.take k).filter f ++ if f s then [s] else [] := by
  rw [List.take_add_one, h, List.filter_append]
  congr 1
  cases hf : f s <;> simp [hf]

def notN (n : Int) (s : Sn) : Bool := decide (s.n ≠ n)

set_option maxHeartbeats 2000000 in
set_option maxRecDepth 100000 in
theorem refDrop_any (D : Nat → Prop) (rb : Nat) (y : Rf) (n : Int) (w : World) (hy : RefAt D rb y w) (hD : Opn D w) (ok : RfOk y) :
    Calls Tryz.prog 26 #[.pointer (some ⟨rb, 0, none⟩), .int .i64 n] w fun e w' =>
      ((y.S.filter (notN n)).length = y.S.length ∧ e = .returned (.int .i64 5) ∧ Below w.heap.size w w') ∨
      ((y.S.filter (notN n)).length ≠ y.S.length ∧ e = .returned (.int .i64 0) ∧ RefAt D rb { y with S := y.S.filter (notN n) } w' ∧ Kd D [84] w w') := by
  obtain ⟨vA, vS, vT, la, sy, hB, hs, hA, hS⟩ := hy
  obtain ⟨i0, hi, hz0, hz1, hz2⟩ := info_parts Tryz.info133
  have hl4 := ok.snaps
  obtain ⟨aoS, capS, rfl⟩ := slice_form hS.own
  have c3 : w.cell? ⟨rb, 3, none⟩ = some (.slice aoS y.S.length capS) := by simp [World.cell?, hs]
  have H : Hid (w.heap[rb]? = some (.cells #[vA, .int .i64 la, .int .i64 sy, .slice aoS y.S.length capS, .int .i64 y.num, vT] 84 (0, 0)) ∧ AllAt D w vA y.A ∧ OwnsIn w D 133 2 (.slice aoS y.S.length capS) y.S.length (scells y.S) ∧ Opn D w ∧ D rb) := ⟨hs, hA, hS, hD, hB⟩
  have hrb : rb < w.heap.size := lt_of_block hs
  clear hs hA hS ok hD
  go_enter Tryz.func26, Tryz.ntmps26
  go_wp2
  go_loopg [5, 6] y.S.length (fun kx s5 s6 wr => ∃ (k : Nat) (T : List Sn), k ≤ y.S.length ∧ y.S.length - k ≤ kx ∧ s6 = .int .i64 k ∧ T.length ≤ k ∧ Hid (T = (y.S.take k).filter (notN n)) ∧ Hid (wr.ownsRow w.heap.size 133 2 s5 T.length (scells T)) ∧ Hid (Below w.heap.size w wr))
  case atStart => exact ⟨0, [], Nat.zero_le _, Nat.le_refl _, rfl, Nat.le_refl _, rfl, World.ownsRow_nil _ _ _ _, Below.refl _ _⟩
  case round =>
    obtain ⟨k, T, hk, hkx, rfl, hTk, HT, HO, HB⟩ := hrel
    have c3r := cell_later HB.out c3
    obtain ⟨aoT, capT, rfl⟩ := slice_form HO.out
    by_cases hlt : k < y.S.length
    · obtain ⟨g, cap', hv', hbg, hgl, hcap, hcell⟩ := row_cell (fun a => by rfl) H.out.2.2.1.own (by omega)
      simp only [Value.slice.injEq, true_and] at hv'
      obtain ⟨rfl, rfl⟩ := hv'
      obtain ⟨s, hs⟩ : ∃ s, y.S[k]? = some s := ⟨_, List.getElem?_eq_getElem hlt⟩
      have d0 := cell_later HB.out (show w.cell? ⟨g, k * 2, none⟩ = some (Value.int .i64 s.n) from hcell k s 0 hs (by omega))
      have d1 := cell_later HB.out (show w.cell? ⟨g, k * 2 + 1, none⟩ = some (Value.int .i64 s.q) from hcell k s 1 hs (by omega))
      have hgr : g < wr.heap.size := Nat.lt_of_lt_of_le hgl HB.out.size
      have HT2 : Hid ((y.S.take (k + 1)).filter (notN n) = T ++ if notN n s then [s] else []) := by show _ = _; rw [take_filter _ hs, HT.out]
      clear hs hcell
      by_cases hsn : s.n = n
      · have hnb : (s.n == n) = true := by simp [hsn]
        have HT3 : Hid (T = (y.S.take (k + 1)).filter (notN n)) := by show _ = _; rw [HT2.out]; simp [notN, hsn]
        go_wp2
        go_roundg (y.S.length - (k + 1))
        case measure => omega
        case rel => exact ⟨k + 1, T, by omega, Nat.le_refl _, by go_num, by omega, HT3.out, HO.out, HB.out⟩
      · have hnb : (s.n == n) = false := by simp [hsn]
        have HT3 : Hid (T ++ [s] = (y.S.take (k + 1)).filter (notN n)) := by show _ = _; rw [HT2.out]; simp [notN, hsn]
        have hsz := HB.out.size
        go_wp2_with (at_builtin; refine wpList_append_own _ rfl _ _ 82 rfl w.heap.size 133 i0 _ 2 16 Tryz.underlying82 hi hz0 hz1 hz2 rfl (by decide) _ _ _ rfl (HO.out.alloc _) ⟨wr.heap.size, 0, none⟩ 1 1 (Sn.cells s) rfl rfl ?c1 ?c2 ?c3 ?c4 ?c5 ?_)
        case c1 =>
          intro j u hj
          match j, hj with
          | 0, hj => simp [Sn.cells] at hj; subst hj; simp [Addr.add]
          | 1, hj => simp [Sn.cells] at hj; subst hj; simp [Addr.add]
          | j + 2, hj => simp [Sn.cells] at hj
        case c2 => intro u hu; simp [Sn.cells] at hu; rcases hu with rfl | rfl <;> rfl
        case c3 => unfold maxLen; omega
        case c4 => omega
        case c5 => simp; omega
        intro v9 w4 ho2 hg2 _
        have HB4 : Hid (Below w.heap.size w w4) := app_below HB.out HO.out hg2
        have HO4 : Hid (w4.ownsRow w.heap.size 133 2 v9 (T ++ [s]).length (scells (T ++ [s]))) := by
          have : scells (T ++ [s]) = scells T ++ Sn.cells s := by simp [scells]
          rw [this, List.length_append]; exact ho2
        clear ho2 hg2
        go_wp2
        go_roundg (y.S.length - (k + 1))
        case measure => omega
        case rel => exact ⟨k + 1, T ++ [s], by omega, Nat.le_refl _, by go_num, by simp; omega, HT3.out, HO4.out, HB4.out⟩
    · obtain rfl : k = y.S.length := by omega
      have HT3 : Hid (y.S.filter (notN n) = T) := by show _ = _; rw [HT.out, List.take_of_length_le (Nat.le_refl _)]
      by_cases hTl : T.length = y.S.length
      · have hd : ((T.length : Int) == (y.S.length : Int)) = true := by rw [beq_iff_eq]; omega
        have HT4 : Hid ((y.S.filter (notN n)).length = y.S.length) := by show _ = _; rw [HT3.out, hTl]
        clear hTl
        go_wp2
        go_ret
        exact .inl ⟨HT4.out, rfl, HB.out⟩
      · have hd : ((T.length : Int) == (y.S.length : Int)) = false := by rw [beq_eq_false_iff_ne]; omega
        have HT4 : Hid ((y.S.filter (notN n)).length ≠ y.S.length) := by show _ ≠ _; rw [HT3.out]; exact hTl
        have hsr : Hid (wr.heap[rb]? = some (.cells #[vA, .int .i64 la, .int .i64 sy, .slice aoS y.S.length capS, .int .i64 y.num, vT] 84 (0, 0))) := (HB.out.block rb hrb).trans H.out.1
        have f3 : wr.frozen? ⟨rb, 3, none⟩ = false := by simp [World.frozen?, hsr.out]
        have HR : Hid (RefAt D rb { y with S := y.S.filter (notN n), num := y.num } (wr.setCell ⟨rb, 3, none⟩ (.slice aoT T.length capT)) ∧ Kd D [84] w (wr.setCell ⟨rb, 3, none⟩ (.slice aoT T.length capT))) :=
          ⟨rput_snaps hsr.out H.out.2.2.2.2 (H.out.2.1.below HB.out) (by rw [HT3.out]; exact OwnsIn.fresh HO.out H.out.2.2.2.1 (Nat.le_refl _)), (Kd.of_below HB.out).trans (Kd.field H.out.2.2.2.2 hsr.out 3 _)⟩
        clear hTl
        go_wp2
        go_ret
        exact .inr ⟨HT4.out, rfl, HR.out⟩
end Go.Proofs.YtojdkfamihlnkaaGreatDoor
