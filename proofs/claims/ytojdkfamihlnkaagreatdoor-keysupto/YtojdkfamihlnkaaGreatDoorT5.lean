/- The walks of this proof: the calls of stage 1. -/
import Derived.Test.YtojdkfamihlnkaaGreatDoorT4
namespace Go.Proofs.YtojdkfamihlnkaaGreatDoor
open Go.RowKit Go.Sort

theorem get_same {t : Nat} {x : St} {y : Rf} (h : Both t x y) (ht : t ≤ 2000000) (k : ByteArray) (n : Int) : getVal x k n = rgetVal y k n := by
  unfold getVal rgetVal
  rw [h.sm.snaps, h.sm.last]
  by_cases hk : 1 ≤ k.size ∧ k.size ≤ 6
  · rw [if_pos hk, if_pos hk]
    cases hq : seqOf y.S y.A.length n with
    | none => rfl
    | some q =>
      obtain ⟨h0, h1⟩ := seqOf_le (h.rf ht) hq
      obtain ⟨m, rfl⟩ : ∃ m : Nat, q = m := ⟨q.toNat, by omega⟩
      rw [Int.toNat_natCast] at h1
      simp only [Int.toNat_natCast]
      rw [sk_vk h.sorted h.sm.rel k m h1]
      cases vk y.A k m <;> rfl
  · rw [if_neg hk, if_neg hk]

theorem getVal_form (x : St) (k : ByteArray) (n : Int) : ∃ (s : ByteArray) (c : Int), getVal x k n = .tuple #[.string s, .int .i64 c] := by
  unfold getVal
  split
  · split
    · exact ⟨_, _, rfl⟩
    · split <;> exact ⟨_, _, rfl⟩
  · exact ⟨_, _, rfl⟩

/-- Both stores have turned. -/
theorem two_fin {own : Nat → Nat} {is ir wb sb rb : Nat} {vss vrs : Value} {x x' : St} {y y' : Rf} {P : List (Int × Nat)} {n : Int} {t N0 : Nat} {w w1 w2 w3 : World}
    (pre : Pre own is ir wb sb rb vss vrs x y P n t N0 w) (ht : t + 1 ≤ 1100000) (hb1 : Below w.heap.size w w1)
    (hst : StoreAt (Dc (own1 own w.heap.size) w1.heap.size is) sb x' w2) (k2 : Kd (Dc (own1 own w.heap.size) w1.heap.size is) [81, 165] w1 w2)
    (hrf : RefAt (Dc (own1 own w.heap.size) w2.heap.size ir) rb y' w3) (k3 : Kd (Dc (own1 own w.heap.size) w2.heap.size ir) [84, 133] w2 w3) (hbo : Both (t + 1) x' y') : StepPost own is ir wb sb rb vss vrs t N0 w (.returned (.bool true)) w3 := by
  have s1 := hb1.size
  have s2 := k2.size
  have s3 := k3.size
  obtain ⟨i1, i2, i3, i4, i5⟩ := pre.ids
  obtain ⟨own', how⟩ : ∃ own', own' = ownW own is ir w.heap.size w1.heap.size w2.heap.size w3.heap.size := ⟨_, rfl⟩
  have agree : ∀ k, k < w.heap.size → own' k = own k := fun k hk => by rw [how]; simp [ownW, hk]
  have XW : Kx (fun k e => w.heap.size ≤ k ∨ (own k = is ∧ e ∈ [81, 165]) ∨ (own k = ir ∧ e ∈ [84, 133])) w w3 := by
    refine ((Kx.of_below hb1).trans (Kx.of_kd k2 fun k e hk hd he => ?_)).trans (Kx.of_kd k3 fun k e hk hd he => ?_)
    · by_cases hkN : k < w.heap.size
      · rcases hd with hd | hd
        · exact .inr (.inl ⟨by simpa [own1, hkN] using hd, he⟩)
        · omega
      · exact .inl (by omega)
    · by_cases hkN : k < w.heap.size
      · rcases hd with hd | hd
        · exact .inr (.inr ⟨by simpa [own1, hkN] using hd, he⟩)
        · omega
      · exact .inl (by omega)
  have SX : Kx (StepX own is ir w.heap.size) w w3 := XW.mono fun k e _ h => by
    rcases h with h | ⟨h, he⟩ | ⟨h, he⟩
    · exact .inl h
    · exact .inr (.inl ⟨h, by simp at he ⊢; omega⟩)
    · exact .inr (.inr (.inl ⟨h, by simp at he ⊢; omega⟩))
  have hlow : ∀ k, own' k ≠ 0 → N0 ≤ k := fun k hk => by
    by_cases hkN : k < w.heap.size
    · rw [agree k hkN] at hk; exact pre.low k hk
    · have := pre.lowN; omega
  have B4 : Below N0 w w3 := SX.below pre.lowN (StepX.low pre.low pre.lowN pre.ids)
  refine ⟨rfl, SX, own', x', y', P, n, agree, ?_, ?_, ?_, hbo, hlow, Nat.le_trans pre.lowN B4.size, fun w' h' => pre.tab w' (B4.trans h'), ht, pre.n0, by have := pre.n1; omega, by have := pre.pl; omega, fun p hp => by have := pre.pb p hp; omega, pre.ids⟩
  · have h5 : StoreAt (Dm own' is) sb x' w2 := hst.mono fun b hb hd => by
      show own' b = is
      rw [how]
      unfold ownW
      rcases hd with hd | hd
      · unfold own1 at hd
        by_cases hbN : b < w.heap.size
        · simp only [hbN, if_true] at hd ⊢; exact hd
        · simp only [hbN, if_false] at hd; omega
      · rw [if_neg (by omega), if_neg (by omega), if_pos hb]
    exact h5.kept k3 (by simp) (by simp) (by simp) (by simp)
  · exact hrf.mono fun b hb hd => by
      show own' b = ir
      rw [how]
      unfold ownW
      rcases hd with hd | hd
      · unfold own1 at hd
        by_cases hbN : b < w.heap.size
        · simp only [hbN, if_true] at hd ⊢; exact hd
        · simp only [hbN, if_false] at hd; omega
      · rw [if_neg (by omega), if_neg (by omega), if_neg (by omega), if_pos hb]
  · have h5 : BkAt (Dm own' 1) wb vss vrs P n w := pre.bk.mono fun b hb hd => by
      show own' b = 1
      rw [agree b hb]; exact hd
    refine h5.kx XW (fun b e hb hd hx => ?_) (fun b hb hx => ?_)
    · have hd' : own b = 1 := by rw [← agree b hb]; exact hd
      rcases hx with hx | ⟨hx, _⟩ | ⟨hx, _⟩ <;> omega
    · rcases hx with hx | ⟨_, hx⟩ | ⟨_, hx⟩
      · omega
      · simp at hx
      · simp at hx

/-- The document's store, behind the program's call. -/
theorem ref_later {own : Nat → Nat} {is ir wb sb rb : Nat} {vss vrs : Value} {x : St} {y : Rf} {P : List (Int × Nat)} {n : Int} {t N0 : Nat} {w w1 w2 : World} {ts : List Nat}
    (pre : Pre own is ir wb sb rb vss vrs x y P n t N0 w) (hb1 : Below w.heap.size w w1) (k2 : Kd (Dc (own1 own w.heap.size) w1.heap.size is) ts w1 w2) : RefAt (Dc (own1 own w.heap.size) w2.heap.size ir) rb y w2 := by
  have h1 : RefAt (Dm (own1 own w.heap.size) ir) rb y w := pre.rf.mono fun b hb' hd => by show own1 own w.heap.size b = ir; unfold own1; rw [if_pos hb']; exact hd
  have h2 : RefAt (Dm (own1 own w.heap.size) ir) rb y w2 := (h1.below hb1).apart k2 fun b hd hb' h3 => by
    have hd' : own1 own w.heap.size b = ir := hd
    rcases h3 with h3 | h3
    · rw [hd'] at h3; exact pre.ids.1 h3.symm
    · omega
  exact h2.mono fun b _ hd => .inl hd

theorem st_call {own : Nat → Nat} {is ir wb sb rb : Nat} {vss vrs : Value} {x : St} {y : Rf} {P : List (Int × Nat)} {n : Int} {t N0 : Nat} {w w1 : World} (pre : Pre own is ir wb sb rb vss vrs x y P n t N0 w) (hb1 : Below w.heap.size w w1) : StoreAt (Dc (own1 own w.heap.size) w1.heap.size is) sb x w1 :=
  (pre.st.mono (D' := Dc (own1 own w.heap.size) w1.heap.size is) fun b hb' hd => .inl (by unfold own1; rw [if_pos hb']; exact hd)).below hb1

set_option maxHeartbeats 4000000 in
set_option maxRecDepth 100000 in
theorem keys_any (own : Nat → Nat) (is ir wb sb rb : Nat) (vss vrs : Value) (x : St) (y : Rf) (P : List (Int × Nat)) (n : Int) (t N0 : Nat) (o : OpD) (w : World) (pre : Pre own is ir wb sb rb vss vrs x y P n t N0 w) (ok : OpOk o N0 w) (ht : t + 1 ≤ 1100000) (hK : 2 ≤ o.K ∧ o.K ≤ 6) :
    Calls Tryz.prog 14 #[.pointer (some ⟨wb, 0, none⟩), .pointer (some ⟨sb, 0, none⟩), .pointer (some ⟨rb, 0, none⟩), o.val] w fun e w' => StepPost own is ir wb sb rb vss vrs t N0 w e w' := by
  obtain ⟨wA, hwA⟩ : ∃ wA, w.alloc (.cells o.cells 41) = wA := ⟨_, rfl⟩
  have HWA : Hid (w.alloc (.cells o.cells 41) = wA) := hwA
  have BA : Hid (Below w.heap.size w wA) := by rw [← hwA]; exact (Below.refl _ _).alloc (Nat.le_refl _) _
  have OA : Hid (wA.heap[w.heap.size]? = some (.cells o.cells 41 (0, 0))) := by rw [← hwA]; exact heap_alloc_new w _
  have PRE : Hid _ := pre
  have hsm := pre.small
  have hstr := ok.str
  have PREA := pre.below BA.out
  have OKA : OpOk o N0 wA := ok.on (BA.out.mono pre.lowN)
  have HW : Hid (Calls Tryz.prog 19 #[.pointer (some ⟨wb, 0, none⟩), .pointer (some ⟨sb, 0, none⟩), .pointer (some ⟨rb, 0, none⟩), o.val] wA fun e w' => StepPost own is ir wb sb rb vss vrs t N0 w e w') := (writes_any own is ir wb sb rb vss vrs x y P n t N0 o wA PREA OKA ht).mono fun e w' h => StepPost.of_below BA.out h
  have HS : Hid (Calls Tryz.prog 22 #[.pointer (some ⟨wb, 0, none⟩), .pointer (some ⟨sb, 0, none⟩), .pointer (some ⟨rb, 0, none⟩), o.val] wA fun e w' => StepPost own is ir wb sb rb vss vrs t N0 w e w') := (scans_any own is ir wb sb rb vss vrs x y P n t N0 o wA PREA ht).mono fun e w' h => StepPost.of_below BA.out h
  generalize hpost : (fun (e : Ending) (w' : World) => StepPost own is ir wb sb rb vss vrs t N0 w e w') = PP
  have HPP : Hid (∀ w', StepPost own is ir wb sb rb vss vrs t N0 w (.returned (.bool true)) w' → PP (.returned (.bool true)) w') := fun w' h => by rw [← hpost]; exact h
  clear pre ok hpost hwA OKA PREA
  unfold OpD.val at HW HS ⊢
  unfold OpD.cells at HW HS HWA OA ⊢
  obtain ⟨K, hKe⟩ : ∃ K, o.K = K := ⟨_, rfl⟩
  have hc : K = 2 ∨ K = 3 ∨ K = 4 ∨ K = 5 ∨ K = 6 := by omega
  rw [hKe] at HW HS HWA OA ⊢
  clear hK hKe
  rcases hc with rfl | rfl | rfl | rfl | rfl
  · go_enter Tryz.func14, Tryz.ntmps14
    go_wp2_with fail
    rw [HWA.out]
    refine Calls.mono HW.out ?_
    intro e w1 h1
    obtain ⟨rfl, h2⟩ := id h1
    have HF : Hid (StepPost own is ir wb sb rb vss vrs t N0 w (.returned (.bool true)) w1) := h1
    clear h1 h2
    go_wp2
    exact HPP.out _ HF.out
  · obtain ⟨gs, gc, hgv⟩ := getVal_form x o.S o.A
    have H1 : Hid (Calls Tryz.prog 20 #[.pointer (some ⟨sb, 0, none⟩), .string o.S, .int .i64 o.A] wA fun e w' => e = .returned (.tuple #[.string gs, .int .i64 gc]) ∧ Below wA.heap.size wA w') := by
      rw [← hgv]
      exact get_any x (Dm own is) sb o.S o.A wA (PRE.out.st.below BA.out) (PRE.out.bo.st (by omega)) (by unfold maxLen; omega)
    have H2 : Hid (∀ w1, Below w.heap.size w w1 → Calls Tryz.prog 21 #[.pointer (some ⟨rb, 0, none⟩), .string o.S, .int .i64 o.A] w1 fun e w' => e = .returned (.tuple #[.string gs, .int .i64 gc]) ∧ Below w1.heap.size w1 w') := fun w1 hb => by
      rw [← hgv, get_same PRE.out.bo (by omega)]
      exact refGet_any (Dm own ir) rb y o.S o.A w1 (PRE.out.rf.below hb) (PRE.out.bo.rf (by omega)) (by unfold maxLen; omega)
    clear hgv HW HS
    go_enter Tryz.func14, Tryz.ntmps14
    go_wp2_with fail
    rw [HWA.out]
    refine Calls.mono H1.out ?_
    rintro e w1 ⟨rfl, hb1⟩
    have B1 : Hid (Below w.heap.size w w1) := BA.out.trans (hb1.mono BA.out.size)
    have ob1 := (hb1.block _ (lt_of_block OA.out)).trans OA.out
    have q1 : w1.cell? ⟨w.heap.size, 1, none⟩ = some (.int .i64 o.A) := by simp [World.cell?, ob1]
    have q4 : w1.cell? ⟨w.heap.size, 4, none⟩ = some (.string o.S) := by simp [World.cell?, ob1]
    clear hb1 ob1
    go_wp2_with fail
    refine Calls.mono (H2.out _ B1.out) ?_
    rintro e w2 ⟨rfl, hb2⟩
    have HF : Hid (StepPost own is ir wb sb rb vss vrs t N0 w (.returned (.bool true)) w2) := StepPost.same PRE.out (below_trans' B1.out hb2) ht
    clear hb2
    go_wp2_with (go_at_call 12; refine (num_any _ _).mono ?_; rintro e w5 ⟨rfl, rfl⟩)
    exact HPP.out _ HF.out
  · go_enter Tryz.func14, Tryz.ntmps14
    go_wp2_with fail
    rw [HWA.out]
    refine Calls.mono HS.out ?_
    intro e w1 h1
    obtain ⟨rfl, h2⟩ := id h1
    have HF : Hid (StepPost own is ir wb sb rb vss vrs t N0 w (.returned (.bool true)) w1) := h1
    clear h1 h2
    go_wp2
    exact HPP.out _ HF.out
  · clear HW HS
    have hsl : x.S.length = y.S.length := by rw [PRE.out.bo.sm.snaps]
    have hnm : x.lastSnap = y.num := PRE.out.bo.sm.num
    have hn0 := PRE.out.bo.num0
    have hn1 := PRE.out.bo.numle
    have H1 : Hid _ := snap_any x (Dc (own1 own w.heap.size) wA.heap.size is) sb wA (st_call PRE.out BA.out) (PRE.out.bo.st (by omega)) (Dc_open _ _ _) (by omega) (by omega)
    have H2 : Hid (∀ w1, Kd (Dc (own1 own w.heap.size) wA.heap.size is) [81, 165] wA w1 → Calls Tryz.prog 24 #[.pointer (some ⟨rb, 0, none⟩)] w1 fun e w' =>
        (y.S.length = 4 ∧ e = .returned (.tuple #[.int .i64 0, .int .i64 7]) ∧ w' = w1) ∨
        (y.S.length < 4 ∧ e = .returned (.tuple #[.int .i64 (y.num + 1), .int .i64 0]) ∧ RefAt (Dc (own1 own w.heap.size) w1.heap.size ir) rb { y with S := y.S ++ [⟨y.num + 1, y.A.length⟩], num := y.num + 1 } w' ∧ Kd (Dc (own1 own w.heap.size) w1.heap.size ir) [84, 133] w1 w')) := fun w1 k2 =>
      refSnap_any (Dc (own1 own w.heap.size) w1.heap.size ir) rb y w1 (ref_later PRE.out BA.out k2) (Dc_open _ _ _) (PRE.out.bo.rf (by omega)) (by omega) (by omega)
    rw [hsl, hnm] at H1
    have HXN : Hid (x.lastSnap = y.num ∧ x.S.length = y.S.length) := ⟨hnm, hsl⟩
    clear hsl hnm hn0 hn1
    by_cases h4 : y.S.length = 4
    · go_enter Tryz.func14, Tryz.ntmps14
      go_wp2_with fail
      rw [HWA.out]
      refine Calls.mono H1.out ?_
      rintro e w1 (⟨_, rfl, rfl⟩ | ⟨h5, _⟩)
      · go_wp2_with fail
        refine Calls.mono (H2.out _ (Kd.refl _ _ _)) ?_
        rintro e w2 (⟨_, rfl, rfl⟩ | ⟨h5, _⟩)
        · have HF : Hid (StepPost own is ir wb sb rb vss vrs t N0 w (.returned (.bool true)) w2) := StepPost.same PRE.out BA.out ht
          go_wp2_with (go_at_call 12; refine (num_any _ _).mono ?_; rintro e w5 ⟨rfl, rfl⟩)
          exact HPP.out _ HF.out
        · omega
      · omega
    · go_enter Tryz.func14, Tryz.ntmps14
      go_wp2_with fail
      rw [HWA.out]
      refine Calls.mono H1.out ?_
      rintro e w1 (⟨h5, _⟩ | ⟨h5, rfl, hst, k2⟩)
      · omega
      · have A1 : Hid (StoreAt (Dc (own1 own w.heap.size) wA.heap.size is) sb { x with S := x.S ++ [⟨y.num + 1, x.last⟩], lastSnap := y.num + 1 } w1 ∧ Kd (Dc (own1 own w.heap.size) wA.heap.size is) [81, 165] wA w1) := ⟨hst, k2⟩
        clear hst k2
        go_wp2_with fail
        refine Calls.mono (H2.out _ A1.out.2) ?_
        rintro e w2 (⟨h6, _⟩ | ⟨_, rfl, hrf, k3⟩)
        · omega
        · have HF : Hid (StepPost own is ir wb sb rb vss vrs t N0 w (.returned (.bool true)) w2) := by
            refine two_fin PRE.out ht BA.out A1.out.1 A1.out.2 hrf k3 ?_
            have := PRE.out.bo.snapped h5
            rw [HXN.out.1] at this
            exact this
          clear hrf k3
          go_wp2_with (go_at_call 12; refine (num_any _ _).mono ?_; rintro e w5 ⟨rfl, rfl⟩)
          exact HPP.out _ HF.out
  · clear HW HS
    have H1 : Hid _ := drop_any x (Dc (own1 own w.heap.size) wA.heap.size is) sb o.A wA (st_call PRE.out BA.out) (PRE.out.bo.st (by omega))
    have H2 : Hid (∀ w1, Kd (Dc (own1 own w.heap.size) wA.heap.size is) [81, 165] wA w1 → Calls Tryz.prog 26 #[.pointer (some ⟨rb, 0, none⟩), .int .i64 o.A] w1 fun e w' =>
        ((y.S.filter (notN o.A)).length = y.S.length ∧ e = .returned (.int .i64 5) ∧ Below w1.heap.size w1 w') ∨
        ((y.S.filter (notN o.A)).length ≠ y.S.length ∧ e = .returned (.int .i64 0) ∧ RefAt (Dc (own1 own w.heap.size) w1.heap.size ir) rb { y with S := y.S.filter (notN o.A) } w' ∧ Kd (Dc (own1 own w.heap.size) w1.heap.size ir) [84] w1 w')) := fun w1 k2 =>
      refDrop_any (Dc (own1 own w.heap.size) w1.heap.size ir) rb y o.A w1 (ref_later PRE.out BA.out k2) (Dc_open _ _ _) (PRE.out.bo.rf (by omega))
    have HQ : Hid (∀ w1, Kd (Dc (own1 own w.heap.size) wA.heap.size is) [81, 165] wA w1 → w1.cell? ⟨w.heap.size, 1, none⟩ = some (.int .i64 o.A)) := fun w1 k2 => by
      have ob1 := k2.keep OA.out (by simp)
      simp [World.cell?, ob1]
    have HSN : Hid (x.S = y.S ∧ y.S.Pairwise fun a b => a.n ≠ b.n) := ⟨PRE.out.bo.sm.snaps, PRE.out.bo.dis⟩
    go_enter Tryz.func14, Tryz.ntmps14
    go_wp2_with fail
    rw [HWA.out]
    refine Calls.mono H1.out ?_
    rintro e w1 (⟨hno, rfl, hb1⟩ | ⟨i, hso, rfl, hst, k2⟩)
    · have B1 : Hid (Below wA.heap.size wA w1) := hb1
      have q1 := HQ.out w1 (Kd.of_below hb1)
      have hl0 : Hid ((y.S.filter (notN o.A)).length = y.S.length) := by rw [HSN.out.1] at hno; exact drop_none hno
      clear hno hb1
      go_wp2_with fail
      refine Calls.mono (H2.out _ (Kd.of_below B1.out)) ?_
      rintro e w2 (⟨_, rfl, hb2⟩ | ⟨h6, _⟩)
      · have HF : Hid (StepPost own is ir wb sb rb vss vrs t N0 w (.returned (.bool true)) w2) := StepPost.same PRE.out (below_trans' (BA.out.trans (B1.out.mono BA.out.size)) hb2) ht
        clear hb2
        go_wp2_with (go_at_call 12; refine (num_any _ _).mono ?_; rintro e w5 ⟨rfl, rfl⟩)
        exact HPP.out _ HF.out
      · exact absurd hl0.out h6
    · have A1 : Hid (StoreAt (Dc (own1 own w.heap.size) wA.heap.size is) sb { x with S := x.S.eraseIdx i } w1 ∧ Kd (Dc (own1 own w.heap.size) wA.heap.size is) [81, 165] wA w1) := ⟨hst, k2⟩
      have q1 := HQ.out w1 k2
      have hl0 : Hid ((y.S.filter (notN o.A)).length ≠ y.S.length ∧ sidx x.S o.A = some i) := by
        refine ⟨?_, hso⟩
        rw [HSN.out.1] at hso
        exact (drop_same HSN.out.2 hso).2
      clear hso hst k2
      go_wp2_with fail
      refine Calls.mono (H2.out _ A1.out.2) ?_
      rintro e w2 (⟨h6, _⟩ | ⟨_, rfl, hrf, k3⟩)
      · exact absurd h6 hl0.out.1
      · have HF : Hid (StepPost own is ir wb sb rb vss vrs t N0 w (.returned (.bool true)) w2) := two_fin PRE.out ht BA.out A1.out.1 A1.out.2 hrf (k3.mono (by simp)) (PRE.out.bo.dropped hl0.out.2)
        clear hrf k3
        go_wp2_with (go_at_call 12; refine (num_any _ _).mono ?_; rintro e w5 ⟨rfl, rfl⟩)
        exact HPP.out _ HF.out
end Go.Proofs.YtojdkfamihlnkaaGreatDoor
