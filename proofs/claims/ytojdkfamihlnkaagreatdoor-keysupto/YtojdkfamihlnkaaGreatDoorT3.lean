/- The walks of this proof: a step that writes. -/
import Derived.Test.YtojdkfamihlnkaaGreatDoorT1
namespace Go.Proofs.YtojdkfamihlnkaaGreatDoor
open Go.RowKit Go.Sort

/-- The owners behind a Write. -/
def ownW (own : Nat → Nat) (is ir N N1 N2 N3 : Nat) (k : Nat) : Nat := if k < N then own k else if k < N1 then 0 else if k < N2 then is else if k < N3 then ir else 0

def own1 (own : Nat → Nat) (N : Nat) (k : Nat) : Nat := if k < N then own k else 0

theorem writes_fin {own : Nat → Nat} {is ir wb sb rb : Nat} {vss vrs : Value} {x : St} {y : Rf} {P : List (Int × Nat)} {n : Int} {t N0 : Nat} {w w1 w2 w3 w4 : World} {L M C : List Pr} {F : List En} {sy : Int} {g : Nat}
    (pre : Pre own is ir wb sb rb vss vrs x y P n t N0 w) (ht : t + 1 ≤ 1100000) (hb1 : Below w.heap.size w w1) (hf : flt L = 0) (hM : SamePr (keep L) M) (hs : Sorted F) (hF : ∀ e, e ∈ F ↔ e ∈ x.E ∨ e ∈ M.map (toEn (x.last + 1))) (hFl : F.length = x.E.length + M.length)
    (hst : StoreAt (Dc (own1 own w.heap.size) w1.heap.size is) sb { x with E := F, last := x.last + 1, jl := x.jl + 1000, synced := sy } w2) (k2 : Kd (Dc (own1 own w.heap.size) w1.heap.size is) [81, 5, 61] w1 w2)
    (hC : SamePr (keep L) C) (hu : Upto C C.length) (hrf : RefAt (Dc (own1 own w.heap.size) w2.heap.size ir) rb { y with A := y.A ++ [C] } w3) (k3 : Kd (Dc (own1 own w.heap.size) w2.heap.size ir) [84, 38] w2 w3)
    (k4 : Kd (fun k => k = g ∨ w3.heap.size ≤ k) [57] w3 w4) (hg0 : w.heap.size ≤ g) (hg1 : g < w1.heap.size) : StepPost own is ir wb sb rb vss vrs t N0 w (.returned (.bool true)) w4 := by
  have s1 := hb1.size
  have s2 := k2.size
  have s3 := k3.size
  obtain ⟨i1, i2, i3, i4, i5⟩ := pre.ids
  obtain ⟨own', how⟩ : ∃ own', own' = ownW own is ir w.heap.size w1.heap.size w2.heap.size w3.heap.size := ⟨_, rfl⟩
  have agree : ∀ k, k < w.heap.size → own' k = own k := fun k hk => by rw [how]; simp [ownW, hk]
  have XW : Kx (fun k e => w.heap.size ≤ k ∨ (own k = is ∧ e ∈ [81, 5, 61]) ∨ (own k = ir ∧ e ∈ [84, 38])) w w4 := by
    refine (((Kx.of_below hb1).trans (Kx.of_kd k2 fun k e hk hd he => ?_)).trans (Kx.of_kd k3 fun k e hk hd he => ?_)).trans (Kx.of_kd k4 fun k e hk hd he => ?_)
    · by_cases hkN : k < w.heap.size
      · rcases hd with hd | hd
        · exact .inr (.inl ⟨by simpa [own1, hkN] using hd, he⟩)
        · omega
      · exact .inl (by omega)
    · by_cases hkN : k < w.heap.size
      · rcases hd with hd | hd
        · exact .inr (.inr ⟨by simpa [own1, hkN] using hd, he⟩)
        · omega
      · exact .inl (by omega)
    · rcases hd with hd | hd
      · exact .inl (by omega)
      · exact .inl (by omega)
  have SX : Kx (StepX own is ir w.heap.size) w w4 := XW.mono fun k e _ h => by
    rcases h with h | ⟨h, he⟩ | ⟨h, he⟩
    · exact .inl h
    · exact .inr (.inl ⟨h, by simp at he ⊢; omega⟩)
    · exact .inr (.inr (.inl ⟨h, by simp at he ⊢; omega⟩))
  have hlow : ∀ k, own' k ≠ 0 → N0 ≤ k := fun k hk => by
    by_cases hkN : k < w.heap.size
    · rw [agree k hkN] at hk; exact pre.low k hk
    · have := pre.lowN; omega
  have B4 : Below N0 w w4 := SX.below pre.lowN (StepX.low pre.low pre.lowN pre.ids)
  refine ⟨rfl, SX, own', { x with E := F, last := x.last + 1, jl := x.jl + 1000, synced := sy }, { y with A := y.A ++ [C] }, P, n, agree, ?_, ?_, ?_, pre.bo.wrote hf hM hs hF hFl hC hu, hlow, Nat.le_trans pre.lowN B4.size, fun w' h' => pre.tab w' (B4.trans h'), ht, pre.n0, by have := pre.n1; omega, by have := pre.pl; omega, fun p hp => by have := pre.pb p hp; omega, pre.ids⟩
  · have h5 : StoreAt (Dm own' is) sb { x with E := F, last := x.last + 1, jl := x.jl + 1000, synced := sy } w2 := hst.mono fun b hb hd => by
      show own' b = is
      rw [how]
      unfold ownW
      rcases hd with hd | hd
      · unfold own1 at hd
        by_cases hbN : b < w.heap.size
        · simp only [hbN, if_true] at hd ⊢; exact hd
        · simp only [hbN, if_false] at hd; omega
      · rw [if_neg (by omega), if_neg (by omega), if_pos hb]
    exact (h5.kept k3 (by simp) (by simp) (by simp) (by simp)).kept k4 (by simp) (by simp) (by simp) (by simp)
  · have h5 : RefAt (Dm own' ir) rb { y with A := y.A ++ [C] } w3 := hrf.mono fun b hb hd => by
      show own' b = ir
      rw [how]
      unfold ownW
      rcases hd with hd | hd
      · unfold own1 at hd
        by_cases hbN : b < w.heap.size
        · simp only [hbN, if_true] at hd ⊢; exact hd
        · simp only [hbN, if_false] at hd; omega
      · rw [if_neg (by omega), if_neg (by omega), if_neg (by omega), if_pos hb]
    refine h5.apart k4 fun b hd hb => ?_
    rintro (rfl | h6)
    · have : own' b = 0 := by rw [how]; unfold ownW; rw [if_neg (by omega), if_pos hg1]
      have hd' : own' b = ir := hd
      omega
    · omega
  · have h5 : BkAt (Dm own' 1) wb vss vrs P n w := pre.bk.mono fun b hb hd => by
      show own' b = 1
      rw [agree b hb]; exact hd
    refine h5.kx XW (fun b e hb hd hx => ?_) (fun b hb hx => ?_)
    · have hd' : own b = 1 := by rw [← agree b hb]; exact hd
      rcases hx with hx | ⟨hx, _⟩ | ⟨hx, _⟩ <;> omega
    · rcases hx with hx | ⟨_, hx⟩ | ⟨_, hx⟩
      · omega
      · simp at hx
      · simp at hx

set_option maxHeartbeats 4000000 in
set_option maxRecDepth 100000 in
theorem writes_any (own : Nat → Nat) (is ir wb sb rb : Nat) (vss vrs : Value) (x : St) (y : Rf) (P : List (Int × Nat)) (n : Int) (t N0 : Nat) (o : OpD) (w : World) (pre : Pre own is ir wb sb rb vss vrs x y P n t N0 w) (ok : OpOk o N0 w) (ht : t + 1 ≤ 1100000) :
    Calls Tryz.prog 19 #[.pointer (some ⟨wb, 0, none⟩), .pointer (some ⟨sb, 0, none⟩), .pointer (some ⟨rb, 0, none⟩), o.val] w fun e w' => StepPost own is ir wb sb rb vss vrs t N0 w e w' := by
  obtain ⟨wA, hwA⟩ : ∃ wA, w.alloc (.cells o.cells 41) = wA := ⟨_, rfl⟩
  have HWA : Hid (w.alloc (.cells o.cells 41) = wA) := hwA
  have BA : Hid (Below w.heap.size w wA) := by rw [← hwA]; exact (Below.refl _ _).alloc (Nat.le_refl _) _
  have OA : Hid (wA.heap[w.heap.size]? = some (.cells o.cells 41 (0, 0)) ∧ wA.heap.size = w.heap.size + 1) := by rw [← hwA]; exact ⟨heap_alloc_new w _, by simp⟩
  have HLENT : Hid _ := lent_any o.L (.slice o.aP o.L.length o.cP) wA (ok.pairs.below BA.out)
  have PRE : Hid _ := pre
  have OK : Hid (OpOk o N0 w) := ok
  generalize hpost : (fun (e : Ending) (w' : World) => StepPost own is ir wb sb rb vss vrs t N0 w e w') = PP
  have HPP : Hid (∀ w', StepPost own is ir wb sb rb vss vrs t N0 w (.returned (.bool true)) w' → PP (.returned (.bool true)) w') := fun w' h => by rw [← hpost]; exact h
  clear pre ok hpost hwA
  unfold OpD.val
  unfold OpD.cells at HWA OA ⊢
  go_enter Tryz.func19, Tryz.ntmps19
  go_wp2_with fail
  rw [HWA.out]
  refine Calls.mono HLENT.out ?_
  rintro e w1 ⟨rfl, ho1, hb1⟩
  obtain ⟨g, hg⟩ : ∃ g, wA.heap.size = g := ⟨_, rfl⟩
  rw [hg] at ho1 ⊢
  have HG : Hid (g = w.heap.size + 1) := by rw [← hg]; exact OA.out.2
  have HO1 : Hid (w1.ownsRow g 57 3 (.slice (some ⟨g, 0, none⟩) (o.L.length + 8) (o.L.length + 8)) (o.L.length + 8) (pcells (o.L ++ bhs 8))) := ho1
  have B1 : Hid (Below w.heap.size w w1) := BA.out.trans (hb1.mono BA.out.size)
  have ob1 : Hid (w1.heap[w.heap.size]? = some (.cells #[.int .i64 o.K, .int .i64 o.A, .int .i64 o.B, .int .i64 o.W, .string o.S, .bool o.F, .slice o.aP o.L.length o.cP, .slice o.aC o.lC o.cC, .slice o.aK o.lK o.cK] 41 (0, 0))) := (hb1.block _ (lt_of_block OA.out.1)).trans OA.out.1
  have q5 : w1.cell? ⟨w.heap.size, 5, none⟩ = some (.bool o.F) := by simp [World.cell?, ob1.out]
  have q6 : w1.cell? ⟨w.heap.size, 6, none⟩ = some (.slice o.aP o.L.length o.cP) := by simp [World.cell?, ob1.out]
  have hgl : Hid (g < w1.heap.size) := (ho1.lt g rfl).2
  obtain ⟨hpl, hps⟩ : o.L.length ≤ 10000000 ∧ ∀ p ∈ o.L, p.k.size ≤ 10000000 ∧ p.v.size ≤ 10000000 := by
    obtain ⟨_, _, _, h1, h2, _⟩ := OK.out.pairs
    exact ⟨h1, h2⟩
  have HPS : Hid (∀ p ∈ o.L, p.k.size ≤ 10000000 ∧ p.v.size ≤ 10000000) := hps
  have hcap : (o.L.length : Int) ≤ (o.L.length : Int) + 8 := by omega
  clear ho1 hb1 hg hps HLENT
  by_cases hf : flt o.L = 0
  · obtain ⟨hl1, hl4, hok⟩ := flt_ok hf
    have hbo := PRE.out.bo
    have hsm := PRE.out.small
    have hids := PRE.out.ids
    have hlast : Hid (x.last = y.A.length) := hbo.sm.last
    have HW : Hid (∀ w', Below w1.heap.size w1 w' → w'.heap.size = w1.heap.size → Calls Tryz.prog 47 #[.pointer (some ⟨sb, 0, none⟩), .slice (some ⟨g, 0, none⟩) o.L.length (o.L.length + 8), .bool o.F] w' fun e w'' => BatchPost (Dc (own1 own w.heap.size) w1.heap.size is) sb x o.L w' e w'') := fun w' hb hsz => by
      refine writeCall_any (Dc (own1 own w.heap.size) w1.heap.size is) sb x o.L _ g o.F w' ?_ ?_ (hbo.st (by omega)) (own_prefix ((Kp.of_below (B := 0) (ts := []) hb).owns HO1.out (by simp)) rfl (by omega)) hl1 hl4 hok ?_ ?_ hbo.seqs ?_ ?_
      · exact ((PRE.out.st.mono (D' := Dc (own1 own w.heap.size) w1.heap.size is) fun b hb' hd => .inl (by unfold own1; rw [if_pos hb']; exact hd)).below B1.out).below hb
      · rw [← hsz]; exact Dc_open _ _ _
      · have h1 := hbo.sm.last; omega
      · have h1 := hbo.sm.last; have h2 := hbo.lastle; omega
      · have h1 := hbo.len; omega
      · have h1 := hbo.jl; omega
    have HR : Hid (∀ w', Kd (Dc (own1 own w.heap.size) w1.heap.size is) [81, 5, 61] w1 w' → Calls Tryz.prog 48 #[.pointer (some ⟨rb, 0, none⟩), .slice o.aP o.L.length o.cP, .bool o.F] w' fun e w'' => e = .returned (.tuple #[.int .i64 ((y.A.length : Int) + 1), .int .i64 0]) ∧ ∃ C, SamePr (keep o.L) C ∧ Upto C C.length ∧ RefAt (Dc (own1 own w.heap.size) w'.heap.size ir) rb { y with A := y.A ++ [C] } w'' ∧ Kd (Dc (own1 own w.heap.size) w'.heap.size ir) [84, 38] w' w'') := fun w' k2 => by
      have hlow : Below N0 w1 w' := k2.belowN (Nat.le_trans PRE.out.lowN B1.out.size) fun k hk => by
        have h0 := PRE.out.lowN
        have h1 := B1.out.size
        rcases hk with hk | hk
        · unfold own1 at hk
          by_cases hkN : k < w.heap.size
          · rw [if_pos hkN] at hk; exact PRE.out.low k (by omega)
          · omega
        · omega
      refine (refWrite_any (Dc (own1 own w.heap.size) w'.heap.size ir) rb y o.L _ o.F w' ?_ (Dc_open _ _ _) (hbo.rf (by omega)) ?_).mono ?_
      · have h1 : RefAt (Dm (own1 own w.heap.size) ir) rb y w := PRE.out.rf.mono fun b hb' hd => by show own1 own w.heap.size b = ir; unfold own1; rw [if_pos hb']; exact hd
        have h2 : RefAt (Dm (own1 own w.heap.size) ir) rb y w' := (h1.below B1.out).apart k2 fun b hd hb' h3 => by
          have hd' : own1 own w.heap.size b = ir := hd
          rcases h3 with h3 | h3
          · rw [hd'] at h3; exact hids.1 h3.symm
          · omega
        exact h2.mono fun b _ hd => .inl hd
      · exact OK.out.lies w' ((B1.out.mono PRE.out.lowN).trans hlow)
      · rintro e w'' (⟨h1, _⟩ | ⟨_, h2, h3⟩)
        · exact absurd hf h1
        · exact ⟨h2, h3⟩
    have HU : Hid (∀ w2 w3, Kd (Dc (own1 own w.heap.size) w1.heap.size is) [81, 5, 61] w1 w2 → Kd (Dc (own1 own w.heap.size) w2.heap.size ir) [84, 38] w2 w3 → Calls Tryz.prog 49 #[.slice (some ⟨g, 0, none⟩) (o.L.length + 8) (o.L.length + 8), .slice o.aP o.L.length o.cP] w3 fun e w'' => e = .returned (.bool true) ∧ Kd (fun k => k = g ∨ w3.heap.size ≤ k) [57] w3 w'') := fun w2 w3 k2 k3 => by
      have h0 := PRE.out.lowN
      have h1 := B1.out.size
      have lowD : ∀ id, id ≠ 0 → ∀ M, N0 ≤ M → ∀ k, Dc (own1 own w.heap.size) M id k → N0 ≤ k := fun id hid M hM k hk => by
        rcases hk with hk | hk
        · unfold own1 at hk
          by_cases hkN : k < w.heap.size
          · rw [if_pos hkN] at hk; exact PRE.out.low k (by omega)
          · omega
        · omega
      have b2 : Below N0 w1 w2 := k2.belowN (by omega) (lowD is hids.2.2.2.1 _ (by omega))
      have b3 : Below N0 w2 w3 := k3.belowN (by have := k2.size; omega) (lowD ir hids.2.2.2.2 _ (by have := k2.size; omega))
      exact unspoilt_any o.L _ g g w3 (OK.out.lies w3 (((B1.out.mono h0).trans b2).trans b3)) (k3.owns (k2.owns HO1.out (by simp)) (by simp))
    have HOB : Hid (∀ w2, Kd (Dc (own1 own w.heap.size) w1.heap.size is) [81, 5, 61] w1 w2 → w2.heap[w.heap.size]? = some (.cells #[.int .i64 o.K, .int .i64 o.A, .int .i64 o.B, .int .i64 o.W, .string o.S, .bool o.F, .slice o.aP o.L.length o.cP, .slice o.aC o.lC o.cC, .slice o.aK o.lK o.cK] 41 (0, 0))) := fun w2 k2 => k2.keep ob1.out (by simp)
    have HFIN : Hid (∀ (w2 w3 w4 : World) (M C : List Pr) (F : List En) (sy : Int), SamePr (keep o.L) M → Sorted F → (∀ e, e ∈ F ↔ e ∈ x.E ∨ e ∈ M.map (toEn (x.last + 1))) → F.length = x.E.length + M.length → StoreAt (Dc (own1 own w.heap.size) w1.heap.size is) sb { x with E := F, last := x.last + 1, jl := x.jl + 1000, synced := sy } w2 → Kd (Dc (own1 own w.heap.size) w1.heap.size is) [81, 5, 61] w1 w2 → SamePr (keep o.L) C → Upto C C.length → RefAt (Dc (own1 own w.heap.size) w2.heap.size ir) rb { y with A := y.A ++ [C] } w3 → Kd (Dc (own1 own w.heap.size) w2.heap.size ir) [84, 38] w2 w3 → Kd (fun k => k = g ∨ w3.heap.size ≤ k) [57] w3 w4 → StepPost own is ir wb sb rb vss vrs t N0 w (.returned (.bool true)) w4) := fun w2 w3 w4 M C F sy a1 a2 a3 a4 a5 a6 a7 a8 a9 a10 a11 =>
      writes_fin PRE.out ht B1.out hf a1 a2 a3 a4 a5 a6 a7 a8 a9 a10 a11 (by have := HG.out; omega) hgl.out
    clear hf hok hbo hids hl1
    go_wp2
    go_region_with (go_at_call 47; refine (HW.out _ (by exact (Below.refl _ _).drew) (by rfl)).mono ?_; rintro e w2 ⟨rfl, M, F, sy, a1, a2, a3, a4, a5, a6⟩; have A2 : Hid (SamePr (keep o.L) M ∧ Sorted F ∧ (∀ e, e ∈ F ↔ e ∈ x.E ∨ e ∈ M.map (toEn (x.last + 1))) ∧ F.length = x.E.length + M.length ∧ StoreAt (Dc (own1 own w.heap.size) w1.heap.size is) sb { x with E := F, last := x.last + 1, jl := x.jl + 1000, synced := sy } w2 ∧ Kd (Dc (own1 own w.heap.size) w1.heap.size is) [81, 5, 61] w1 w2) := ⟨a1, a2, a3, a4, a5, ⟨a6.os, a6.tape, a6.output, a6.size, a6.block⟩⟩; have ob2 := HOB.out w2 A2.out.2.2.2.2.2; have m5 : w2.cell? ⟨w.heap.size, 5, none⟩ = some (.bool o.F) := (by simp [World.cell?, ob2]); have m6 : w2.cell? ⟨w.heap.size, 6, none⟩ = some (.slice o.aP o.L.length o.cP) := (by simp [World.cell?, ob2]); clear a1 a2 a3 a4 a5 a6 ob2)
    all_goals (
      go_wp2_with fail
      refine Calls.mono (HR.out _ A2.out.2.2.2.2.2) ?_
      rintro e w3 ⟨rfl, C, a1, a2, a3, a4⟩
      have A3 : Hid (SamePr (keep o.L) C ∧ Upto C C.length ∧ RefAt (Dc (own1 own w.heap.size) w2.heap.size ir) rb { y with A := y.A ++ [C] } w3 ∧ Kd (Dc (own1 own w.heap.size) w2.heap.size ir) [84, 38] w2 w3) := ⟨a1, a2, a3, a4⟩
      have ob3 := a4.keep (HOB.out w2 A2.out.2.2.2.2.2) (by simp)
      have r6 : w3.cell? ⟨w.heap.size, 6, none⟩ = some (.slice o.aP o.L.length o.cP) := by simp [World.cell?, ob3]
      clear a1 a2 a3 a4 ob3
      go_wp2_with fail
      refine Calls.mono (HU.out _ _ A2.out.2.2.2.2.2 A3.out.2.2.2) ?_
      rintro e w4 ⟨rfl, k4⟩
      have HF : Hid (StepPost own is ir wb sb rb vss vrs t N0 w (.returned (.bool true)) w4) := HFIN.out w2 w3 w4 M C F sy A2.out.1 A2.out.2.1 A2.out.2.2.1 A2.out.2.2.2.1 A2.out.2.2.2.2.1 A2.out.2.2.2.2.2 A3.out.1 A3.out.2.1 A3.out.2.2.1 A3.out.2.2.2 k4
      have hla := hlast.out
      clear k4
      go_wp2_with (go_at_call 12; refine (num_any _ _).mono ?_; rintro e w5 ⟨rfl, rfl⟩)
      exact HPP.out _ HF.out)
  · have HW : Hid (∀ w', Below w1.heap.size w1 w' → Calls Tryz.prog 47 #[.pointer (some ⟨sb, 0, none⟩), .slice (some ⟨g, 0, none⟩) o.L.length (o.L.length + 8), .bool o.F] w' fun e w'' => e = .returned (.tuple #[.int .i64 0, .int .i64 (flt o.L)]) ∧ Below w'.heap.size w' w'') := fun w' hb =>
      writeBad_any sb o.L _ g o.F w' (own_prefix ((Kp.of_below (B := 0) (ts := []) hb).owns HO1.out (by simp)) rfl (by omega)) hpl HPS.out hf
    have HR : Hid (∀ w', Below w.heap.size w w' → Calls Tryz.prog 48 #[.pointer (some ⟨rb, 0, none⟩), .slice o.aP o.L.length o.cP, .bool o.F] w' fun e w'' => e = .returned (.tuple #[.int .i64 0, .int .i64 (flt o.L)]) ∧ Below w'.heap.size w' w'') := fun w' hb => by
      refine (refWrite_any (Dc own w'.heap.size ir) rb y o.L _ o.F w' ((PRE.out.rf.below hb).mono fun b _ hd => .inl hd) (Dc_open own ir w') (PRE.out.bo.rf (by have := PRE.out.small; omega)) (OK.out.pairs.below hb)).mono ?_
      rintro e w'' (⟨_, h2, h3⟩ | ⟨h2, _⟩)
      · exact ⟨h2, h3⟩
      · exact absurd h2 hf
    have HU : Hid (∀ w', Below w1.heap.size w1 w' → Calls Tryz.prog 49 #[.slice (some ⟨g, 0, none⟩) (o.L.length + 8) (o.L.length + 8), .slice o.aP o.L.length o.cP] w' fun e w'' => e = .returned (.bool true) ∧ Kd (fun k => k = g ∨ w'.heap.size ≤ k) [57] w' w'') := fun w' hb =>
      unspoilt_any o.L _ g g w' (OK.out.pairs.below (B1.out.trans (hb.mono B1.out.size))) ((Kp.of_below (B := 0) (ts := []) hb).owns HO1.out (by simp))
    generalize flt o.L = fv at HW HR
    clear hf
    go_wp2
    go_region_with (go_at_call 47; refine (HW.out _ (by exact (Below.refl _ _).drew)).mono ?_; rintro e w2 ⟨rfl, hb2⟩; have B2 : Hid (Below w1.heap.size w1 w2) := ⟨hb2.os, hb2.tape, hb2.output, hb2.size, hb2.block⟩; have m5 : w2.cell? ⟨w.heap.size, 5, none⟩ = some (.bool o.F) := cell_later B2.out q5; have m6 : w2.cell? ⟨w.heap.size, 6, none⟩ = some (.slice o.aP o.L.length o.cP) := cell_later B2.out q6; clear hb2)
    all_goals (
      go_wp2_with fail
      refine Calls.mono (HR.out _ (B1.out.trans (B2.out.mono B1.out.size))) ?_
      rintro e w3 ⟨rfl, hb3⟩
      have B3 : Hid (Below w1.heap.size w1 w3) := below_trans' B2.out hb3
      have r6 : w3.cell? ⟨w.heap.size, 6, none⟩ = some (.slice o.aP o.L.length o.cP) := cell_later hb3 m6
      clear hb3
      go_wp2_with fail
      refine Calls.mono (HU.out _ B3.out) ?_
      rintro e w4 ⟨rfl, k4⟩
      have HF : Hid (StepPost own is ir wb sb rb vss vrs t N0 w (.returned (.bool true)) w4) := by
        have hb4 : Below w.heap.size w w3 := B1.out.trans (B3.out.mono B1.out.size)
        refine StepPost.same PRE.out (hb4.trans (k4.belowN hb4.size fun k hk => ?_)) ht
        rcases hk with rfl | hk
        · have := HG.out; omega
        · have := hb4.size; omega
      clear k4
      go_wp2_with (go_at_call 12; refine (num_any _ _).mono ?_; rintro e w5 ⟨rfl, rfl⟩)
      exact HPP.out _ HF.out)
end Go.Proofs.YtojdkfamihlnkaaGreatDoor
