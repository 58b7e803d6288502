/- The walks of this proof: one store more. -/
import Derived.Test.YtakipjofboipmaaGreatDoorJ24
namespace Go.Proofs.YtakipjofboipmaaGreatDoor
open Go.RowKit Go.Sort

theorem Tryz.info43 : (Tryz.prog.info? 43).map (fun i => (i.zero, i.size, i.bytes)) = some (some (.pointer none), 1, 8) := by kernel_rfl
theorem Tryz.info45 : (Tryz.prog.info? 45).map (fun i => (i.zero, i.size, i.bytes)) = some (some (.pointer none), 1, 8) := by kernel_rfl

/-- A store that is new. -/
def st0 : St := ⟨[], [], 0, [], [], 0, [], 0, 0⟩

theorem BkAt.below' {w w' : World} {D : Nat → Prop} {wb : Nat} {vss vrs : Value} {q : BkQ} {P : List (Int × Nat)} {n : Int} (h : BkAt D wb vss vrs q P n w) (hb : Below w.heap.size w w') : BkAt D wb vss vrs q P n w' :=
  h.kx (Kx.of_below (X := fun _ _ => False) hb) (fun _ _ _ _ h => h) (fun _ _ h => h)

/-- A store that a call which turns other types leaves alone. -/
theorem StoreAt.kd {D' D F : Nat → Prop} {sb : Nat} {x : St} {ts : List Nat} {w w' : World} (h : StoreAt D F sb x w) (k : Kd D' ts w w') (ht : ∀ e ∈ [82, 61, 209, 5, 205], e ∉ ts) : StoreAt D F sb x w' := by
  obtain ⟨vE, vL, vR, vS, hB, hs, hE, hT, hR, hS⟩ := h
  exact ⟨vE, vL, vR, vS, hB, k.keep hs (ht _ (by simp)), k.ownsIn hE (ht _ (by simp)), hT.kd k (ht _ (by simp)) (ht _ (by simp)), k.ownsJ hR (ht _ (by simp)), k.ownsIn hS (ht _ (by simp))⟩

def ptr (b : Nat) : Value := .pointer (some ⟨b, 0, none⟩)

theorem OwnsIn.monoT {w : World} {D D' : Nat → Prop} {e : TypeId} {size : Nat} {v : Value} {n : Nat} {xs : List Value} (h : OwnsIn w D e size v n xs) (hd : ∀ b c f, w.heap[b]? = some (.cells c e f) → D b → D' b) : OwnsIn w D' e size v n xs := by
  refine ⟨h.own, fun g hg => ?_⟩
  have hD := h.dom g hg
  rcases h.own.2 with ⟨rfl, _⟩ | ⟨g', cap, cur, rfl, _, hgg, _⟩
  · simp [Value.ownBlock] at hg
  · simp only [Value.ownBlock, Option.some.injEq] at hg
    subst hg
    exact hd _ _ _ hgg hD

theorem BkAt.monoT {w : World} {D D' : Nat → Prop} {wb : Nat} {vss vrs : Value} {q : BkQ} {P : List (Int × Nat)} {n : Int} (h : BkAt D wb vss vrs q P n w) (hd : ∀ b c e f, w.heap[b]? = some (.cells c e f) → e ∈ [36, 38, 3] → D b → D' b) : BkAt D' wb vss vrs q P n w := by
  obtain ⟨vps, vpm, Vs, hB, hs, hps, hpm, hl⟩ := h
  exact ⟨vps, vpm, Vs, hd wb _ _ _ hs (by simp) hB, hs, hps.monoT fun b c f hc => hd b c _ f hc (by simp), hpm.monoT fun b c f hc => hd b c _ f hc (by simp), hl⟩

/-- The book's struct with another list of stores. -/
theorem BkAt.setSs {w w' : World} {D : Nat → Prop} {wb : Nat} {vss vrs vss' : Value} {q : BkQ} {P : List (Int × Nat)} {n : Int} (h : BkAt D wb vss vrs q P n w) (hw : w' = w.setCell ⟨wb, 0, none⟩ vss') : BkAt D wb vss' vrs q P n w' ∧ Kd D [36] w w' := by
  subst hw
  obtain ⟨vps, vpm, Vs, hB, hs, hps, hpm, hl⟩ := h
  have k := Kd.field hB hs 0 vss'
  have s1 := set_book hs 0 vss'
  refine ⟨⟨vps, vpm, Vs, hB, by rw [s1]; simp [bookCells], k.ownsIn hps (by simp), k.ownsIn hpm (by simp), hl.kx (Kx.of_kd (X := fun _ e => e = 36) k fun _ e _ _ he => by simpa using he) (fun g _ => by simp)⟩, k⟩

theorem BkAt.setRs {w w' : World} {D : Nat → Prop} {wb : Nat} {vss vrs vrs' : Value} {q : BkQ} {P : List (Int × Nat)} {n : Int} (h : BkAt D wb vss vrs q P n w) (hw : w' = w.setCell ⟨wb, 1, none⟩ vrs') : BkAt D wb vss vrs' q P n w' ∧ Kd D [36] w w' := by
  subst hw
  obtain ⟨vps, vpm, Vs, hB, hs, hps, hpm, hl⟩ := h
  have k := Kd.field hB hs 1 vrs'
  have s1 := set_book hs 1 vrs'
  refine ⟨⟨vps, vpm, Vs, hB, by rw [s1]; simp [bookCells], k.ownsIn hps (by simp), k.ownsIn hpm (by simp), hl.kx (Kx.of_kd (X := fun _ e => e = 36) k fun _ e _ _ he => by simpa using he) (fun g _ => by simp)⟩, k⟩

theorem BkAt.kd {w w' : World} {D D' : Nat → Prop} {ts : List Nat} {wb : Nat} {vss vrs : Value} {q : BkQ} {P : List (Int × Nat)} {n : Int} (h : BkAt D wb vss vrs q P n w) (k : Kd D' ts w w') (h1 : 36 ∉ ts) (h2 : 38 ∉ ts) (h3 : 3 ∉ ts) (h4 : 57 ∉ ts) : BkAt D wb vss vrs q P n w' := by
  obtain ⟨vps, vpm, Vs, hB, hs, hps, hpm, hl⟩ := h
  exact ⟨vps, vpm, Vs, hB, k.keep hs h1, k.ownsIn hps h2, k.ownsIn hpm h3, hl.kx (Kx.of_kd (X := fun _ e => e ∈ ts) k fun _ _ _ _ he => he) (fun g _ => h4)⟩

theorem BkAt.c0 {w : World} {D : Nat → Prop} {wb : Nat} {vss vrs : Value} {q : BkQ} {P : List (Int × Nat)} {n : Int} (h : BkAt D wb vss vrs q P n w) : w.cell? ⟨wb, 0, none⟩ = some vss ∧ w.cell? ⟨wb, 1, none⟩ = some vrs ∧ w.frozen? ⟨wb, 0, none⟩ = false ∧ w.frozen? ⟨wb, 1, none⟩ = false ∧ wb < w.heap.size := by
  obtain ⟨vps, vpm, Vs, hB, hs, _⟩ := h
  exact ⟨by simp [World.cell?, hs, bookCells], by simp [World.cell?, hs, bookCells], by simp [World.frozen?, hs], by simp [World.frozen?, hs], lt_of_block hs⟩

/-- What New leaves. -/
def OpenPost (own : Nat → Nat) (wb : Nat) (q : BkQ) (P : List (Int × Nat)) (n : Int) (l : Nat) (Ss Rs : List Value) (w : World) (e : Ending) (w' : World) : Prop :=
  e = .returned (.bool true) ∧ Kd (Dc own w.heap.size 1) [36, 43, 45] w w' ∧ ∃ (sb rb : Nat) (vss vrs : Value), w.heap.size ≤ sb ∧ w.heap.size ≤ rb ∧ sb ≠ rb ∧
    BkAt (Dc own w.heap.size 1) wb vss vrs q P n w' ∧ OwnsIn w' (Dc own w.heap.size 1) 43 1 vss (l + 1) (Ss ++ [ptr sb]) ∧ OwnsIn w' (Dc own w.heap.size 1) 45 1 vrs (l + 1) (Rs ++ [ptr rb]) ∧
    StoreAt (fun k => k = sb) (fun _ => False) sb st0 w' ∧ RefT (fun k => k = rb) rb ⟨[], [], 0⟩ 0 0 [] w'

set_option maxHeartbeats 4000000 in
set_option maxRecDepth 100000 in
theorem opens_any (own : Nat → Nat) (wb : Nat) (vss vrs : Value) (q : BkQ) (P : List (Int × Nat)) (n : Int) (l : Nat) (Ss Rs : List Value) (o : OpD) (w : World) (hK : o.K = 1) (hbk : BkAt (Dm own 1) wb vss vrs q P n w) (hss : OwnsIn w (Dm own 1) 43 1 vss l Ss) (hrs : OwnsIn w (Dm own 1) 45 1 vrs l Rs) (hl : l < 1200000000000) :
    Calls Tryz.prog 7 #[.pointer (some ⟨wb, 0, none⟩), o.val] w fun e w' => OpenPost own wb q P n l Ss Rs w e w' := by
  obtain ⟨i43, hi43, hz43a, hz43b, hz43c⟩ := info_parts Tryz.info43
  obtain ⟨i45, hi45, hz45a, hz45b, hz45c⟩ := info_parts Tryz.info45
  obtain ⟨D, hD⟩ : ∃ D, D = Dc own w.heap.size 1 := ⟨_, rfl⟩
  have hOp : Opn D w := by rw [hD]; exact Dc_open own 1 w
  have hm : ∀ b, b < w.heap.size → Dm own 1 b → D b := fun b _ h => by rw [hD]; exact .inl h
  obtain ⟨wA, hwA⟩ : ∃ wA, w.alloc (.cells o.cells 41) = wA := ⟨_, rfl⟩
  have HWA : Hid (w.alloc (.cells o.cells 41) = wA) := hwA
  have BA : Hid (Below w.heap.size w wA) := by rw [← hwA]; exact (Below.refl _ _).alloc (Nat.le_refl _) _
  obtain ⟨w1, hw1⟩ : ∃ w1, wA.alloc sNew = w1 := ⟨_, rfl⟩
  have HW1 : Hid (wA.alloc sNew = w1) := hw1
  have B1 : Hid (Below w.heap.size w w1) := by rw [← hw1]; exact BA.out.alloc BA.out.size _
  have hsb : Hid (StoreAt (fun k => k = wA.heap.size) (fun _ => False) wA.heap.size st0 w1 ∧ w.heap.size ≤ wA.heap.size ∧ wA.heap.size < w1.heap.size) := by
    rw [← hw1]; exact ⟨StoreAt.new wA rfl, BA.out.size, by simp⟩
  have H1 : Hid (BkAt D wb vss vrs q P n w1 ∧ OwnsIn w1 D 43 1 vss l Ss ∧ OwnsIn w1 D 45 1 vrs l Rs ∧ Opn D w1 ∧ Opn D w) := ⟨(hbk.mono hm).below' B1.out, (hss.mono hm).below B1.out, (hrs.mono hm).below B1.out, hOp.later B1.out.size, hOp⟩
  obtain ⟨ao1, cap1, rfl⟩ := slice_form hss.own
  obtain ⟨ao2, cap2, rfl⟩ := slice_form hrs.own
  obtain ⟨c0, c1, f0, f1, hwb⟩ := H1.out.1.c0
  generalize hpost : (fun (e : Ending) (w' : World) => OpenPost own wb q P n l Ss Rs w e w') = PP
  have HPP : Hid (∀ w', OpenPost own wb q P n l Ss Rs w (.returned (.bool true)) w' → PP (.returned (.bool true)) w') := fun w' h => by rw [← hpost]; exact h
  have HDD : Hid (D = Dc own w.heap.size 1) := hD
  clear hpost hwA hw1 hbk hss hrs hm hOp hD
  unfold OpD.val
  unfold OpD.cells at HWA ⊢
  rw [hK] at HWA ⊢
  clear hK
  go_enter Tryz.func7, Tryz.ntmps7
  go_wp2_with fail
  rw [HWA.out]
  refine (new_any wA).mono ?_
  rintro e w1' ⟨rfl, rfl⟩
  rw [HW1.out]
  obtain ⟨sb, hsbe⟩ : ∃ sb, wA.heap.size = sb := ⟨_, rfl⟩
  rw [hsbe] at hsb ⊢
  clear HW1 HWA hsbe
  go_wp2_with (at_builtin; refine wpList_append_lies _ rfl (.tmp 22) (.tmp 24) 26 rfl 0 43 i43 _ 1 8 Tryz.underlying26 hi43 hz43a hz43b hz43c rfl (by decide) _ _ _ rfl (H1.out.2.1.own.alloc _) ⟨w1.heap.size, 0, none⟩ 1 1 [ptr sb] rfl rfl (alloc_one _ _ rfl _ _) (by intro u hu; simp at hu; subst hu; rfl) (by omega) (by unfold maxLen; omega) (by omega) (Nat.zero_le _) _ rfl ?_)
  intro g1 capg1 w2 ho2 hg2 hat2 hlt2
  have K2 : Kd D [43] w1 w2 := ((Kd.refl D [43] w1).alloc _).grown (H1.out.2.1.alloc _) hg2 (by simp)
  have N2 : OwnsIn w2 D 43 1 (.slice (some ⟨g1, 0, none⟩) (l + 1) capg1) (l + 1) (Ss ++ [ptr sb]) := H1.out.2.1.put H1.out.2.2.2.1 ho2 (hat2.imp id fun e => by rw [e]; simp)
  have BK2 := H1.out.1.kd K2 (by simp) (by simp) (by simp) (by simp)
  obtain ⟨c0b, c1b, f0b, f1b, hwb2⟩ := BK2.c0
  have H3 : Hid (BkAt D wb (.slice (some ⟨g1, 0, none⟩) (l + 1) capg1) (.slice ao2 l cap2) q P n (w2.setCell ⟨wb, 0, none⟩ (.slice (some ⟨g1, 0, none⟩) (l + 1) capg1)) ∧ Kd D [36, 43, 45] w1 (w2.setCell ⟨wb, 0, none⟩ (.slice (some ⟨g1, 0, none⟩) (l + 1) capg1)) ∧ OwnsIn (w2.setCell ⟨wb, 0, none⟩ (.slice (some ⟨g1, 0, none⟩) (l + 1) capg1)) D 43 1 (.slice (some ⟨g1, 0, none⟩) (l + 1) capg1) (l + 1) (Ss ++ [ptr sb]) ∧ OwnsIn (w2.setCell ⟨wb, 0, none⟩ (.slice (some ⟨g1, 0, none⟩) (l + 1) capg1)) D 45 1 (.slice ao2 l cap2) l Rs) := by
    obtain ⟨b1, b2⟩ := BK2.setSs (vss' := .slice (some ⟨g1, 0, none⟩) (l + 1) capg1) rfl
    exact ⟨b1, (K2.mono (by simp)).trans (b2.mono (by simp)), b2.ownsIn N2 (by simp), b2.ownsIn (K2.ownsIn H1.out.2.2.1 (by simp)) (by simp)⟩
  clear ho2 hg2 hat2 hlt2 K2 N2 BK2
  go_wp2
  obtain ⟨w3, hw3⟩ : ∃ w3, w2.setCell ⟨wb, 0, none⟩ (.slice (some ⟨g1, 0, none⟩) (l + 1) capg1) = w3 := ⟨_, rfl⟩
  rw [hw3] at H3 ⊢
  clear hw3
  have c1c := H3.out.1.c0.2.1
  have hwb3 := H3.out.1.c0.2.2.2.2
  have HO3 : Hid (Opn D w3) := H1.out.2.2.2.1.later H3.out.2.1.size
  rename_i K1 HK1 K HK0
  have HK : Hid _ := HK0
  have HKK1 : Hid _ := HK1
  clear HK0 HK1
  have REST : Hid (∀ (g2 capg2 : Nat) (w4 w5 : World), RefT (fun k => k = w3.heap.size) w3.heap.size ⟨[], [], 0⟩ 0 0 [] w4 → Below w3.heap.size w3 w4 → Kd D [45] w4 w5 → OwnsIn w5 D 45 1 (.slice (some ⟨g2, 0, none⟩) (l + 1) capg2) (l + 1) (Rs ++ [ptr w3.heap.size]) → BkAt D wb (.slice (some ⟨g1, 0, none⟩) (l + 1) capg1) (.slice ao2 l cap2) q P n w5 →
      K { tmps := #[.pointer (some ⟨wb, 0, none⟩), .agg #[.int .i64 1, .int .i64 o.A, .int .i64 o.B, .int .i64 o.W, .string o.S, .bool o.F, .slice o.aP o.L.length o.cP, .slice o.aC o.lC o.cC, .slice o.aK o.lK o.cK], undef, .pointer (some ⟨w.heap.size, 0, none⟩), .bool false, .pointer (some ⟨sb, 0, none⟩), undef, undef, undef, undef, undef, undef, .pointer (some ⟨w.heap.size, 0, none⟩), .int .i64 1, .bool true, .pointer (some ⟨sb, 0, none⟩), .pointer (some ⟨sb, 0, none⟩), .bool false, .pointer (some ⟨wb, 0, none⟩), .pointer (some ⟨wb, 0, none⟩), .pointer (some ⟨wb, 0, none⟩), .pointer (some ⟨wb, 0, none⟩), .slice ao1 l cap1, .pointer (some ⟨sb, 0, none⟩), .slice (some ⟨w1.heap.size, 0, none⟩) 1 1, .slice (some ⟨g1, 0, none⟩) (l + 1) capg1, .pointer (some ⟨wb, 0, none⟩), .pointer (some ⟨wb, 0, none⟩), .pointer (some ⟨wb, 0, none⟩), .pointer (some ⟨wb, 0, none⟩), .pointer (some ⟨wb, 0, none⟩), .pointer (some ⟨wb, 1, none⟩), .slice ao2 l cap2, .pointer (some ⟨w3.heap.size, 0, none⟩), .slice (some ⟨w4.heap.size, 0, none⟩) 1 1, .slice (some ⟨g2, 0, none⟩) (l + 1) capg2, .pointer (some ⟨wb, 0, none⟩), .pointer (some ⟨wb, 1, none⟩), undef, undef, undef, undef, undef, undef, undef, undef, undef, undef, undef, undef, undef, undef, undef, undef, undef, undef, undef, undef, undef, undef, undef, undef, undef, undef, undef, undef, undef, undef, undef, undef, undef, undef, undef, undef, undef, undef, undef, undef, undef, undef, undef, undef, undef, undef, undef], defers := [] } (w5.setCell ⟨wb, 1, none⟩ (.slice (some ⟨g2, 0, none⟩) (l + 1) capg2))) := by
    intro g2 capg2 w4 w5 a1 a2 a3 a4 a5
    have HF : Hid (OpenPost own wb q P n l Ss Rs w (.returned (.bool true)) (w5.setCell ⟨wb, 1, none⟩ (.slice (some ⟨g2, 0, none⟩) (l + 1) capg2))) := by
      obtain ⟨b1, b2⟩ := a5.setRs (vrs' := .slice (some ⟨g2, 0, none⟩) (l + 1) capg2) rfl
      have s1 := H3.out.2.1.size
      have hd := HDD.out
      have kA : Kd D [36, 43, 45] w3 (w5.setCell ⟨wb, 1, none⟩ (.slice (some ⟨g2, 0, none⟩) (l + 1) capg2)) := ((Kd.of_below a2).trans (a3.mono (by simp))).trans (b2.mono (by simp))
      have kT : Kd D [36, 43, 45] w (w5.setCell ⟨wb, 1, none⟩ (.slice (some ⟨g2, 0, none⟩) (l + 1) capg2)) := ((Kd.of_below B1.out).trans H3.out.2.1).trans kA
      refine ⟨rfl, by rw [← hd]; exact kT, sb, w3.heap.size, _, _, hsb.out.2.1, by have := hsb.out; omega, by have := hsb.out; omega, by rw [← hd]; exact b1, by rw [← hd]; exact b2.ownsIn (a3.ownsIn (H3.out.2.2.1.below a2) (by simp)) (by simp), by rw [← hd]; exact b2.ownsIn a4 (by simp), ?_, ?_⟩
      · exact (hsb.out.1.kd H3.out.2.1 (by simp)).kd kA (by simp)
      · exact (a1.kept a3 (by simp) (by simp) (by simp) (by simp) (by simp) (by simp)).kept b2 (by simp) (by simp) (by simp) (by simp) (by simp) (by simp)
    generalize w5.setCell ⟨wb, 1, none⟩ (.slice (some ⟨g2, 0, none⟩) (l + 1) capg2) = w6 at HF
    clear a1 a2 a3 a4 a5
    refine HK.out _ _ ?_
    clear HK
    go_wp2
    exact HPP.out _ HF.out
  refine wp_region_held_drew (S := fun _ => True) (by kernel_rfl) trivial ?_
  intro _
  refine wpAnyH_take (i := 0) (v := .pointer (some ⟨wb, 0, none⟩)) rfl (by kernel_rfl) (by kernel_rfl) (by kernel_rfl) (fun _ _ _ h => h) (Or.inl ⟨by rfl, ?_⟩) trivial ?_
  · intro w0 _
    go_simp
  simp only [Act.put]
  refine wpAnyH_take (i := 1) (v := .pointer (some ⟨wb, 0, none⟩)) rfl (by kernel_rfl) (by kernel_rfl) (by kernel_rfl) (fun _ _ _ h => h) (Or.inl ⟨by rfl, ?_⟩) trivial ?_
  · intro w0 _
    go_simp
  simp only [Act.put]
  refine wpAnyH_take (i := 2) (v := .pointer (some ⟨wb, 0, none⟩)) rfl (by kernel_rfl) (by kernel_rfl) (by kernel_rfl) (fun _ _ _ h => h) (Or.inl ⟨by rfl, ?_⟩) trivial ?_
  · intro w0 _
    go_simp
  simp only [Act.put]
  refine wpAnyH_take (i := 3) (v := .pointer (some ⟨wb, 1, none⟩)) rfl (by kernel_rfl) (by kernel_rfl) (by kernel_rfl) (fun _ _ _ h => h) (Or.inl ⟨by rfl, ?_⟩) trivial ?_
  · intro w0 _
    go_simp
  simp only [Act.put]
  refine wpAnyH_ready (rs := [4, 5]) (by kernel_rfl) (by simp) ?_
  refine AllReadyH.cons rfl (fun K' hK => ?_) (AllReadyH.cons rfl (fun K' hK => ?_) AllReadyH.nil)
  · rw [if_pos (by rfl)]
    go_wp2_with fail
    refine hK.out _ _ trivial (fun _ => ?_)
    clear hK K'
    refine wpAnyH_ready (rs := [5]) (by kernel_rfl) (by simp) ?_
    refine AllReadyH.cons rfl (fun K' hK => ?_) AllReadyH.nil
    rw [if_pos (by rfl)]
    go_wp2_with fail
    refine (refNew_any _).mono ?_
    rintro e w4 ⟨rfl, hw4⟩
    have A4 : Hid (RefT (fun k => k = w3.heap.size) w3.heap.size ⟨[], [], 0⟩ 0 0 [] w4 ∧ Below w3.heap.size w3 w4) := by rw [hw4]; exact ⟨RefT.new w3.drew rfl, (Below.refl _ _).drew.alloc (Nat.le_refl _) _⟩
    have hsz4 : Hid (w4.heap.size = w3.heap.size + 1) := by rw [hw4]; simp [Hid]
    have m1 : w4.cell? ⟨wb, 1, none⟩ = some (.slice ao2 l cap2) := cell_later A4.out.2 c1c
    have hwb4 : wb < w4.heap.size := by have := hsz4.out; omega
    clear hw4
    go_wp2_with fail
    refine hK.out _ _ trivial (fun _ => ?_)
    clear hK K'
    refine wpAnyH_ready (rs := [6]) (by kernel_rfl) (by simp) ?_
    refine AllReadyH.cons rfl (fun K' hK => ?_) AllReadyH.nil
    rw [if_pos (by rfl)]
    go_wp2_with fail
    refine hK.out _ _ trivial (fun _ => ?_)
    clear hK K'
    refine wpAnyH_ready (rs := [7]) (by kernel_rfl) (by simp) ?_
    refine AllReadyH.cons rfl (fun K' hK => ?_) AllReadyH.nil
    rw [if_pos (by rfl)]
    refine wp_append_lies _ (.tmp 32) (.tmp 34) 27 rfl 0 45 i45 _ 1 8 Tryz.underlying27 hi45 hz45a hz45b hz45c rfl (by decide) (.slice ao2 l cap2) l Rs rfl (by exact (H3.out.2.2.2.below A4.out.2).own.alloc _) ⟨w4.heap.size, 0, none⟩ 1 1 [ptr w3.heap.size] rfl rfl (alloc_one _ _ rfl _ _) (by intro u hu; simp at hu; subst hu; rfl) (by omega) (by unfold maxLen; omega) (by omega) (Nat.zero_le _) _ rfl ?_
    intro g2 capg2 w5 hown hgrow hat hlt
    have K5 : Hid (Kd D [45] w4 w5) := Kd.grown ((Kd.refl _ _ _).alloc _) (by exact (H3.out.2.2.2.below A4.out.2).alloc _) hgrow (by simp)
    have N5 : Hid (OwnsIn w5 D 45 1 (.slice (some ⟨g2, 0, none⟩) (l + 1) capg2) (l + 1) (Rs ++ [ptr w3.heap.size])) := H3.out.2.2.2.put HO3.out hown (hat.imp id fun e => by rw [e]; have := hsz4.out; simp; omega)
    have BK5 : Hid (BkAt D wb (.slice (some ⟨g1, 0, none⟩) (l + 1) capg1) (.slice ao2 l cap2) q P n w5) := (H3.out.1.below' A4.out.2).kd K5.out (by simp) (by simp) (by simp) (by simp)
    have m3 : w5.cell? ⟨wb, 1, none⟩ = some (.slice ao2 l cap2) := BK5.out.c0.2.1
    have f3 : w5.frozen? ⟨wb, 1, none⟩ = false := BK5.out.c0.2.2.2.1
    clear hown hgrow hat hlt
    refine hK.out _ _ trivial (fun _ => ?_)
    clear hK K'
    simp only [Act.put]
    refine wpAnyH_take (i := 8) (v := .pointer (some ⟨wb, 0, none⟩)) rfl (by kernel_rfl) (by kernel_rfl) (by kernel_rfl) (fun _ _ _ h => h) (Or.inl ⟨by rfl, ?_⟩) trivial ?_
    · intro w0 _
      go_simp
    simp only [Act.put]
    refine wpAnyH_take (i := 9) (v := .pointer (some ⟨wb, 1, none⟩)) rfl (by kernel_rfl) (by kernel_rfl) (by kernel_rfl) (fun _ _ _ h => h) (Or.inl ⟨by rfl, ?_⟩) trivial ?_
    · intro w0 _
      go_simp
    simp only [Act.put]
    refine wpAnyH_ready (rs := [10]) (by kernel_rfl) (by simp) ?_
    refine AllReadyH.cons rfl (fun K' hK => ?_) AllReadyH.nil
    rw [if_pos (by rfl)]
    go_wp2_with fail
    refine hK.out _ _ trivial (fun _ => ?_)
    clear hK K'
    refine wpAnyH_done (by kernel_rfl) ?_ _
    exact REST.out g2 capg2 w4 w5 A4.out.1 A4.out.2 K5.out N5.out BK5.out
  · rw [if_pos (by rfl)]
    go_wp2_with fail
    refine (refNew_any _).mono ?_
    rintro e w4 ⟨rfl, hw4⟩
    have A4 : Hid (RefT (fun k => k = w3.heap.size) w3.heap.size ⟨[], [], 0⟩ 0 0 [] w4 ∧ Below w3.heap.size w3 w4) := by rw [hw4]; exact ⟨RefT.new w3.drew rfl, (Below.refl _ _).drew.alloc (Nat.le_refl _) _⟩
    have hsz4 : Hid (w4.heap.size = w3.heap.size + 1) := by rw [hw4]; simp [Hid]
    have m1 : w4.cell? ⟨wb, 1, none⟩ = some (.slice ao2 l cap2) := cell_later A4.out.2 c1c
    have hwb4 : wb < w4.heap.size := by have := hsz4.out; omega
    clear hw4
    go_wp2_with fail
    refine hK.out _ _ trivial (fun _ => ?_)
    clear hK K'
    refine wpAnyH_ready (rs := [4, 6]) (by kernel_rfl) (by simp) ?_
    refine AllReadyH.cons rfl (fun K' hK => ?_) (AllReadyH.cons rfl (fun K' hK => ?_) AllReadyH.nil)
    · rw [if_pos (by rfl)]
      go_wp2_with fail
      refine hK.out _ _ trivial (fun _ => ?_)
      clear hK K'
      refine wpAnyH_ready (rs := [6]) (by kernel_rfl) (by simp) ?_
      refine AllReadyH.cons rfl (fun K' hK => ?_) AllReadyH.nil
      rw [if_pos (by rfl)]
      go_wp2_with fail
      refine hK.out _ _ trivial (fun _ => ?_)
      clear hK K'
      refine wpAnyH_ready (rs := [7]) (by kernel_rfl) (by simp) ?_
      refine AllReadyH.cons rfl (fun K' hK => ?_) AllReadyH.nil
      rw [if_pos (by rfl)]
      refine wp_append_lies _ (.tmp 32) (.tmp 34) 27 rfl 0 45 i45 _ 1 8 Tryz.underlying27 hi45 hz45a hz45b hz45c rfl (by decide) (.slice ao2 l cap2) l Rs rfl (by exact (H3.out.2.2.2.below A4.out.2).own.alloc _) ⟨w4.heap.size, 0, none⟩ 1 1 [ptr w3.heap.size] rfl rfl (alloc_one _ _ rfl _ _) (by intro u hu; simp at hu; subst hu; rfl) (by omega) (by unfold maxLen; omega) (by omega) (Nat.zero_le _) _ rfl ?_
      intro g2 capg2 w5 hown hgrow hat hlt
      have K5 : Hid (Kd D [45] w4 w5) := Kd.grown ((Kd.refl _ _ _).alloc _) (by exact (H3.out.2.2.2.below A4.out.2).alloc _) hgrow (by simp)
      have N5 : Hid (OwnsIn w5 D 45 1 (.slice (some ⟨g2, 0, none⟩) (l + 1) capg2) (l + 1) (Rs ++ [ptr w3.heap.size])) := H3.out.2.2.2.put HO3.out hown (hat.imp id fun e => by rw [e]; have := hsz4.out; simp; omega)
      have BK5 : Hid (BkAt D wb (.slice (some ⟨g1, 0, none⟩) (l + 1) capg1) (.slice ao2 l cap2) q P n w5) := (H3.out.1.below' A4.out.2).kd K5.out (by simp) (by simp) (by simp) (by simp)
      have m3 : w5.cell? ⟨wb, 1, none⟩ = some (.slice ao2 l cap2) := BK5.out.c0.2.1
      have f3 : w5.frozen? ⟨wb, 1, none⟩ = false := BK5.out.c0.2.2.2.1
      clear hown hgrow hat hlt
      refine hK.out _ _ trivial (fun _ => ?_)
      clear hK K'
      simp only [Act.put]
      refine wpAnyH_take (i := 8) (v := .pointer (some ⟨wb, 0, none⟩)) rfl (by kernel_rfl) (by kernel_rfl) (by kernel_rfl) (fun _ _ _ h => h) (Or.inl ⟨by rfl, ?_⟩) trivial ?_
      · intro w0 _
        go_simp
      simp only [Act.put]
      refine wpAnyH_take (i := 9) (v := .pointer (some ⟨wb, 1, none⟩)) rfl (by kernel_rfl) (by kernel_rfl) (by kernel_rfl) (fun _ _ _ h => h) (Or.inl ⟨by rfl, ?_⟩) trivial ?_
      · intro w0 _
        go_simp
      simp only [Act.put]
      refine wpAnyH_ready (rs := [10]) (by kernel_rfl) (by simp) ?_
      refine AllReadyH.cons rfl (fun K' hK => ?_) AllReadyH.nil
      rw [if_pos (by rfl)]
      go_wp2_with fail
      refine hK.out _ _ trivial (fun _ => ?_)
      clear hK K'
      refine wpAnyH_done (by kernel_rfl) ?_ _
      exact REST.out g2 capg2 w4 w5 A4.out.1 A4.out.2 K5.out N5.out BK5.out
    · rw [if_pos (by rfl)]
      go_wp2_with fail
      refine hK.out _ _ trivial (fun _ => ?_)
      clear hK K'
      refine wpAnyH_ready (rs := [4]) (by kernel_rfl) (by simp) ?_
      refine AllReadyH.cons rfl (fun K' hK => ?_) AllReadyH.nil
      rw [if_pos (by rfl)]
      go_wp2_with fail
      refine hK.out _ _ trivial (fun _ => ?_)
      clear hK K'
      refine wpAnyH_ready (rs := [7]) (by kernel_rfl) (by simp) ?_
      refine AllReadyH.cons rfl (fun K' hK => ?_) AllReadyH.nil
      rw [if_pos (by rfl)]
      refine wp_append_lies _ (.tmp 32) (.tmp 34) 27 rfl 0 45 i45 _ 1 8 Tryz.underlying27 hi45 hz45a hz45b hz45c rfl (by decide) (.slice ao2 l cap2) l Rs rfl (by exact (H3.out.2.2.2.below A4.out.2).own.alloc _) ⟨w4.heap.size, 0, none⟩ 1 1 [ptr w3.heap.size] rfl rfl (alloc_one _ _ rfl _ _) (by intro u hu; simp at hu; subst hu; rfl) (by omega) (by unfold maxLen; omega) (by omega) (Nat.zero_le _) _ rfl ?_
      intro g2 capg2 w5 hown hgrow hat hlt
      have K5 : Hid (Kd D [45] w4 w5) := Kd.grown ((Kd.refl _ _ _).alloc _) (by exact (H3.out.2.2.2.below A4.out.2).alloc _) hgrow (by simp)
      have N5 : Hid (OwnsIn w5 D 45 1 (.slice (some ⟨g2, 0, none⟩) (l + 1) capg2) (l + 1) (Rs ++ [ptr w3.heap.size])) := H3.out.2.2.2.put HO3.out hown (hat.imp id fun e => by rw [e]; have := hsz4.out; simp; omega)
      have BK5 : Hid (BkAt D wb (.slice (some ⟨g1, 0, none⟩) (l + 1) capg1) (.slice ao2 l cap2) q P n w5) := (H3.out.1.below' A4.out.2).kd K5.out (by simp) (by simp) (by simp) (by simp)
      have m3 : w5.cell? ⟨wb, 1, none⟩ = some (.slice ao2 l cap2) := BK5.out.c0.2.1
      have f3 : w5.frozen? ⟨wb, 1, none⟩ = false := BK5.out.c0.2.2.2.1
      clear hown hgrow hat hlt
      refine hK.out _ _ trivial (fun _ => ?_)
      clear hK K'
      simp only [Act.put]
      refine wpAnyH_take (i := 8) (v := .pointer (some ⟨wb, 0, none⟩)) rfl (by kernel_rfl) (by kernel_rfl) (by kernel_rfl) (fun _ _ _ h => h) (Or.inl ⟨by rfl, ?_⟩) trivial ?_
      · intro w0 _
        go_simp
      simp only [Act.put]
      refine wpAnyH_take (i := 9) (v := .pointer (some ⟨wb, 1, none⟩)) rfl (by kernel_rfl) (by kernel_rfl) (by kernel_rfl) (fun _ _ _ h => h) (Or.inl ⟨by rfl, ?_⟩) trivial ?_
      · intro w0 _
        go_simp
      simp only [Act.put]
      refine wpAnyH_ready (rs := [10]) (by kernel_rfl) (by simp) ?_
      refine AllReadyH.cons rfl (fun K' hK => ?_) AllReadyH.nil
      rw [if_pos (by rfl)]
      go_wp2_with fail
      refine hK.out _ _ trivial (fun _ => ?_)
      clear hK K'
      refine wpAnyH_done (by kernel_rfl) ?_ _
      exact REST.out g2 capg2 w4 w5 A4.out.1 A4.out.2 K5.out N5.out BK5.out
end Go.Proofs.YtakipjofboipmaaGreatDoor
