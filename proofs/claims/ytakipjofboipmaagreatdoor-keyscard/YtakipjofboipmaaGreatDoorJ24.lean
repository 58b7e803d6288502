/- The walks of this proof: a step that writes. -/
import Derived.Test.YtakipjofboipmaaGreatDoorJ23
import Derived.Test.YtakipjofboipmaaGreatDoorJ17
namespace Go.Proofs.YtakipjofboipmaaGreatDoor
open Go.RowKit Go.Sort

theorem Pre.lowD {own : Nat → Nat} {i wb sb rb : Nat} {vss vrs : Value} {x : St} {y : Rf} {b : Bk} {t N0 : Nat} {w : World} (h : Pre own i wb sb rb vss vrs x y b t N0 w) {id M : Nat} (hid : id ≠ 0) (hM : N0 ≤ M) (k : Nat) (hk : Dc (cut own w.heap.size) M id k) : N0 ≤ k := by
  rcases hk with hk | hk
  · by_cases hkN : k < w.heap.size
    · rw [cut_lt hkN] at hk; exact h.low k (by omega)
    · have := h.lowN; omega
  · omega

theorem writes_fin {own : Nat → Nat} {i wb sb rb : Nat} {vss vrs : Value} {x : St} {y : Rf} {b : Bk} {t N0 : Nat} {w w1 w2 w3 w4 : World} {L M C : List Pr} {s : Bool} {g : Nat}
    (pre : Pre own i wb sb rb vss vrs x y b t N0 w) (ht : t + 1 ≤ 1099511627776) (hb1 : Below w.heap.size w w1) (hf : flt L = 0) (hM : Settles L M)
    (hst : StoreAt (Dc (cut own w.heap.size) w1.heap.size (3 * i + 4)) (Dm (cut own w.heap.size) (3 * i + 6)) sb (x.wrs M s) w2) (k2 : Kd (Dc (cut own w.heap.size) w1.heap.size (3 * i + 4)) [82, 5, 61] w1 w2)
    (hC : SamePr (keep L) C) (hu : Upto C C.length) (hrf : RefT (Dc (cut own w.heap.size) w2.heap.size (3 * i + 5)) rb { y with A := y.A ++ [C] } x.la (if s then (y.A.length : Int) + 1 else x.la + x.sy) x.T w3) (k3 : Kd (Dc (cut own w.heap.size) w2.heap.size (3 * i + 5)) [85, 38] w2 w3)
    (k4 : Kd (fun k => k = g ∨ w3.heap.size ≤ k) [57] w3 w4) (hg0 : w.heap.size ≤ g) (hg1 : g < w1.heap.size) : StepPost own i wb sb rb vss vrs t N0 w (.returned (.bool true)) w4 := by
  obtain rfl := settle_eq hM hC hu
  have e1 : RfT (Dc (cut own w.heap.size) w2.heap.size (3 * i + 5)) rb { y with A := y.A ++ [M] } (x.wrs M s) w3 := by
    unfold RfT
    rw [wrs_sy pre.bo.ok.lv, wrs_la, wrs_T, pre.bo.sm.last]
    exact hrf
  refine two_fin pre hb1 (StPost.of hst k2 (Dc_open _ _ _) (Pre.dis hb1.size)) (by simp) e1 k3 (by simp) k4 (fun k hk h => ?_) (pre.bo.wrote (by have := pre.small; omega) hf hC hu s) ht
  rcases h with rfl | h
  · exact ⟨hg0, hg1⟩
  · omega

set_option maxHeartbeats 4000000 in
set_option maxRecDepth 100000 in
theorem writes_any (own : Nat → Nat) (i wb sb rb : Nat) (vss vrs : Value) (x : St) (y : Rf) (b : Bk) (t N0 : Nat) (o : OpD) (w : World) (pre : Pre own i wb sb rb vss vrs x y b t N0 w) (ok : OpOk o N0 w) (ht : t + 1 ≤ 1099511627776) :
    Calls Tryz.prog 22 #[.pointer (some ⟨wb, 0, none⟩), .pointer (some ⟨sb, 0, none⟩), .pointer (some ⟨rb, 0, none⟩), o.val] w fun e w' => StepPost own i wb sb rb vss vrs t N0 w e w' := by
  obtain ⟨wA, hwA⟩ : ∃ wA, w.alloc (.cells o.cells 41) = wA := ⟨_, rfl⟩
  have HWA : Hid (w.alloc (.cells o.cells 41) = wA) := hwA
  have BA : Hid (Below w.heap.size w wA) := by rw [← hwA]; exact (Below.refl _ _).alloc (Nat.le_refl _) _
  have OA : Hid (wA.heap[w.heap.size]? = some (.cells o.cells 41 (0, 0)) ∧ wA.heap.size = w.heap.size + 1) := by rw [← hwA]; exact ⟨heap_alloc_new w _, by simp⟩
  have HLENT : Hid _ := lent_any o.L (.slice o.aP o.L.length o.cP) wA (ok.pairs.below BA.out)
  have PRE : Hid _ := pre
  have OK : Hid (OpOk o N0 w) := ok
  generalize hpost : (fun (e : Ending) (w' : World) => StepPost own i wb sb rb vss vrs t N0 w e w') = PP
  have HPP : Hid (∀ w', StepPost own i wb sb rb vss vrs t N0 w (.returned (.bool true)) w' → PP (.returned (.bool true)) w') := fun w' h => by rw [← hpost]; exact h
  clear pre ok hpost hwA
  unfold OpD.val
  unfold OpD.cells at HWA OA ⊢
  go_enter Tryz.func22, Tryz.ntmps22
  go_wp2_with fail
  rw [HWA.out]
  refine Calls.mono HLENT.out ?_
  rintro e w1 ⟨rfl, ho1, hb1⟩
  obtain ⟨g, hg⟩ : ∃ g, wA.heap.size = g := ⟨_, rfl⟩
  rw [hg] at ho1 ⊢
  have HG : Hid (g = w.heap.size + 1) := by rw [← hg]; exact OA.out.2
  have HO1 : Hid (w1.ownsRow g 57 3 (.slice (some ⟨g, 0, none⟩) (o.L.length + 8) (o.L.length + 8)) (o.L.length + 8) (pcells (o.L ++ bhs 8))) := ho1
  have B1 : Hid (Below w.heap.size w w1) := BA.out.trans (hb1.mono BA.out.size)
  have ob1 : Hid (w1.heap[w.heap.size]? = some (.cells #[.int .i64 o.K, .int .i64 o.A, .int .i64 o.B, .int .i64 o.W, .string o.S, .bool o.F, .slice o.aP o.L.length o.cP, .slice o.aC o.lC o.cC, .slice o.aK o.lK o.cK] 41 (0, 0))) := (hb1.block _ (lt_of_block OA.out.1)).trans OA.out.1
  have q5 : w1.cell? ⟨w.heap.size, 5, none⟩ = some (.bool o.F) := by simp [World.cell?, ob1.out]
  have q6 : w1.cell? ⟨w.heap.size, 6, none⟩ = some (.slice o.aP o.L.length o.cP) := by simp [World.cell?, ob1.out]
  have hgl : Hid (g < w1.heap.size) := (ho1.lt g rfl).2
  obtain ⟨hpl, hps⟩ : o.L.length ≤ 3518437208780 ∧ ∀ p ∈ o.L, p.k.size ≤ 140737488351232 ∧ p.v.size ≤ 140737488351232 := by
    obtain ⟨_, _, _, h1, h2, _⟩ := OK.out.pairs
    exact ⟨h1, h2⟩
  have HPS : Hid (∀ p ∈ o.L, p.k.size ≤ 140737488351232 ∧ p.v.size ≤ 140737488351232) := hps
  have hcap : (o.L.length : Int) ≤ (o.L.length : Int) + 8 := by omega
  clear ho1 hb1 hg hps HLENT
  by_cases hf : flt o.L = 0
  · obtain ⟨hl1, hl4, hok⟩ := flt_ok hf
    have hbo := PRE.out.bo
    have hsm := PRE.out.small
    have hlast : Hid (x.last = y.A.length) := hbo.sm.last
    have HW : Hid (∀ w', Below w1.heap.size w1 w' → w'.heap.size = w1.heap.size → Calls Tryz.prog 54 #[.pointer (some ⟨sb, 0, none⟩), .slice (some ⟨g, 0, none⟩) o.L.length (o.L.length + 8), .bool o.F] w' fun e w'' => BatchPost (Dc (cut own w.heap.size) w1.heap.size (3 * i + 4)) (Dm (cut own w.heap.size) (3 * i + 6)) sb x o.L o.F w' e w'') := fun w' hb hsz => by
      have hl2 := hbo.lastx (by omega)
      have hfe := hbo.few (by omega)
      refine writeCall_any (Dc (cut own w.heap.size) w1.heap.size (3 * i + 4)) (Dm (cut own w.heap.size) (3 * i + 6)) sb x o.L _ g o.F w' ((PRE.out.store B1.out).below hb) ?_ (Pre.dis B1.out.size) hbo.ok (own_prefix ((Kp.of_below (B := 0) (ts := []) hb).owns HO1.out (by simp)) rfl (by omega)) hl1 hl4 hok (by omega) (by omega)
      rw [← hsz]; exact Dc_open _ _ _
    have HR : Hid (∀ w', Kd (Dc (cut own w.heap.size) w1.heap.size (3 * i + 4)) [82, 5, 61] w1 w' → Calls Tryz.prog 55 #[.pointer (some ⟨rb, 0, none⟩), .slice o.aP o.L.length o.cP, .bool o.F] w' fun e w'' => e = .returned (.tuple #[.int .i64 ((y.A.length : Int) + 1), .int .i64 0]) ∧ ∃ C, SamePr (keep o.L) C ∧ Upto C C.length ∧ RefT (Dc (cut own w.heap.size) w'.heap.size (3 * i + 5)) rb { y with A := y.A ++ [C] } x.la (if o.F then (y.A.length : Int) + 1 else x.la + x.sy) x.T w'' ∧ Kd (Dc (cut own w.heap.size) w'.heap.size (3 * i + 5)) [85, 38] w' w'') := fun w' k2 => by
      have hlow : Below N0 w1 w' := k2.belowN (Nat.le_trans PRE.out.lowN B1.out.size) (PRE.out.lowD (by omega) (Nat.le_trans PRE.out.lowN B1.out.size))
      refine (refWriteT_any (Dc (cut own w.heap.size) w'.heap.size (3 * i + 5)) rb y x.la (x.la + x.sy) x.T o.L _ o.F w' (PRE.out.ref B1.out k2) (Dc_open _ _ _) (hbo.rf (by omega)) ?_).mono ?_
      · exact OK.out.lies w' ((B1.out.mono PRE.out.lowN).trans hlow)
      · rintro e w'' (⟨h1, _⟩ | ⟨_, h2, h3⟩)
        · exact absurd hf h1
        · exact ⟨h2, h3⟩
    have HU : Hid (∀ w2 w3, Kd (Dc (cut own w.heap.size) w1.heap.size (3 * i + 4)) [82, 5, 61] w1 w2 → Kd (Dc (cut own w.heap.size) w2.heap.size (3 * i + 5)) [85, 38] w2 w3 → Calls Tryz.prog 56 #[.slice (some ⟨g, 0, none⟩) (o.L.length + 8) (o.L.length + 8), .slice o.aP o.L.length o.cP] w3 fun e w'' => e = .returned (.bool true) ∧ Kd (fun k => k = g ∨ w3.heap.size ≤ k) [57] w3 w'') := fun w2 w3 k2 k3 => by
      have h0 := PRE.out.lowN
      have h1 := B1.out.size
      have b2 : Below N0 w1 w2 := k2.belowN (by omega) (PRE.out.lowD (by omega) (by omega))
      have b3 : Below N0 w2 w3 := k3.belowN (by have := k2.size; omega) (PRE.out.lowD (by omega) (by have := k2.size; omega))
      exact unspoilt_any o.L _ g g w3 (OK.out.lies w3 (((B1.out.mono h0).trans b2).trans b3)) (k3.owns (k2.owns HO1.out (by simp)) (by simp))
    have HOB : Hid (∀ w2, Kd (Dc (cut own w.heap.size) w1.heap.size (3 * i + 4)) [82, 5, 61] w1 w2 → w2.heap[w.heap.size]? = some (.cells #[.int .i64 o.K, .int .i64 o.A, .int .i64 o.B, .int .i64 o.W, .string o.S, .bool o.F, .slice o.aP o.L.length o.cP, .slice o.aC o.lC o.cC, .slice o.aK o.lK o.cK] 41 (0, 0))) := fun w2 k2 => k2.keep ob1.out (by simp)
    have HFIN : Hid (∀ (w2 w3 w4 : World) (M C : List Pr), Settles o.L M → StoreAt (Dc (cut own w.heap.size) w1.heap.size (3 * i + 4)) (Dm (cut own w.heap.size) (3 * i + 6)) sb (x.wrs M o.F) w2 → Kd (Dc (cut own w.heap.size) w1.heap.size (3 * i + 4)) [82, 5, 61] w1 w2 → SamePr (keep o.L) C → Upto C C.length → RefT (Dc (cut own w.heap.size) w2.heap.size (3 * i + 5)) rb { y with A := y.A ++ [C] } x.la (if o.F then (y.A.length : Int) + 1 else x.la + x.sy) x.T w3 → Kd (Dc (cut own w.heap.size) w2.heap.size (3 * i + 5)) [85, 38] w2 w3 → Kd (fun k => k = g ∨ w3.heap.size ≤ k) [57] w3 w4 → StepPost own i wb sb rb vss vrs t N0 w (.returned (.bool true)) w4) := fun w2 w3 w4 M C a1 a5 a6 a7 a8 a9 a10 a11 =>
      writes_fin PRE.out ht B1.out hf a1 a5 a6 a7 a8 a9 a10 a11 (by have := HG.out; omega) hgl.out
    clear hf hok hbo hl1
    go_wp2
    go_region_with (go_at_call 54; refine (HW.out _ (by exact (Below.refl _ _).drew) (by rfl)).mono ?_; rintro e w2 ⟨rfl, M, a1, a5, a6⟩; have A2 : Hid (Settles o.L M ∧ StoreAt (Dc (cut own w.heap.size) w1.heap.size (3 * i + 4)) (Dm (cut own w.heap.size) (3 * i + 6)) sb (x.wrs M o.F) w2 ∧ Kd (Dc (cut own w.heap.size) w1.heap.size (3 * i + 4)) [82, 5, 61] w1 w2) := ⟨a1, a5, ⟨a6.os, a6.tape, a6.output, a6.size, a6.block⟩⟩; have ob2 := HOB.out w2 A2.out.2.2; have m5 : w2.cell? ⟨w.heap.size, 5, none⟩ = some (.bool o.F) := (by simp [World.cell?, ob2]); have m6 : w2.cell? ⟨w.heap.size, 6, none⟩ = some (.slice o.aP o.L.length o.cP) := (by simp [World.cell?, ob2]); clear a1 a5 a6 ob2)
    all_goals (
      go_wp2_with fail
      refine Calls.mono (HR.out _ A2.out.2.2) ?_
      rintro e w3 ⟨rfl, C, a1, a2, a3, a4⟩
      have A3 : Hid (SamePr (keep o.L) C ∧ Upto C C.length ∧ RefT (Dc (cut own w.heap.size) w2.heap.size (3 * i + 5)) rb { y with A := y.A ++ [C] } x.la (if o.F then (y.A.length : Int) + 1 else x.la + x.sy) x.T w3 ∧ Kd (Dc (cut own w.heap.size) w2.heap.size (3 * i + 5)) [85, 38] w2 w3) := ⟨a1, a2, a3, a4⟩
      have ob3 := a4.keep (HOB.out w2 A2.out.2.2) (by simp)
      have r6 : w3.cell? ⟨w.heap.size, 6, none⟩ = some (.slice o.aP o.L.length o.cP) := by simp [World.cell?, ob3]
      clear a1 a2 a3 a4 ob3
      go_wp2_with fail
      refine Calls.mono (HU.out _ _ A2.out.2.2 A3.out.2.2.2) ?_
      rintro e w4 ⟨rfl, k4⟩
      have HF : Hid (StepPost own i wb sb rb vss vrs t N0 w (.returned (.bool true)) w4) := HFIN.out w2 w3 w4 M C A2.out.1 A2.out.2.1 A2.out.2.2 A3.out.1 A3.out.2.1 A3.out.2.2.1 A3.out.2.2.2 k4
      have hla := hlast.out
      clear k4
      go_wp2_with (go_at_call 14; refine (num_any _ _).mono ?_; rintro e w5 ⟨rfl, rfl⟩)
      exact HPP.out _ HF.out)
  · have HW : Hid (∀ w', Below w1.heap.size w1 w' → Calls Tryz.prog 54 #[.pointer (some ⟨sb, 0, none⟩), .slice (some ⟨g, 0, none⟩) o.L.length (o.L.length + 8), .bool o.F] w' fun e w'' => e = .returned (.tuple #[.int .i64 0, .int .i64 (flt o.L)]) ∧ Below w'.heap.size w' w'') := fun w' hb =>
      writeBad_any sb o.L _ g o.F w' (own_prefix ((Kp.of_below (B := 0) (ts := []) hb).owns HO1.out (by simp)) rfl (by omega)) hpl HPS.out hf
    have HR : Hid (∀ w', Below w.heap.size w w' → Calls Tryz.prog 55 #[.pointer (some ⟨rb, 0, none⟩), .slice o.aP o.L.length o.cP, .bool o.F] w' fun e w'' => e = .returned (.tuple #[.int .i64 0, .int .i64 (flt o.L)]) ∧ Below w'.heap.size w' w'') := fun w' hb => by
      refine (refWriteT_any (Dc own w'.heap.size (3 * i + 5)) rb y x.la (x.la + x.sy) x.T o.L _ o.F w' ((RefT.below PRE.out.rf hb).mono fun b _ hd => .inl hd) (Dc_open own _ w') (PRE.out.bo.rf (by have := PRE.out.small; omega)) (OK.out.pairs.below hb)).mono ?_
      rintro e w'' (⟨_, h2, h3⟩ | ⟨h2, _⟩)
      · exact ⟨h2, h3⟩
      · exact absurd h2 hf
    have HU : Hid (∀ w', Below w1.heap.size w1 w' → Calls Tryz.prog 56 #[.slice (some ⟨g, 0, none⟩) (o.L.length + 8) (o.L.length + 8), .slice o.aP o.L.length o.cP] w' fun e w'' => e = .returned (.bool true) ∧ Kd (fun k => k = g ∨ w'.heap.size ≤ k) [57] w' w'') := fun w' hb =>
      unspoilt_any o.L _ g g w' (OK.out.pairs.below (B1.out.trans (hb.mono B1.out.size))) ((Kp.of_below (B := 0) (ts := []) hb).owns HO1.out (by simp))
    generalize flt o.L = fv at HW HR
    clear hf
    go_wp2
    go_region_with (go_at_call 54; refine (HW.out _ (by exact (Below.refl _ _).drew)).mono ?_; rintro e w2 ⟨rfl, hb2⟩; have B2 : Hid (Below w1.heap.size w1 w2) := ⟨hb2.os, hb2.tape, hb2.output, hb2.size, hb2.block⟩; have m5 : w2.cell? ⟨w.heap.size, 5, none⟩ = some (.bool o.F) := cell_later B2.out q5; have m6 : w2.cell? ⟨w.heap.size, 6, none⟩ = some (.slice o.aP o.L.length o.cP) := cell_later B2.out q6; clear hb2)
    all_goals (
      go_wp2_with fail
      refine Calls.mono (HR.out _ (B1.out.trans (B2.out.mono B1.out.size))) ?_
      rintro e w3 ⟨rfl, hb3⟩
      have B3 : Hid (Below w1.heap.size w1 w3) := below_trans' B2.out hb3
      have r6 : w3.cell? ⟨w.heap.size, 6, none⟩ = some (.slice o.aP o.L.length o.cP) := cell_later hb3 m6
      clear hb3
      go_wp2_with fail
      refine Calls.mono (HU.out _ B3.out) ?_
      rintro e w4 ⟨rfl, k4⟩
      have HF : Hid (StepPost own i wb sb rb vss vrs t N0 w (.returned (.bool true)) w4) := by
        have hb4 : Below w.heap.size w w3 := B1.out.trans (B3.out.mono B1.out.size)
        refine StepPost.same PRE.out (hb4.trans (k4.belowN hb4.size fun k hk => ?_)) ht
        rcases hk with rfl | hk
        · have := HG.out; omega
        · have := hb4.size; omega
      clear k4
      go_wp2_with (go_at_call 14; refine (num_any _ _).mono ?_; rintro e w5 ⟨rfl, rfl⟩)
      exact HPP.out _ HF.out)
end Go.Proofs.YtakipjofboipmaaGreatDoor

/- The walks of this proof: a step that scans. -/
namespace Go.Proofs.YtakipjofboipmaaGreatDoor
open Go.RowKit Go.Sort

/-- What Scan hands back, whoever is asked. -/
def ScanOut (L : List Pr) (c : Int) (v : Value) (w : World) (e : Ending) (w' : World) : Prop :=
  e = .returned (.tuple #[v, .int .i64 c]) ∧ w'.ownsRow w.heap.size 57 3 v L.length (pcells L) ∧ Below w.heap.size w w'

theorem scan_both {x : St} {f : ByteArray} {most n : Int} {w w1 w2 w3 : World} {e1 e2 : Ending} (h1 : ScanAns x f most n w e1 w1) (h2 : ScanAns x f most n w2 e2 w3) :
    ∃ (L : List Pr) (c : Int) (v1 v2 : Value), ScanOut L c v1 w e1 w1 ∧ ScanOut L c v2 w2 e2 w3 ∧ L.length ≤ x.E.length := by
  unfold ScanAns at h1 h2
  cases hq : seqOf x.S x.last n with
  | none =>
    rw [hq] at h1 h2
    exact ⟨[], 5, _, _, ⟨h1.1, World.ownsRow_nil _ _ _ _, h1.2⟩, ⟨h2.1, World.ownsRow_nil _ _ _ _, h2.2⟩, Nat.zero_le _⟩
  | some q =>
    rw [hq] at h1 h2
    simp only at h1 h2
    by_cases hm : most < 0
    · rw [if_pos hm] at h1 h2
      exact ⟨[], 4, _, _, ⟨h1.1, World.ownsRow_nil _ _ _ _, h1.2⟩, ⟨h2.1, World.ownsRow_nil _ _ _ _, h2.2⟩, Nat.zero_le _⟩
    · rw [if_neg hm] at h1 h2
      obtain ⟨v1, L1, c1, a1, a2, a3, a4, a5, a6⟩ := h1
      obtain ⟨v2, L2, c2, b1, b2, b3, b4, b5, b6⟩ := h2
      have hL := scan_unique a4 b4 a5 a6 b5 b6
      subst hL
      exact ⟨L1, 0, v1, v2, ⟨a1, a2, a3⟩, ⟨b1, b2, b3⟩, by have := a4.len; omega⟩

theorem scan_out {x : St} {f : ByteArray} {most n : Int} {w w1 : World} {e1 : Ending} (h1 : ScanAns x f most n w e1 w1) : ∃ (c : Int) (ao : Option Addr) (l cap : Nat), e1 = .returned (.tuple #[.slice ao l cap, .int .i64 c]) ∧ Below w.heap.size w w1 := by
  obtain ⟨L, c, v, _, ⟨a1, a2, a3⟩, _⟩ := scan_both h1 h1
  obtain ⟨ao, cap, rfl⟩ := slice_form a2
  exact ⟨c, ao, L.length, cap, a1, a3⟩

theorem scan_again {x : St} {f : ByteArray} {most n : Int} {w w1 w2 w3 : World} {v1 : Value} {c : Int} {e2 : Ending} (h1 : ScanAns x f most n w (.returned (.tuple #[v1, .int .i64 c])) w1) (h2 : ScanAns x f most n w2 e2 w3) :
    ∃ (L : List Pr) (v2 : Value), e2 = .returned (.tuple #[v2, .int .i64 c]) ∧ w1.ownsRow w.heap.size 57 3 v1 L.length (pcells L) ∧ w3.ownsRow w2.heap.size 57 3 v2 L.length (pcells L) ∧ Below w2.heap.size w2 w3 ∧ L.length ≤ x.E.length := by
  obtain ⟨L, c', v1', v2, ⟨a1, a2, a3⟩, ⟨b1, b2, b3⟩, hl⟩ := scan_both h1 h2
  simp only [Ending.returned.injEq, Value.tuple.injEq, Array.mk.injEq, List.cons.injEq, Value.int.injEq, true_and, and_true] at a1
  obtain ⟨rfl, rfl⟩ := a1
  exact ⟨L, v2, b1, a2, b2, b3, hl⟩

theorem scans_fin {own : Nat → Nat} {i wb sb rb : Nat} {vss vrs : Value} {x : St} {y : Rf} {b : Bk} {q : BkQ} {t N0 len : Nat} {w wA w3 w4 : World}
    (pre : Pre own i wb sb rb vss vrs x y b t N0 w) (ht : t + 1 ≤ 1099511627776) (bA : Below w.heap.size w wA) (b3 : Below wA.heap.size wA w3) (hlen : len ≤ 4399999999990) (hbe : BkE (Dm own 2) q.es q.em b.Pe w) (hbt : BkT (Dm own 3) q.ts q.tm b.Pt w)
    (hbk : BkAt (Dc (cut own w.heap.size) w3.heap.size 1) wb vss vrs q (b.P ++ newP (-(b.n + 1)) len 4) (b.n + 1) w4) (kx : Kx (PairsX (Dc (cut own w.heap.size) w3.heap.size 1) wA.heap.size) w3 w4) : StepPost own i wb sb rb vss vrs t N0 w (.returned (.bool true)) w4 := by
  have sA := bA.size
  have s3 := b3.size
  obtain ⟨own', how⟩ : ∃ own' : Nat → Nat, own' = fun k => if k < w.heap.size then own k else if k < w3.heap.size then 0 else 1 := ⟨_, rfl⟩
  have agree : ∀ k, k < w.heap.size → own' k = own k := fun k hk => by rw [how]; simp [hk]
  have XS : Kx (fun k e => w.heap.size ≤ k ∨ (own k = 1 ∧ e ∈ [36, 38, 3])) w w4 := by
    refine ((Kx.of_below bA).trans (Kx.of_below b3)).trans (kx.mono fun k e hk h => ?_)
    rcases h with ⟨hd, he⟩ | h
    · rcases hd with hd | hd
      · by_cases hkN : k < w.heap.size
        · rw [cut_lt hkN] at hd; exact .inr ⟨hd, he⟩
        · rw [cut_ge (by omega)] at hd; omega
      · exact .inl (by omega)
    · exact .inl (by omega)
  have SX : Kx (StepX own i w.heap.size) w w4 := XS.mono fun k e _ h => by
    rcases h with h | h
    · exact .inl h
    · exact .inr ⟨fun e7 => by have := h.2; rw [e7] at this; simp at this, .inr (.inr (.inl h))⟩
  have hlow : ∀ k, own' k ≠ 0 → N0 ≤ k := fun k hk => by
    by_cases hkN : k < w.heap.size
    · rw [agree k hkN] at hk; exact pre.low k hk
    · have := pre.lowN; omega
  have B4 : Below N0 w w4 := SX.below pre.lowN (StepX.low pre.low pre.lowN)
  have hn0 := pre.bb.n0
  have hn1 := pre.bb.n1
  have hpl := pre.bb.pl
  have hpel := pre.bb.pel
  have hptl := pre.bb.ptl
  have hout : ∀ id, id ≠ 1 → ∀ c e, c < w.heap.size → Dm own id c → ¬ (w.heap.size ≤ c ∨ (own c = 1 ∧ e ∈ [36, 38, 3])) := fun id hid c e hc hd hx => by
    unfold Dm at hd
    rcases hx with hx | ⟨hx, _⟩ <;> omega
  have hin : ∀ id c, c < w.heap.size → Dm own id c → Dm own' id c := fun id c hc hd => by show own' c = id; rw [agree c hc]; exact hd
  have hin4 : ∀ id c, c < w.heap.size → Dm own' id c → Dm own id c := fun id c hc hd => by show own c = id; rw [← agree c hc]; exact hd
  refine ⟨rfl, SX, own', x, y, ⟨b.P ++ newP (-(b.n + 1)) len 4, b.Pe, b.Pt, b.n + 1⟩, agree, ⟨?_, ?_, ⟨q, ?_, ?_, ?_⟩, pre.bo.later, ⟨by show 0 ≤ b.n + 1; omega, by show b.n + 1 ≤ _; omega, by simp [newP]; omega, by show b.Pe.length ≤ _; omega, by show b.Pt.length ≤ _; omega, ?_, pre.bb.peb, pre.bb.ptb⟩, hlow, Nat.le_trans pre.lowN B4.size, fun w' h' => pre.tab w' (B4.trans h'), ht⟩⟩
  · refine (pre.st.mono (hin _) (hin _)).kx XS (fun c e hc hd => hout (3 * i + 4) (by omega) c e hc (hin4 _ c hc hd)) (fun c e hc hd => hout (3 * i + 6) (by omega) c e hc (hin4 _ c hc hd))
  · exact (RefT.mono pre.rf (hin _)).kx XS fun c e hc hd => hout (3 * i + 5) (by omega) c e hc (hin4 _ c hc hd)
  · refine hbk.mono fun c hc hd => ?_
    show own' c = 1
    rw [how]
    rcases hd with hd | hd
    · by_cases hcN : c < w.heap.size
      · rw [cut_lt hcN] at hd; simp only [hcN, if_true]; exact hd
      · rw [cut_ge (by omega)] at hd; omega
    · simp only
      rw [if_neg (by omega), if_neg (by omega)]
  · exact (hbe.mono (hin _)).kx XS fun c e hc hd => hout 2 (by omega) c e hc (hin4 _ c hc hd)
  · exact (hbt.mono (hin _)).kx XS fun c e hc hd => hout 3 (by omega) c e hc (hin4 _ c hc hd)
  · intro p hp
    show -(b.n + 1) ≤ p.1 ∧ _
    rcases List.mem_append.1 hp with hp | hp
    · have := pre.bb.pb p hp; omega
    · obtain ⟨j, hj, rfl⟩ := List.mem_map.1 hp
      have hj4 : j < 4 := List.mem_range.1 hj
      simp only
      omega

set_option maxHeartbeats 4000000 in
set_option maxRecDepth 100000 in
theorem scans_any (own : Nat → Nat) (i wb sb rb : Nat) (vss vrs : Value) (x : St) (y : Rf) (b : Bk) (t N0 : Nat) (o : OpD) (w : World) (pre : Pre own i wb sb rb vss vrs x y b t N0 w) (ht : t + 1 ≤ 1099511627776) :
    Calls Tryz.prog 25 #[.pointer (some ⟨wb, 0, none⟩), .pointer (some ⟨sb, 0, none⟩), .pointer (some ⟨rb, 0, none⟩), o.val] w fun e w' => StepPost own i wb sb rb vss vrs t N0 w e w' := by
  obtain ⟨wA, hwA⟩ : ∃ wA, w.alloc (.cells o.cells 41) = wA := ⟨_, rfl⟩
  have HWA : Hid (w.alloc (.cells o.cells 41) = wA) := hwA
  have BA : Hid (Below w.heap.size w wA) := by rw [← hwA]; exact (Below.refl _ _).alloc (Nat.le_refl _) _
  have OA : Hid (wA.heap[w.heap.size]? = some (.cells o.cells 41 (0, 0))) := by rw [← hwA]; exact heap_alloc_new w _
  have PRE : Hid _ := pre
  have hsm := pre.small
  have HS : Hid (Calls Tryz.prog 62 #[.pointer (some ⟨sb, 0, none⟩), .string o.S, .int .i64 o.A, .int .i64 o.B] wA fun e w' => ScanAns x o.S o.A o.B wA e w') := scan_any x (Dm own (3 * i + 4)) (Dm own (3 * i + 6)) sb o.S o.A o.B wA (pre.st.below BA.out) pre.bo.ok
  have HR : Hid (∀ w1, Below wA.heap.size wA w1 → Calls Tryz.prog 63 #[.pointer (some ⟨rb, 0, none⟩), .string o.S, .int .i64 o.A, .int .i64 o.B] w1 fun e w' => ScanAns x o.S o.A o.B w1 e w') := fun w1 hb => refScan_any (Dm own (3 * i + 5)) rb x y o.S o.A o.B w1 (RefT.ref (RefT.below (RefT.below pre.rf BA.out) hb)) (pre.bo.rf (by omega)) pre.bo.sm pre.bo.ok
  have HPA : Hid (∀ (L : List Pr) (vl : Value) (w3 : World), Below wA.heap.size wA w3 → w3.ownsRow wA.heap.size 57 3 vl L.length (pcells L) → L.length ≤ x.E.length → Calls Tryz.prog 65 #[.pointer (some ⟨wb, 2, none⟩), vl] w3 fun e w4 => e = .returned (.tuple #[]) ∧ StepPost own i wb sb rb vss vrs t N0 w (.returned (.bool true)) w4) := fun L vl w3 b3 ho hL => by
    have hlowN := pre.lowN
    have sA := BA.out.size
    have s3 := b3.size
    have hEl := pre.bo.few (by omega)
    have hE2 := pre.bo.len
    have hE3 := pre.bo.lastle
    have hpl := pre.bb.pl
    have hn1 := pre.bb.n1
    obtain ⟨q, hbk0, hbe, hbt⟩ := pre.bk
    have hbk : BkAt (Dc (cut own w.heap.size) w3.heap.size 1) wb vss vrs q b.P b.n wA := (hbk0.mono (D' := Dc (cut own w.heap.size) w3.heap.size 1) fun c hc hd => .inl ((cut_lt hc).trans hd)).kx (Kx.of_below (X := fun _ _ => False) BA.out) (fun _ _ _ _ h => h) (fun _ _ h => h)
    refine (pairs_any (Dc (cut own w.heap.size) w3.heap.size 1) wb vss vrs q b.P b.n L vl N0 wA w3 hbk b3 (Dc_open _ _ _) ho (pre.lowD (by omega) (by omega)) (by omega) (fun w' h' => pre.tab w' ((BA.out.mono hlowN).trans ((b3.mono (by omega)).trans h'))) pre.bb.n0 (by omega) (by omega) (by omega)).mono ?_
    rintro e w4 ⟨h1, h2, h3⟩
    exact ⟨h1, scans_fin pre ht BA.out b3 (by omega) hbe hbt h2 h3⟩
  have hwbl : Hid True := trivial
  generalize hpost : (fun (e : Ending) (w' : World) => StepPost own i wb sb rb vss vrs t N0 w e w') = PP
  have HPP : Hid (∀ w', StepPost own i wb sb rb vss vrs t N0 w (.returned (.bool true)) w' → PP (.returned (.bool true)) w') := fun w' h => by rw [← hpost]; exact h
  have HEl : Hid (x.E.length < 4399999999990) := pre.bo.few (by omega)
  clear pre hpost hwA
  unfold OpD.val
  unfold OpD.cells at HWA OA ⊢
  go_enter Tryz.func25, Tryz.ntmps25
  go_wp2_with fail
  rw [HWA.out]
  refine Calls.mono HS.out ?_
  intro e1 w1 hs1
  obtain ⟨c, ao1, l1, cap1, rfl, hb1⟩ := scan_out hs1
  have HS1 : Hid (ScanAns x o.S o.A o.B wA (.returned (.tuple #[.slice ao1 l1 cap1, .int .i64 c])) w1) := hs1
  have B1 : Hid (Below wA.heap.size wA w1) := hb1
  have ob1 := (hb1.block _ (lt_of_block OA.out)).trans OA.out
  have q1 : w1.cell? ⟨w.heap.size, 1, none⟩ = some (.int .i64 o.A) := by simp [World.cell?, ob1]
  have q2 : w1.cell? ⟨w.heap.size, 2, none⟩ = some (.int .i64 o.B) := by simp [World.cell?, ob1]
  have q4 : w1.cell? ⟨w.heap.size, 4, none⟩ = some (.string o.S) := by simp [World.cell?, ob1]
  clear hs1 hb1 ob1 HS
  go_wp2_with fail
  refine Calls.mono (HR.out _ B1.out) ?_
  intro e2 w2 hs2
  obtain ⟨L, v2, rfl, ho1, ho2, hb2, hll⟩ := scan_again HS1.out hs2
  obtain ⟨ao2, cap2, rfl⟩ := slice_form ho2
  have B2 : Hid (Below wA.heap.size wA w2) := below_trans' B1.out hb2
  have R1 : Hid (w2.ownsRow wA.heap.size 57 3 (.slice ao1 l1 cap1) L.length (pcells L) ∧ L.length ≤ x.E.length) := ⟨(Kp.of_below (B := 0) (ts := []) hb2).owns ho1 (by simp), hll⟩
  have R2 : Hid (w2.ownsRow w1.heap.size 57 3 (.slice ao2 L.length cap2) L.length (pcells L)) := ho2
  clear hs2 ho1 ho2 hb2 hll q1 q2 q4
  have hL9 : L.length < 4500000000000 := by have h1 := R1.out.2; have h2 := HEl.out; omega
  go_wp2_with fail
  refine (samePairs_any L _ _ wA.heap.size w1.heap.size w2 R1.out.1 R2.out hL9).mono ?_
  rintro e w3 ⟨rfl, hb3⟩
  have B3 : Hid (Below wA.heap.size wA w3) := below_trans' B2.out hb3
  have R3 : Hid (w3.ownsRow wA.heap.size 57 3 (.slice ao1 l1 cap1) L.length (pcells L)) := (Kp.of_below (B := 0) (ts := []) hb3).owns R1.out.1 (by simp)
  clear hb3
  go_wp2_with fail
  refine (HPA.out L _ w3 B3.out R3.out R1.out.2).mono ?_
  rintro e w4 ⟨rfl, hpo⟩
  have HF : Hid (StepPost own i wb sb rb vss vrs t N0 w (.returned (.bool true)) w4) := hpo
  clear hpo
  go_wp2_with (go_at_call 14; refine (num_any _ _).mono ?_; rintro e w5 ⟨rfl, rfl⟩)
  exact HPP.out _ HF.out
end Go.Proofs.YtakipjofboipmaaGreatDoor

/- The walks of this proof: the calls of stage 1. -/
namespace Go.Proofs.YtakipjofboipmaaGreatDoor
open Go.RowKit Go.Sort

theorem get_same {t : Nat} {x : St} {y : Rf} (h : Both t x y) (ht : t ≤ 1099511627776) (k : ByteArray) (n : Int) : getVal x k n = rgetVal y k n := by
  unfold getVal rgetVal
  rw [h.sm.snaps, h.sm.last]
  by_cases hk : 1 ≤ k.size ∧ k.size ≤ 6
  · rw [if_pos hk, if_pos hk]
    cases hq : seqOf y.S y.A.length n with
    | none => rfl
    | some q =>
      obtain ⟨h0, h1⟩ := seqOf_le (h.rf ht) hq
      obtain ⟨m, rfl⟩ : ∃ m : Nat, q = m := ⟨q.toNat, by omega⟩
      rw [Int.toNat_natCast] at h1
      simp only [Int.toNat_natCast]
      rw [sk_vk h.ok.sorted h.sm.rel k m h1]
      cases vk y.A k m <;> rfl
  · rw [if_neg hk, if_neg hk]

theorem getVal_form (x : St) (k : ByteArray) (n : Int) : ∃ (s : ByteArray) (c : Int), getVal x k n = .tuple #[.string s, .int .i64 c] := by
  unfold getVal
  split
  · split
    · exact ⟨_, _, rfl⟩
    · split <;> exact ⟨_, _, rfl⟩
  · exact ⟨_, _, rfl⟩

/-- Both stores have turned. -/
theorem two_snap {own : Nat → Nat} {i wb sb rb : Nat} {vss vrs : Value} {x x' : St} {y y' : Rf} {b : Bk} {t N0 : Nat} {w w1 w2 w3 : World} {ts2 ts3 : List Nat}
    (pre : Pre own i wb sb rb vss vrs x y b t N0 w) (ht : t + 1 ≤ 1099511627776) (hb1 : Below w.heap.size w w1)
    (hst : StoreAt (Dc (cut own w.heap.size) w1.heap.size (3 * i + 4)) (Dm (cut own w.heap.size) (3 * i + 6)) sb x' w2) (k2 : Kd (Dc (cut own w.heap.size) w1.heap.size (3 * i + 4)) ts2 w1 w2) (ht2 : 57 ∉ ts2)
    (hrf : RfT (Dc (cut own w.heap.size) w2.heap.size (3 * i + 5)) rb y' x' w3) (k3 : Kd (Dc (cut own w.heap.size) w2.heap.size (3 * i + 5)) ts3 w2 w3) (ht3 : 57 ∉ ts3) (hbo : Both (t + 1) x' y') : StepPost own i wb sb rb vss vrs t N0 w (.returned (.bool true)) w3 :=
  two_fin pre hb1 (StPost.of hst k2 (Dc_open _ _ _) (Pre.dis hb1.size)) ht2 hrf k3 ht3 (Kd.refl (fun _ => False) _ _) (fun _ _ h => h.elim) hbo ht

set_option maxHeartbeats 4000000 in
set_option maxRecDepth 100000 in
theorem keys_any (own : Nat → Nat) (i wb sb rb : Nat) (vss vrs : Value) (x : St) (y : Rf) (b : Bk) (t N0 : Nat) (o : OpD) (w : World) (pre : Pre own i wb sb rb vss vrs x y b t N0 w) (ok : OpOk o N0 w) (ht : t + 1 ≤ 1099511627776) (hK : 2 ≤ o.K ∧ o.K ≤ 6) :
    Calls Tryz.prog 16 #[.pointer (some ⟨wb, 0, none⟩), .pointer (some ⟨sb, 0, none⟩), .pointer (some ⟨rb, 0, none⟩), o.val] w fun e w' => StepPost own i wb sb rb vss vrs t N0 w e w' := by
  obtain ⟨wA, hwA⟩ : ∃ wA, w.alloc (.cells o.cells 41) = wA := ⟨_, rfl⟩
  have HWA : Hid (w.alloc (.cells o.cells 41) = wA) := hwA
  have BA : Hid (Below w.heap.size w wA) := by rw [← hwA]; exact (Below.refl _ _).alloc (Nat.le_refl _) _
  have OA : Hid (wA.heap[w.heap.size]? = some (.cells o.cells 41 (0, 0))) := by rw [← hwA]; exact heap_alloc_new w _
  have PRE : Hid _ := pre
  have hsm := pre.small
  have hstr := ok.str
  have PREA := pre.below BA.out
  have OKA : OpOk o N0 wA := ok.on (BA.out.mono pre.lowN)
  have HW : Hid (Calls Tryz.prog 22 #[.pointer (some ⟨wb, 0, none⟩), .pointer (some ⟨sb, 0, none⟩), .pointer (some ⟨rb, 0, none⟩), o.val] wA fun e w' => StepPost own i wb sb rb vss vrs t N0 w e w') := (writes_any own i wb sb rb vss vrs x y b t N0 o wA PREA OKA ht).mono fun e w' h => StepPost.of_below BA.out h
  have HS : Hid (Calls Tryz.prog 25 #[.pointer (some ⟨wb, 0, none⟩), .pointer (some ⟨sb, 0, none⟩), .pointer (some ⟨rb, 0, none⟩), o.val] wA fun e w' => StepPost own i wb sb rb vss vrs t N0 w e w') := (scans_any own i wb sb rb vss vrs x y b t N0 o wA PREA ht).mono fun e w' h => StepPost.of_below BA.out h
  generalize hpost : (fun (e : Ending) (w' : World) => StepPost own i wb sb rb vss vrs t N0 w e w') = PP
  have HPP : Hid (∀ w', StepPost own i wb sb rb vss vrs t N0 w (.returned (.bool true)) w' → PP (.returned (.bool true)) w') := fun w' h => by rw [← hpost]; exact h
  clear pre ok hpost hwA OKA PREA
  unfold OpD.val at HW HS ⊢
  unfold OpD.cells at HW HS HWA OA ⊢
  obtain ⟨K, hKe⟩ : ∃ K, o.K = K := ⟨_, rfl⟩
  have hc : K = 2 ∨ K = 3 ∨ K = 4 ∨ K = 5 ∨ K = 6 := by omega
  rw [hKe] at HW HS HWA OA ⊢
  clear hK hKe
  rcases hc with rfl | rfl | rfl | rfl | rfl
  · go_enter Tryz.func16, Tryz.ntmps16
    go_wp2_with fail
    rw [HWA.out]
    refine Calls.mono HW.out ?_
    intro e w1 h1
    obtain ⟨rfl, h2⟩ := id h1
    have HF : Hid (StepPost own i wb sb rb vss vrs t N0 w (.returned (.bool true)) w1) := h1
    clear h1 h2
    go_wp2
    exact HPP.out _ HF.out
  · obtain ⟨gs, gc, hgv⟩ := getVal_form x o.S o.A
    have H1 : Hid (Calls Tryz.prog 23 #[.pointer (some ⟨sb, 0, none⟩), .string o.S, .int .i64 o.A] wA fun e w' => e = .returned (.tuple #[.string gs, .int .i64 gc]) ∧ Below wA.heap.size wA w') := by
      rw [← hgv]
      exact get_any x (Dm own (3 * i + 4)) (Dm own (3 * i + 6)) sb o.S o.A wA (PRE.out.st.below BA.out) PRE.out.bo.ok (by unfold maxLen; omega)
    have H2 : Hid (∀ w1, Below w.heap.size w w1 → Calls Tryz.prog 24 #[.pointer (some ⟨rb, 0, none⟩), .string o.S, .int .i64 o.A] w1 fun e w' => e = .returned (.tuple #[.string gs, .int .i64 gc]) ∧ Below w1.heap.size w1 w') := fun w1 hb => by
      rw [← hgv, get_same PRE.out.bo (by omega)]
      exact refGet_any (Dm own (3 * i + 5)) rb y o.S o.A w1 (RefT.ref (RefT.below PRE.out.rf hb)) (PRE.out.bo.rf (by omega)) (by unfold maxLen; omega)
    clear hgv HW HS
    go_enter Tryz.func16, Tryz.ntmps16
    go_wp2_with fail
    rw [HWA.out]
    refine Calls.mono H1.out ?_
    rintro e w1 ⟨rfl, hb1⟩
    have B1 : Hid (Below w.heap.size w w1) := BA.out.trans (hb1.mono BA.out.size)
    have ob1 := (hb1.block _ (lt_of_block OA.out)).trans OA.out
    have q1 : w1.cell? ⟨w.heap.size, 1, none⟩ = some (.int .i64 o.A) := by simp [World.cell?, ob1]
    have q4 : w1.cell? ⟨w.heap.size, 4, none⟩ = some (.string o.S) := by simp [World.cell?, ob1]
    clear hb1 ob1
    go_wp2_with fail
    refine Calls.mono (H2.out _ B1.out) ?_
    rintro e w2 ⟨rfl, hb2⟩
    have HF : Hid (StepPost own i wb sb rb vss vrs t N0 w (.returned (.bool true)) w2) := StepPost.same PRE.out (below_trans' B1.out hb2) ht
    clear hb2
    go_wp2_with (go_at_call 14; refine (num_any _ _).mono ?_; rintro e w5 ⟨rfl, rfl⟩)
    exact HPP.out _ HF.out
  · go_enter Tryz.func16, Tryz.ntmps16
    go_wp2_with fail
    rw [HWA.out]
    refine Calls.mono HS.out ?_
    intro e w1 h1
    obtain ⟨rfl, h2⟩ := id h1
    have HF : Hid (StepPost own i wb sb rb vss vrs t N0 w (.returned (.bool true)) w1) := h1
    clear h1 h2
    go_wp2
    exact HPP.out _ HF.out
  · clear HW HS
    have hsl : x.S.length = y.S.length := by rw [PRE.out.bo.sm.snaps]
    have hnm : x.lastSnap = y.num := PRE.out.bo.sm.num
    have hn0 := PRE.out.bo.num0
    have hn1 := PRE.out.bo.numle
    have H1 : Hid _ := snap_any x (Dc (cut own w.heap.size) wA.heap.size (3 * i + 4)) (Dm (cut own w.heap.size) (3 * i + 6)) sb wA (PRE.out.store BA.out) PRE.out.bo.ok (Dc_open _ _ _) (by omega) (by omega)
    have H2 : Hid (∀ w1, Kd (Dc (cut own w.heap.size) wA.heap.size (3 * i + 4)) [82, 205] wA w1 → Calls Tryz.prog 27 #[.pointer (some ⟨rb, 0, none⟩)] w1 fun e w' =>
        (y.S.length = 4 ∧ e = .returned (.tuple #[.int .i64 0, .int .i64 7]) ∧ w' = w1) ∨
        (y.S.length < 4 ∧ e = .returned (.tuple #[.int .i64 (y.num + 1), .int .i64 0]) ∧ RefT (Dc (cut own w.heap.size) w1.heap.size (3 * i + 5)) rb { y with S := y.S ++ [⟨y.num + 1, y.A.length⟩], num := y.num + 1 } x.la (x.la + x.sy) x.T w' ∧ Kd (Dc (cut own w.heap.size) w1.heap.size (3 * i + 5)) [85, 138] w1 w')) := fun w1 k2 =>
      refSnapT_any (Dc (cut own w.heap.size) w1.heap.size (3 * i + 5)) rb y x.la (x.la + x.sy) x.T w1 (PRE.out.ref BA.out k2) (Dc_open _ _ _) (PRE.out.bo.rf (by omega)) (by omega) (by omega)
    rw [hsl, hnm] at H1
    have HXN : Hid (x.lastSnap = y.num ∧ x.S.length = y.S.length) := ⟨hnm, hsl⟩
    clear hsl hnm hn0 hn1
    by_cases h4 : y.S.length = 4
    · go_enter Tryz.func16, Tryz.ntmps16
      go_wp2_with fail
      rw [HWA.out]
      refine Calls.mono H1.out ?_
      rintro e w1 (⟨_, rfl, rfl⟩ | ⟨h5, _⟩)
      · go_wp2_with fail
        refine Calls.mono (H2.out _ (Kd.refl _ _ _)) ?_
        rintro e w2 (⟨_, rfl, rfl⟩ | ⟨h5, _⟩)
        · have HF : Hid (StepPost own i wb sb rb vss vrs t N0 w (.returned (.bool true)) w2) := StepPost.same PRE.out BA.out ht
          go_wp2_with (go_at_call 14; refine (num_any _ _).mono ?_; rintro e w5 ⟨rfl, rfl⟩)
          exact HPP.out _ HF.out
        · omega
      · omega
    · go_enter Tryz.func16, Tryz.ntmps16
      go_wp2_with fail
      rw [HWA.out]
      refine Calls.mono H1.out ?_
      rintro e w1 (⟨h5, _⟩ | ⟨h5, rfl, hst, k2⟩)
      · omega
      · have A1 : Hid (StoreAt (Dc (cut own w.heap.size) wA.heap.size (3 * i + 4)) (Dm (cut own w.heap.size) (3 * i + 6)) sb { x with S := x.S ++ [⟨y.num + 1, x.last⟩], lastSnap := y.num + 1 } w1 ∧ Kd (Dc (cut own w.heap.size) wA.heap.size (3 * i + 4)) [82, 205] wA w1) := ⟨hst, k2⟩
        clear hst k2
        go_wp2_with fail
        refine Calls.mono (H2.out _ A1.out.2) ?_
        rintro e w2 (⟨h6, _⟩ | ⟨_, rfl, hrf, k3⟩)
        · omega
        · have HF : Hid (StepPost own i wb sb rb vss vrs t N0 w (.returned (.bool true)) w2) := by
            refine two_snap PRE.out ht BA.out A1.out.1 A1.out.2 (by simp) hrf k3 (by simp) ?_
            have := PRE.out.bo.snapped h5
            rw [HXN.out.1] at this
            exact this
          clear hrf k3
          go_wp2_with (go_at_call 14; refine (num_any _ _).mono ?_; rintro e w5 ⟨rfl, rfl⟩)
          exact HPP.out _ HF.out
  · clear HW HS
    have H1 : Hid _ := drop_any x (Dc (cut own w.heap.size) wA.heap.size (3 * i + 4)) (Dm (cut own w.heap.size) (3 * i + 6)) sb o.A wA (PRE.out.store BA.out) PRE.out.bo.ok
    have H2 : Hid (∀ w1, Kd (Dc (cut own w.heap.size) wA.heap.size (3 * i + 4)) [82, 205] wA w1 → Calls Tryz.prog 29 #[.pointer (some ⟨rb, 0, none⟩), .int .i64 o.A] w1 fun e w' =>
        ((y.S.filter (notN o.A)).length = y.S.length ∧ e = .returned (.int .i64 5) ∧ Below w1.heap.size w1 w') ∨
        ((y.S.filter (notN o.A)).length ≠ y.S.length ∧ e = .returned (.int .i64 0) ∧ RefT (Dc (cut own w.heap.size) w1.heap.size (3 * i + 5)) rb { y with S := y.S.filter (notN o.A) } x.la (x.la + x.sy) x.T w' ∧ Kd (Dc (cut own w.heap.size) w1.heap.size (3 * i + 5)) [85] w1 w')) := fun w1 k2 =>
      refDropT_any (Dc (cut own w.heap.size) w1.heap.size (3 * i + 5)) rb y x.la (x.la + x.sy) x.T o.A w1 (PRE.out.ref BA.out k2) (Dc_open _ _ _) (PRE.out.bo.rf (by omega))
    have HQ : Hid (∀ w1, Kd (Dc (cut own w.heap.size) wA.heap.size (3 * i + 4)) [82, 205] wA w1 → w1.cell? ⟨w.heap.size, 1, none⟩ = some (.int .i64 o.A)) := fun w1 k2 => by
      have ob1 := k2.keep OA.out (by simp)
      simp [World.cell?, ob1]
    have HSN : Hid (x.S = y.S ∧ y.S.Pairwise fun a b => a.n ≠ b.n) := ⟨PRE.out.bo.sm.snaps, PRE.out.bo.dis⟩
    go_enter Tryz.func16, Tryz.ntmps16
    go_wp2_with fail
    rw [HWA.out]
    refine Calls.mono H1.out ?_
    rintro e w1 (⟨hno, rfl, hb1⟩ | ⟨i', hso, rfl, hst, k2⟩)
    · have B1 : Hid (Below wA.heap.size wA w1) := hb1
      have q1 := HQ.out w1 (Kd.of_below hb1)
      have hl0 : Hid ((y.S.filter (notN o.A)).length = y.S.length) := by rw [HSN.out.1] at hno; exact drop_none hno
      clear hno hb1
      go_wp2_with fail
      refine Calls.mono (H2.out _ (Kd.of_below B1.out)) ?_
      rintro e w2 (⟨_, rfl, hb2⟩ | ⟨h6, _⟩)
      · have HF : Hid (StepPost own i wb sb rb vss vrs t N0 w (.returned (.bool true)) w2) := StepPost.same PRE.out (below_trans' (BA.out.trans (B1.out.mono BA.out.size)) hb2) ht
        clear hb2
        go_wp2_with (go_at_call 14; refine (num_any _ _).mono ?_; rintro e w5 ⟨rfl, rfl⟩)
        exact HPP.out _ HF.out
      · exact absurd hl0.out h6
    · have A1 : Hid (StoreAt (Dc (cut own w.heap.size) wA.heap.size (3 * i + 4)) (Dm (cut own w.heap.size) (3 * i + 6)) sb { x with S := x.S.eraseIdx i' } w1 ∧ Kd (Dc (cut own w.heap.size) wA.heap.size (3 * i + 4)) [82, 205] wA w1) := ⟨hst, k2⟩
      have q1 := HQ.out w1 k2
      have hl0 : Hid ((y.S.filter (notN o.A)).length ≠ y.S.length ∧ sidx x.S o.A = some i') := by
        refine ⟨?_, hso⟩
        rw [HSN.out.1] at hso
        exact (drop_same HSN.out.2 hso).2
      clear hso hst k2
      go_wp2_with fail
      refine Calls.mono (H2.out _ A1.out.2) ?_
      rintro e w2 (⟨h6, _⟩ | ⟨_, rfl, hrf, k3⟩)
      · exact absurd h6 hl0.out.1
      · have HF : Hid (StepPost own i wb sb rb vss vrs t N0 w (.returned (.bool true)) w2) := two_snap PRE.out ht BA.out A1.out.1 A1.out.2 (by simp) hrf k3 (by simp) (PRE.out.bo.dropped hl0.out.2)
        clear hrf k3
        go_wp2_with (go_at_call 14; refine (num_any _ _).mono ?_; rintro e w5 ⟨rfl, rfl⟩)
        exact HPP.out _ HF.out
end Go.Proofs.YtakipjofboipmaaGreatDoor
