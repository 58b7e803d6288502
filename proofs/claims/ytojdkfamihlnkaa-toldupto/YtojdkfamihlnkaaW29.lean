/- The walks of this proof: a snapshot is taken. -/
import Derived.Test.YtojdkfamihlnkaaW28
import Derived.Deep.RegionLawGrows
namespace Go.Proofs.Ytojdkfamihlnkaa
open Go.RowKit Go.Sort

theorem Try.info69 : (Try.prog.info? 69).map (fun i => (i.zero, i.size, i.bytes)) = some (some (.agg #[.int .i64 0, .int .i64 0]), 2, 16) := by kernel_rfl

theorem Sound.snap {x : St} {A : List (List Pr)} {t : Nat} (h : Sound x A t) (h4 : x.S.length < 4) :
    Sound { x with S := x.S ++ [⟨x.lastSnap + 1, x.last⟩], lastSnap := x.lastSnap + 1 } A (t + 1) := by
  have hlast := h.sh.last
  have b1 := h.b1
  have b2 := h.b2
  have b3 := h.b3
  have b4 := h.b4
  have l0 := h.ls0
  refine ⟨⟨⟨h.sh.st.sorted, h.sh.st.few, h.sh.st.seqs, h.sh.st.keys, by simp; omega⟩, hlast, h.sh.rel, h.sh.ok, h.sh.few⟩, ?_, ?_, by simp only; omega, by omega, by simp only; omega, by simp only; omega, by simp only; omega⟩
  · rw [List.pairwise_append]
    refine ⟨h.snp, by simp, fun a ha b hb => ?_⟩
    obtain rfl := List.mem_singleton.1 hb
    have := h.snr a ha
    simp only
    omega
  · intro s hs
    rcases List.mem_append.1 hs with h1 | h1
    · have := h.snr s h1
      simp only
      omega
    · obtain rfl := List.mem_singleton.1 h1
      simp only
      omega

theorem Sound.drop {x : St} {A : List (List Pr)} {t : Nat} (h : Sound x A t) (i : Nat) : Sound { x with S := x.S.eraseIdx i } A t := by
  have hsub := List.eraseIdx_sublist x.S i
  exact ⟨⟨⟨h.sh.st.sorted, h.sh.st.few, h.sh.st.seqs, h.sh.st.keys, Nat.le_trans hsub.length_le h.sh.st.snaps⟩, h.sh.last, h.sh.rel, h.sh.ok, h.sh.few⟩, h.snp.sublist hsub, fun s hs => h.snr s (hsub.subset hs), h.ls0, h.b1, h.b2, h.b3, h.b4⟩

theorem two_cells (w : World) (s : Sn) (N : Nat) (hN : N = w.heap.size) : ∀ j u, (Sn.cells s)[j]? = some u → (w.alloc (.cells #[.int .i64 s.n, .int .i64 s.q] 69)).cell? ((⟨N, 0, none⟩ : Addr).add j) = some u := by
  subst hN
  intro j u hj
  match j, hj with
  | 0, hj => simp [Sn.cells] at hj; subst hj; simp [Addr.add]
  | 1, hj => simp [Sn.cells] at hj; subst hj; simp [Addr.add]
  | j + 2, hj => simp [Sn.cells] at hj

theorem snaps69_snoc {w : World} {B : Nat} {v : Value} {S : List Sn} {s : Sn} (h : w.ownsRow B 69 2 v (S.length + 1) (scells S ++ Sn.cells s)) : w.ownsRow B 69 2 v (S ++ [s]).length (scells (S ++ [s])) := by
  have e : scells (S ++ [s]) = scells S ++ Sn.cells s := by simp [scells]
  rw [e, List.length_append]
  exact h

/-- The shop's list of snapshots is set. -/
theorem put2 {B hb : Nat} {x : St} {A : List (List Pr)} {w : World} {sb : Nat} {vA vS : Value} {su la : Int} {o0 o1 : Bool} (v : Value) (hB : B ≤ hb) (hs : w.heap[hb]? = some (.cells #[.pointer (some ⟨sb, 0, none⟩), vA, vS, .int .i64 su, .int .i64 la, .bool o0, .bool o1] 36 (0, 0)))
    (hst : StoreAt B sb x w) (hall : AllAt B w vA A) (hn : w.ownsRow B 69 2 v x.S.length (scells x.S)) : ShopAt B hb x A (w.setCell ⟨hb, 2, none⟩ v) := by
  have k := Kp.field hB hs 2 v
  have h := heap_setCell_same w hb 2 _ 36 v hs
  simp only [List.setIfInBounds_toArray, List.set_cons_succ, List.set_cons_zero] at h
  exact ⟨sb, vA, v, su, la, o0, o1, hB, h, hst.kept k (by simp) (by simp) (by simp) (by simp), hall.kept k (by simp) (by simp), k.owns hn (by simp)⟩

set_option maxHeartbeats 2000000 in
set_option maxRecDepth 100000 in
theorem snapped4_any (B hb : Nat) (x : St) (A : List (List Pr)) (a : Int) (ao : Option Addr) (nl cl : Nat) (f : Bool) (t : Nat) (w : World) (hx : ShopAt B hb x A w) (ok : Sound x A t) (ht : t < 2000000) (hBw : B ≤ w.heap.size) :
    Calls Try.prog 23 #[.pointer (some ⟨hb, 0, none⟩), .agg #[.int .i64 4, .int .i64 a, .slice ao nl cl, .bool f]] w fun e w' => StepPost B hb t w e w' := by
  obtain ⟨i0, hi, hz0, hz1, hz2⟩ := info_parts Try.info69
  obtain ⟨W, hW⟩ : ∃ W, w.alloc (.cells #[.int .i64 4, .int .i64 a, .slice ao nl cl, .bool f] 28) = W := ⟨_, rfl⟩
  have hbW : Below w.heap.size w W := by rw [← hW]; exact (Below.refl _ _).alloc (Nat.le_refl _) _
  have hxW := hx.below hbW
  obtain ⟨sb, vA, vS, su, la, o0, o1, hB, hs, hst, hall, hsn⟩ := id hxW
  have c0 : W.cell? ⟨hb, 0, none⟩ = some (.pointer (some ⟨sb, 0, none⟩)) := by simp [World.cell?, hs]
  have c2 : W.cell? ⟨hb, 2, none⟩ = some vS := by simp [World.cell?, hs]
  have d0 : W.cell? ⟨w.heap.size, 0, none⟩ = some (.int .i64 4) := by rw [← hW]; simp
  have hbl : hb < W.heap.size := lt_of_block hs
  have hwl : w.heap.size < W.heap.size := by rw [← hW]; simp
  have HWe : Hid (w.alloc (.cells #[.int .i64 4, .int .i64 a, .slice ao nl cl, .bool f] 28) = W) := hW
  have b4 := ok.b4
  have l0 := ok.ls0
  have hS4 := ok.sh.st.snaps
  have HSN : Hid _ := snap_any x B sb W hst ok.sh.st (Nat.le_trans hBw hbW.size) ok.ls0 (by omega)
  have HF : Hid (Sound x A t ∧ B ≤ hb ∧ W.heap[hb]? = some (.cells #[.pointer (some ⟨sb, 0, none⟩), vA, vS, .int .i64 su, .int .i64 la, .bool o0, .bool o1] 36 (0, 0)) ∧ AllAt B W vA A ∧ W.ownsRow B 69 2 vS x.S.length (scells x.S) ∧ Kp B turned w W ∧ ShopAt B hb x A W) := ⟨ok, hB, hs, hall, hsn, Kp.of_below hbW, hxW⟩
  have hBW : B ≤ W.heap.size := Nat.le_trans hBw hbW.size
  obtain ⟨aoA, capA, hvA⟩ : ∃ ao cap, vA = .slice ao A.length cap := by obtain ⟨Ws, h, _⟩ := hall; exact slice_form h
  obtain ⟨aoS, capS, hvS⟩ := slice_form hsn
  subst hvA hvS
  clear hx ok hW hbW hxW hs hst hall hsn
  go_enter Try.func23, Try.ntmps23
  go_wp2_with (first | rw [HWe.out])
  refine Calls.mono HSN.out ?_
  clear HSN
  rintro e w2 (⟨h4, rfl, rfl⟩ | ⟨h4, rfl, hst2, hk2⟩)
  · have h4' : ((x.S.length : Int) == 4) = true := by simp [h4]
    clear h4
    go_wp2
    go_ret
    exact ⟨rfl, x, A, HF.out.2.2.2.2.2.2, HF.out.1.mono (Nat.le_succ _), HF.out.2.2.2.2.2.1⟩
  · have hs2 := hk2.keep HF.out.2.2.1 (by simp)
    have c1 : w2.cell? ⟨hb, 1, none⟩ = some (.slice aoA A.length capA) := by simp [World.cell?, hs2]
    have c2 : w2.cell? ⟨hb, 2, none⟩ = some (.slice aoS x.S.length capS) := by simp [World.cell?, hs2]
    have hbl2 : hb < w2.heap.size := lt_of_block hs2
    have hBw2 : B ≤ w2.heap.size := Nat.le_trans hBW hk2.size
    have h4' : ((x.S.length : Int) == 4) = false := by simp; omega
    have HN2 : Hid (w2.ownsRow B 69 2 (.slice aoS x.S.length capS) x.S.length (scells x.S)) := hk2.owns HF.out.2.2.2.2.1 (by simp)
    have HA2 : Hid (AllAt B w2 (.slice aoA A.length capA) A) := HF.out.2.2.2.1.kept hk2 (by simp) (by simp)
    have HK2 : Hid (Kp B turned w w2) := HF.out.2.2.2.2.2.1.trans (hk2.mono (by simp [turned]))
    have HS2 : Hid (StoreAt B sb { x with S := x.S ++ [⟨x.lastSnap + 1, x.last⟩], lastSnap := x.lastSnap + 1 } w2) := hst2
    have HH2 : Hid (w2.heap[hb]? = some (.cells #[.pointer (some ⟨sb, 0, none⟩), .slice aoA A.length capA, .slice aoS x.S.length capS, .int .i64 su, .int .i64 la, .bool o0, .bool o1] 36 (0, 0))) := hs2
    have HSO : Hid (Sound { x with S := x.S ++ [⟨x.lastSnap + 1, x.last⟩], lastSnap := x.lastSnap + 1 } A (t + 1)) := HF.out.1.snap h4
    have hlast : Hid (x.last = A.length) := HF.out.1.sh.last
    have HHB : Hid (B ≤ hb) := HF.out.2.1
    clear c0 hs2 hk2 hst2 HF
    go_wp2_with fail
    go_region_law (refine step_append_lies _ rfl _ _ 33 rfl B 69 i0 _ 2 16 Try.underlying33 hi hz0 hz1 hz2 rfl (by decide) (.slice aoS x.S.length capS) x.S.length (scells x.S) rfl (by exact HN2.out.alloc _) ⟨w2.heap.size, 0, none⟩ 1 1 (Sn.cells ⟨x.lastSnap + 1, A.length⟩) rfl rfl (by exact two_cells w2 ⟨x.lastSnap + 1, A.length⟩ _ rfl) (by intro u hu; simp [Sn.cells] at hu; rcases hu with rfl | rfl <;> rfl) (by omega) (by unfold maxLen; omega) (by omega) (by simp; omega) _ rfl ?_; intro g cap w3 hown hgrow hat hlt; have K3 : Hid (Kp B [69] w2 w3) := Kp.grown ((Kp.refl _ _ _).alloc _).drew (by exact HN2.out.alloc _) hgrow (Nat.le_refl _) (by simp); have c2b : w3.cell? ⟨hb, 2, none⟩ = some (.slice aoS x.S.length capS) := (by simp [World.cell?, K3.out.keep HH2.out (by simp)]); have f2b : w3.frozen? ⟨hb, 2, none⟩ = false := (by simp [World.frozen?, K3.out.keep HH2.out (by simp)]); have HN : Hid (w3.ownsRow B 69 2 (.slice (some ⟨g, 0, none⟩) (x.S.length + 1) cap) (x.S.length + 1) (scells x.S ++ Sn.cells ⟨x.lastSnap + 1, A.length⟩)) := hown; clear hown hgrow hat hlt)
    all_goals go_wp2
    all_goals go_ret
    all_goals exact ⟨congrArg (fun z => Ending.returned (.bool z)) (decide_eq_true (p := 0 < x.lastSnap + 1) (by omega)), _, A, put2 _ HHB.out (K3.out.keep HH2.out (by simp)) (HS2.out.kept K3.out (by simp) (by simp) (by simp) (by simp)) (HA2.out.kept K3.out (by simp) (by simp)) (by have h := HN.out; rw [← hlast.out] at h; exact snaps69_snoc h), HSO.out, (HK2.out.trans (K3.out.mono (by simp [turned]))).trans ((Kp.field HHB.out (K3.out.keep HH2.out (by simp)) 2 _).mono (by simp [turned]))⟩
end Go.Proofs.Ytojdkfamihlnkaa
