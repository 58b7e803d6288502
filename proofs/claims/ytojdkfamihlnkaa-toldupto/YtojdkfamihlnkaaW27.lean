/- The walks of this proof: a look at the latest, or at a snapshot. -/
import Derived.Test.YtojdkfamihlnkaaW26
namespace Go.Proofs.Ytojdkfamihlnkaa
open Go.RowKit Go.Sort

/-- What is true of every shop behind t steps. -/
structure Sound (x : St) (A : List (List Pr)) (t : Nat) : Prop where
  sh : ShOk x A
  snp : x.S.Pairwise fun a b => a.n < b.n
  snr : ∀ s ∈ x.S, 1 ≤ s.n ∧ s.n ≤ x.lastSnap ∧ 0 ≤ s.q ∧ s.q ≤ A.length
  ls0 : 0 ≤ x.lastSnap
  b1 : A.length ≤ t
  b2 : x.E.length ≤ 4 * t
  b3 : x.jl ≤ 1000 * t
  b4 : x.lastSnap ≤ t

theorem snq_mem : ∀ {S : List Sn} (_ : S.Pairwise fun a b => a.n < b.n) {s : Sn}, s ∈ S → snq S s.n = some s.q
  | [], _, _, h => by cases h
  | a :: S, hp, s, h => by
    obtain ⟨h1, h2⟩ := List.pairwise_cons.1 hp
    unfold snq
    rw [List.find?_cons]
    rcases List.mem_cons.1 h with rfl | h
    · simp
    · have := h1 s h
      rw [decide_eq_false (show ¬ a.n = s.n by omega)]
      exact snq_mem h2 h

theorem sidx_mem : ∀ {S : List Sn} (_ : S.Pairwise fun a b => a.n < b.n) {i : Nat} {s : Sn}, S[i]? = some s → sidx S s.n = some i
  | [], _, _, _, h => by simp at h
  | a :: S, hp, i, s, h => by
    obtain ⟨h1, h2⟩ := List.pairwise_cons.1 hp
    unfold sidx
    rw [List.findIdx?_cons]
    obtain _ | i := i
    · obtain rfl : a = s := by simpa using h
      simp
    · have h' : S[i]? = some s := by simpa using h
      have := h1 s (List.mem_of_getElem? h')
      rw [decide_eq_false (show ¬ a.n = s.n by omega)]
      have ih := sidx_mem h2 h'
      unfold sidx at ih
      rw [ih]
      rfl

theorem sidx_out {S : List Sn} {n : Int} (h : ∀ s ∈ S, s.n ≠ n) : sidx S n = none := by
  unfold sidx
  rw [List.findIdx?_eq_none_iff]
  intro s hs
  simp [h s hs]

theorem tells_in (B hb : Nat) (x : St) (A : List (List Pr)) (at_ : Int) (n : Nat) (w : World) (hx : ShopAt B hb x A w) (ok : ShOk x A) (hq : seqOf x.S x.last at_ = some (n : Int)) (hn : n ≤ A.length) (d : Nat) (os : Array Obj) :
    Calls Try.prog 8 #[.pointer (some ⟨hb, 0, none⟩), .int .i64 at_, .int .i64 n] (grow (redrawn w d) os) fun e w'' => e = .returned (.bool true) ∧ ∃ p : Regrown, w'' = grow (redrawn w p.d) p.os :=
  Calls.regrown_of (tells_any B hb x A at_ n _ (hx.below (below_of_regrown ⟨⟨d, os⟩, rfl⟩)) ok hq hn)

set_option maxHeartbeats 1000000 in
set_option maxRecDepth 100000 in
theorem looks_any (B hb : Nat) (x : St) (A : List (List Pr)) (c : Int) (t : Nat) (w : World) (hx : ShopAt B hb x A w) (ok : Sound x A t) (h0 : -9223372036854775808 ≤ c) (h1 : c ≤ 9223372036854775807) :
    Calls Try.prog 7 #[.pointer (some ⟨hb, 0, none⟩), .int .i64 c] w fun e w' => e = .returned (.bool true) ∧ Below w.heap.size w w' := by
  obtain ⟨sb, vA, vS, su, la, o0, o1, hB, hs, hst, hall, hsn⟩ := id hx
  have c1 : w.cell? ⟨hb, 1, none⟩ = some vA := by simp [World.cell?, hs]
  have c2 : w.cell? ⟨hb, 2, none⟩ = some vS := by simp [World.cell?, hs]
  have hbl : hb < w.heap.size := lt_of_block hs
  have hS4 := ok.sh.st.snaps
  have HP : Hid (Calls Try.prog 22 #[.int .i64 c, .int .i64 ((x.S.length : Int) + 1)] w fun e w' => e = .returned (.int .i64 (pk c ((x.S.length : Int) + 1))) ∧ w' = w) := pick_any c _ w h0 h1 (by omega) (by omega)
  have hpk := pk_lt (c := c) (n := (x.S.length : Int) + 1) (by omega)
  generalize pk c ((x.S.length : Int) + 1) = i at HP hpk
  obtain ⟨j, rfl⟩ := Int.eq_ofNat_of_zero_le hpk.1
  obtain ⟨aoA, capA, rfl⟩ : ∃ ao cap, vA = .slice ao A.length cap := by obtain ⟨Ws, h, _⟩ := hall; exact slice_form h
  by_cases hj : j = x.S.length
  · have HT : Hid (Calls Try.prog 8 #[.pointer (some ⟨hb, 0, none⟩), .int .i64 0, .int .i64 A.length] w fun e w' => e = .returned (.bool true) ∧ Below w.heap.size w w') := tells_any B hb x A 0 A.length w hx ok.sh (by unfold seqOf; rw [if_pos rfl, ok.sh.last]) (Nat.le_refl _)
    subst hj
    obtain ⟨aoS, capS, rfl⟩ := slice_form hsn
    clear hx ok hs hst hall hsn hpk
    go_enter Try.func7, Try.ntmps7
    go_wp2_with fail
    refine Calls.mono HP.out ?_
    rintro e w1 ⟨rfl, rfl⟩
    go_wp2_with fail
    refine Calls.mono HT.out ?_
    rintro e w1 ⟨rfl, hb1⟩
    go_wp2
    go_ret
    exact ⟨rfl, hb1⟩
  · obtain ⟨s, hsj⟩ : ∃ s, x.S[j]? = some s := ⟨_, List.getElem?_eq_getElem (by omega)⟩
    have hsr := ok.snr s (List.mem_of_getElem? hsj)
    obtain ⟨q, hq⟩ := Int.eq_ofNat_of_zero_le hsr.2.2.1
    have HT : Hid (∀ d os, Calls Try.prog 8 #[.pointer (some ⟨hb, 0, none⟩), .int .i64 s.n, .int .i64 s.q] (grow (redrawn w d) os) fun e w'' => e = .returned (.bool true) ∧ ∃ p : Regrown, w'' = grow (redrawn w p.d) p.os) := fun d os => by
      rw [hq]
      exact tells_in B hb x A s.n q w hx ok.sh (by unfold seqOf; rw [if_neg (by omega), snq_mem ok.snp (List.mem_of_getElem? hsj), hq]) (by omega) d os
    obtain ⟨g, cap, rfl, _, hgl, hcap, hcell⟩ := row_cell (f := Sn.cells) (size := 2) (l := x.S) (fun a => by rfl) hsn (by omega)
    have d0 := hcell j s 0 hsj (by omega)
    have d1 := hcell j s 1 hsj (by omega)
    simp only [Sn.cells, List.getElem?_cons_zero, List.getElem?_cons_succ, Nat.add_zero] at d0 d1
    have hjl : j < x.S.length := by omega
    clear hx ok hs hst hall hsn hpk hcell hsj hsr hq
    have c2' := cell_regrown c2
    have d0' := cell_regrown d0
    have d1' := cell_regrown d1
    go_enter Try.func7, Try.ntmps7
    go_wp2_with fail
    refine Calls.mono HP.out ?_
    rintro e w1 ⟨rfl, rfl⟩
    go_wp2_with fail
    refine wp_region_quiet_below (by kernel_rfl) (by kernel_rfl) ?_
    repeat (first | go_big_quiet_step (exact HT.out _ _) | quiet_step (exact HT.out _ _))
    refine wpQuiet_nil ?_
    intro w2 hw'
    have hb2 := below_of_regrown hw'
    clear hw'
    go_wp2
    go_ret
    exact ⟨rfl, hb2⟩
end Go.Proofs.Ytojdkfamihlnkaa
