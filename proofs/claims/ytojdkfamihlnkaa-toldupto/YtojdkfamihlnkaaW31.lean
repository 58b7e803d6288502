/- The walks of this proof: a step; a new shop. -/
import Derived.Test.YtojdkfamihlnkaaW30
namespace Go.Proofs.Ytojdkfamihlnkaa
open Go.RowKit Go.Sort

theorem RawAt.below {w w' : World} {v : Value} (h : RawAt w v) (hb : Below w.heap.size w w') : RawAt w' v := by
  obtain ⟨ao, n, cap, rfl, hc⟩ := h
  refine ⟨ao, n, cap, rfl, fun k hk => ?_⟩
  obtain ⟨b, x, y, g, h1, h2, h3, h4, h5, h6⟩ := hc k hk
  exact ⟨b, x, y, g, h1, h2, cell_later hb h3, cell_later hb h4, cell_later hb h5, h6⟩

theorem StepPost.from {B hb t : Nat} {w w1 : World} {e : Ending} {w' : World} (h : StepPost B hb t w1 e w') (hb1 : Below w.heap.size w w1) : StepPost B hb t w e w' := by
  obtain ⟨h1, x, A, h2, h3, h4⟩ := h
  exact ⟨h1, x, A, h2, h3, (Kp.of_below hb1).trans h4⟩

set_option maxHeartbeats 1000000 in
set_option maxRecDepth 100000 in
theorem does_any (B hb : Nat) (x : St) (A : List (List Pr)) (k a : Int) (ao : Option Addr) (nl cl : Nat) (f : Bool) (t : Nat) (w : World) (hx : ShopAt B hb x A w) (ok : Sound x A t) (ht : t < 2000000) (hv : RawAt w (.slice ao nl cl)) (hBw : B ≤ w.heap.size) (h0 : -9223372036854775808 ≤ a) (h1 : a ≤ 9223372036854775807) :
    Calls Try.prog 6 #[.pointer (some ⟨hb, 0, none⟩), .agg #[.int .i64 k, .int .i64 a, .slice ao nl cl, .bool f], .bool false] w fun e w' => StepPost B hb t w e w' := by
  have hbW : Below w.heap.size w (w.alloc (.cells #[.int .i64 k, .int .i64 a, .slice ao nl cl, .bool f] 28)) := (Below.refl _ _).alloc (Nat.le_refl _) _
  by_cases hk1 : k = 1
  · subst hk1
    have H : Hid _ := write19_any B hb x A (.slice ao nl cl) f t _ (hx.below hbW) ok ht (hv.below hbW) (Nat.le_trans hBw hbW.size)
    have HB : Hid _ := hbW
    clear hx ok hv hbW
    go_enter Try.func6, Try.ntmps6
    go_wp2_with fail
    refine Calls.mono H.out ?_
    rintro e w2 h2
    have he := h2.1
    subst he
    have H2 : Hid (StepPost B hb t w (.returned (.bool true)) w2) := h2.from HB.out
    clear h2 H HB
    go_wp2
    go_ret
    exact H2.out
  · by_cases hk4 : k = 4
    · subst hk4
      have H : Hid _ := snapped4_any B hb x A a ao nl cl f t _ (hx.below hbW) ok ht (Nat.le_trans hBw hbW.size)
      have HB : Hid _ := hbW
      clear hx ok hv hbW
      go_enter Try.func6, Try.ntmps6
      go_wp2_with fail
      refine Calls.mono H.out ?_
      rintro e w2 h2
      have he := h2.1
      subst he
      have H2 : Hid (StepPost B hb t w (.returned (.bool true)) w2) := h2.from HB.out
      clear h2 H HB
      go_wp2
      go_ret
      exact H2.out
    · by_cases hk5 : k = 5
      · subst hk5
        have H : Hid _ := snapped5_any B hb x A a ao nl cl f t _ (hx.below hbW) ok (Nat.le_trans hBw hbW.size) h0 h1
        have HB : Hid _ := hbW
        clear hx ok hv hbW
        go_enter Try.func6, Try.ntmps6
        go_wp2_with fail
        refine Calls.mono H.out ?_
        rintro e w2 h2
        have he := h2.1
        subst he
        have H2 : Hid (StepPost B hb t w (.returned (.bool true)) w2) := h2.from HB.out
        clear h2 H HB
        go_wp2
        go_ret
        exact H2.out
      · have b1 : (k == 1) = false := beq_eq_false_iff_ne.2 hk1
        have b4 : (k == 4) = false := beq_eq_false_iff_ne.2 hk4
        have b5 : (k == 5) = false := beq_eq_false_iff_ne.2 hk5
        have HF : Hid (StepPost B hb t w (.returned (.bool true)) (w.alloc (.cells #[.int .i64 k, .int .i64 a, .slice ao nl cl, .bool f] 28))) := ⟨rfl, x, A, hx.below hbW, ok.mono (Nat.le_succ _), Kp.of_below hbW⟩
        clear hx ok hv hbW hk1 hk4 hk5
        by_cases hk2 : k = 2
        · subst hk2
          go_enter Try.func6, Try.ntmps6
          go_wp2
          go_ret
          exact HF.out
        · by_cases hk3 : k = 3
          · subst hk3
            go_enter Try.func6, Try.ntmps6
            go_wp2
            go_ret
            exact HF.out
          · have b2 : (k == 2) = false := beq_eq_false_iff_ne.2 hk2
            have b3 : (k == 3) = false := beq_eq_false_iff_ne.2 hk3
            clear hk2 hk3
            go_enter Try.func6, Try.ntmps6
            go_wp2
            go_ret
            exact HF.out

/-- A new store. -/
def st0 : St := ⟨[], [], 0, 0, 0, 0⟩

theorem sound0 : Sound st0 [] 0 :=
  ⟨⟨⟨List.Pairwise.nil, by decide, by simp [st0], by simp [st0], by decide⟩, rfl, by intro e; simp [st0], by simp, by decide⟩, List.Pairwise.nil, by simp [st0], by decide, by decide, by decide, by decide, by decide⟩

set_option maxHeartbeats 1000000 in
theorem new_any (w : World) : Calls Try.prog 18 #[] w fun e w' => e = .returned (.pointer (some ⟨w.heap.size, 0, none⟩)) ∧ w' = w.alloc (.cells #[.slice none 0 0, .slice none 0 0, .int .i64 0, .slice none 0 0, .int .i64 0, .int .i64 0] 105) := by
  go_enter Try.func18, Try.ntmps18
  go_wp2
  go_ret
  exact ⟨rfl, rfl⟩

/-- What shop comes to. -/
def NewPost (w : World) (e : Ending) (w' : World) : Prop :=
  ∃ hb : Nat, e = .returned (.pointer (some ⟨hb, 0, none⟩)) ∧ ShopAt w.heap.size hb st0 [] w' ∧ Below w.heap.size w w'

set_option maxHeartbeats 1000000 in
theorem shop_any (w : World) : Calls Try.prog 5 #[] w fun e w' => NewPost w e w' := by
  go_enter Try.func5, Try.ntmps5
  go_wp2_with fail
  refine (new_any w).mono ?_
  rintro e w1 ⟨rfl, rfl⟩
  go_wp2
  go_ret
  refine ⟨w.heap.size + 1, rfl, ?_, ((Below.refl _ _).alloc (Nat.le_refl _) _).alloc (by simp) _⟩
  have hS : (w.alloc (.cells #[.slice none 0 0, .slice none 0 0, .int .i64 0, .slice none 0 0, .int .i64 0, .int .i64 0] 105)).heap[w.heap.size]? = some (.cells #[.slice none 0 0, .slice none 0 0, .int .i64 0, .slice none 0 0, .int .i64 0, .int .i64 0] 105 (0, 0)) := heap_alloc_new w _
  refine ⟨w.heap.size, .slice none 0 0, .slice none 0 0, 0, 0, false, false, Nat.le_succ _, ?_, ⟨.slice none 0 0, .slice none 0 0, .slice none 0 0, [], Nat.le_refl _, ?_, World.ownsRow_nil _ _ _ _, World.ownsRow_nil _ _ _ _, World.ownsRow_nil _ _ _ _, Nat.le_refl _⟩, ⟨[], World.ownsRow_nil _ _ _ _, by simp⟩, World.ownsRow_nil _ _ _ _⟩
  · have := heap_alloc_new (w.alloc (.cells #[.slice none 0 0, .slice none 0 0, .int .i64 0, .slice none 0 0, .int .i64 0, .int .i64 0] 105)) (.cells #[.pointer (some ⟨w.heap.size, 0, none⟩), .slice none 0 0, .slice none 0 0, .int .i64 0, .int .i64 0, .bool false, .bool false] 36)
    simpa using this
  · rw [Below.heap_alloc _ _ _ (by simp)]
    exact hS

/-- A script that can be read. -/
def ScriptAt (w : World) (v : Value) (n : Nat) : Prop := ∃ (ao : Option Addr) (cap : Nat), v = .slice ao n cap ∧ ∀ i, i < n → ∃ (b : Addr) (k a : Int) (al : Option Addr) (nl cl : Nat) (f : Bool), ao = some b ∧ b.spot = none ∧
  w.cell? ⟨b.block, b.off + i * 4, none⟩ = some (.int .i64 k) ∧ w.cell? ⟨b.block, b.off + i * 4 + 1, none⟩ = some (.int .i64 a) ∧ w.cell? ⟨b.block, b.off + i * 4 + 2, none⟩ = some (.slice al nl cl) ∧ w.cell? ⟨b.block, b.off + i * 4 + 3, none⟩ = some (.bool f) ∧
  RawAt w (.slice al nl cl) ∧ -9223372036854775808 ≤ a ∧ a ≤ 9223372036854775807

set_option maxHeartbeats 2000000 in
set_option maxRecDepth 100000 in
theorem told_any (v : Value) (n : Nat) (w : World) (h : ScriptAt w v n) (hn : n ≤ 1900000) :
    Calls Try.prog 3 #[v] w fun e w' => e = .returned (.bool true) ∧ Below w.heap.size w w' := by
  obtain ⟨ao, cap, rfl, hc⟩ := h
  have HC : Hid _ := hc
  clear hc
  go_enter Try.func3, Try.ntmps3
  go_wp2_with fail
  refine (shop_any w).mono ?_
  rintro e w1 ⟨hb, rfl, hx, hb1⟩
  have HX : Hid (ShopAt w.heap.size hb st0 [] w1) := hx
  have HB1 : Hid (Below w.heap.size w w1) := hb1
  clear hx hb1
  go_wp2
  go_loopw [4, 5] (fun i _ wr => ∃ (j : Nat) (x : St) (A : List (List Pr)), j ≤ n ∧ i = .int .i64 j ∧ Hid (ShopAt w.heap.size hb x A wr) ∧ Hid (Sound x A j) ∧ Hid (Below w.heap.size w wr)) (fun i _ _ => n - (intOf i).toNat)
  case atStart => exact ⟨0, st0, [], Nat.zero_le _, rfl, HX, sound0, HB1⟩
  case round =>
    clear HX HB1
    obtain ⟨j, x, A, hj, rfl, HX, HS, HB⟩ := hrel
    by_cases hlt : j < n
    · obtain ⟨⟨g, off, spot⟩, k, a, al, nl, cl, f, rfl, hsp, c0, c1, c2, c3, hraw, ha0, ha1⟩ := HC.out j hlt
      simp only at hsp c0 c1 c2 c3
      subst hsp
      have hgw : g < w.heap.size := block_lt_of_cell c0
      have HD : Hid _ := does_any w.heap.size hb x A k a al nl cl f j wr HX.out HS.out (by omega) (hraw.below HB.out) HB.out.size ha0 ha1
      have C0 : Hid (w.cell? ⟨g, off + j * 4, none⟩ = some (.int .i64 k)) := c0
      have C1 : Hid (w.cell? ⟨g, off + j * 4 + 1, none⟩ = some (.int .i64 a)) := c1
      have c0 := cell_later HB.out c0
      have c1 := cell_later HB.out c1
      have c2 := cell_later HB.out c2
      have c3 := cell_later HB.out c3
      have hgr : g < wr.heap.size := block_lt_of_cell c0
      clear hraw
      go_wp2_with fail
      refine Calls.mono HD.out ?_
      rintro e w2 ⟨rfl, x', A', hx2, hs2, hk2⟩
      have hb2 : Below w.heap.size w w2 := HB.out.trans (hk2.belowB HB.out.size)
      have c0 := cell_later hb2 C0.out
      have c1 := cell_later hb2 C1.out
      have hgr2 : g < w2.heap.size := block_lt_of_cell c0
      have HX2 : Hid (ShopAt w.heap.size hb x' A' w2) := hx2
      have HS2 : Hid (Sound x' A' (j + 1)) := hs2
      have HB2 : Hid (Below w.heap.size w w2) := hb2
      clear hx2 hs2 hb2 hk2 HD HX HS HB c2 c3
      by_cases hk6 : k = 6
      · subst hk6
        have HL : Hid _ := looks_any w.heap.size hb x' A' a (j + 1) w2 HX2.out HS2.out ha0 ha1
        go_wp2_with fail
        refine Calls.mono HL.out ?_
        rintro e w3 ⟨rfl, hb3⟩
        have HX3 : Hid (ShopAt w.heap.size hb x' A' w3) := HX2.out.below hb3
        have HB3 : Hid (Below w.heap.size w w3) := below_trans' HB2.out hb3
        clear hb3 HX2 HB2 HL
        go_wp2
        go_roundw
        case rel => exact ⟨j + 1, x', A', hlt, by go_num, HX3, HS2, HB3⟩
        case measure => simp [intOf]; omega
      · have b6 : (k == 6) = false := beq_eq_false_iff_ne.2 hk6
        go_wp2
        go_roundw
        case rel => exact ⟨j + 1, x', A', hlt, by go_num, HX2, HS2, HB2⟩
        case measure => simp [intOf]; omega
    · obtain rfl : j = n := by omega
      obtain ⟨sb, vA, vS, su, la, o0, o1, hBh, hs, hst, hall, hsn⟩ := id HX.out
      have c1 : wr.cell? ⟨hb, 1, none⟩ = some vA := by simp [World.cell?, hs]
      have hbl : hb < wr.heap.size := lt_of_block hs
      obtain ⟨aoA, capA, rfl⟩ : ∃ ao cap, vA = .slice ao A.length cap := by obtain ⟨Ws, h, _⟩ := hall; exact slice_form h
      have HT : Hid (Calls Try.prog 8 #[.pointer (some ⟨hb, 0, none⟩), .int .i64 0, .int .i64 A.length] wr fun e w' => e = .returned (.bool true) ∧ Below wr.heap.size wr w') := tells_any w.heap.size hb x A 0 A.length wr HX.out HS.out.sh (by unfold seqOf; rw [if_pos rfl, HS.out.sh.last]) (Nat.le_refl _)
      clear hs hst hall hsn
      go_wp2_with fail
      refine Calls.mono HT.out ?_
      rintro e w3 ⟨rfl, hb3⟩
      go_wp2
      go_ret
      exact ⟨rfl, below_trans' HB.out hb3⟩
end Go.Proofs.Ytojdkfamihlnkaa
