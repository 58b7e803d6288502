/- The walks of this proof: of one key's entries those that are needed. -/
import Derived.Test.YtakipjofboipmaaGreatJ9
import Derived.Test.YtakipjofboipmaaGreatJ6
import Derived.RangeFuncBox
import Derived.RangeFuncLeaves
import Derived.Shelf.Abstract
import Derived.WalkKit
import Derived.OwnWalkIn
import Derived.TacticsInMore
import Derived.LoopNIn
import Derived.LoopIn
import Derived.Maps.AppendAt
import Derived.Sort.QuietIn
import Derived.Sort.LoopGhostIn
import Derived.RangeFuncFrom
import Derived.RangeFuncCalls
namespace Go.Proofs.YtakipjofboipmaaGreat
open Go.RowKit Go.Sort

theorem flat_take' (L : List En) (m : Nat) : (ecells L).take (m * 4) = ecells (L.take m) := by
  unfold ecells
  induction L generalizing m with
  | nil => simp
  | cons a L ih =>
    cases m with
    | zero => simp
    | succ m =>
      rw [List.flatMap_cons, List.take_succ_cons, List.flatMap_cons, ← ih m, show (m + 1) * 4 = (En.cells a).length + m * 4 by simp [En.cells]; omega, List.take_length_add_append]

/-- Entries that lie in a block from a place on. -/
def EnSl (w : World) (g o : Nat) (G : List En) : Prop :=
  ∀ j e, G[j]? = some e → w.cell? ⟨g, o + j * 4, none⟩ = some (.string e.k) ∧ w.cell? ⟨g, o + j * 4 + 1, none⟩ = some (.int .i64 e.s) ∧ w.cell? ⟨g, o + j * 4 + 2, none⟩ = some (.bool e.g) ∧ w.cell? ⟨g, o + j * 4 + 3, none⟩ = some (.string e.v)

theorem EnSl.below {w w' : World} {g o : Nat} {G : List En} (h : EnSl w g o G) (hb : Below w.heap.size w w') : EnSl w' g o G := fun j e he =>
  let ⟨h0, h1, h2, h3⟩ := h j e he
  ⟨cell_later hb h0, cell_later hb h1, cell_later hb h2, cell_later hb h3⟩

theorem hasWithin_in (Q : List Int) (v : Value) (a b : Int) (w : World) (h : IntRow w v Q) (h4 : Q.length ≤ 1000000) (d : Nat) (os : Array Obj) :
    Calls Tryz.prog 207 #[v, .int .i64 a, .int .i64 b] (grow (redrawn w d) os) fun e w'' => e = .returned (.bool (inGap Q a b)) ∧ ∃ p : Regrown, w'' = grow (redrawn w p.d) p.os :=
  Calls.regrown_of (hasWithin_any Q v a b _ (h.below (below_regrown w d os)) h4)

theorem own_one (w : World) (e : En) : (w.alloc (.cells #[.string e.k, .int .i64 e.s, .bool e.g, .string e.v] 58)).ownsRow w.heap.size 58 4 (.slice (some ⟨w.heap.size, 0, none⟩) 1 1) 1 (ecells [e]) :=
  ⟨by simp [ecells, En.cells], .inr ⟨w.heap.size, 1, _, rfl, Nat.le_refl _, by
    show (w.heap.push _)[w.heap.size]? = _
    exact Array.getElem?_push_size, Nat.le_refl _, by unfold maxLen; omega, rfl, by simp [ecells, En.cells]⟩⟩

def SbsPost (Q : List Int) (G : List En) (w : World) (e : Ending) (w' : World) : Prop :=
  ∃ v', e = .returned v' ∧ w'.ownsRow w.heap.size 58 4 v' (sbs Q G).length (ecells (sbs Q G)) ∧ Below w.heap.size w w'

set_option maxHeartbeats 2000000 in
set_option maxRecDepth 100000 in
theorem seenBySome_any (Q : List Int) (vQ : Value) (G : List En) (g o cap : Nat) (w : World) (hG : EnSl w g o G) (h1 : 1 ≤ G.length) (hcap : G.length ≤ cap) (hfew : G.length < 1000000000) (hQ : IntRow w vQ Q) (h4 : Q.length ≤ 1000000) :
    Calls Tryz.prog 182 #[.slice (some ⟨g, o, none⟩) G.length cap, vQ] w fun e w' => SbsPost Q G w e w' := by
  obtain ⟨i0, hi, hz0, hz1, hz2⟩ := info_parts Tryz.info58
  have HG : Hid (EnSl w g o G) := hG
  have HQ : Hid (IntRow w vQ Q) := hQ
  obtain ⟨e0, he0⟩ : ∃ e, G[0]? = some e := ⟨_, List.getElem?_eq_getElem (by omega)⟩
  obtain ⟨c0, c1, c2, c3⟩ := hG 0 e0 he0
  rw [Nat.zero_mul, Nat.add_zero] at c0 c1 c2 c3
  have hgs : g < w.heap.size := block_lt_of_cell c0
  have HS0 : Hid (sbs Q (G.take 1) = [e0]) := by
    show _ = _
    rw [List.take_add_one, he0]; simp [sbs, sbsT]
  have HO : Hid ((w.alloc (.cells #[.string e0.k, .int .i64 e0.s, .bool e0.g, .string e0.v] 58)).ownsRow w.heap.size 58 4 (.slice (some ⟨w.heap.size, 0, none⟩) 1 1) 1 (ecells [e0])) := own_one w e0
  have B0 : Hid (Below w.heap.size w (w.alloc (.cells #[.string e0.k, .int .i64 e0.s, .bool e0.g, .string e0.v] 58))) := (Below.refl _ _).alloc (Nat.le_refl _) _
  have hc1 : 1 ≤ cap := by omega
  clear hG hQ he0
  obtain ⟨m, hm⟩ : ∃ m, G.length = m + 1 := ⟨G.length - 1, by omega⟩
  by_cases hcp : cap = 1
  · subst hcp
    obtain rfl : m = 0 := by omega
    have HE : Hid (G.take 1 = G) := List.take_of_length_le (by omega)
    rw [hm]
    clear hm h1 hcap hfew
    go_enter Tryz.func182, Tryz.ntmps182
    go_wp2
    refine wp_loop_rounds 1 ?_
    rw [rounds_succ]
    go_wp2
    go_ret
    have := HS0.out
    rw [HE.out] at this
    exact ⟨_, rfl, by rw [this]; exact HO.out, B0.out⟩
  · have HM : Hid (G.length = m + 1) := hm
    rw [hm] at hcap hfew ⊢
    have hcm : m ≤ cap - 1 := by omega
    clear hm h1
    go_enter Tryz.func182, Tryz.ntmps182
    go_wp2
    go_loopw [5, 15] (fun s5 s15 wr => ∃ k : Nat, k ≤ m ∧ s15 = .int .i64 k ∧ Hid (wr.ownsRow w.heap.size 58 4 s5 (sbs Q (G.take (k + 1))).length (ecells (sbs Q (G.take (k + 1))))) ∧ Hid (Below w.heap.size w wr)) (fun _ s15 _ => m - (intOf s15).toNat)
    case atStart => exact ⟨0, Nat.zero_le _, rfl, by rw [HS0.out]; exact HO.out, B0.out⟩
    case round =>
      clear HO B0 HS0 c0 c1 c2 c3
      obtain ⟨k, hk, rfl, HO, HB⟩ := hrel
      have hsz : w.heap.size ≤ wr.heap.size := HB.out.size
      by_cases hlt : k < m
      · obtain ⟨a, ha⟩ : ∃ a, G[k]? = some a := ⟨_, List.getElem?_eq_getElem (by have := HM.out; omega)⟩
        obtain ⟨e, he⟩ : ∃ e, G[k + 1]? = some e := ⟨_, List.getElem?_eq_getElem (by have := HM.out; omega)⟩
        obtain ⟨a0, a1, a2, a3⟩ := (HG.out.below HB.out) k a ha
        obtain ⟨e0', e1', e2', e3'⟩ := (HG.out.below HB.out) (k + 1) e he
        rw [show o + (k + 1) * 4 = o + 4 + k * 4 by omega] at e0' e1' e2' e3'
        have hgw : g < wr.heap.size := by omega
        have HT : Hid (sbs Q (G.take (k + 1 + 1)) = sbs Q (G.take (k + 1)) ++ if inGap Q e.s a.s then [e] else []) := sbs_take Q G k a e ha he
        have HLN : Hid ((sbs Q (G.take (k + 1))).length ≤ k + 1) := by
          show _ ≤ _
          have : (sbs Q (G.take (k + 1))).length ≤ (G.take (k + 1)).length := by
            cases G.take (k + 1) with
            | nil => simp [sbs]
            | cons p r => have := (sbsT_sub Q p r).length_le; simp [sbs]; omega
          have h2 : (G.take (k + 1)).length ≤ k + 1 := by rw [List.length_take]; omega
          omega
        obtain ⟨W, hW⟩ : ∃ W, wr.alloc (.cells #[.string e.k, .int .i64 e.s, .bool e.g, .string e.v] 58) = W := ⟨_, rfl⟩
        have hBW : Below wr.heap.size wr W := by rw [← hW]; exact (Below.refl _ _).alloc (Nat.le_refl _) _
        have b1 : W.cell? ⟨wr.heap.size, 1, none⟩ = some (.int .i64 e.s) := by rw [← hW]; simp
        have b0 : W.cell? ⟨wr.heap.size, 0, none⟩ = some (.string e.k) := by rw [← hW]; simp
        have b2 : W.cell? ⟨wr.heap.size, 2, none⟩ = some (.bool e.g) := by rw [← hW]; simp
        have b3 : W.cell? ⟨wr.heap.size, 3, none⟩ = some (.string e.v) := by rw [← hW]; simp
        have a1' := cell_later hBW a1
        have HWB : Hid (Below wr.heap.size wr W) := hBW
        have HW : Hid (wr.alloc (.cells #[.string e.k, .int .i64 e.s, .bool e.g, .string e.v] 58) = W) := hW
        have HQ2 : Hid (IntRow W vQ Q) := (HQ.out.below HB.out).below hBW
        generalize hln : (sbs Q (G.take (k + 1))).length = ln at HO HLN
        obtain ⟨ao5, cap5, rfl⟩ := slice_form HO.out
        have HOW : Hid (W.ownsRow w.heap.size 58 4 (.slice ao5 ln cap5) ln (ecells (sbs Q (G.take (k + 1))))) := (Kp.of_below (B := 0) (ts := []) hBW).owns HO.out (by simp)
        have hWs : wr.heap.size < W.heap.size := block_lt_of_cell b1
        have HLE : Hid _ := hln
        clear ha he hW hBW hln
        have b1r := cell_regrown b1
        have a1r := cell_regrown a1'
        go_wp2
        rw [HW.out]
        refine wp_region_quiet_below (by kernel_rfl) (by kernel_rfl) ?_
        repeat (first | go_big_quiet_step (exact hasWithin_in Q vQ _ _ _ HQ2.out h4 _ _) | quiet_step (exact hasWithin_in Q vQ _ _ _ HQ2.out h4 _ _))
        refine wpQuiet_nil ?_
        intro w2 hw'
        have hb := below_of_regrown hw'
        have HB2 : Hid (Below w.heap.size w w2) := below_trans' (below_trans' HB.out HWB.out) hb
        have HO2 : Hid (w2.ownsRow w.heap.size 58 4 (.slice ao5 ln cap5) ln (ecells (sbs Q (G.take (k + 1))))) := (Kp.of_below (B := 0) (ts := []) hb).owns HOW.out (by simp)
        have d0 := cell_later hb b0
        have d1 := cell_later hb b1
        have d2 := cell_later hb b2
        have d3 := cell_later hb b3
        have hw2 : w.heap.size ≤ w2.heap.size := HB2.out.size
        have hln2 : ln ≤ k + 1 := HLN.out
        clear hb hw' b0 b1 b2 b3 b1r a1r a1' a0 a1 a2 a3 e0' e1' e2' e3' HW HWB HOW HQ2 HO
        cases hgap : inGap Q e.s a.s with
        | false =>
          rw [hgap] at HT
          clear hgap
          go_wp2
          go_roundw
          case rel => exact ⟨k + 1, by omega, by go_num, by rw [HT.out]; simp only [Bool.false_eq_true, if_false, List.append_nil]; rw [HLE.out]; exact HO2.out, HB2⟩
          case measure => simp [intOf]; omega
        | true =>
          rw [hgap] at HT
          clear hgap
          go_wp2_with (at_builtin; refine wpList_append_own _ rfl _ _ 54 rfl w.heap.size 58 i0 _ 4 48 Tryz.underlying54 hi hz0 hz1 hz2 rfl (by decide) _ _ _ rfl (by exact HO2.out.alloc _) ⟨w2.heap.size, 0, none⟩ 1 1 (En.cells e) rfl rfl (by exact one_entry w2 e _ rfl) (entry_one _) (by unfold maxLen; omega) (by omega) (by simp; omega) ?_)
          intro v9 w3 ho3 hg3 _
          have HB3 : Hid (Below w.heap.size w w3) := (HB2.out.alloc HB2.out.size _).grown hg3 (by simp; omega) fun k hk => (HO2.out.lt k hk).1
          have HO3 : Hid (w3.ownsRow w.heap.size 58 4 v9 (sbs Q (G.take (k + 1 + 1))).length (ecells (sbs Q (G.take (k + 1 + 1))))) := by
            rw [HT.out]
            have e' : ecells (sbs Q (G.take (k + 1)) ++ [e]) = ecells (sbs Q (G.take (k + 1))) ++ En.cells e := by simp [ecells]
            simp only [if_true]
            rw [e', List.length_append, HLE.out]
            exact ho3
          clear ho3 hg3 HO2
          go_wp2
          go_roundw
          case rel => exact ⟨k + 1, by omega, by go_num, HO3, HB3⟩
          case measure => simp [intOf]; omega
      · obtain rfl : k = m := by omega
        have HE : Hid (G.take (k + 1) = G) := List.take_of_length_le (by have := HM.out; omega)
        rw [HE.out] at HO
        go_wp2
        go_ret
        exact ⟨_, rfl, HO.out, HB.out⟩

/-- The deletions at the end left out. -/
theorem owns_take {w : World} {base g cap : Nat} {L : List En} (h : w.ownsRow base 58 4 (.slice (some ⟨g, 0, none⟩) L.length cap) L.length (ecells L)) (m : Nat) (hm : m ≤ L.length) : w.ownsRow base 58 4 (.slice (some ⟨g, 0, none⟩) m cap) m (ecells (L.take m)) := by
  rcases h.2 with ⟨h0, _⟩ | ⟨g', cap', cur, hv, hb, hg, hnc, hcm, hsz, ht⟩
  · cases h0
  · simp only [Value.slice.injEq, Option.some.injEq, Addr.mk.injEq, true_and] at hv
    obtain ⟨⟨rfl, _⟩, rfl⟩ := hv
    refine ⟨by unfold ecells; rw [flat_len _ 4 (fun _ => rfl), List.length_take, Nat.min_eq_left hm], .inr ⟨g, cap, cur, rfl, hb, hg, by omega, hcm, hsz, ?_⟩⟩
    have e : ecells (L.take m) = (ecells L).take (m * 4) := (flat_take' L m).symm
    rw [e, ← ht, List.take_take, Nat.min_eq_left (by omega)]
end Go.Proofs.YtakipjofboipmaaGreat

/- The walks of this proof: without the deletions at the end. -/
namespace Go.Proofs.YtakipjofboipmaaGreat
open Go.RowKit Go.Sort

def WlgPost (L : List En) (g cap : Nat) (w : World) (e : Ending) (w' : World) : Prop :=
  ∃ m : Nat, m ≤ L.length ∧ dtg L = L.take m ∧ e = .returned (.slice (some ⟨g, 0, none⟩) m cap) ∧ Below w.heap.size w w'

set_option maxHeartbeats 1000000 in
set_option maxRecDepth 100000 in
theorem withoutLastGone_any (L : List En) (base g cap : Nat) (w : World) (h : w.ownsRow base 58 4 (.slice (some ⟨g, 0, none⟩) L.length cap) L.length (ecells L)) (hl : L.length ≤ 1000000) :
    Calls Tryz.prog 183 #[.slice (some ⟨g, 0, none⟩) L.length cap] w fun e w' => WlgPost L g cap w e w' := by
  have hlc : L.length ≤ cap := by
    rcases h.2 with ⟨h0, _⟩ | ⟨g', cap', cur, hv, hb, hg, hnc, hcm, hsz, ht⟩
    · cases h0
    · simp only [Value.slice.injEq, true_and] at hv; omega
  have HC : Hid (∀ (j : Nat) e, L[j]? = some e → w.cell? ⟨g, j * 4 + 2, none⟩ = some (.bool e.g)) := fun j e he => by
    obtain ⟨g', cap', hv, _, _, _, hcell⟩ := row_cell (fun a => by rfl) h (by have := (List.getElem?_eq_some_iff.1 he).1; omega)
    simp only [Value.slice.injEq, Option.some.injEq, Addr.mk.injEq, true_and] at hv
    obtain ⟨⟨rfl, _⟩, rfl⟩ := hv
    exact hcell j e 2 he (by omega)
  clear h
  go_enter Tryz.func183, Tryz.ntmps183
  go_wp2
  go_loopg [0] L.length (fun kx s0 wr => ∃ m : Nat, m ≤ L.length ∧ m ≤ kx ∧ s0 = .slice (some ⟨g, 0, none⟩) m cap ∧ wr = w ∧ Hid (dtg (L.take m) = dtg L))
  case atStart => exact ⟨L.length, Nat.le_refl _, Nat.le_refl _, rfl, rfl, by rw [List.take_of_length_le (Nat.le_refl _)]; rfl⟩
  case round =>
    obtain ⟨m, hm, hkx, rfl, rfl, HD⟩ := hrel
    cases m with
    | zero =>
      have HE : Hid (dtg L = L.take 0) := by show _ = _; rw [← HD.out, List.take_zero]; rfl
      go_wp2
      go_ret
      exact ⟨0, Nat.zero_le _, HE.out, rfl, Below.refl _ _⟩
    | succ m =>
      obtain ⟨e, he⟩ : ∃ e, L[m]? = some e := ⟨_, List.getElem?_eq_getElem (by omega)⟩
      have c2 := HC.out m e he
      have HT : Hid (dtg (L.take (m + 1)) = if e.g then dtg (L.take m) else L.take (m + 1)) := dtg_take L m e he
      have hmm : (((m + 1 : Nat) : Int) - 1) = (m : Int) := by omega
      have hmc : m ≤ cap := by omega
      clear he
      cases hg : e.g with
      | true =>
        rw [hg] at c2 HT
        clear hg
        go_wp2
        go_roundg m
        case measure => omega
        case rel => exact ⟨m, by omega, Nat.le_refl _, by first | rfl | simp, by first | rfl | trivial, by rw [← HD.out, HT.out]; rfl⟩
      | false =>
        rw [hg] at c2 HT
        clear hg
        go_wp2
        go_ret
        exact ⟨m + 1, hm, by rw [← HD.out, HT.out]; rfl, rfl, Below.refl _ _⟩
end Go.Proofs.YtakipjofboipmaaGreat

/- The walks of this proof: the iterator that goes through entries key by key. -/
namespace Go.Proofs.YtakipjofboipmaaGreat
open Go.RowKit Go.Shelf

attribute [local go_sem] Oper.semAt_some

/-- Some entries of one key, one behind the other. -/
abbrev Grp (O : List En) : Type := { p : Nat × Nat // 0 < p.2 ∧ p.1 + p.2 ≤ O.length ∧ ∀ j a b, j < p.2 → O[p.1]? = some a → O[p.1 + j]? = some b → b.k = a.k }

theorem grown_drewN (w : World) (d : Nat) : w.grownBy (w.drewN d) none := ⟨rfl, rfl, rfl, Nat.le_refl _, fun _ _ _ => rfl⟩

set_option maxRecDepth 100000 in
set_option maxHeartbeats 2000000 in
theorem eachKey1_in (n : Nat) (hn : 1 ≤ n) (l Bn n₀ g cap : Nat) (O : List En) (hg : g < n₀) (hcap : O.length ≤ cap) (hfew : O.length < 1000000000) (J Jx : List (Grp O) → World → Prop) (B : Nat) (hJ : AbidesFrom B J)
    (hY : ∀ pre x W, J pre W → pre.length < O.length → YieldAt Fence.wide (n - 1) Tryz.prog l #[.slice (some ⟨g, x.1.1 * 4, none⟩) x.1.2 (cap - x.1.1)] W fun e W' =>
      (e = .returned (.bool true) ∧ J (pre ++ [x]) W' ∧ Below n₀ W W') ∨ (e = .returned (.bool false) ∧ Jx (pre ++ [x]) W'))
    (W : World) (hBn : W.cell? ⟨Bn, 0, none⟩ = some (.slice (some ⟨g, 0, none⟩) O.length cap)) (hO : EnAt W g O) (h0 : J [] W) :
    CallsIn Fence.wide n Tryz.prog 206 #[.func (.yield l) #[] #[], .pointer (some ⟨Bn, 0, none⟩)] W fun e W' => (∃ v, e = .returned v) ∧
      ((∃ ys : List (Grp O), Grps O (ys.map (·.1)) O.length ∧ J ys W') ∨ (∃ pre : List (Grp O), True ∧ Jx pre W')) := by
  have HO : Hid (EnAt W g O) := hO
  have HY : Hid _ := hY
  have HJ : Hid (AbidesFrom B J) := hJ
  clear hO hY hJ
  refine callsIn_of_wp Tryz.func206 rfl trivial ?_ rfl
  simp only [Tryz.ntmps206, List.size_toArray, List.length_cons, List.length_nil, Nat.reduceAdd, Nat.reduceSub, Array.replicate_succ, Array.replicate_zero, List.push_toArray, List.append_toArray, List.nil_append, List.cons_append]
  gi_wp2
  gi_loopg [3] O.length (fun kx s3 wr => ∃ (i oi : Nat) (pre : List (Grp O)), i ≤ O.length ∧ O.length - i ≤ kx ∧ s3 = .slice (some ⟨g, oi, none⟩) (O.length - i) (cap - i) ∧ (i < O.length → oi = i * 4) ∧ Hid (Grps O (pre.map (·.1)) i) ∧ Hid (J pre wr) ∧ Hid (Below n₀ W wr))
  case atStart => exact ⟨0, 0, [], Nat.zero_le _, by omega, rfl, fun _ => rfl, Grps.nil, h0, Below.refl _ _⟩
  case round =>
    obtain ⟨i, oi, pre, hi, hkx, rfl, hoi, HG, HJs, HB⟩ := hrel
    by_cases hlt : i < O.length
    · obtain rfl := hoi hlt
      clear hoi
      obtain ⟨a, ha⟩ : ∃ a, O[i]? = some a := ⟨_, List.getElem?_eq_getElem hlt⟩
      have HA : Hid (O[i]? = some a) := ha
      have HC : Hid (∀ (j : Nat) e, O[i + j]? = some e → wr.cell? ⟨g, i * 4 + j * 4, none⟩ = some (.string e.k)) := fun j e he => by
        rw [← Nat.add_mul]
        exact (HB.out.cell (p := ⟨g, (i + j) * 4, none⟩) hg).trans (HO.out (i + j) e he).1
      have c0 : wr.cell? ⟨g, i * 4, none⟩ = some (.string a.k) := by simpa using HC.out 0 a (by simpa using ha)
      have hpos : 0 < O.length - i := by omega
      clear ha
      gi_wp2
      gi_loopg [4] O.length (fun ky s4 wi => ∃ (m d : Nat), 1 ≤ m ∧ i + m ≤ O.length ∧ O.length - m ≤ ky ∧ s4 = .int .i64 m ∧ wi = wr.drewN d ∧ Hid (∀ j b, j < m → O[i + j]? = some b → b.k = a.k))
      case atStart =>
        refine ⟨1, 0, Nat.le_refl _, by omega, by omega, rfl, rfl, fun j b hj hb => ?_⟩
        have hj0 : j = 0 := by omega
        subst hj0
        rw [Nat.add_zero, HA.out] at hb
        cases hb
        rfl
      case round =>
        obtain ⟨m, d, hm1, him, hky, rfl, rfl, HK⟩ := hrel
        have HGR : Hid (∀ j x y, j < m → O[i]? = some x → O[i + j]? = some y → y.k = x.k) := fun j x y hj hx hy => by
          rw [HA.out] at hx
          cases hx
          exact HK.out j y hj hy
        by_cases hlm : i + m < O.length
        · obtain ⟨e, he⟩ : ∃ e, O[i + m]? = some e := ⟨_, List.getElem?_eq_getElem hlm⟩
          have c1 : wr.cell? ⟨g, i * 4 + m * 4, none⟩ = some (.string e.k) := HC.out m e he
          have hd1 : decide ((m : Int) < ((O.length - i : Nat) : Int)) = true := by simp; omega
          have hml : (m : Int) < ((O.length - i : Nat) : Int) := by omega
          have hmn : m < O.length - i := by omega
          by_cases hek : e.k = a.k
          · rw [hek] at c1
            have HK2 : Hid (∀ j b, j < m + 1 → O[i + j]? = some b → b.k = a.k) := fun j b hj hb => by
              by_cases hjm : j = m
              · subst hjm; rw [he] at hb; cases hb; exact hek
              · exact HK.out j b (by omega) hb
            have hee : (a.k.toList == a.k.toList) = true := by simp
            clear he hek
            gi_wp2
            gi_quiet (fail)
            gi_wp2
            gi_roundg (O.length - (m + 1))
            case measure => omega
            case rel => exact ⟨m + 1, _, by omega, by omega, by omega, by go_num, rfl, HK2⟩
          · have hee := str_ne hek
            have HISG : Hid (IsGrp O i m) := ⟨by omega, by omega, HGR.out, fun x y hx hy => by
              rw [HA.out] at hx
              rw [he] at hy
              cases hx
              cases hy
              exact hek⟩
            clear he hek
            gi_wp2
            gi_quiet (fail)
            generalize hWq : (wr.drewN d).drewN _ = Wq
            have HJq : J pre Wq := by rw [← hWq]; exact HJ.out _ _ _ none (HJ.out _ _ _ none HJs.out (grown_drewN _ _) (fun _ h => by cases h)) (grown_drewN _ _) (fun _ h => by cases h)
            have HBq : Hid (Below n₀ W Wq) := by rw [← hWq]; exact ⟨HB.out.os, HB.out.tape, HB.out.output, HB.out.size, HB.out.block⟩
            obtain ⟨fn, tmps, assign, body, hy, hR⟩ := HY.out pre ⟨(i, m), by omega, by omega, HGR.out⟩ Wq HJq (by have := HG.out.len.1; rw [List.length_map] at this; omega)
            dsimp only at hy hR
            clear hWq HJq
            gi_wp2
            refine hR.mono ?_
            rintro e W3 (⟨rfl, hJ3, hk3⟩ | ⟨rfl, hJx3⟩)
            · have HJ3 : Hid (J (pre ++ [⟨(i, m), by omega, by omega, HGR.out⟩]) W3) := hJ3
              have HB3 : Hid (Below n₀ W W3) := HBq.out.trans hk3
              have HG3 : Hid (Grps O ((pre ++ [(⟨(i, m), by omega, by omega, HGR.out⟩ : Grp O)]).map (·.1)) (i + m)) := by
                rw [List.map_append]
                exact Grps.snoc HG.out HISG.out
              clear hJ3 hk3 hR hy
              by_cases hcm : cap - i = m
              · gi_wp2
                gi_roundg (O.length - (i + m))
                case measure => omega
                case rel => exact ⟨i + m, i * 4, _, by omega, Nat.le_refl _, by first | rfl | (congr 1 <;> omega), fun h => by omega, HG3, HJ3, HB3⟩
              · gi_wp2
                gi_roundg (O.length - (i + m))
                case measure => omega
                case rel => exact ⟨i + m, i * 4 + m * 4, _, by omega, Nat.le_refl _, by first | rfl | (congr 1 <;> omega), fun h => by omega, HG3, HJ3, HB3⟩
            · gi_wp2
              refine bodyPost_ret (results_none rfl _ _ _) rfl ?_
              exact ⟨⟨_, rfl⟩, .inr ⟨_, trivial, hJx3⟩⟩
        · have hmO : i + m = O.length := by omega
          have hmO' : O.length - i = m := by omega
          have hd1 : decide ((m : Int) < ((O.length - i : Nat) : Int)) = false := by simp; omega
          have hml : ¬ (m : Int) < ((O.length - i : Nat) : Int) := by omega
          have HISG : Hid (IsGrp O i m) := ⟨by omega, by omega, HGR.out, fun x y hx hy => by have := (List.getElem?_eq_some_iff.1 hy).1; omega⟩
          gi_wp2
          gi_quiet (fail)
          generalize hWq : (wr.drewN d).drewN _ = Wq
          have HJq : J pre Wq := by rw [← hWq]; exact HJ.out _ _ _ none (HJ.out _ _ _ none HJs.out (grown_drewN _ _) (fun _ h => by cases h)) (grown_drewN _ _) (fun _ h => by cases h)
          have HBq : Hid (Below n₀ W Wq) := by rw [← hWq]; exact ⟨HB.out.os, HB.out.tape, HB.out.output, HB.out.size, HB.out.block⟩
          obtain ⟨fn, tmps, assign, body, hy, hR⟩ := HY.out pre ⟨(i, m), by omega, by omega, HGR.out⟩ Wq HJq (by have := HG.out.len.1; rw [List.length_map] at this; omega)
          dsimp only at hy hR
          clear hWq HJq
          gi_wp2
          refine hR.mono ?_
          rintro e W3 (⟨rfl, hJ3, hk3⟩ | ⟨rfl, hJx3⟩)
          · have HJ3 : Hid (J (pre ++ [⟨(i, m), by omega, by omega, HGR.out⟩]) W3) := hJ3
            have HB3 : Hid (Below n₀ W W3) := HBq.out.trans hk3
            have HG3 : Hid (Grps O ((pre ++ [(⟨(i, m), by omega, by omega, HGR.out⟩ : Grp O)]).map (·.1)) (i + m)) := by
              rw [List.map_append]
              exact Grps.snoc HG.out HISG.out
            clear hJ3 hk3 hR hy
            by_cases hcm : cap - i = m
            · gi_wp2
              gi_roundg (O.length - (i + m))
              case measure => omega
              case rel => exact ⟨i + m, i * 4, _, by omega, Nat.le_refl _, by first | rfl | (congr 1 <;> omega), fun h => by omega, HG3, HJ3, HB3⟩
            · gi_wp2
              gi_roundg (O.length - (i + m))
              case measure => omega
              case rel => exact ⟨i + m, i * 4 + m * 4, _, by omega, Nat.le_refl _, by first | rfl | (congr 1 <;> omega), fun h => by omega, HG3, HJ3, HB3⟩
          · gi_wp2
            refine bodyPost_ret (results_none rfl _ _ _) rfl ?_
            exact ⟨⟨_, rfl⟩, .inr ⟨_, trivial, hJx3⟩⟩
    · obtain rfl : i = O.length := by omega
      clear hoi
      have hz : O.length - O.length = 0 := by omega
      gi_wp2
      go_end0
      exact ⟨⟨_, rfl⟩, .inl ⟨pre, HG.out, HJs.out⟩⟩
end Go.Proofs.YtakipjofboipmaaGreat

/- The walks of this proof: what is needed of a table's entries. -/
namespace Go.Proofs.YtakipjofboipmaaGreat
open Go.RowKit Go.Shelf

attribute [local go_sem] Oper.semAt_some

set_option maxHeartbeats 1000000 in
theorem eachKey_in (n : Nat) (a : Option Addr) (len cap : Nat) (w : World) :
    CallsIn Fence.wide n Tryz.prog 181 #[.slice a len cap] w fun e w' => e = .returned (.func (.func 206) #[] #[.pointer (some ⟨w.heap.size, 0, none⟩)]) ∧ w' = w.alloc (.cells #[.slice a len cap] 54) := by
  refine callsIn_of_wp Tryz.func181 rfl trivial ?_ rfl
  simp only [Tryz.ntmps181, List.size_toArray, List.length_cons, List.length_nil, Nat.reduceAdd, Nat.reduceSub, Array.replicate_succ, Array.replicate_zero, List.push_toArray, List.append_toArray, List.nil_append, List.cons_append]
  gi_wp2
  go_ret
  exact ⟨rfl, rfl⟩

theorem eachKey_stops (n : Nat) (hn : 1 ≤ n) (Bn n₀ g cap : Nat) (O : List En) (w : World) (hg : g < n₀) (hBn : Bn < w.heap.size) (hcap : O.length ≤ cap) (hfew : O.length < 1000000000) (hc : w.cell? ⟨Bn, 0, none⟩ = some (.slice (some ⟨g, 0, none⟩) O.length cap)) (hO : EnAt w g O) :
    SeqStopsK Fence.wide n Tryz.prog 206 #[.pointer (some ⟨Bn, 0, none⟩)] (fun x : Grp O => #[Value.slice (some ⟨g, x.1.1 * 4, none⟩) x.1.2 (cap - x.1.1)]) (Below n₀) (fun ys => Grps O (ys.map (·.1)) O.length) (fun _ => True) O.length w := fun l J Jx W hW hJ _ hY h0 =>
  eachKey1_in n hn l Bn n₀ g cap O hg hcap hfew J Jx W.heap.size hJ hY W ((hW.cell (p := ⟨Bn, 0, none⟩) hBn).trans hc) (hO.below hW) h0

/-- What has come so far. -/
def flatG (Q : List Int) (last : Bool) (O : List En) (pre : List (Grp O)) : List En := (pre.map (·.1)).flatMap fun p => ndOf Q last (grpOf O p)

theorem flatG_snoc (Q : List Int) (last : Bool) (O : List En) (pre : List (Grp O)) (x : Grp O) : flatG Q last O (pre ++ [x]) = flatG Q last O pre ++ ndOf Q last (grpOf O x.1) := by
  simp [flatG]

theorem flatG_len (Q : List Int) (last : Bool) (O : List En) (hs : Sorted O) (pre : List (Grp O)) : (flatG Q last O pre).length ≤ pre.length * (Q.length + 1) := by
  induction pre with
  | nil => simp [flatG]
  | cons x pre ih =>
    have h := ndOf_len Q last (grpOf O x.1) (grp_desc hs x.2.2.2)
    have e : flatG Q last O (x :: pre) = ndOf Q last (grpOf O x.1) ++ flatG Q last O pre := by simp [flatG]
    rw [e, List.length_append, List.length_cons, Nat.add_mul, Nat.one_mul]
    omega

theorem grp_len {O : List En} (x : Grp O) : (grpOf O x.1).length = x.1.2 := by
  have := x.2.2.1
  unfold grpOf
  rw [List.length_take, List.length_drop]
  omega

theorem grp_sl {w : World} {g : Nat} {O : List En} (h : EnAt w g O) (x : Grp O) : EnSl w g (x.1.1 * 4) (grpOf O x.1) := fun j e he => by
  have hj : O[x.1.1 + j]? = some e := by
    unfold grpOf at he
    have hlt : j < x.1.2 := by
      have := (List.getElem?_eq_some_iff.1 he).1
      rw [List.length_take] at this
      omega
    rwa [List.getElem?_take_of_lt hlt, List.getElem?_drop] at he
  have := h (x.1.1 + j) e hj
  rw [Nat.add_mul] at this
  exact this

/-- What a store into the box behind an append comes to. -/
theorem boxed_app {W w1 : World} {n₀ B : Nat} {t e : TypeId} {size : Nat} {v v' : Value} {k m : Nat} {xs ys : List Value}
    (hv : Boxed W B t v) (hte : t ≠ e) (hrow : W.ownsRow n₀ e size v k xs) (hn₀ : n₀ ≤ W.heap.size) (hB : n₀ ≤ B)
    (hown' : w1.ownsRow n₀ e size v' m ys) (hgrow : W.grownBy w1 v.ownBlock) :
    Boxed w1 B t v ∧ Boxed (w1.setCell ⟨B, 0, none⟩ v') B t v' ∧ (w1.setCell ⟨B, 0, none⟩ v').ownsRow n₀ e size v' m ys ∧ KeepsOthers W (w1.setCell ⟨B, 0, none⟩ v') ∧ Below n₀ W (w1.setCell ⟨B, 0, none⟩ v') := by
  have hv1 : Boxed w1 B t v := hv.kept hgrow (hv.not_row hte hrow)
  refine ⟨hv1, hv1.set v', hown'.kept (grownBy_setCell' w1 B v') (.inr (hv1.not_row hte hown').symm), ?_, ?_⟩
  · refine (KeepsOthers.of_grownBy hgrow fun j o ej hj => ?_).trans (KeepsOthers.setCell _ _ _)
    rcases hrow.2 with ⟨rfl, _⟩ | ⟨g, cap, cur, rfl, _, hgb, _⟩
    · simp [Value.ownBlock] at ej
    · obtain rfl : g = j := by simpa [Value.ownBlock] using ej
      rw [hgb] at hj; cases hj; rfl
  · refine ((Below.refl n₀ W).grown hgrow hn₀ fun j ej => ?_).setCell (p := ⟨B, 0, none⟩) hB v'
    rcases hrow.2 with ⟨rfl, _⟩ | ⟨g, cap, cur, rfl, hb, _, _⟩
    · simp [Value.ownBlock] at ej
    · obtain rfl : g = j := by simpa [Value.ownBlock] using ej
      exact hb

theorem keeps_below {W W' : World} (h : Below W.heap.size W W') : KeepsOthers W W' :=
  ⟨h.size, fun k _ hk _ => (h.block k (Array.getElem?_eq_some_iff.1 hk).1).trans hk⟩

def KnPost (Q : List Int) (lev : Int) (O : List En) (tb : Nat) (w : World) (e : Ending) (w' : World) : Prop :=
  e = .returned (.tuple #[]) ∧ ∃ (v' : Value) (xs : List (Nat × Nat)), Grps O xs O.length ∧ w'.heap[tb]? = some (.cells #[v', .int .i64 lev] 169 (0, 0)) ∧
    w'.ownsRow w.heap.size 58 4 v' (xs.flatMap fun p => ndOf Q (lev == 2) (grpOf O p)).length (ecells (xs.flatMap fun p => ndOf Q (lev == 2) (grpOf O p))) ∧ w.grownBy w' (some tb)

set_option maxRecDepth 100000 in
set_option maxHeartbeats 4000000 in
theorem keepNeeded_any (Q : List Int) (vQ : Value) (O : List En) (tb g cap : Nat) (lev : Int) (w : World) (hs : w.heap[tb]? = some (.cells #[.slice (some ⟨g, 0, none⟩) O.length cap, .int .i64 lev] 169 (0, 0))) (hO : EnAt w g O) (hg : g < w.heap.size) (hcap : O.length ≤ cap) (hfew : O.length < 100000000) (hsO : Sorted O) (hQ : IntRow w vQ Q) (h4 : Q.length ≤ 4) :
    Calls Tryz.prog 140 #[.pointer (some ⟨tb, 0, none⟩), vQ] w fun e w' => KnPost Q lev O tb w e w' := by
  obtain ⟨i0, hi, hz0, hz1, hz2⟩ := info_parts Tryz.info58
  have htb : tb < w.heap.size := lt_of_block hs
  have t0 : w.cell? ⟨tb, 0, none⟩ = some (.slice (some ⟨g, 0, none⟩) O.length cap) := by simp [World.cell?, hs]
  have HQ : Hid (IntRow w vQ Q) := hQ
  obtain ⟨aoQ, capQ, rfl, _⟩ := hQ
  have HS : Hid (w.heap[tb]? = some (.cells #[.slice (some ⟨g, 0, none⟩) O.length cap, .int .i64 lev] 169 (0, 0))) := hs
  have HO : Hid (EnAt w g O) := hO
  have HSO : Hid (Sorted O) := hsO
  have hb3 : Below w.heap.size w (((w.alloc (.cells #[.pointer (some ⟨tb, 0, none⟩)] 218)).alloc (.cells #[.slice aoQ Q.length capQ] 67)).alloc (.cells #[.slice none 0 0] 54)) := (((Below.refl _ _).alloc (Nat.le_refl _) _).alloc (by simp) _).alloc (by simp; omega) _
  have t3 := cell_later hb3 t0
  clear hs hO hsO hb3
  refine (callsIn_wide (n := 5)).1 ?_
  refine callsIn_of_wp_marks Tryz.func140 rfl trivial ?_ rfl
  simp only [Tryz.ntmps140, List.size_toArray, List.length_cons, List.length_nil, Nat.reduceAdd, Nat.reduceSub, Array.replicate_succ, Array.replicate_zero, List.push_toArray, List.append_toArray, List.nil_append, List.cons_append]
  gi_wp2_with (refine ⟨trivial, ?_⟩; gi_at_call 181; refine (eachKey_in _ _ _ _ _).mono ?_; rintro e w' ⟨rfl, rfl⟩)
  obtain ⟨last, hlast⟩ : ∃ last, (lev == 2) = last := ⟨_, rfl⟩
  have HLAST : Hid ((lev == 2) = last) := hlast
  clear hlast
  obtain ⟨W0, hW0⟩ : ∃ W0, (w.alloc (.cells #[.pointer (some ⟨tb, 0, none⟩)] 218)).alloc (.cells #[.slice aoQ Q.length capQ] 67) = W0 := ⟨_, rfl⟩
  have hz : W0.heap.size = w.heap.size + 2 := by rw [← hW0]; simp
  have hbw : Below w.heap.size w W0 := by rw [← hW0]; exact ((Below.refl _ _).alloc (Nat.le_refl _) _).alloc (by simp) _
  have bx0 : W0.cell? ⟨w.heap.size, 0, none⟩ = some (.pointer (some ⟨tb, 0, none⟩)) := by rw [← hW0]; simp
  have bx1 : W0.cell? ⟨w.heap.size + 1, 0, none⟩ = some (.slice aoQ Q.length capQ) := by rw [← hW0]; simp
  have bO := Boxed.new W0 54 (.slice none 0 0)
  have bN := Boxed.new (W0.alloc (.cells #[.slice none 0 0] 54)) 54 (.slice (some ⟨g, 0, none⟩) O.length cap)
  rw [World.size_alloc, hz] at bN
  rw [hz] at bO
  have hB0 : Below (w.heap.size + 2) W0 ((W0.alloc (.cells #[.slice none 0 0] 54)).alloc (.cells #[.slice (some ⟨g, 0, none⟩) O.length cap] 54)) := ((Below.refl _ _).alloc (by omega) _).alloc (by simp; omega) _
  have HO4 : EnAt ((W0.alloc (.cells #[.slice none 0 0] 54)).alloc (.cells #[.slice (some ⟨g, 0, none⟩) O.length cap] 54)) g O := (HO.out.below hbw).below (by rw [hz]; exact hB0)
  have hz4 : ((W0.alloc (.cells #[.slice none 0 0] 54)).alloc (.cells #[.slice (some ⟨g, 0, none⟩) O.length cap] 54)).heap.size = w.heap.size + 4 := by simp [hz]
  rw [hW0]
  generalize hW4 : (W0.alloc (.cells #[.slice none 0 0] 54)).alloc (.cells #[.slice (some ⟨g, 0, none⟩) O.length cap] 54) = W4 at bN hB0 HO4 hz4 ⊢
  have bO4 : Boxed W4 (w.heap.size + 2) 54 (.slice none 0 0) := by rw [← hW4]; exact bO.alloc _
  have HW0 : Hid (Below w.heap.size w W0 ∧ W0.cell? ⟨w.heap.size, 0, none⟩ = some (.pointer (some ⟨tb, 0, none⟩)) ∧ W0.cell? ⟨w.heap.size + 1, 0, none⟩ = some (.slice aoQ Q.length capQ)) := ⟨hbw, bx0, bx1⟩
  have HZ : Hid (W0.heap.size = w.heap.size + 2) := hz
  clear hW0 hW4 bO bx0 bx1 hbw hz t3 t0
  refine wpIn_rangeFunc_ownF rfl (by omega) (gf := 206) (lb := #[.pointer (some ⟨w.heap.size + 1 + 1 + 1, 0, none⟩)]) rfl trivial (enters_of Tryz.func206 (by kernel_rfl) rfl)
    (eachKey_stops 4 (by omega) (w.heap.size + 1 + 1 + 1) (w.heap.size + 2) g cap O W4 (by omega) (by omega) hcap (by omega) bN.cell HO4) belowK_t (belowK_b (by omega)) (Below.refl _ _) (fun _ => rfl)
    (fun pre W => (∃ v, Boxed W (w.heap.size + 2) 54 v ∧ W.ownsRow (w.heap.size + 2) 58 4 v (flatG Q last O pre).length (ecells (flatG Q last O pre)) ∧ True) ∧ Below (w.heap.size + 2) W0 W)
    (fun _ _ _ => False)
    (OwnFrom.and (Own.from (holdsRow_own (w.heap.size + 2) (w.heap.size + 2) 54 58 4 (fun pre => (flatG Q last O pre).length) (fun pre => ecells (flatG Q last O pre)) (fun _ _ => True)) _) (ownFrom_below (by have := HZ.out; omega) (by omega)))
    (fun _ _ _ _ _ hs _ _ => hs)
    ⟨⟨_, bO4, World.ownsRow_nil _ _ _ _, trivial⟩, hB0⟩
    (fun x => { tmps := #[.pointer (some ⟨tb, 0, none⟩), .slice aoQ Q.length capQ, .pointer (some ⟨w.heap.size, 0, none⟩), .pointer (some ⟨w.heap.size + 1, 0, none⟩), .pointer (some ⟨w.heap.size + 1 + 1, 0, none⟩), .slice (some ⟨g, x.1.1 * 4, none⟩) x.1.2 (cap - x.1.1), undef, .pointer (some ⟨tb, 0, none⟩), .pointer (some ⟨tb, 0, none⟩), .pointer (some ⟨tb, 0, none⟩), .pointer (some ⟨tb, 0, none⟩), .slice (some ⟨g, 0, none⟩) O.length cap, .func (.func 206) #[] #[.pointer (some ⟨w.heap.size + 1 + 1 + 1, 0, none⟩)], .slice (some ⟨g, x.1.1 * 4, none⟩) x.1.2 (cap - x.1.1), undef, undef, undef, undef, undef, undef, undef, undef, undef, undef, undef, undef, undef, undef, undef, undef, undef, undef], defers := [] }) ?assign ?body ?done ?stop
  case assign =>
    intro l x W K hK
    gi_wp2
    exact hK
  case body =>
    rintro l pre x W ⟨⟨v, hv, hrow, _⟩, hB⟩ hlt
    have HB : Hid (Below (w.heap.size + 2) W0 W) := hB
    have hsz : w.heap.size + 2 ≤ W.heap.size := by have := hB.size; rw [HZ.out] at this; exact this
    have hBw : Below w.heap.size w W := HW0.out.1.trans (hB.mono (by omega))
    have y0 : W.cell? ⟨w.heap.size, 0, none⟩ = some (.pointer (some ⟨tb, 0, none⟩)) := (hB.cell (p := ⟨w.heap.size, 0, none⟩) (by simp)).trans HW0.out.2.1
    have y1 : W.cell? ⟨w.heap.size + 1, 0, none⟩ = some (.slice aoQ Q.length capQ) := (hB.cell (p := ⟨w.heap.size + 1, 0, none⟩) (by simp)).trans HW0.out.2.2
    have hx1 := x.2.1
    have hx2 := x.2.2.1
    have SB : Hid (Calls Tryz.prog 182 #[.slice (some ⟨g, x.1.1 * 4, none⟩) x.1.2 (cap - x.1.1), .slice aoQ Q.length capQ] W fun e w' => SbsPost Q (grpOf O x.1) W e w') := by
      have := seenBySome_any Q (.slice aoQ Q.length capQ) (grpOf O x.1) g (x.1.1 * 4) (cap - x.1.1) W (grp_sl (HO.out.below hBw) x) (by rw [grp_len]; omega) (by rw [grp_len]; omega) (by rw [grp_len]; omega) (HQ.out.below hBw) (by omega)
      rw [grp_len] at this
      exact this
    have HBw : Hid (Below w.heap.size w W) := hBw
    have HGL : Hid (1 ≤ (grpOf O x.1).length) := by rw [grp_len]; exact hx1
    clear hB hBw
    gi_wp2
    refine ⟨trivial, ?_⟩
    refine (CallsIn.inRound l (callsIn_wide.2 SB.out)).mono ?_
    rintro e w1 ⟨v1, rfl, ho1, hb1⟩
    obtain ⟨g1, cap1, rfl, hg1a, hg1b⟩ := ho1.form (by
      have := HGL.out
      cases hG : grpOf O x.1 with
      | nil => rw [hG] at this; simp at this
      | cons a r => simp [sbs])
    have hwt : w1.heap[tb]? = some (.cells #[.slice (some ⟨g, 0, none⟩) O.length cap, .int .i64 lev] 169 (0, 0)) := (hb1.block tb (by omega)).trans ((HBw.out.block tb htb).trans HS.out)
    have z0 := cell_later hb1 y0
    have z1 : w1.cell? ⟨tb, 1, none⟩ = some (.int .i64 lev) := by simp [World.cell?, hwt]
    have HB1 : Hid (Below W.heap.size W w1) := hb1
    have HO1 : Hid (w1.ownsRow W.heap.size 58 4 (.slice (some ⟨g1, 0, none⟩) (sbs Q (grpOf O x.1)).length cap1) (sbs Q (grpOf O x.1)).length (ecells (sbs Q (grpOf O x.1)))) := ho1
    clear ho1 hb1 SB hwt y0 y1
    by_cases hlev : lev = 2
    · have hl2 : last = true := by rw [← HLAST.out]; simp [hlev]
      have HWL : Hid (Calls Tryz.prog 183 #[.slice (some ⟨g1, 0, none⟩) (sbs Q (grpOf O x.1)).length cap1] w1 fun e w' => WlgPost (sbs Q (grpOf O x.1)) g1 cap1 w1 e w') := withoutLastGone_any _ _ g1 cap1 w1 HO1.out (by have := sbs_len Q (grpOf O x.1) (grp_desc HSO.out x.2.2.2); omega)
      rw [hlev] at z1
      gi_wp2
      refine ⟨trivial, ?_⟩
      refine (CallsIn.inRound l (callsIn_wide.2 HWL.out)).mono ?_
      rintro e w2 ⟨m, hm, hd, rfl, hb2⟩
      have HBW : Hid (Below W.heap.size W w2) := below_trans' HB1.out hb2
      have hml : (ndOf Q last (grpOf O x.1)).length = m := by
        rw [ndOf, hl2, if_pos rfl, hd, List.length_take, Nat.min_eq_left hm]
      have HN : Hid ((ecells (ndOf Q last (grpOf O x.1))).length = m * 4 ∧ ∀ j u, (ecells (ndOf Q last (grpOf O x.1)))[j]? = some u → w2.cell? ((⟨g1, 0, none⟩ : Addr).add j) = some u) := by
        have hh := owns_take ((Kp.of_below (B := 0) (ts := []) hb2).owns HO1.out (by simp)) m hm
        rw [← hd] at hh
        have he : ndOf Q last (grpOf O x.1) = dtg (sbs Q (grpOf O x.1)) := by rw [ndOf, hl2, if_pos rfl]
        rw [he]
        exact ⟨hh.1, hh.cells (g := g1) rfl⟩
      have hv2 : Boxed w2 (w.heap.size + 2) 54 v := (HBW.out.block _ hv.lt).trans hv
      have hrow2 : w2.ownsRow (w.heap.size + 2) 58 4 v (flatG Q last O pre).length (ecells (flatG Q last O pre)) := (Kp.of_below (B := 0) (ts := []) HBW.out).owns hrow (by simp)
      clear hb2 HWL HO1 HB1 hv hrow hd z0 z1 hl2 hlev
      obtain ⟨aoK, capK, rfl⟩ := slice_form hrow2
      have hkl := flatG_len Q last O HSO.out pre
      have hnl := ndOf_len Q last (grpOf O x.1) (grp_desc HSO.out x.2.2.2)
      have hmul : pre.length * (Q.length + 1) ≤ pre.length * 5 := Nat.mul_le_mul_left _ (by omega)
      have hbx : w2.cell? ⟨w.heap.size + 1 + 1, 0, none⟩ = some (.slice aoK (flatG Q last O pre).length capK) := hv2.cell
      have hLN : w.heap.size + 2 ≤ w2.heap.size := Nat.le_trans hsz HBW.out.size
      have hk5 := Nat.le_trans hkl hmul
      have b1 : (flatG Q last O pre).length + m ≤ maxLen := by unfold maxLen; omega
      have b2 : ((flatG Q last O pre).length + m) * 48 ≤ 140737488355328 := by omega
      have hone : ∀ u ∈ ecells (ndOf Q last (grpOf O x.1)), u.oneCell' = true := fun u hu => by
        obtain ⟨y, _, hy⟩ := List.mem_flatMap.1 hu
        exact entry_one y u hy
      clear hkl hmul hk5 hnl
      gi_wp2_with (gi_at_builtin; refine wpListIn_append_own _ rfl _ _ 54 rfl (w.heap.size + 2) 58 i0 _ 4 48 Tryz.underlying54 hi hz0 hz1 hz2 rfl (by decide) _ _ _ rfl hrow2 ⟨g1, 0, none⟩ _ cap1 (ecells (ndOf Q last (grpOf O x.1))) rfl HN.out.1 (by exact HN.out.2) hone b1 b2 hLN ?_)
      intro v' w3 hown' hgrow _
      obtain ⟨ao3, cap3, rfl⟩ := slice_form hown'
      obtain ⟨hv3, hv4, hr4, hk4, hb4⟩ := boxed_app hv2 (by decide) hrow2 hLN (by omega) hown' hgrow
      have hc3 : w3.cell? ⟨w.heap.size + 1 + 1, 0, none⟩ = some (.slice aoK (flatG Q last O pre).length capK) := hv3.cell
      have hf3 : w3.frozen? ⟨w.heap.size + 1 + 1, 0, none⟩ = false := hv3.frozen
      have FIN : Hid _ := And.intro hv4 (And.intro hr4 (And.intro hk4 hb4))
      clear hown' hgrow hv3 hv4 hr4 hk4 hb4
      gi_wp2
      refine ⟨((keeps_below HBW.out).trans FIN.out.2.2.1), (HBW.out.mono hsz).trans FIN.out.2.2.2, ⟨_, FIN.out.1, ?_, trivial⟩, (HB.out.trans (HBW.out.mono hsz)).trans FIN.out.2.2.2⟩
      rw [flatG_snoc, List.length_append]
      have e : ecells (flatG Q last O pre ++ ndOf Q last (grpOf O x.1)) = ecells (flatG Q last O pre) ++ ecells (ndOf Q last (grpOf O x.1)) := by simp [ecells]
      rw [e, hml]
      exact FIN.out.2.1
    · have hl2 : last = false := by rw [← HLAST.out]; simp [hlev]
      have hne : decide (lev = 2) = false := by simp [hlev]
      have HBW := HB1
      have HN : Hid ((ecells (ndOf Q last (grpOf O x.1))).length = (sbs Q (grpOf O x.1)).length * 4 ∧ ∀ j u, (ecells (ndOf Q last (grpOf O x.1)))[j]? = some u → w1.cell? ((⟨g1, 0, none⟩ : Addr).add j) = some u) := by
        have he : ndOf Q last (grpOf O x.1) = sbs Q (grpOf O x.1) := by rw [ndOf, hl2]; rfl
        rw [he]
        exact ⟨HO1.out.1, HO1.out.cells (g := g1) rfl⟩
      have hml : (ndOf Q last (grpOf O x.1)).length = (sbs Q (grpOf O x.1)).length := by rw [ndOf, hl2]; rfl
      generalize (sbs Q (grpOf O x.1)).length = m at HN hml
      have hv2 : Boxed w1 (w.heap.size + 2) 54 v := (HBW.out.block _ hv.lt).trans hv
      have hrow2 : w1.ownsRow (w.heap.size + 2) 58 4 v (flatG Q last O pre).length (ecells (flatG Q last O pre)) := (Kp.of_below (B := 0) (ts := []) HBW.out).owns hrow (by simp)
      clear HO1 HB1 hv hrow hl2
      obtain ⟨aoK, capK, rfl⟩ := slice_form hrow2
      have hkl := flatG_len Q last O HSO.out pre
      have hnl := ndOf_len Q last (grpOf O x.1) (grp_desc HSO.out x.2.2.2)
      have hmul : pre.length * (Q.length + 1) ≤ pre.length * 5 := Nat.mul_le_mul_left _ (by omega)
      have hbx : w1.cell? ⟨w.heap.size + 1 + 1, 0, none⟩ = some (.slice aoK (flatG Q last O pre).length capK) := hv2.cell
      have hLN : w.heap.size + 2 ≤ w1.heap.size := Nat.le_trans hsz HBW.out.size
      have hk5 := Nat.le_trans hkl hmul
      have b1 : (flatG Q last O pre).length + m ≤ maxLen := by unfold maxLen; omega
      have b2 : ((flatG Q last O pre).length + m) * 48 ≤ 140737488355328 := by omega
      have hone : ∀ u ∈ ecells (ndOf Q last (grpOf O x.1)), u.oneCell' = true := fun u hu => by
        obtain ⟨y, _, hy⟩ := List.mem_flatMap.1 hu
        exact entry_one y u hy
      clear hkl hmul hk5 hnl
      gi_wp2_with (gi_at_builtin; refine wpListIn_append_own _ rfl _ _ 54 rfl (w.heap.size + 2) 58 i0 _ 4 48 Tryz.underlying54 hi hz0 hz1 hz2 rfl (by decide) _ _ _ rfl hrow2 ⟨g1, 0, none⟩ _ cap1 (ecells (ndOf Q last (grpOf O x.1))) rfl HN.out.1 (by exact HN.out.2) hone b1 b2 hLN ?_)
      intro v' w3 hown' hgrow _
      obtain ⟨ao3, cap3, rfl⟩ := slice_form hown'
      obtain ⟨hv3, hv4, hr4, hk4, hb4⟩ := boxed_app hv2 (by decide) hrow2 hLN (by omega) hown' hgrow
      have hc3 : w3.cell? ⟨w.heap.size + 1 + 1, 0, none⟩ = some (.slice aoK (flatG Q last O pre).length capK) := hv3.cell
      have hf3 : w3.frozen? ⟨w.heap.size + 1 + 1, 0, none⟩ = false := hv3.frozen
      have FIN : Hid _ := And.intro hv4 (And.intro hr4 (And.intro hk4 hb4))
      clear hown' hgrow hv3 hv4 hr4 hk4 hb4
      gi_wp2
      refine ⟨((keeps_below HBW.out).trans FIN.out.2.2.1), (HBW.out.mono hsz).trans FIN.out.2.2.2, ⟨_, FIN.out.1, ?_, trivial⟩, (HB.out.trans (HBW.out.mono hsz)).trans FIN.out.2.2.2⟩
      rw [flatG_snoc, List.length_append]
      have e : ecells (flatG Q last O pre ++ ndOf Q last (grpOf O x.1)) = ecells (flatG Q last O pre) ++ ecells (ndOf Q last (grpOf O x.1)) := by simp [ecells]
      rw [e, hml]
      exact FIN.out.2.1
  case done =>
    rintro D ys W hD hys ⟨⟨v, hv, hrow, _⟩, hB⟩ hK
    have hsz : w.heap.size + 2 ≤ W.heap.size := by have := hB.size; rw [HZ.out] at this; exact this
    have hBw : Below w.heap.size w W := HW0.out.1.trans (hB.mono (by omega))
    have y0 : W.cell? ⟨w.heap.size, 0, none⟩ = some (.pointer (some ⟨tb, 0, none⟩)) := (hB.cell (p := ⟨w.heap.size, 0, none⟩) (by simp)).trans HW0.out.2.1
    obtain ⟨aoK, capK, rfl⟩ := slice_form hrow
    have hbx : W.cell? ⟨w.heap.size + 1 + 1, 0, none⟩ = some (.slice aoK (flatG Q last O ys).length capK) := hv.cell
    have hwt : W.heap[tb]? = some (.cells #[.slice (some ⟨g, 0, none⟩) O.length cap, .int .i64 lev] 169 (0, 0)) := (hBw.block tb htb).trans HS.out
    have q0 : W.cell? ⟨tb, 0, none⟩ = some (.slice (some ⟨g, 0, none⟩) O.length cap) := by simp [World.cell?, hwt]
    have q1 : W.frozen? ⟨tb, 0, none⟩ = false := by simp [World.frozen?, hwt]
    have FIN : Hid (KnPost Q lev O tb w (.returned (.tuple #[])) ((W.setCell ⟨tb, 0, none⟩ (.slice aoK (flatG Q last O ys).length capK)).putObj D (.deferred none))) := by
      have hDt : D ≠ tb := by omega
      have hDl : D < W.heap.size := (Array.getElem?_eq_some_iff.1 hK).1
      have hs1 := heap_setCell_same W tb 0 _ 169 (.slice aoK (flatG Q last O ys).length capK) hwt
      have hr1 : (W.setCell ⟨tb, 0, none⟩ (.slice aoK (flatG Q last O ys).length capK)).ownsRow (w.heap.size + 2) 58 4 (.slice aoK (flatG Q last O ys).length capK) (flatG Q last O ys).length (ecells (flatG Q last O ys)) :=
        hrow.kept (grownBy_setCell' W tb _) (.inr (fun e => by
          have := (hrow.lt tb e).1
          omega))
      have hK1 : (W.setCell ⟨tb, 0, none⟩ (.slice aoK (flatG Q last O ys).length capK)).heap[D]? = some (.deferred (some [])) := (Below.heap_setCell _ _ _ _ hDt).trans hK
      have hg1 : w.grownBy ((W.setCell ⟨tb, 0, none⟩ (.slice aoK (flatG Q last O ys).length capK)).putObj D (.deferred none)) (some tb) := by
        refine ⟨hBw.os, hBw.tape, hBw.output, ?_, fun k hk hne => ?_⟩
        · have := hBw.size
          simpa [World.setCell, World.putObj] using this
        · have hkt : k ≠ tb := fun e => hne (by rw [e])
          have hkD : k ≠ D := by omega
          have e1 := (grownBy_putObj' (W.setCell ⟨tb, 0, none⟩ (.slice aoK (flatG Q last O ys).length capK)) D (.deferred none)).block k (by simp [World.setCell]; omega) (by simp [hkD])
          rw [e1, Below.heap_setCell _ _ _ _ hkt]
          exact hBw.block k hk
      refine ⟨rfl, .slice aoK (flatG Q last O ys).length capK, ys.map (·.1), hys, ?_, ?_, hg1⟩
      · have e1 := (grownBy_putObj' (W.setCell ⟨tb, 0, none⟩ (.slice aoK (flatG Q last O ys).length capK)) D (.deferred none)).block tb (by simp [World.setCell]; omega) (by simp; omega)
        rw [e1, hs1]
        simp
      · rw [HLAST.out]
        exact owns_base (ownsRow_putObj hr1 _ hK1 rfl) (by omega)
    have hK2 : ∀ v, (W.setCell ⟨tb, 0, none⟩ v).heap[D]? = some (.deferred (some [])) := fun v => (Below.heap_setCell _ _ _ _ (show D ≠ tb by omega)).trans hK
    clear hrow hv hB hBw hwt hys
    gi_wp2
    refine ⟨by simp, .inl ⟨_, _, rfl, run_takeDeferred (hK2 _), ?_⟩⟩
    exact ⟨_, results_none rfl _ _ _, FIN.out⟩
  case stop =>
    rintro D c pre W _ _ h _
    exact h.elim
end Go.Proofs.YtakipjofboipmaaGreat

/- The walks of this proof: the numbers at which snapshots see; the table in memory laid down. -/
namespace Go.Proofs.YtakipjofboipmaaGreat
open Go.RowKit Go.Sort

theorem Tryz.info3 : (Tryz.prog.info? 3).map (fun i => (i.zero, i.size, i.bytes)) = some (some (.int .i64 0), 1, 8) := by kernel_rfl

def icells (Q : List Int) : List Value := Q.map fun q => .int .i64 q

theorem IntRow.of {w : World} {base : Nat} {v : Value} {Q : List Int} (h : w.ownsRow base 3 1 v Q.length (icells Q)) : IntRow w v Q := by
  obtain ⟨ao, cap, rfl⟩ := slice_form h
  refine ⟨ao, cap, rfl, fun hl => ?_⟩
  rcases h.2 with ⟨h0, _⟩ | ⟨g, cap', cur, hv, hb, hg, hnc, _⟩
  · simp only [Value.slice.injEq] at h0; omega
  · simp only [Value.slice.injEq] at hv
    obtain ⟨rfl, _, rfl⟩ := hv
    refine ⟨g, rfl, hnc, fun k q hq => ?_⟩
    have hk : k < Q.length := (List.getElem?_eq_some_iff.1 hq).1
    rw [h.cellAt k (by omega), icells, List.getElem?_map, hq]
    rfl

theorem one_int (w : World) (q : Int) (N : Nat) (hN : N = w.heap.size) : ∀ j u, [Value.int .i64 q][j]? = some u → (w.alloc (.cells #[.int .i64 q] 3)).cell? ((⟨N, 0, none⟩ : Addr).add j) = some u := by
  subst hN
  intro j u hj
  match j, hj with
  | 0, hj => simp at hj; subst hj; simp [Addr.add]
  | j + 1, hj => simp at hj

set_option maxHeartbeats 1000000 in
set_option maxRecDepth 100000 in
theorem snapSeqs_any (S : List Sn) (v : Value) (base sb : Nat) (w : World) (hl : S.length ≤ 4) (hv : w.cell? ⟨sb, 5, none⟩ = some v) (hS : w.ownsRow base 174 2 v S.length (scells S)) :
    Calls Tryz.prog 58 #[.pointer (some ⟨sb, 5, none⟩)] w fun e w' => ∃ vq, e = .returned vq ∧ IntRow w' vq (S.map (·.q)) ∧ Below w.heap.size w w' := by
  obtain ⟨i0, hi, hz0, hz1, hz2⟩ := info_parts Tryz.info3
  have hsb : sb < w.heap.size := block_lt_of_cell hv
  have HS : Hid (w.ownsRow base 174 2 v S.length (scells S)) := hS
  obtain ⟨ao, cap, rfl⟩ := slice_form hS
  have HV : Hid (w.cell? ⟨sb, 5, none⟩ = some (.slice ao S.length cap)) := hv
  clear hS
  obtain ⟨M, hM⟩ : ∃ M, madeCells (Value.int .i64 0).cells (((S.length : Nat) : Int).toNat * i0.size) = M := ⟨_, rfl⟩
  have hMs : M.size = S.length * 1 := by rw [← hM, size_madeCells, hz1]; simp
  have mk : ∀ W : World, (Instr.makeSlice 67 (.int .i64 0) (.int .i64 (S.length : Int))).run Tryz.prog W = .ok (.slice (some ⟨W.heap.size, 0, none⟩) 0 S.length) (W.alloc (.cells M 3)) := fun W => by
    have h := run_make (P := Tryz.prog) W 67 3 i0 (.int .i64 0) Tryz.underlying67 hi hz0 .i64 .i64 0 (S.length : Int) (by omega) (by omega) (by rw [hz2]; omega) (by omega)
    rw [hM] at h
    simpa using h
  have OWN0 : Hid ((w.alloc (.cells M 3)).ownsRow w.heap.size 3 1 (.slice (some ⟨w.heap.size, 0, none⟩) 0 S.length) 0 []) := World.ownsRow_made w M S.length (Nat.le_refl _) (by unfold maxLen; omega) hMs
  have B0 : Hid (Below w.heap.size w (w.alloc (.cells M 3))) := (Below.refl _ _).alloc (Nat.le_refl _) _
  have hv1 : (w.alloc (.cells M 3)).cell? ⟨sb, 5, none⟩ = some (.slice ao S.length cap) := cell_later B0.out hv
  clear hM hMs
  go_enter Tryz.func58, Tryz.ntmps58
  go_wp2
  go_loopw [3, 17] (fun s3 i wr => ∃ k : Nat, k ≤ S.length ∧ i = .int .i64 k ∧ Hid (wr.ownsRow w.heap.size 3 1 s3 k (icells ((S.take k).map (·.q)))) ∧ Hid (Below w.heap.size w wr)) (fun _ i _ => S.length - (intOf i).toNat)
  case atStart => exact ⟨0, Nat.zero_le _, rfl, OWN0.out, B0.out⟩
  case round =>
    clear OWN0 B0 mk hv1
    obtain ⟨k, hk, rfl, HO, HB⟩ := hrel
    have hsz : w.heap.size ≤ wr.heap.size := HB.out.size
    by_cases hlt : k < S.length
    · obtain ⟨g, cap', hv', hbg, hgl, hcap, hcell⟩ := row_cell (fun a => by rfl) HS.out (by omega)
      simp only [Value.slice.injEq, true_and] at hv'
      obtain ⟨rfl, rfl⟩ := hv'
      obtain ⟨s, hs⟩ : ∃ s, S[k]? = some s := ⟨_, List.getElem?_eq_getElem hlt⟩
      have c0 := cell_later HB.out (show w.cell? ⟨g, k * 2, none⟩ = some (Value.int .i64 s.n) from hcell k s 0 hs (by omega))
      have c1 := cell_later HB.out (show w.cell? ⟨g, k * 2 + 1, none⟩ = some (Value.int .i64 s.q) from hcell k s 1 hs (by omega))
      have HT : Hid (icells ((S.take (k + 1)).map (·.q)) = icells ((S.take k).map (·.q)) ++ [.int .i64 s.q]) := by
        show _ = _
        rw [List.take_add_one, hs]; simp [icells]
      have hgr : g < wr.heap.size := Nat.lt_of_lt_of_le hgl HB.out.size
      obtain ⟨ao3, cap3, rfl⟩ := slice_form HO.out
      clear hcell hs
      go_wp2_with (at_builtin; refine wpList_append_own _ rfl (.tmp 21) (.tmp 24) 67 rfl w.heap.size 3 i0 _ 1 8 Tryz.underlying67 hi hz0 hz1 hz2 rfl (by decide) _ _ _ rfl (by exact (HO.out.alloc _).alloc _) ⟨wr.heap.size + 1, 0, none⟩ 1 1 [.int .i64 s.q] rfl rfl (by exact one_int (wr.alloc _) s.q _ (by simp)) (by intro u hu; simp at hu; subst hu; rfl) (by unfold maxLen; omega) (by omega) (by simp; omega) ?_)
      intro v9 w2 ho2 hg2 _
      have HB2 : Hid (Below w.heap.size w w2) := ((HB.out.alloc HB.out.size _).alloc (by simp; omega) _).grown hg2 (by simp; omega) fun k hk => (HO.out.lt k hk).1
      have HO2 : Hid (w2.ownsRow w.heap.size 3 1 v9 (k + 1) (icells ((S.take (k + 1)).map (·.q)))) := by
        rw [HT.out]
        rw [← List.map_take] at ho2
        exact ho2
      clear ho2 hg2 HO
      go_wp2
      go_roundw
      case rel => exact ⟨k + 1, by omega, by go_num, HO2, HB2⟩
      case measure => simp [intOf]; omega
    · obtain rfl : k = S.length := by omega
      rw [List.take_of_length_le (Nat.le_refl _)] at HO
      have FIN : Hid (∀ s3, wr.ownsRow w.heap.size 3 1 s3 S.length (icells (S.map (·.q))) → IntRow wr s3 (S.map (·.q))) := fun s3 h => IntRow.of (by rw [List.length_map]; exact h)
      go_wp2
      go_ret
      exact ⟨_, rfl, FIN.out _ HO.out, HB.out⟩

set_option maxHeartbeats 400000 in
theorem hasRecords_any (x : St) (D F : Nat → Prop) (sb : Nat) (w : World) (hx : StoreAt D F sb x w) (ok : StOk x) :
    Calls Tryz.prog 56 #[.pointer (some ⟨sb, 2, none⟩)] w fun e w' => e = .returned (.bool (decide (x.B ≠ []))) ∧ w' = w := by
  obtain ⟨vE, vL, vR, vS, hB, hs, hE, hT, hR, hS⟩ := hx
  obtain ⟨ao, cap, rfl⟩ := hR.form
  have c1 : w.cell? ⟨sb, 2, none⟩ = some (.slice ao x.J.length cap) := by simp [World.cell?, hs]
  have e : decide (0 < x.J.length) = decide (x.B ≠ []) := by
    rw [decide_eq_decide]
    show 0 < (x.B.flatMap recB).length ↔ _
    cases hb : x.B with
    | nil => simp
    | cons b r =>
      have := recB_len (ok.lv.bok b (by rw [hb]; exact List.mem_cons_self))
      simp only [List.flatMap_cons, List.length_append]
      constructor
      · intro _ h; cases h
      · intro _; omega
  rw [← e]
  clear e hs hE hT hR hS
  go_enter Tryz.func56, Tryz.ntmps56
  go_wp2
  go_ret
  exact ⟨rfl, rfl⟩

/-- What Down comes to: a table in new memory. -/
def DownPost (R : List En) (w : World) (e : Ending) (w' : World) : Prop :=
  ∃ v, e = .returned (.agg #[v, .int .i64 0]) ∧ w'.ownsRow w.heap.size 58 4 v R.length (ecells R) ∧ Below w.heap.size w w'

theorem grown_below {w w' : World} {tb : Nat} (h : w.grownBy w' (some tb)) {N : Nat} (hN : N ≤ tb) (hs : N ≤ w.heap.size) : Below N w w' :=
  ⟨h.os, h.tape, h.output, h.size, fun k hk => h.block k (by omega) (fun e => by have := Option.some.inj e; omega)⟩

theorem ho2b {w2 : World} {base N n : Nat} {v : Value} {xs : List Value} (h : w2.ownsRow base 58 4 v n xs) (hne : v.ownBlock ≠ some N) (v' : Value) :
    (w2.setCell ⟨N, 0, none⟩ v').ownsRow base 58 4 v n xs ∧ ∀ u, ((w2.setCell ⟨N, 0, none⟩ v').setCell ⟨N, 1, none⟩ u).ownsRow base 58 4 v n xs := by
  have k1 : ∀ (W : World) (o : Nat) (u : Value), W.ownsRow base 58 4 v n xs → (W.setCell ⟨N, o, none⟩ u).ownsRow base 58 4 v n xs := fun W o u hW => by
    refine ⟨hW.1, ?_⟩
    rcases hW.2 with h0 | ⟨g, cap, cur, rfl, hb, hg, r⟩
    · exact .inl h0
    · refine .inr ⟨g, cap, cur, rfl, hb, ?_, r⟩
      rw [Below.heap_setCell _ _ _ _ (fun e => hne (by subst e; rfl))]
      exact hg
  exact ⟨k1 _ _ _ h, fun u => k1 _ _ _ (k1 _ _ _ h)⟩

set_option maxHeartbeats 1000000 in
theorem down_any (Q : List Int) (vQ : Value) (O : List En) (sb g cap : Nat) (w : World) (hc : w.cell? ⟨sb, 0, none⟩ = some (.slice (some ⟨g, 0, none⟩) O.length cap)) (hO : EnAt w g O) (hg : g < w.heap.size) (hcap : O.length ≤ cap) (hfew : O.length < 100000000) (hsO : Sorted O) (hQ : IntRow w vQ Q) (h4 : Q.length ≤ 4) :
    Calls Tryz.prog 94 #[.pointer (some ⟨sb, 0, none⟩), vQ] w fun e w' => DownPost (ndAll Q false O) w e w' := by
  have hsb : sb < w.heap.size := block_lt_of_cell hc
  obtain ⟨W, hW⟩ : ∃ W, (w.alloc (.cells #[.slice none 0 0, .int .i64 0] 169)).alloc (.cells #[.slice (some ⟨g, 0, none⟩) O.length cap, .int .i64 0] 169) = W := ⟨_, rfl⟩
  have hbW : Below w.heap.size w W := by rw [← hW]; exact ((Below.refl _ _).alloc (Nat.le_refl _) _).alloc (by simp) _
  have hWs : W.heap.size = w.heap.size + 2 := by rw [← hW]; simp
  have hWt : W.heap[w.heap.size + 1]? = some (.cells #[.slice (some ⟨g, 0, none⟩) O.length cap, .int .i64 0] 169 (0, 0)) := by
    rw [← hW]
    have := heap_alloc_new (w.alloc (.cells #[.slice none 0 0, .int .i64 0] 169)) (.cells #[.slice (some ⟨g, 0, none⟩) O.length cap, .int .i64 0] 169)
    simpa using this
  have hW0 : W.heap[w.heap.size]? = some (.cells #[.slice none 0 0, .int .i64 0] 169 (0, 0)) := by
    rw [← hW, Below.heap_alloc _ _ _ (by simp)]
    exact heap_alloc_new w _
  have HK : Hid _ := keepNeeded_any Q vQ O (w.heap.size + 1) g cap 0 W hWt (hO.below hbW) (by omega) hcap hfew hsO (hQ.below hbW) h4
  have HW : Hid ((w.alloc (.cells #[.slice none 0 0, .int .i64 0] 169)).alloc (.cells #[.slice (some ⟨g, 0, none⟩) O.length cap, .int .i64 0] 169) = W) := hW
  have HB : Hid (Below w.heap.size w W ∧ W.heap.size = w.heap.size + 2 ∧ W.heap[w.heap.size]? = some (.cells #[.slice none 0 0, .int .i64 0] 169 (0, 0))) := ⟨hbW, hWs, hW0⟩
  have cc := cell_later ((Below.refl _ w).alloc (Nat.le_refl _) (.cells #[.slice none 0 0, .int .i64 0] 169)) hc
  obtain ⟨aoQ, capQ, rfl, _⟩ := hQ
  clear hO hW hbW hWs hWt hW0
  go_enter Tryz.func94, Tryz.ntmps94
  go_wp2_with fail
  rw [HW.out]
  refine Calls.mono HK.out ?_
  rintro e w2 ⟨rfl, v', xs, hgs, hs2, ho2, hg2⟩
  obtain ⟨b1, b2, b3⟩ := HB.out
  have h20 : w2.heap[w.heap.size]? = some (.cells #[.slice none 0 0, .int .i64 0] 169 (0, 0)) := (hg2.block _ (by omega) (fun e => by have := Option.some.inj e; omega)).trans b3
  have hbl : Below w.heap.size w w2 := b1.trans (grown_below hg2 (by omega) (by omega))
  have hz : (xs.flatMap fun p => ndOf Q ((0 : Int) == 2) (grpOf O p)) = ndAll Q false O := ndAll_all Q false hgs
  rw [hz] at ho2
  have HO : Hid (w2.ownsRow w.heap.size 58 4 v' (ndAll Q false O).length (ecells (ndAll Q false O))) := owns_base ho2 (by omega)
  have HBL : Hid (Below w.heap.size w w2) := hbl
  have c0 : w2.cell? ⟨w.heap.size + 1, 0, none⟩ = some v' := by simp [World.cell?, hs2]
  have c1 : w2.cell? ⟨w.heap.size + 1, 1, none⟩ = some (.int .i64 0) := by simp [World.cell?, hs2]
  have d0 : w2.cell? ⟨w.heap.size, 0, none⟩ = some (.slice none 0 0) := by simp [World.cell?, h20]
  have d1 : w2.cell? ⟨w.heap.size, 1, none⟩ = some (.int .i64 0) := by simp [World.cell?, h20]
  have f0 : w2.frozen? ⟨w.heap.size, 0, none⟩ = false := by simp [World.frozen?, h20]
  have f1 : w2.frozen? ⟨w.heap.size, 1, none⟩ = false := by simp [World.frozen?, h20]
  have FIN : Hid (∀ u, ((w2.setCell ⟨w.heap.size, 0, none⟩ v').setCell ⟨w.heap.size, 1, none⟩ u).ownsRow w.heap.size 58 4 v' (ndAll Q false O).length (ecells (ndAll Q false O)) ∧ Below w.heap.size w ((w2.setCell ⟨w.heap.size, 0, none⟩ v').setCell ⟨w.heap.size, 1, none⟩ u)) := fun u => by
    have hne : v'.ownBlock ≠ some w.heap.size := fun e => by have := (ho2.lt _ e).1; omega
    exact ⟨(ho2b HO.out hne v').2 u, (hbl.setCell (Nat.le_refl _) _).setCell (Nat.le_refl _) _⟩
  obtain ⟨aov, capv, rfl⟩ := slice_form ho2
  clear hgs hs2 ho2 hg2 b1 b2 b3 h20 hbl hz HB HK
  go_wp2
  exact bodyPost_ret (v := .agg #[.slice aov (ndAll Q false O).length capv, .int .i64 0]) (by simp [results, Tryz.results94, go_sem, d0, d1]) rfl ⟨_, rfl, FIN.out _⟩
end Go.Proofs.YtakipjofboipmaaGreat
