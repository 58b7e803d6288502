/- The walks of this proof: without the deletions at the end. -/
import Derived.Test.YtakipjofboipmaaGreatJ6
import Derived.RangeFuncBox
import Derived.RangeFuncLeaves
import Derived.Shelf.Abstract
import Derived.WalkKit
import Derived.OwnWalkIn
import Derived.TacticsInMore
import Derived.LoopNIn
import Derived.LoopIn
import Derived.Maps.AppendAt
import Derived.Sort.QuietIn
import Derived.Sort.LoopGhostIn
import Derived.RangeFuncFrom
import Derived.RangeFuncCalls
import Derived.Deep.RegionHeld
namespace Go.Proofs.YtakipjofboipmaaGreat
open Go.RowKit Go.Sort

def WlgPost (L : List En) (g cap : Nat) (w : World) (e : Ending) (w' : World) : Prop :=
  ∃ m : Nat, m ≤ L.length ∧ dtg L = L.take m ∧ e = .returned (.slice (some ⟨g, 0, none⟩) m cap) ∧ Below w.heap.size w w'

set_option maxHeartbeats 1000000 in
set_option maxRecDepth 100000 in
theorem withoutLastGone_any (L : List En) (base g cap : Nat) (w : World) (h : w.ownsRow base 58 4 (.slice (some ⟨g, 0, none⟩) L.length cap) L.length (ecells L)) (hl : L.length ≤ 1000000) :
    Calls Tryz.prog 183 #[.slice (some ⟨g, 0, none⟩) L.length cap] w fun e w' => WlgPost L g cap w e w' := by
  have hlc : L.length ≤ cap := by
    rcases h.2 with ⟨h0, _⟩ | ⟨g', cap', cur, hv, hb, hg, hnc, hcm, hsz, ht⟩
    · cases h0
    · simp only [Value.slice.injEq, true_and] at hv; omega
  have HC : Hid (∀ (j : Nat) e, L[j]? = some e → w.cell? ⟨g, j * 4 + 2, none⟩ = some (.bool e.g)) := fun j e he => by
    obtain ⟨g', cap', hv, _, _, _, hcell⟩ := row_cell (fun a => by rfl) h (by have := (List.getElem?_eq_some_iff.1 he).1; omega)
    simp only [Value.slice.injEq, Option.some.injEq, Addr.mk.injEq, true_and] at hv
    obtain ⟨⟨rfl, _⟩, rfl⟩ := hv
    exact hcell j e 2 he (by omega)
  clear h
  go_enter Tryz.func183, Tryz.ntmps183
  go_wp2
  go_loopg [0] L.length (fun kx s0 wr => ∃ m : Nat, m ≤ L.length ∧ m ≤ kx ∧ s0 = .slice (some ⟨g, 0, none⟩) m cap ∧ wr = w ∧ Hid (dtg (L.take m) = dtg L))
  case atStart => exact ⟨L.length, Nat.le_refl _, Nat.le_refl _, rfl, rfl, by rw [List.take_of_length_le (Nat.le_refl _)]; rfl⟩
  case round =>
    obtain ⟨m, hm, hkx, rfl, rfl, HD⟩ := hrel
    cases m with
    | zero =>
      have HE : Hid (dtg L = L.take 0) := by show _ = _; rw [← HD.out, List.take_zero]; rfl
      go_wp2
      go_ret
      exact ⟨0, Nat.zero_le _, HE.out, rfl, Below.refl _ _⟩
    | succ m =>
      obtain ⟨e, he⟩ : ∃ e, L[m]? = some e := ⟨_, List.getElem?_eq_getElem (by omega)⟩
      have c2 := HC.out m e he
      have HT : Hid (dtg (L.take (m + 1)) = if e.g then dtg (L.take m) else L.take (m + 1)) := dtg_take L m e he
      have hmm : (((m + 1 : Nat) : Int) - 1) = (m : Int) := by omega
      have hmc : m ≤ cap := by omega
      clear he
      cases hg : e.g with
      | true =>
        rw [hg] at c2 HT
        clear hg
        go_wp2
        go_roundg m
        case measure => omega
        case rel => exact ⟨m, by omega, Nat.le_refl _, by first | rfl | simp, by first | rfl | trivial, by rw [← HD.out, HT.out]; rfl⟩
      | false =>
        rw [hg] at c2 HT
        clear hg
        go_wp2
        go_ret
        exact ⟨m + 1, hm, by rw [← HD.out, HT.out]; rfl, rfl, Below.refl _ _⟩
end Go.Proofs.YtakipjofboipmaaGreat

/- The walks of this proof: the iterator that goes through entries key by key. -/
namespace Go.Proofs.YtakipjofboipmaaGreat
open Go.RowKit Go.Shelf

attribute [local go_sem] Oper.semAt_some

/-- Some entries of one key, one behind the other. -/
abbrev Grp (O : List En) : Type := { p : Nat × Nat // 0 < p.2 ∧ p.1 + p.2 ≤ O.length ∧ ∀ j a b, j < p.2 → O[p.1]? = some a → O[p.1 + j]? = some b → b.k = a.k }

theorem grown_drewN (w : World) (d : Nat) : w.grownBy (w.drewN d) none := ⟨rfl, rfl, rfl, Nat.le_refl _, fun _ _ _ => rfl⟩

set_option maxRecDepth 100000 in
set_option maxHeartbeats 2000000 in
theorem eachKey1_in (n : Nat) (hn : 1 ≤ n) (l Bn n₀ g cap : Nat) (O : List En) (hg : g < n₀) (hcap : O.length ≤ cap) (hfew : O.length < 1000000000) (J Jx : List (Grp O) → World → Prop) (B : Nat) (hJ : AbidesFrom B J)
    (hY : ∀ pre x W, J pre W → pre.length < O.length → YieldAt Fence.wide (n - 1) Tryz.prog l #[.slice (some ⟨g, x.1.1 * 4, none⟩) x.1.2 (cap - x.1.1)] W fun e W' =>
      (e = .returned (.bool true) ∧ J (pre ++ [x]) W' ∧ Below n₀ W W') ∨ (e = .returned (.bool false) ∧ Jx (pre ++ [x]) W'))
    (W : World) (hBn : W.cell? ⟨Bn, 0, none⟩ = some (.slice (some ⟨g, 0, none⟩) O.length cap)) (hO : EnAt W g O) (h0 : J [] W) :
    CallsIn Fence.wide n Tryz.prog 206 #[.func (.yield l) #[] #[], .pointer (some ⟨Bn, 0, none⟩)] W fun e W' => (∃ v, e = .returned v) ∧
      ((∃ ys : List (Grp O), Grps O (ys.map (·.1)) O.length ∧ J ys W') ∨ (∃ pre : List (Grp O), True ∧ Jx pre W')) := by
  have HO : Hid (EnAt W g O) := hO
  have HY : Hid _ := hY
  have HJ : Hid (AbidesFrom B J) := hJ
  clear hO hY hJ
  refine callsIn_of_wp Tryz.func206 rfl trivial ?_ rfl
  simp only [Tryz.ntmps206, List.size_toArray, List.length_cons, List.length_nil, Nat.reduceAdd, Nat.reduceSub, Array.replicate_succ, Array.replicate_zero, List.push_toArray, List.append_toArray, List.nil_append, List.cons_append]
  gi_wp2
  gi_loopg [3] O.length (fun kx s3 wr => ∃ (i oi : Nat) (pre : List (Grp O)), i ≤ O.length ∧ O.length - i ≤ kx ∧ s3 = .slice (some ⟨g, oi, none⟩) (O.length - i) (cap - i) ∧ (i < O.length → oi = i * 4) ∧ Hid (Grps O (pre.map (·.1)) i) ∧ Hid (J pre wr) ∧ Hid (Below n₀ W wr))
  case atStart => exact ⟨0, 0, [], Nat.zero_le _, by omega, rfl, fun _ => rfl, Grps.nil, h0, Below.refl _ _⟩
  case round =>
    obtain ⟨i, oi, pre, hi, hkx, rfl, hoi, HG, HJs, HB⟩ := hrel
    by_cases hlt : i < O.length
    · obtain rfl := hoi hlt
      clear hoi
      obtain ⟨a, ha⟩ : ∃ a, O[i]? = some a := ⟨_, List.getElem?_eq_getElem hlt⟩
      have HA : Hid (O[i]? = some a) := ha
      have HC : Hid (∀ (j : Nat) e, O[i + j]? = some e → wr.cell? ⟨g, i * 4 + j * 4, none⟩ = some (.string e.k)) := fun j e he => by
        rw [← Nat.add_mul]
        exact (HB.out.cell (p := ⟨g, (i + j) * 4, none⟩) hg).trans (HO.out (i + j) e he).1
      have c0 : wr.cell? ⟨g, i * 4, none⟩ = some (.string a.k) := by simpa using HC.out 0 a (by simpa using ha)
      have hpos : 0 < O.length - i := by omega
      clear ha
      gi_wp2
      gi_loopg [4] O.length (fun ky s4 wi => ∃ (m d : Nat), 1 ≤ m ∧ i + m ≤ O.length ∧ O.length - m ≤ ky ∧ s4 = .int .i64 m ∧ wi = wr.drewN d ∧ Hid (∀ j b, j < m → O[i + j]? = some b → b.k = a.k))
      case atStart =>
        refine ⟨1, 0, Nat.le_refl _, by omega, by omega, rfl, rfl, fun j b hj hb => ?_⟩
        have hj0 : j = 0 := by omega
        subst hj0
        rw [Nat.add_zero, HA.out] at hb
        cases hb
        rfl
      case round =>
        obtain ⟨m, d, hm1, him, hky, rfl, rfl, HK⟩ := hrel
        have HGR : Hid (∀ j x y, j < m → O[i]? = some x → O[i + j]? = some y → y.k = x.k) := fun j x y hj hx hy => by
          rw [HA.out] at hx
          cases hx
          exact HK.out j y hj hy
        by_cases hlm : i + m < O.length
        · obtain ⟨e, he⟩ : ∃ e, O[i + m]? = some e := ⟨_, List.getElem?_eq_getElem hlm⟩
          have c1 : wr.cell? ⟨g, i * 4 + m * 4, none⟩ = some (.string e.k) := HC.out m e he
          have hd1 : decide ((m : Int) < ((O.length - i : Nat) : Int)) = true := by simp; omega
          have hml : (m : Int) < ((O.length - i : Nat) : Int) := by omega
          have hmn : m < O.length - i := by omega
          by_cases hek : e.k = a.k
          · rw [hek] at c1
            have HK2 : Hid (∀ j b, j < m + 1 → O[i + j]? = some b → b.k = a.k) := fun j b hj hb => by
              by_cases hjm : j = m
              · subst hjm; rw [he] at hb; cases hb; exact hek
              · exact HK.out j b (by omega) hb
            have hee : (a.k.toList == a.k.toList) = true := by simp
            clear he hek
            gi_wp2
            gi_quiet (fail)
            gi_wp2
            gi_roundg (O.length - (m + 1))
            case measure => omega
            case rel => exact ⟨m + 1, _, by omega, by omega, by omega, by go_num, rfl, HK2⟩
          · have hee := str_ne hek
            have HISG : Hid (IsGrp O i m) := ⟨by omega, by omega, HGR.out, fun x y hx hy => by
              rw [HA.out] at hx
              rw [he] at hy
              cases hx
              cases hy
              exact hek⟩
            clear he hek
            gi_wp2
            gi_quiet (fail)
            generalize hWq : (wr.drewN d).drewN _ = Wq
            have HJq : J pre Wq := by rw [← hWq]; exact HJ.out _ _ _ none (HJ.out _ _ _ none HJs.out (grown_drewN _ _) (fun _ h => by cases h)) (grown_drewN _ _) (fun _ h => by cases h)
            have HBq : Hid (Below n₀ W Wq) := by rw [← hWq]; exact ⟨HB.out.os, HB.out.tape, HB.out.output, HB.out.size, HB.out.block⟩
            obtain ⟨fn, tmps, assign, body, hy, hR⟩ := HY.out pre ⟨(i, m), by omega, by omega, HGR.out⟩ Wq HJq (by have := HG.out.len.1; rw [List.length_map] at this; omega)
            dsimp only at hy hR
            clear hWq HJq
            gi_wp2
            refine hR.mono ?_
            rintro e W3 (⟨rfl, hJ3, hk3⟩ | ⟨rfl, hJx3⟩)
            · have HJ3 : Hid (J (pre ++ [⟨(i, m), by omega, by omega, HGR.out⟩]) W3) := hJ3
              have HB3 : Hid (Below n₀ W W3) := HBq.out.trans hk3
              have HG3 : Hid (Grps O ((pre ++ [(⟨(i, m), by omega, by omega, HGR.out⟩ : Grp O)]).map (·.1)) (i + m)) := by
                rw [List.map_append]
                exact Grps.snoc HG.out HISG.out
              clear hJ3 hk3 hR hy
              by_cases hcm : cap - i = m
              · gi_wp2
                gi_roundg (O.length - (i + m))
                case measure => omega
                case rel => exact ⟨i + m, i * 4, _, by omega, Nat.le_refl _, by first | rfl | (congr 1 <;> omega), fun h => by omega, HG3, HJ3, HB3⟩
              · gi_wp2
                gi_roundg (O.length - (i + m))
                case measure => omega
                case rel => exact ⟨i + m, i * 4 + m * 4, _, by omega, Nat.le_refl _, by first | rfl | (congr 1 <;> omega), fun h => by omega, HG3, HJ3, HB3⟩
            · gi_wp2
              refine bodyPost_ret (results_none rfl _ _ _) rfl ?_
              exact ⟨⟨_, rfl⟩, .inr ⟨_, trivial, hJx3⟩⟩
        · have hmO : i + m = O.length := by omega
          have hmO' : O.length - i = m := by omega
          have hd1 : decide ((m : Int) < ((O.length - i : Nat) : Int)) = false := by simp; omega
          have hml : ¬ (m : Int) < ((O.length - i : Nat) : Int) := by omega
          have HISG : Hid (IsGrp O i m) := ⟨by omega, by omega, HGR.out, fun x y hx hy => by have := (List.getElem?_eq_some_iff.1 hy).1; omega⟩
          gi_wp2
          gi_quiet (fail)
          generalize hWq : (wr.drewN d).drewN _ = Wq
          have HJq : J pre Wq := by rw [← hWq]; exact HJ.out _ _ _ none (HJ.out _ _ _ none HJs.out (grown_drewN _ _) (fun _ h => by cases h)) (grown_drewN _ _) (fun _ h => by cases h)
          have HBq : Hid (Below n₀ W Wq) := by rw [← hWq]; exact ⟨HB.out.os, HB.out.tape, HB.out.output, HB.out.size, HB.out.block⟩
          obtain ⟨fn, tmps, assign, body, hy, hR⟩ := HY.out pre ⟨(i, m), by omega, by omega, HGR.out⟩ Wq HJq (by have := HG.out.len.1; rw [List.length_map] at this; omega)
          dsimp only at hy hR
          clear hWq HJq
          gi_wp2
          refine hR.mono ?_
          rintro e W3 (⟨rfl, hJ3, hk3⟩ | ⟨rfl, hJx3⟩)
          · have HJ3 : Hid (J (pre ++ [⟨(i, m), by omega, by omega, HGR.out⟩]) W3) := hJ3
            have HB3 : Hid (Below n₀ W W3) := HBq.out.trans hk3
            have HG3 : Hid (Grps O ((pre ++ [(⟨(i, m), by omega, by omega, HGR.out⟩ : Grp O)]).map (·.1)) (i + m)) := by
              rw [List.map_append]
              exact Grps.snoc HG.out HISG.out
            clear hJ3 hk3 hR hy
            by_cases hcm : cap - i = m
            · gi_wp2
              gi_roundg (O.length - (i + m))
              case measure => omega
              case rel => exact ⟨i + m, i * 4, _, by omega, Nat.le_refl _, by first | rfl | (congr 1 <;> omega), fun h => by omega, HG3, HJ3, HB3⟩
            · gi_wp2
              gi_roundg (O.length - (i + m))
              case measure => omega
              case rel => exact ⟨i + m, i * 4 + m * 4, _, by omega, Nat.le_refl _, by first | rfl | (congr 1 <;> omega), fun h => by omega, HG3, HJ3, HB3⟩
          · gi_wp2
            refine bodyPost_ret (results_none rfl _ _ _) rfl ?_
            exact ⟨⟨_, rfl⟩, .inr ⟨_, trivial, hJx3⟩⟩
    · obtain rfl : i = O.length := by omega
      clear hoi
      have hz : O.length - O.length = 0 := by omega
      gi_wp2
      go_end0
      exact ⟨⟨_, rfl⟩, .inl ⟨pre, HG.out, HJs.out⟩⟩
end Go.Proofs.YtakipjofboipmaaGreat

/- The walks of this proof: what is needed of a table's entries. -/
namespace Go.Proofs.YtakipjofboipmaaGreat
open Go.RowKit Go.Shelf

attribute [local go_sem] Oper.semAt_some

set_option maxHeartbeats 1000000 in
theorem eachKey_in (n : Nat) (a : Option Addr) (len cap : Nat) (w : World) :
    CallsIn Fence.wide n Tryz.prog 181 #[.slice a len cap] w fun e w' => e = .returned (.func (.func 206) #[] #[.pointer (some ⟨w.heap.size, 0, none⟩)]) ∧ w' = w.alloc (.cells #[.slice a len cap] 54) := by
  refine callsIn_of_wp Tryz.func181 rfl trivial ?_ rfl
  simp only [Tryz.ntmps181, List.size_toArray, List.length_cons, List.length_nil, Nat.reduceAdd, Nat.reduceSub, Array.replicate_succ, Array.replicate_zero, List.push_toArray, List.append_toArray, List.nil_append, List.cons_append]
  gi_wp2
  go_ret
  exact ⟨rfl, rfl⟩

theorem eachKey_stops (n : Nat) (hn : 1 ≤ n) (Bn n₀ g cap : Nat) (O : List En) (w : World) (hg : g < n₀) (hBn : Bn < w.heap.size) (hcap : O.length ≤ cap) (hfew : O.length < 1000000000) (hc : w.cell? ⟨Bn, 0, none⟩ = some (.slice (some ⟨g, 0, none⟩) O.length cap)) (hO : EnAt w g O) :
    SeqStopsK Fence.wide n Tryz.prog 206 #[.pointer (some ⟨Bn, 0, none⟩)] (fun x : Grp O => #[Value.slice (some ⟨g, x.1.1 * 4, none⟩) x.1.2 (cap - x.1.1)]) (Below n₀) (fun ys => Grps O (ys.map (·.1)) O.length) (fun _ => True) O.length w := fun l J Jx W hW hJ _ hY h0 =>
  eachKey1_in n hn l Bn n₀ g cap O hg hcap hfew J Jx W.heap.size hJ hY W ((hW.cell (p := ⟨Bn, 0, none⟩) hBn).trans hc) (hO.below hW) h0

/-- What has come so far. -/
def flatG (Q : List Int) (last : Bool) (O : List En) (pre : List (Grp O)) : List En := (pre.map (·.1)).flatMap fun p => ndOf Q last (grpOf O p)

theorem flatG_snoc (Q : List Int) (last : Bool) (O : List En) (pre : List (Grp O)) (x : Grp O) : flatG Q last O (pre ++ [x]) = flatG Q last O pre ++ ndOf Q last (grpOf O x.1) := by
  simp [flatG]

theorem flatG_len (Q : List Int) (last : Bool) (O : List En) (hs : Sorted O) (pre : List (Grp O)) : (flatG Q last O pre).length ≤ pre.length * (Q.length + 1) := by
  induction pre with
  | nil => simp [flatG]
  | cons x pre ih =>
    have h := ndOf_len Q last (grpOf O x.1) (grp_desc hs x.2.2.2)
    have e : flatG Q last O (x :: pre) = ndOf Q last (grpOf O x.1) ++ flatG Q last O pre := by simp [flatG]
    rw [e, List.length_append, List.length_cons, Nat.add_mul, Nat.one_mul]
    omega

theorem grp_len {O : List En} (x : Grp O) : (grpOf O x.1).length = x.1.2 := by
  have := x.2.2.1
  unfold grpOf
  rw [List.length_take, List.length_drop]
  omega

theorem grp_sl {w : World} {g : Nat} {O : List En} (h : EnAt w g O) (x : Grp O) : EnSl w g (x.1.1 * 4) (grpOf O x.1) := fun j e he => by
  have hj : O[x.1.1 + j]? = some e := by
    unfold grpOf at he
    have hlt : j < x.1.2 := by
      have := (List.getElem?_eq_some_iff.1 he).1
      rw [List.length_take] at this
      omega
    rwa [List.getElem?_take_of_lt hlt, List.getElem?_drop] at he
  have := h (x.1.1 + j) e hj
  rw [Nat.add_mul] at this
  exact this

/-- What a store into the box behind an append comes to. -/
theorem boxed_app {W w1 : World} {n₀ B : Nat} {t e : TypeId} {size : Nat} {v v' : Value} {k m : Nat} {xs ys : List Value}
    (hv : Boxed W B t v) (hte : t ≠ e) (hrow : W.ownsRow n₀ e size v k xs) (hn₀ : n₀ ≤ W.heap.size) (hB : n₀ ≤ B)
    (hown' : w1.ownsRow n₀ e size v' m ys) (hgrow : W.grownBy w1 v.ownBlock) :
    Boxed w1 B t v ∧ Boxed (w1.setCell ⟨B, 0, none⟩ v') B t v' ∧ (w1.setCell ⟨B, 0, none⟩ v').ownsRow n₀ e size v' m ys ∧ KeepsOthers W (w1.setCell ⟨B, 0, none⟩ v') ∧ Below n₀ W (w1.setCell ⟨B, 0, none⟩ v') := by
  have hv1 : Boxed w1 B t v := hv.kept hgrow (hv.not_row hte hrow)
  refine ⟨hv1, hv1.set v', hown'.kept (grownBy_setCell' w1 B v') (.inr (hv1.not_row hte hown').symm), ?_, ?_⟩
  · refine (KeepsOthers.of_grownBy hgrow fun j o ej hj => ?_).trans (KeepsOthers.setCell _ _ _)
    rcases hrow.2 with ⟨rfl, _⟩ | ⟨g, cap, cur, rfl, _, hgb, _⟩
    · simp [Value.ownBlock] at ej
    · obtain rfl : g = j := by simpa [Value.ownBlock] using ej
      rw [hgb] at hj; cases hj; rfl
  · refine ((Below.refl n₀ W).grown hgrow hn₀ fun j ej => ?_).setCell (p := ⟨B, 0, none⟩) hB v'
    rcases hrow.2 with ⟨rfl, _⟩ | ⟨g, cap, cur, rfl, hb, _, _⟩
    · simp [Value.ownBlock] at ej
    · obtain rfl : g = j := by simpa [Value.ownBlock] using ej
      exact hb

theorem keeps_below {W W' : World} (h : Below W.heap.size W W') : KeepsOthers W W' :=
  ⟨h.size, fun k _ hk _ => (h.block k (Array.getElem?_eq_some_iff.1 hk).1).trans hk⟩

def KnPost (Q : List Int) (lev : Int) (O : List En) (tb : Nat) (w : World) (e : Ending) (w' : World) : Prop :=
  e = .returned (.tuple #[]) ∧ ∃ (v' : Value) (xs : List (Nat × Nat)), Grps O xs O.length ∧ w'.heap[tb]? = some (.cells #[v', .int .i64 lev] 169 (0, 0)) ∧
    w'.ownsRow w.heap.size 58 4 v' (xs.flatMap fun p => ndOf Q (lev == 2) (grpOf O p)).length (ecells (xs.flatMap fun p => ndOf Q (lev == 2) (grpOf O p))) ∧ w.grownBy w' (some tb)

set_option maxRecDepth 100000 in
set_option maxHeartbeats 4000000 in
theorem keepNeeded_any (Q : List Int) (vQ : Value) (O : List En) (tb g cap : Nat) (lev : Int) (w : World) (hs : w.heap[tb]? = some (.cells #[.slice (some ⟨g, 0, none⟩) O.length cap, .int .i64 lev] 169 (0, 0))) (hO : EnAt w g O) (hg : g < w.heap.size) (hcap : O.length ≤ cap) (hfew : O.length < 100000000) (hsO : Sorted O) (hQ : IntRow w vQ Q) (h4 : Q.length ≤ 4) :
    Calls Tryz.prog 140 #[.pointer (some ⟨tb, 0, none⟩), vQ] w fun e w' => KnPost Q lev O tb w e w' := by
  obtain ⟨i0, hi, hz0, hz1, hz2⟩ := info_parts Tryz.info58
  have htb : tb < w.heap.size := lt_of_block hs
  have t0 : w.cell? ⟨tb, 0, none⟩ = some (.slice (some ⟨g, 0, none⟩) O.length cap) := by simp [World.cell?, hs]
  have HQ : Hid (IntRow w vQ Q) := hQ
  obtain ⟨aoQ, capQ, rfl, _⟩ := hQ
  have HS : Hid (w.heap[tb]? = some (.cells #[.slice (some ⟨g, 0, none⟩) O.length cap, .int .i64 lev] 169 (0, 0))) := hs
  have HO : Hid (EnAt w g O) := hO
  have HSO : Hid (Sorted O) := hsO
  have hb3 : Below w.heap.size w (((w.alloc (.cells #[.pointer (some ⟨tb, 0, none⟩)] 218)).alloc (.cells #[.slice aoQ Q.length capQ] 67)).alloc (.cells #[.slice none 0 0] 54)) := (((Below.refl _ _).alloc (Nat.le_refl _) _).alloc (by simp) _).alloc (by simp; omega) _
  have t3 := cell_later hb3 t0
  clear hs hO hsO hb3
  refine (callsIn_wide (n := 5)).1 ?_
  refine callsIn_of_wp_marks Tryz.func140 rfl trivial ?_ rfl
  simp only [Tryz.ntmps140, List.size_toArray, List.length_cons, List.length_nil, Nat.reduceAdd, Nat.reduceSub, Array.replicate_succ, Array.replicate_zero, List.push_toArray, List.append_toArray, List.nil_append, List.cons_append]
  gi_wp2_with (refine ⟨trivial, ?_⟩; gi_at_call 181; refine (eachKey_in _ _ _ _ _).mono ?_; rintro e w' ⟨rfl, rfl⟩)
  obtain ⟨last, hlast⟩ : ∃ last, (lev == 2) = last := ⟨_, rfl⟩
  have HLAST : Hid ((lev == 2) = last) := hlast
  clear hlast
  obtain ⟨W0, hW0⟩ : ∃ W0, (w.alloc (.cells #[.pointer (some ⟨tb, 0, none⟩)] 218)).alloc (.cells #[.slice aoQ Q.length capQ] 67) = W0 := ⟨_, rfl⟩
  have hz : W0.heap.size = w.heap.size + 2 := by rw [← hW0]; simp
  have hbw : Below w.heap.size w W0 := by rw [← hW0]; exact ((Below.refl _ _).alloc (Nat.le_refl _) _).alloc (by simp) _
  have bx0 : W0.cell? ⟨w.heap.size, 0, none⟩ = some (.pointer (some ⟨tb, 0, none⟩)) := by rw [← hW0]; simp
  have bx1 : W0.cell? ⟨w.heap.size + 1, 0, none⟩ = some (.slice aoQ Q.length capQ) := by rw [← hW0]; simp
  have bO := Boxed.new W0 54 (.slice none 0 0)
  have bN := Boxed.new (W0.alloc (.cells #[.slice none 0 0] 54)) 54 (.slice (some ⟨g, 0, none⟩) O.length cap)
  rw [World.size_alloc, hz] at bN
  rw [hz] at bO
  have hB0 : Below (w.heap.size + 2) W0 ((W0.alloc (.cells #[.slice none 0 0] 54)).alloc (.cells #[.slice (some ⟨g, 0, none⟩) O.length cap] 54)) := ((Below.refl _ _).alloc (by omega) _).alloc (by simp; omega) _
  have HO4 : EnAt ((W0.alloc (.cells #[.slice none 0 0] 54)).alloc (.cells #[.slice (some ⟨g, 0, none⟩) O.length cap] 54)) g O := (HO.out.below hbw).below (by rw [hz]; exact hB0)
  have hz4 : ((W0.alloc (.cells #[.slice none 0 0] 54)).alloc (.cells #[.slice (some ⟨g, 0, none⟩) O.length cap] 54)).heap.size = w.heap.size + 4 := by simp [hz]
  rw [hW0]
  generalize hW4 : (W0.alloc (.cells #[.slice none 0 0] 54)).alloc (.cells #[.slice (some ⟨g, 0, none⟩) O.length cap] 54) = W4 at bN hB0 HO4 hz4 ⊢
  have bO4 : Boxed W4 (w.heap.size + 2) 54 (.slice none 0 0) := by rw [← hW4]; exact bO.alloc _
  have HW0 : Hid (Below w.heap.size w W0 ∧ W0.cell? ⟨w.heap.size, 0, none⟩ = some (.pointer (some ⟨tb, 0, none⟩)) ∧ W0.cell? ⟨w.heap.size + 1, 0, none⟩ = some (.slice aoQ Q.length capQ)) := ⟨hbw, bx0, bx1⟩
  have HZ : Hid (W0.heap.size = w.heap.size + 2) := hz
  clear hW0 hW4 bO bx0 bx1 hbw hz t3 t0
  refine wpIn_rangeFunc_ownF rfl (by omega) (gf := 206) (lb := #[.pointer (some ⟨w.heap.size + 1 + 1 + 1, 0, none⟩)]) rfl trivial (enters_of Tryz.func206 (by kernel_rfl) rfl)
    (eachKey_stops 4 (by omega) (w.heap.size + 1 + 1 + 1) (w.heap.size + 2) g cap O W4 (by omega) (by omega) hcap (by omega) bN.cell HO4) belowK_t (belowK_b (by omega)) (Below.refl _ _) (fun _ => rfl)
    (fun pre W => (∃ v, Boxed W (w.heap.size + 2) 54 v ∧ W.ownsRow (w.heap.size + 2) 58 4 v (flatG Q last O pre).length (ecells (flatG Q last O pre)) ∧ True) ∧ Below (w.heap.size + 2) W0 W)
    (fun _ _ _ => False)
    (OwnFrom.and (Own.from (holdsRow_own (w.heap.size + 2) (w.heap.size + 2) 54 58 4 (fun pre => (flatG Q last O pre).length) (fun pre => ecells (flatG Q last O pre)) (fun _ _ => True)) _) (ownFrom_below (by have := HZ.out; omega) (by omega)))
    (fun _ _ _ _ _ hs _ _ => hs)
    ⟨⟨_, bO4, World.ownsRow_nil _ _ _ _, trivial⟩, hB0⟩
    (fun x => { tmps := #[.pointer (some ⟨tb, 0, none⟩), .slice aoQ Q.length capQ, .pointer (some ⟨w.heap.size, 0, none⟩), .pointer (some ⟨w.heap.size + 1, 0, none⟩), .pointer (some ⟨w.heap.size + 1 + 1, 0, none⟩), .slice (some ⟨g, x.1.1 * 4, none⟩) x.1.2 (cap - x.1.1), undef, .pointer (some ⟨tb, 0, none⟩), .pointer (some ⟨tb, 0, none⟩), .pointer (some ⟨tb, 0, none⟩), .pointer (some ⟨tb, 0, none⟩), .slice (some ⟨g, 0, none⟩) O.length cap, .func (.func 206) #[] #[.pointer (some ⟨w.heap.size + 1 + 1 + 1, 0, none⟩)], .slice (some ⟨g, x.1.1 * 4, none⟩) x.1.2 (cap - x.1.1), undef, undef, undef, undef, undef, undef, undef, undef, undef, undef, undef, undef, undef, undef, undef, undef, undef, undef], defers := [] }) ?assign ?body ?done ?stop
  case assign =>
    intro l x W K hK
    gi_wp2
    exact hK
  case body =>
    rintro l pre x W ⟨⟨v, hv, hrow, _⟩, hB⟩ hlt
    have HB : Hid (Below (w.heap.size + 2) W0 W) := hB
    have hsz : w.heap.size + 2 ≤ W.heap.size := by have := hB.size; rw [HZ.out] at this; exact this
    have hBw : Below w.heap.size w W := HW0.out.1.trans (hB.mono (by omega))
    have y0 : W.cell? ⟨w.heap.size, 0, none⟩ = some (.pointer (some ⟨tb, 0, none⟩)) := (hB.cell (p := ⟨w.heap.size, 0, none⟩) (by simp)).trans HW0.out.2.1
    have y1 : W.cell? ⟨w.heap.size + 1, 0, none⟩ = some (.slice aoQ Q.length capQ) := (hB.cell (p := ⟨w.heap.size + 1, 0, none⟩) (by simp)).trans HW0.out.2.2
    have hx1 := x.2.1
    have hx2 := x.2.2.1
    have SB : Hid (Calls Tryz.prog 182 #[.slice (some ⟨g, x.1.1 * 4, none⟩) x.1.2 (cap - x.1.1), .slice aoQ Q.length capQ] W fun e w' => SbsPost Q (grpOf O x.1) W e w') := by
      have := seenBySome_any Q (.slice aoQ Q.length capQ) (grpOf O x.1) g (x.1.1 * 4) (cap - x.1.1) W (grp_sl (HO.out.below hBw) x) (by rw [grp_len]; omega) (by rw [grp_len]; omega) (by rw [grp_len]; omega) (HQ.out.below hBw) (by omega)
      rw [grp_len] at this
      exact this
    have HBw : Hid (Below w.heap.size w W) := hBw
    have HGL : Hid (1 ≤ (grpOf O x.1).length) := by rw [grp_len]; exact hx1
    clear hB hBw
    gi_wp2
    refine ⟨trivial, ?_⟩
    refine (CallsIn.inRound l (callsIn_wide.2 SB.out)).mono ?_
    rintro e w1 ⟨v1, rfl, ho1, hb1⟩
    obtain ⟨g1, cap1, rfl, hg1a, hg1b⟩ := ho1.form (by
      have := HGL.out
      cases hG : grpOf O x.1 with
      | nil => rw [hG] at this; simp at this
      | cons a r => simp [sbs])
    have hwt : w1.heap[tb]? = some (.cells #[.slice (some ⟨g, 0, none⟩) O.length cap, .int .i64 lev] 169 (0, 0)) := (hb1.block tb (by omega)).trans ((HBw.out.block tb htb).trans HS.out)
    have z0 := cell_later hb1 y0
    have z1 : w1.cell? ⟨tb, 1, none⟩ = some (.int .i64 lev) := by simp [World.cell?, hwt]
    have HB1 : Hid (Below W.heap.size W w1) := hb1
    have HO1 : Hid (w1.ownsRow W.heap.size 58 4 (.slice (some ⟨g1, 0, none⟩) (sbs Q (grpOf O x.1)).length cap1) (sbs Q (grpOf O x.1)).length (ecells (sbs Q (grpOf O x.1)))) := ho1
    clear ho1 hb1 SB hwt y0 y1
    by_cases hlev : lev = 2
    · have hl2 : last = true := by rw [← HLAST.out]; simp [hlev]
      have HWL : Hid (Calls Tryz.prog 183 #[.slice (some ⟨g1, 0, none⟩) (sbs Q (grpOf O x.1)).length cap1] w1 fun e w' => WlgPost (sbs Q (grpOf O x.1)) g1 cap1 w1 e w') := withoutLastGone_any _ _ g1 cap1 w1 HO1.out (by have := sbs_len Q (grpOf O x.1) (grp_desc HSO.out x.2.2.2); omega)
      rw [hlev] at z1
      gi_wp2
      refine ⟨trivial, ?_⟩
      refine (CallsIn.inRound l (callsIn_wide.2 HWL.out)).mono ?_
      rintro e w2 ⟨m, hm, hd, rfl, hb2⟩
      have HBW : Hid (Below W.heap.size W w2) := below_trans' HB1.out hb2
      have hml : (ndOf Q last (grpOf O x.1)).length = m := by
        rw [ndOf, hl2, if_pos rfl, hd, List.length_take, Nat.min_eq_left hm]
      have HN : Hid ((ecells (ndOf Q last (grpOf O x.1))).length = m * 4 ∧ ∀ j u, (ecells (ndOf Q last (grpOf O x.1)))[j]? = some u → w2.cell? ((⟨g1, 0, none⟩ : Addr).add j) = some u) := by
        have hh := owns_take ((Kp.of_below (B := 0) (ts := []) hb2).owns HO1.out (by simp)) m hm
        rw [← hd] at hh
        have he : ndOf Q last (grpOf O x.1) = dtg (sbs Q (grpOf O x.1)) := by rw [ndOf, hl2, if_pos rfl]
        rw [he]
        exact ⟨hh.1, hh.cells (g := g1) rfl⟩
      have hv2 : Boxed w2 (w.heap.size + 2) 54 v := (HBW.out.block _ hv.lt).trans hv
      have hrow2 : w2.ownsRow (w.heap.size + 2) 58 4 v (flatG Q last O pre).length (ecells (flatG Q last O pre)) := (Kp.of_below (B := 0) (ts := []) HBW.out).owns hrow (by simp)
      clear hb2 HWL HO1 HB1 hv hrow hd z0 z1 hl2 hlev
      obtain ⟨aoK, capK, rfl⟩ := slice_form hrow2
      have hkl := flatG_len Q last O HSO.out pre
      have hnl := ndOf_len Q last (grpOf O x.1) (grp_desc HSO.out x.2.2.2)
      have hmul : pre.length * (Q.length + 1) ≤ pre.length * 5 := Nat.mul_le_mul_left _ (by omega)
      have hbx : w2.cell? ⟨w.heap.size + 1 + 1, 0, none⟩ = some (.slice aoK (flatG Q last O pre).length capK) := hv2.cell
      have hLN : w.heap.size + 2 ≤ w2.heap.size := Nat.le_trans hsz HBW.out.size
      have hk5 := Nat.le_trans hkl hmul
      have b1 : (flatG Q last O pre).length + m ≤ maxLen := by unfold maxLen; omega
      have b2 : ((flatG Q last O pre).length + m) * 48 ≤ 140737488355328 := by omega
      have hone : ∀ u ∈ ecells (ndOf Q last (grpOf O x.1)), u.oneCell' = true := fun u hu => by
        obtain ⟨y, _, hy⟩ := List.mem_flatMap.1 hu
        exact entry_one y u hy
      clear hkl hmul hk5 hnl
      gi_wp2_with (gi_at_builtin; refine wpListIn_append_own _ rfl _ _ 54 rfl (w.heap.size + 2) 58 i0 _ 4 48 Tryz.underlying54 hi hz0 hz1 hz2 rfl (by decide) _ _ _ rfl hrow2 ⟨g1, 0, none⟩ _ cap1 (ecells (ndOf Q last (grpOf O x.1))) rfl HN.out.1 (by exact HN.out.2) hone b1 b2 hLN ?_)
      intro v' w3 hown' hgrow _
      obtain ⟨ao3, cap3, rfl⟩ := slice_form hown'
      obtain ⟨hv3, hv4, hr4, hk4, hb4⟩ := boxed_app hv2 (by decide) hrow2 hLN (by omega) hown' hgrow
      have hc3 : w3.cell? ⟨w.heap.size + 1 + 1, 0, none⟩ = some (.slice aoK (flatG Q last O pre).length capK) := hv3.cell
      have hf3 : w3.frozen? ⟨w.heap.size + 1 + 1, 0, none⟩ = false := hv3.frozen
      have FIN : Hid _ := And.intro hv4 (And.intro hr4 (And.intro hk4 hb4))
      clear hown' hgrow hv3 hv4 hr4 hk4 hb4
      gi_wp2
      refine ⟨((keeps_below HBW.out).trans FIN.out.2.2.1), (HBW.out.mono hsz).trans FIN.out.2.2.2, ⟨_, FIN.out.1, ?_, trivial⟩, (HB.out.trans (HBW.out.mono hsz)).trans FIN.out.2.2.2⟩
      rw [flatG_snoc, List.length_append]
      have e : ecells (flatG Q last O pre ++ ndOf Q last (grpOf O x.1)) = ecells (flatG Q last O pre) ++ ecells (ndOf Q last (grpOf O x.1)) := by simp [ecells]
      rw [e, hml]
      exact FIN.out.2.1
    · have hl2 : last = false := by rw [← HLAST.out]; simp [hlev]
      have hne : decide (lev = 2) = false := by simp [hlev]
      have HBW := HB1
      have HN : Hid ((ecells (ndOf Q last (grpOf O x.1))).length = (sbs Q (grpOf O x.1)).length * 4 ∧ ∀ j u, (ecells (ndOf Q last (grpOf O x.1)))[j]? = some u → w1.cell? ((⟨g1, 0, none⟩ : Addr).add j) = some u) := by
        have he : ndOf Q last (grpOf O x.1) = sbs Q (grpOf O x.1) := by rw [ndOf, hl2]; rfl
        rw [he]
        exact ⟨HO1.out.1, HO1.out.cells (g := g1) rfl⟩
      have hml : (ndOf Q last (grpOf O x.1)).length = (sbs Q (grpOf O x.1)).length := by rw [ndOf, hl2]; rfl
      generalize (sbs Q (grpOf O x.1)).length = m at HN hml
      have hv2 : Boxed w1 (w.heap.size + 2) 54 v := (HBW.out.block _ hv.lt).trans hv
      have hrow2 : w1.ownsRow (w.heap.size + 2) 58 4 v (flatG Q last O pre).length (ecells (flatG Q last O pre)) := (Kp.of_below (B := 0) (ts := []) HBW.out).owns hrow (by simp)
      clear HO1 HB1 hv hrow hl2
      obtain ⟨aoK, capK, rfl⟩ := slice_form hrow2
      have hkl := flatG_len Q last O HSO.out pre
      have hnl := ndOf_len Q last (grpOf O x.1) (grp_desc HSO.out x.2.2.2)
      have hmul : pre.length * (Q.length + 1) ≤ pre.length * 5 := Nat.mul_le_mul_left _ (by omega)
      have hbx : w1.cell? ⟨w.heap.size + 1 + 1, 0, none⟩ = some (.slice aoK (flatG Q last O pre).length capK) := hv2.cell
      have hLN : w.heap.size + 2 ≤ w1.heap.size := Nat.le_trans hsz HBW.out.size
      have hk5 := Nat.le_trans hkl hmul
      have b1 : (flatG Q last O pre).length + m ≤ maxLen := by unfold maxLen; omega
      have b2 : ((flatG Q last O pre).length + m) * 48 ≤ 140737488355328 := by omega
      have hone : ∀ u ∈ ecells (ndOf Q last (grpOf O x.1)), u.oneCell' = true := fun u hu => by
        obtain ⟨y, _, hy⟩ := List.mem_flatMap.1 hu
        exact entry_one y u hy
      clear hkl hmul hk5 hnl
      gi_wp2_with (gi_at_builtin; refine wpListIn_append_own _ rfl _ _ 54 rfl (w.heap.size + 2) 58 i0 _ 4 48 Tryz.underlying54 hi hz0 hz1 hz2 rfl (by decide) _ _ _ rfl hrow2 ⟨g1, 0, none⟩ _ cap1 (ecells (ndOf Q last (grpOf O x.1))) rfl HN.out.1 (by exact HN.out.2) hone b1 b2 hLN ?_)
      intro v' w3 hown' hgrow _
      obtain ⟨ao3, cap3, rfl⟩ := slice_form hown'
      obtain ⟨hv3, hv4, hr4, hk4, hb4⟩ := boxed_app hv2 (by decide) hrow2 hLN (by omega) hown' hgrow
      have hc3 : w3.cell? ⟨w.heap.size + 1 + 1, 0, none⟩ = some (.slice aoK (flatG Q last O pre).length capK) := hv3.cell
      have hf3 : w3.frozen? ⟨w.heap.size + 1 + 1, 0, none⟩ = false := hv3.frozen
      have FIN : Hid _ := And.intro hv4 (And.intro hr4 (And.intro hk4 hb4))
      clear hown' hgrow hv3 hv4 hr4 hk4 hb4
      gi_wp2
      refine ⟨((keeps_below HBW.out).trans FIN.out.2.2.1), (HBW.out.mono hsz).trans FIN.out.2.2.2, ⟨_, FIN.out.1, ?_, trivial⟩, (HB.out.trans (HBW.out.mono hsz)).trans FIN.out.2.2.2⟩
      rw [flatG_snoc, List.length_append]
      have e : ecells (flatG Q last O pre ++ ndOf Q last (grpOf O x.1)) = ecells (flatG Q last O pre) ++ ecells (ndOf Q last (grpOf O x.1)) := by simp [ecells]
      rw [e, hml]
      exact FIN.out.2.1
  case done =>
    rintro D ys W hD hys ⟨⟨v, hv, hrow, _⟩, hB⟩ hK
    have hsz : w.heap.size + 2 ≤ W.heap.size := by have := hB.size; rw [HZ.out] at this; exact this
    have hBw : Below w.heap.size w W := HW0.out.1.trans (hB.mono (by omega))
    have y0 : W.cell? ⟨w.heap.size, 0, none⟩ = some (.pointer (some ⟨tb, 0, none⟩)) := (hB.cell (p := ⟨w.heap.size, 0, none⟩) (by simp)).trans HW0.out.2.1
    obtain ⟨aoK, capK, rfl⟩ := slice_form hrow
    have hbx : W.cell? ⟨w.heap.size + 1 + 1, 0, none⟩ = some (.slice aoK (flatG Q last O ys).length capK) := hv.cell
    have hwt : W.heap[tb]? = some (.cells #[.slice (some ⟨g, 0, none⟩) O.length cap, .int .i64 lev] 169 (0, 0)) := (hBw.block tb htb).trans HS.out
    have q0 : W.cell? ⟨tb, 0, none⟩ = some (.slice (some ⟨g, 0, none⟩) O.length cap) := by simp [World.cell?, hwt]
    have q1 : W.frozen? ⟨tb, 0, none⟩ = false := by simp [World.frozen?, hwt]
    have FIN : Hid (KnPost Q lev O tb w (.returned (.tuple #[])) ((W.setCell ⟨tb, 0, none⟩ (.slice aoK (flatG Q last O ys).length capK)).putObj D (.deferred none))) := by
      have hDt : D ≠ tb := by omega
      have hDl : D < W.heap.size := (Array.getElem?_eq_some_iff.1 hK).1
      have hs1 := heap_setCell_same W tb 0 _ 169 (.slice aoK (flatG Q last O ys).length capK) hwt
      have hr1 : (W.setCell ⟨tb, 0, none⟩ (.slice aoK (flatG Q last O ys).length capK)).ownsRow (w.heap.size + 2) 58 4 (.slice aoK (flatG Q last O ys).length capK) (flatG Q last O ys).length (ecells (flatG Q last O ys)) :=
        hrow.kept (grownBy_setCell' W tb _) (.inr (fun e => by
          have := (hrow.lt tb e).1
          omega))
      have hK1 : (W.setCell ⟨tb, 0, none⟩ (.slice aoK (flatG Q last O ys).length capK)).heap[D]? = some (.deferred (some [])) := (Below.heap_setCell _ _ _ _ hDt).trans hK
      have hg1 : w.grownBy ((W.setCell ⟨tb, 0, none⟩ (.slice aoK (flatG Q last O ys).length capK)).putObj D (.deferred none)) (some tb) := by
        refine ⟨hBw.os, hBw.tape, hBw.output, ?_, fun k hk hne => ?_⟩
        · have := hBw.size
          simpa [World.setCell, World.putObj] using this
        · have hkt : k ≠ tb := fun e => hne (by rw [e])
          have hkD : k ≠ D := by omega
          have e1 := (grownBy_putObj' (W.setCell ⟨tb, 0, none⟩ (.slice aoK (flatG Q last O ys).length capK)) D (.deferred none)).block k (by simp [World.setCell]; omega) (by simp [hkD])
          rw [e1, Below.heap_setCell _ _ _ _ hkt]
          exact hBw.block k hk
      refine ⟨rfl, .slice aoK (flatG Q last O ys).length capK, ys.map (·.1), hys, ?_, ?_, hg1⟩
      · have e1 := (grownBy_putObj' (W.setCell ⟨tb, 0, none⟩ (.slice aoK (flatG Q last O ys).length capK)) D (.deferred none)).block tb (by simp [World.setCell]; omega) (by simp; omega)
        rw [e1, hs1]
        simp
      · rw [HLAST.out]
        exact owns_base (ownsRow_putObj hr1 _ hK1 rfl) (by omega)
    have hK2 : ∀ v, (W.setCell ⟨tb, 0, none⟩ v).heap[D]? = some (.deferred (some [])) := fun v => (Below.heap_setCell _ _ _ _ (show D ≠ tb by omega)).trans hK
    clear hrow hv hB hBw hwt hys
    gi_wp2
    refine ⟨by simp, .inl ⟨_, _, rfl, run_takeDeferred (hK2 _), ?_⟩⟩
    exact ⟨_, results_none rfl _ _ _, FIN.out⟩
  case stop =>
    rintro D c pre W _ _ h _
    exact h.elim
end Go.Proofs.YtakipjofboipmaaGreat

/- The walks of this proof: the numbers at which snapshots see; the table in memory laid down. -/
namespace Go.Proofs.YtakipjofboipmaaGreat
open Go.RowKit Go.Sort

theorem Tryz.info3 : (Tryz.prog.info? 3).map (fun i => (i.zero, i.size, i.bytes)) = some (some (.int .i64 0), 1, 8) := by kernel_rfl

def icells (Q : List Int) : List Value := Q.map fun q => .int .i64 q

theorem IntRow.of {w : World} {base : Nat} {v : Value} {Q : List Int} (h : w.ownsRow base 3 1 v Q.length (icells Q)) : IntRow w v Q := by
  obtain ⟨ao, cap, rfl⟩ := slice_form h
  refine ⟨ao, cap, rfl, fun hl => ?_⟩
  rcases h.2 with ⟨h0, _⟩ | ⟨g, cap', cur, hv, hb, hg, hnc, _⟩
  · simp only [Value.slice.injEq] at h0; omega
  · simp only [Value.slice.injEq] at hv
    obtain ⟨rfl, _, rfl⟩ := hv
    refine ⟨g, rfl, hnc, fun k q hq => ?_⟩
    have hk : k < Q.length := (List.getElem?_eq_some_iff.1 hq).1
    rw [h.cellAt k (by omega), icells, List.getElem?_map, hq]
    rfl

theorem one_int (w : World) (q : Int) (N : Nat) (hN : N = w.heap.size) : ∀ j u, [Value.int .i64 q][j]? = some u → (w.alloc (.cells #[.int .i64 q] 3)).cell? ((⟨N, 0, none⟩ : Addr).add j) = some u := by
  subst hN
  intro j u hj
  match j, hj with
  | 0, hj => simp at hj; subst hj; simp [Addr.add]
  | j + 1, hj => simp at hj

set_option maxHeartbeats 1000000 in
set_option maxRecDepth 100000 in
theorem snapSeqs_any (S : List Sn) (v : Value) (base sb : Nat) (w : World) (hl : S.length ≤ 4) (hv : w.cell? ⟨sb, 5, none⟩ = some v) (hS : w.ownsRow base 174 2 v S.length (scells S)) :
    Calls Tryz.prog 58 #[.pointer (some ⟨sb, 5, none⟩)] w fun e w' => ∃ vq, e = .returned vq ∧ IntRow w' vq (S.map (·.q)) ∧ Below w.heap.size w w' := by
  obtain ⟨i0, hi, hz0, hz1, hz2⟩ := info_parts Tryz.info3
  have hsb : sb < w.heap.size := block_lt_of_cell hv
  have HS : Hid (w.ownsRow base 174 2 v S.length (scells S)) := hS
  obtain ⟨ao, cap, rfl⟩ := slice_form hS
  have HV : Hid (w.cell? ⟨sb, 5, none⟩ = some (.slice ao S.length cap)) := hv
  clear hS
  obtain ⟨M, hM⟩ : ∃ M, madeCells (Value.int .i64 0).cells (((S.length : Nat) : Int).toNat * i0.size) = M := ⟨_, rfl⟩
  have hMs : M.size = S.length * 1 := by rw [← hM, size_madeCells, hz1]; simp
  have mk : ∀ W : World, (Instr.makeSlice 67 (.int .i64 0) (.int .i64 (S.length : Int))).run Tryz.prog W = .ok (.slice (some ⟨W.heap.size, 0, none⟩) 0 S.length) (W.alloc (.cells M 3)) := fun W => by
    have h := run_make (P := Tryz.prog) W 67 3 i0 (.int .i64 0) Tryz.underlying67 hi hz0 .i64 .i64 0 (S.length : Int) (by omega) (by omega) (by rw [hz2]; omega) (by omega)
    rw [hM] at h
    simpa using h
  have OWN0 : Hid ((w.alloc (.cells M 3)).ownsRow w.heap.size 3 1 (.slice (some ⟨w.heap.size, 0, none⟩) 0 S.length) 0 []) := World.ownsRow_made w M S.length (Nat.le_refl _) (by unfold maxLen; omega) hMs
  have B0 : Hid (Below w.heap.size w (w.alloc (.cells M 3))) := (Below.refl _ _).alloc (Nat.le_refl _) _
  have hv1 : (w.alloc (.cells M 3)).cell? ⟨sb, 5, none⟩ = some (.slice ao S.length cap) := cell_later B0.out hv
  clear hM hMs
  go_enter Tryz.func58, Tryz.ntmps58
  go_wp2
  go_loopw [3, 17] (fun s3 i wr => ∃ k : Nat, k ≤ S.length ∧ i = .int .i64 k ∧ Hid (wr.ownsRow w.heap.size 3 1 s3 k (icells ((S.take k).map (·.q)))) ∧ Hid (Below w.heap.size w wr)) (fun _ i _ => S.length - (intOf i).toNat)
  case atStart => exact ⟨0, Nat.zero_le _, rfl, OWN0.out, B0.out⟩
  case round =>
    clear OWN0 B0 mk hv1
    obtain ⟨k, hk, rfl, HO, HB⟩ := hrel
    have hsz : w.heap.size ≤ wr.heap.size := HB.out.size
    by_cases hlt : k < S.length
    · obtain ⟨g, cap', hv', hbg, hgl, hcap, hcell⟩ := row_cell (fun a => by rfl) HS.out (by omega)
      simp only [Value.slice.injEq, true_and] at hv'
      obtain ⟨rfl, rfl⟩ := hv'
      obtain ⟨s, hs⟩ : ∃ s, S[k]? = some s := ⟨_, List.getElem?_eq_getElem hlt⟩
      have c0 := cell_later HB.out (show w.cell? ⟨g, k * 2, none⟩ = some (Value.int .i64 s.n) from hcell k s 0 hs (by omega))
      have c1 := cell_later HB.out (show w.cell? ⟨g, k * 2 + 1, none⟩ = some (Value.int .i64 s.q) from hcell k s 1 hs (by omega))
      have HT : Hid (icells ((S.take (k + 1)).map (·.q)) = icells ((S.take k).map (·.q)) ++ [.int .i64 s.q]) := by
        show _ = _
        rw [List.take_add_one, hs]; simp [icells]
      have hgr : g < wr.heap.size := Nat.lt_of_lt_of_le hgl HB.out.size
      obtain ⟨ao3, cap3, rfl⟩ := slice_form HO.out
      clear hcell hs
      go_wp2_with (at_builtin; refine wpList_append_own _ rfl (.tmp 21) (.tmp 24) 67 rfl w.heap.size 3 i0 _ 1 8 Tryz.underlying67 hi hz0 hz1 hz2 rfl (by decide) _ _ _ rfl (by exact (HO.out.alloc _).alloc _) ⟨wr.heap.size + 1, 0, none⟩ 1 1 [.int .i64 s.q] rfl rfl (by exact one_int (wr.alloc _) s.q _ (by simp)) (by intro u hu; simp at hu; subst hu; rfl) (by unfold maxLen; omega) (by omega) (by simp; omega) ?_)
      intro v9 w2 ho2 hg2 _
      have HB2 : Hid (Below w.heap.size w w2) := ((HB.out.alloc HB.out.size _).alloc (by simp; omega) _).grown hg2 (by simp; omega) fun k hk => (HO.out.lt k hk).1
      have HO2 : Hid (w2.ownsRow w.heap.size 3 1 v9 (k + 1) (icells ((S.take (k + 1)).map (·.q)))) := by
        rw [HT.out]
        rw [← List.map_take] at ho2
        exact ho2
      clear ho2 hg2 HO
      go_wp2
      go_roundw
      case rel => exact ⟨k + 1, by omega, by go_num, HO2, HB2⟩
      case measure => simp [intOf]; omega
    · obtain rfl : k = S.length := by omega
      rw [List.take_of_length_le (Nat.le_refl _)] at HO
      have FIN : Hid (∀ s3, wr.ownsRow w.heap.size 3 1 s3 S.length (icells (S.map (·.q))) → IntRow wr s3 (S.map (·.q))) := fun s3 h => IntRow.of (by rw [List.length_map]; exact h)
      go_wp2
      go_ret
      exact ⟨_, rfl, FIN.out _ HO.out, HB.out⟩

set_option maxHeartbeats 400000 in
theorem hasRecords_any (x : St) (D F : Nat → Prop) (sb : Nat) (w : World) (hx : StoreAt D F sb x w) (ok : StOk x) :
    Calls Tryz.prog 56 #[.pointer (some ⟨sb, 2, none⟩)] w fun e w' => e = .returned (.bool (decide (x.B ≠ []))) ∧ w' = w := by
  obtain ⟨vE, vL, vR, vS, hB, hs, hE, hT, hR, hS⟩ := hx
  obtain ⟨ao, cap, rfl⟩ := hR.form
  have c1 : w.cell? ⟨sb, 2, none⟩ = some (.slice ao x.J.length cap) := by simp [World.cell?, hs]
  have e : decide (0 < x.J.length) = decide (x.B ≠ []) := by
    rw [decide_eq_decide]
    show 0 < (x.B.flatMap recB).length ↔ _
    cases hb : x.B with
    | nil => simp
    | cons b r =>
      have := recB_len (ok.lv.bok b (by rw [hb]; exact List.mem_cons_self))
      simp only [List.flatMap_cons, List.length_append]
      constructor
      · intro _ h; cases h
      · intro _; omega
  rw [← e]
  clear e hs hE hT hR hS
  go_enter Tryz.func56, Tryz.ntmps56
  go_wp2
  go_ret
  exact ⟨rfl, rfl⟩

/-- What Down comes to: a table in new memory. -/
def DownPost (R : List En) (w : World) (e : Ending) (w' : World) : Prop :=
  ∃ v, e = .returned (.agg #[v, .int .i64 0]) ∧ w'.ownsRow w.heap.size 58 4 v R.length (ecells R) ∧ Below w.heap.size w w'

theorem grown_below {w w' : World} {tb : Nat} (h : w.grownBy w' (some tb)) {N : Nat} (hN : N ≤ tb) (hs : N ≤ w.heap.size) : Below N w w' :=
  ⟨h.os, h.tape, h.output, h.size, fun k hk => h.block k (by omega) (fun e => by have := Option.some.inj e; omega)⟩

theorem ho2b {w2 : World} {base N n : Nat} {v : Value} {xs : List Value} (h : w2.ownsRow base 58 4 v n xs) (hne : v.ownBlock ≠ some N) (v' : Value) :
    (w2.setCell ⟨N, 0, none⟩ v').ownsRow base 58 4 v n xs ∧ ∀ u, ((w2.setCell ⟨N, 0, none⟩ v').setCell ⟨N, 1, none⟩ u).ownsRow base 58 4 v n xs := by
  have k1 : ∀ (W : World) (o : Nat) (u : Value), W.ownsRow base 58 4 v n xs → (W.setCell ⟨N, o, none⟩ u).ownsRow base 58 4 v n xs := fun W o u hW => by
    refine ⟨hW.1, ?_⟩
    rcases hW.2 with h0 | ⟨g, cap, cur, rfl, hb, hg, r⟩
    · exact .inl h0
    · refine .inr ⟨g, cap, cur, rfl, hb, ?_, r⟩
      rw [Below.heap_setCell _ _ _ _ (fun e => hne (by subst e; rfl))]
      exact hg
  exact ⟨k1 _ _ _ h, fun u => k1 _ _ _ (k1 _ _ _ h)⟩

set_option maxHeartbeats 1000000 in
theorem down_any (Q : List Int) (vQ : Value) (O : List En) (sb g cap : Nat) (w : World) (hc : w.cell? ⟨sb, 0, none⟩ = some (.slice (some ⟨g, 0, none⟩) O.length cap)) (hO : EnAt w g O) (hg : g < w.heap.size) (hcap : O.length ≤ cap) (hfew : O.length < 100000000) (hsO : Sorted O) (hQ : IntRow w vQ Q) (h4 : Q.length ≤ 4) :
    Calls Tryz.prog 94 #[.pointer (some ⟨sb, 0, none⟩), vQ] w fun e w' => DownPost (ndAll Q false O) w e w' := by
  have hsb : sb < w.heap.size := block_lt_of_cell hc
  obtain ⟨W, hW⟩ : ∃ W, (w.alloc (.cells #[.slice none 0 0, .int .i64 0] 169)).alloc (.cells #[.slice (some ⟨g, 0, none⟩) O.length cap, .int .i64 0] 169) = W := ⟨_, rfl⟩
  have hbW : Below w.heap.size w W := by rw [← hW]; exact ((Below.refl _ _).alloc (Nat.le_refl _) _).alloc (by simp) _
  have hWs : W.heap.size = w.heap.size + 2 := by rw [← hW]; simp
  have hWt : W.heap[w.heap.size + 1]? = some (.cells #[.slice (some ⟨g, 0, none⟩) O.length cap, .int .i64 0] 169 (0, 0)) := by
    rw [← hW]
    have := heap_alloc_new (w.alloc (.cells #[.slice none 0 0, .int .i64 0] 169)) (.cells #[.slice (some ⟨g, 0, none⟩) O.length cap, .int .i64 0] 169)
    simpa using this
  have hW0 : W.heap[w.heap.size]? = some (.cells #[.slice none 0 0, .int .i64 0] 169 (0, 0)) := by
    rw [← hW, Below.heap_alloc _ _ _ (by simp)]
    exact heap_alloc_new w _
  have HK : Hid _ := keepNeeded_any Q vQ O (w.heap.size + 1) g cap 0 W hWt (hO.below hbW) (by omega) hcap hfew hsO (hQ.below hbW) h4
  have HW : Hid ((w.alloc (.cells #[.slice none 0 0, .int .i64 0] 169)).alloc (.cells #[.slice (some ⟨g, 0, none⟩) O.length cap, .int .i64 0] 169) = W) := hW
  have HB : Hid (Below w.heap.size w W ∧ W.heap.size = w.heap.size + 2 ∧ W.heap[w.heap.size]? = some (.cells #[.slice none 0 0, .int .i64 0] 169 (0, 0))) := ⟨hbW, hWs, hW0⟩
  have cc := cell_later ((Below.refl _ w).alloc (Nat.le_refl _) (.cells #[.slice none 0 0, .int .i64 0] 169)) hc
  obtain ⟨aoQ, capQ, rfl, _⟩ := hQ
  clear hO hW hbW hWs hWt hW0
  go_enter Tryz.func94, Tryz.ntmps94
  go_wp2_with fail
  rw [HW.out]
  refine Calls.mono HK.out ?_
  rintro e w2 ⟨rfl, v', xs, hgs, hs2, ho2, hg2⟩
  obtain ⟨b1, b2, b3⟩ := HB.out
  have h20 : w2.heap[w.heap.size]? = some (.cells #[.slice none 0 0, .int .i64 0] 169 (0, 0)) := (hg2.block _ (by omega) (fun e => by have := Option.some.inj e; omega)).trans b3
  have hbl : Below w.heap.size w w2 := b1.trans (grown_below hg2 (by omega) (by omega))
  have hz : (xs.flatMap fun p => ndOf Q ((0 : Int) == 2) (grpOf O p)) = ndAll Q false O := ndAll_all Q false hgs
  rw [hz] at ho2
  have HO : Hid (w2.ownsRow w.heap.size 58 4 v' (ndAll Q false O).length (ecells (ndAll Q false O))) := owns_base ho2 (by omega)
  have HBL : Hid (Below w.heap.size w w2) := hbl
  have c0 : w2.cell? ⟨w.heap.size + 1, 0, none⟩ = some v' := by simp [World.cell?, hs2]
  have c1 : w2.cell? ⟨w.heap.size + 1, 1, none⟩ = some (.int .i64 0) := by simp [World.cell?, hs2]
  have d0 : w2.cell? ⟨w.heap.size, 0, none⟩ = some (.slice none 0 0) := by simp [World.cell?, h20]
  have d1 : w2.cell? ⟨w.heap.size, 1, none⟩ = some (.int .i64 0) := by simp [World.cell?, h20]
  have f0 : w2.frozen? ⟨w.heap.size, 0, none⟩ = false := by simp [World.frozen?, h20]
  have f1 : w2.frozen? ⟨w.heap.size, 1, none⟩ = false := by simp [World.frozen?, h20]
  have FIN : Hid (∀ u, ((w2.setCell ⟨w.heap.size, 0, none⟩ v').setCell ⟨w.heap.size, 1, none⟩ u).ownsRow w.heap.size 58 4 v' (ndAll Q false O).length (ecells (ndAll Q false O)) ∧ Below w.heap.size w ((w2.setCell ⟨w.heap.size, 0, none⟩ v').setCell ⟨w.heap.size, 1, none⟩ u)) := fun u => by
    have hne : v'.ownBlock ≠ some w.heap.size := fun e => by have := (ho2.lt _ e).1; omega
    exact ⟨(ho2b HO.out hne v').2 u, (hbl.setCell (Nat.le_refl _) _).setCell (Nat.le_refl _) _⟩
  obtain ⟨aov, capv, rfl⟩ := slice_form ho2
  clear hgs hs2 ho2 hg2 b1 b2 b3 h20 hbl hz HB HK
  go_wp2
  exact bodyPost_ret (v := .agg #[.slice aov (ndAll Q false O).length capv, .int .i64 0]) (by simp [results, Tryz.results94, go_sem, d0, d1]) rfl ⟨_, rfl, FIN.out _⟩
end Go.Proofs.YtakipjofboipmaaGreat

/- The walks of this proof: Flush. -/
namespace Go.Proofs.YtakipjofboipmaaGreat
open Go.RowKit Go.Sort

/-- A table more, its entries in block g, which is no longer the store's to write. -/
def Less (D : Nat → Prop) (g : Nat) : Nat → Prop := fun k => D k ∧ k ≠ g
def More (F : Nat → Prop) (g : Nat) : Nat → Prop := fun k => F k ∨ k = g

theorem OwnsIn.less {w : World} {D : Nat → Prop} {e : TypeId} {size : Nat} {v : Value} {n : Nat} {xs : List Value} {g : Nat} (h : OwnsIn w D e size v n xs) (hg : v.ownBlock ≠ some g) : OwnsIn w (Less D g) e size v n xs :=
  ⟨h.own, fun g' hg' => ⟨h.dom g' hg', fun e => hg (by rw [hg', e])⟩⟩

theorem OwnsIn.other {w : World} {D : Nat → Prop} {e e' : TypeId} {size : Nat} {v : Value} {n : Nat} {xs : List Value} {g : Nat} {c : Array Value} {f : Nat × Nat} (h : OwnsIn w D e size v n xs) (hg : w.heap[g]? = some (.cells c e' f)) (he : e ≠ e') : v.ownBlock ≠ some g := fun hv => by
  rcases h.own.2 with ⟨rfl, _⟩ | ⟨g', cap, cur, rfl, _, hgg, _⟩
  · simp [Value.ownBlock] at hv
  · simp only [Value.ownBlock, Option.some.injEq] at hv
    subst hv
    rw [hg] at hgg
    simp only [Option.some.injEq, Obj.cells.injEq] at hgg
    exact he hgg.2.1.symm

theorem lc_one {T : List Lb} {Vs : List Value} {w : World} {F : Nat → Prop} (hr : ∀ (k : Nat) t v, T[k]? = some t → Vs[k]? = some v → OwnsIn w F 58 4 v t.2.length (ecells t.2)) : ∀ u ∈ lcells T Vs, u.oneCell' = true := by
  intro u hu
  obtain ⟨x, hx, hu⟩ := List.mem_flatMap.1 hu
  obtain ⟨k, hk⟩ := List.mem_iff_getElem?.1 hx
  rw [List.getElem?_zip_eq_some] at hk
  obtain ⟨ao, cap, hv⟩ := slice_form (hr k x.1 x.2 hk.1 hk.2).own
  simp only [List.mem_cons, List.not_mem_nil, or_false] at hu
  rcases hu with rfl | rfl
  · rw [hv]; rfl
  · rfl

/-- What layDown comes to. -/
def LaidPost (D F : Nat → Prop) (sb : Nat) (vR a3 a4 a5 a6 a7 : Value) (T : List Lb) (R : List En) (w : World) (e : Ending) (w' : World) : Prop :=
  e = .returned (.tuple #[]) ∧ ∃ (g : Nat) (vL : Value), D g ∧ w.heap.size ≤ g ∧ g < w'.heap.size ∧ w'.heap[sb]? = some (.cells #[.slice none 0 0, vL, vR, a3, a4, a5, a6, a7] 118 (0, 0)) ∧ TabsIn w' (Less D g) (More F g) vL ((0, R) :: T) ∧ Kd D [118, 169] w w' ∧ (∃ c f, w'.heap[g]? = some (.cells c 58 f))

set_option maxHeartbeats 4000000 in
set_option maxRecDepth 100000 in
theorem layDown_any (D F : Nat → Prop) (sb : Nat) (vE vL vR a3 a4 a5 a6 a7 : Value) (T : List Lb) (O : List En) (Q : List Int) (vQ : Value) (w : World) (hs : w.heap[sb]? = some (.cells #[vE, vL, vR, a3, a4, a5, a6, a7] 118 (0, 0))) (hB : D sb) (hD : Opn D w) (hE : OwnsIn w D 58 4 vE O.length (ecells O)) (hT : TabsIn w D F vL T) (hsO : Sorted O) (hO1 : O ≠ []) (hfew : O.length < 100000000) (hTf : T.length < 1000000000) (hQ : IntRow w vQ Q) (h4 : Q.length ≤ 4) :
    Calls Tryz.prog 57 #[.pointer (some ⟨sb, 0, none⟩), vQ] w fun e w' => LaidPost D F sb vR a3 a4 a5 a6 a7 T (ndAll Q false O) w e w' := by
  have hOl : 1 ≤ O.length := List.length_pos_iff.2 hO1
  obtain ⟨R, hR⟩ : ∃ R, ndAll Q false O = R := ⟨_, rfl⟩
  have hRl : 1 ≤ R.length := by rw [← hR]; exact List.length_pos_iff.2 (ndAll_ne Q hO1)
  have hsb : sb < w.heap.size := lt_of_block hs
  obtain ⟨Vs, hVl, hTo, hTr⟩ := hT
  obtain ⟨g, cap, rfl, hg0, hgl, hcap, hcell⟩ := row_cell (fun a => by rfl) hE.own (by omega)
  have hEn : EnAt w g O := fun j e he => ⟨hcell j e 0 he (by omega), hcell j e 1 he (by omega), hcell j e 2 he (by omega), hcell j e 3 he (by omega)⟩
  have c0 : w.cell? ⟨sb, 0, none⟩ = some (.slice (some ⟨g, 0, none⟩) O.length cap) := by simp [World.cell?, hs]
  have c1 : w.cell? ⟨sb, 1, none⟩ = some vL := by simp [World.cell?, hs]
  have HDN : Hid (Calls Tryz.prog 94 #[.pointer (some ⟨sb, 0, none⟩), vQ] w.drew fun e w' => DownPost R w.drew e w') := by
    rw [← hR]
    exact down_any Q vQ O sb g cap w.drew c0 hEn hgl hcap hfew hsO hQ h4
  obtain ⟨aoL, capL, hvL⟩ := slice_form hTo.own
  have HINS : Hid (∀ (w2 : World) (v : Value), Below w.heap.size w w2 → w2.ownsRow w.heap.size 58 4 v R.length (ecells R) →
      Calls Tryz.prog 93 #[vL, .int .i64 0, .slice (some ⟨w2.heap.size, 0, none⟩) 1 1] (w2.alloc (.cells #[v, .int .i64 0] 169)) fun e w' => InsPost D T.length 0 (lcells T Vs) v (.int .i64 0) (w2.alloc (.cells #[v, .int .i64 0] 169)) e w') := fun w2 v hb ho => by
    obtain ⟨ao, cp, hv⟩ := slice_form ho
    exact insert_any D vL T.length 0 (lcells T Vs) v (.int .i64 0) w2.heap.size (w2.alloc (.cells #[v, .int .i64 0] 169)) ((hTo.below hb).alloc _) ((hD.later hb.size).later (by simp)) (lc_one hTr) (heap_alloc_new w2 _) ⟨by rw [hv]; rfl, rfl⟩ (fun e => by have := ((hTo.below hb).own.lt _ e).2; omega) (Nat.zero_le _) hTf
  have HFIN : Hid (∀ (w2 w4 : World) (v v' : Value), Below w.heap.size w w2 → w2.ownsRow w.heap.size 58 4 v R.length (ecells R) → OwnsIn w4 D 169 2 v' (T.length + 1) ((lcells T Vs).take (0 * 2) ++ [v, .int .i64 0] ++ (lcells T Vs).drop (0 * 2)) → Kd D [169] (w2.alloc (.cells #[v, .int .i64 0] 169)) w4 →
      w4.heap[sb]? = some (.cells #[.slice (some ⟨g, 0, none⟩) O.length cap, vL, vR, a3, a4, a5, a6, a7] 118 (0, 0)) ∧
      LaidPost D F sb vR a3 a4 a5 a6 a7 T R w (.returned (.tuple #[])) ((w4.setCell ⟨sb, 1, none⟩ v').setCell ⟨sb, 0, none⟩ (.slice none 0 0))) := fun w2 w4 v v' hb ho ho' hk => by
    have k24 : Kd D [118, 169] w w4 := ((Kd.of_below hb).trans ((Kd.refl D _ w2).alloc _)).trans (hk.mono (by simp))
    have k24' : Kd D [169] w w4 := ((Kd.of_below hb).trans ((Kd.refl D _ w2).alloc _)).trans hk
    have hs4 := k24'.keep hs (by simp)
    refine ⟨hs4, rfl, ?_⟩
    obtain ⟨gR, cp, rfl, hbR, hgR⟩ := ho.form (by omega)
    obtain ⟨cur, hcur⟩ : ∃ cur, w2.heap[gR]? = some (.cells cur 58 (0, 0)) := by
      rcases ho.2 with ⟨h, h0⟩ | ⟨g', cp', cur, hv, _, hg', _⟩
      · omega
      · simp only [Value.slice.injEq, Option.some.injEq, Addr.mk.injEq, and_true] at hv
        obtain ⟨rfl, _⟩ := hv
        exact ⟨cur, hg'⟩
    have hkA : Kd D [169] w2 w4 := ((Kd.refl D _ w2).alloc _).trans hk
    have hg4 : w4.heap[gR]? = some (.cells cur 58 (0, 0)) := hkA.keep hcur (by simp)
    have k5 := Kd.field hB hs4 1 v'
    have s5 := set_field hs4 1 v'
    simp only [List.setIfInBounds_toArray, List.set_cons_succ, List.set_cons_zero] at s5
    have k6 := Kd.field hB s5 0 (.slice none 0 0)
    have s6 := set_field s5 0 (.slice none 0 0)
    simp only [List.setIfInBounds_toArray, List.set_cons_zero] at s6
    have k46 : Kd D [118] w4 ((w4.setCell ⟨sb, 1, none⟩ v').setCell ⟨sb, 0, none⟩ (.slice none 0 0)) := k5.trans k6
    have hDg : D gR := hD gR hbR
    refine ⟨gR, v', hDg, hbR, Nat.lt_of_lt_of_le (lt_of_block hg4) k46.size, s6, ⟨.slice (some ⟨gR, 0, none⟩) R.length cp :: Vs, by simp [hVl], ?_, ?_⟩, k24.trans (k46.mono (by simp)), cur, (0, 0), k46.keep hg4 (by simp)⟩
    · have h7 := k46.ownsIn ho' (by simp)
      have h8 := h7.less (h7.other (k46.keep hg4 (by simp)) (by decide))
      simpa [lcells] using h8
    · intro i t u ht hu
      cases i with
      | zero =>
        simp only [List.getElem?_cons_zero, Option.some.injEq] at ht hu
        subst ht hu
        exact ⟨owns_base (k46.owns (hkA.owns ho (by simp)) (by simp)) (Nat.zero_le _), fun g' e => .inr (by simp only [Value.ownBlock, Option.some.injEq] at e; exact e.symm)⟩
      | succ i =>
        simp only [List.getElem?_cons_succ] at ht hu
        have := hTr i t u ht hu
        exact ⟨k46.owns (k24'.owns this.own (by simp)) (by simp), fun g' e => .inl (this.dom g' e)⟩
  rw [hR]
  obtain ⟨aoQ, capQ, rfl, hqq⟩ := hQ
  subst hvL
  have HF : Hid (Opn D w) := hD
  clear hs hD hE hTo hTr hVl hsO hcell hEn hqq hR hO1
  go_enter Tryz.func57, Tryz.ntmps57
  go_wp2
  refine wp_region_held_drew (S := fun _ => True) (by kernel_rfl) trivial ?_
  intro _
  refine wpAnyH_take (i := 0) (v := .pointer (some ⟨sb, 0, none⟩)) rfl (by kernel_rfl) (by kernel_rfl) (by kernel_rfl) (fun _ _ _ h => h) (Or.inl ⟨by rfl, ?_⟩) trivial ?_
  · intro w0 _
    go_simp
  simp only [Act.put]
  refine wpAnyH_take (i := 1) (v := .pointer (some ⟨sb, 0, none⟩)) rfl (by kernel_rfl) (by kernel_rfl) (by kernel_rfl) (fun _ _ _ h => h) (Or.inl ⟨by rfl, ?_⟩) trivial ?_
  · intro w0 _
    go_simp
  simp only [Act.put]
  refine wpAnyH_take (i := 2) (v := .pointer (some ⟨sb, 0, none⟩)) rfl (by kernel_rfl) (by kernel_rfl) (by kernel_rfl) (fun _ _ _ h => h) (Or.inl ⟨by rfl, ?_⟩) trivial ?_
  · intro w0 _
    go_simp
  simp only [Act.put]
  refine wpAnyH_take (i := 3) (v := .pointer (some ⟨sb, 1, none⟩)) rfl (by kernel_rfl) (by kernel_rfl) (by kernel_rfl) (fun _ _ _ h => h) (Or.inl ⟨by rfl, ?_⟩) trivial ?_
  · intro w0 _
    go_simp
  simp only [Act.put]
  refine wpAnyH_take (i := 5) (v := .pointer (some ⟨sb, 0, none⟩)) rfl (by kernel_rfl) (by kernel_rfl) (by kernel_rfl) (fun _ _ _ h => h) (Or.inl ⟨by rfl, ?_⟩) trivial ?_
  · intro w0 _
    go_simp
  simp only [Act.put]
  refine wpAnyH_take (i := 6) (v := .pointer (some ⟨sb, 0, none⟩)) rfl (by kernel_rfl) (by kernel_rfl) (by kernel_rfl) (fun _ _ _ h => h) (Or.inl ⟨by rfl, ?_⟩) trivial ?_
  · intro w0 _
    go_simp
  simp only [Act.put]
  refine wpAnyH_take (i := 7) (v := .pointer (some ⟨sb, 0, none⟩)) rfl (by kernel_rfl) (by kernel_rfl) (by kernel_rfl) (fun _ _ _ h => h) (Or.inl ⟨by rfl, ?_⟩) trivial ?_
  · intro w0 _
    go_simp
  simp only [Act.put]
  refine wpAnyH_take (i := 8) (v := .slice aoQ Q.length capQ) rfl (by kernel_rfl) (by kernel_rfl) (by kernel_rfl) (fun _ _ _ h => h) (Or.inl ⟨by rfl, ?_⟩) trivial ?_
  · intro w0 _
    go_simp
  simp only [Act.put]
  refine wpAnyH_ready (rs := [4, 9]) (by kernel_rfl) (by simp) ?_
  refine AllReadyH.cons rfl (fun K' hK => ?_) (AllReadyH.cons rfl (fun K' hK => ?_) AllReadyH.nil)
  · rw [if_pos (by rfl)]
    go_wp2_with fail
    refine hK.out _ _ trivial (fun _ => ?_)
    clear hK K'
    refine wpAnyH_ready (rs := [9]) (by kernel_rfl) (by simp) ?_
    refine AllReadyH.cons rfl (fun K' hK => ?_) AllReadyH.nil
    rw [if_pos (by rfl)]
    go_wp2_with fail
    refine HDN.out.mono ?_
    rintro e w2 ⟨v, rfl, ho2, hb2'⟩
    have hb2 : Below w.heap.size w w2 := ⟨hb2'.os, hb2'.tape, hb2'.output, hb2'.size, hb2'.block⟩
    have B2 : Hid (Below w.heap.size w w2 ∧ w2.ownsRow w.heap.size 58 4 v R.length (ecells R)) := ⟨hb2, ho2⟩
    obtain ⟨aoR, capR, rfl⟩ := slice_form ho2
    clear ho2 hb2' hb2
    go_wp2_with fail
    refine hK.out _ _ trivial (fun _ => ?_)
    clear hK K'
    refine wpAnyH_ready (rs := [10]) (by kernel_rfl) (by simp) ?_
    refine AllReadyH.cons rfl (fun K' hK => ?_) AllReadyH.nil
    rw [if_pos (by rfl)]
    go_wp2_with fail
    refine hK.out _ _ trivial (fun _ => ?_)
    clear hK K'
    refine wpAnyH_ready (rs := [11]) (by kernel_rfl) (by simp) ?_
    refine AllReadyH.cons rfl (fun K' hK => ?_) AllReadyH.nil
    rw [if_pos (by rfl)]
    go_wp2_with fail
    refine Calls.mono (HINS.out w2 _ B2.out.1 B2.out.2) ?_
    rintro e w4 ⟨v', rfl, ho4, hk4⟩
    have hf := HFIN.out w2 w4 _ v' B2.out.1 B2.out.2 ho4 hk4
    have m1 : w4.cell? ⟨sb, 1, none⟩ = some (.slice aoL T.length capL) := by simp [World.cell?, hf.1]
    have f1 : w4.frozen? ⟨sb, 1, none⟩ = false := by simp [World.frozen?, hf.1]
    have m0 : (w4.setCell ⟨sb, 1, none⟩ v').cell? ⟨sb, 0, none⟩ = some (.slice (some ⟨g, 0, none⟩) O.length cap) := by simp [World.cell?, set_field hf.1 1 v']
    have f0 : (w4.setCell ⟨sb, 1, none⟩ v').frozen? ⟨sb, 0, none⟩ = false := by simp [World.frozen?, set_field hf.1 1 v']
    have FIN : Hid (LaidPost D F sb vR a3 a4 a5 a6 a7 T R w (.returned (.tuple #[])) ((w4.setCell ⟨sb, 1, none⟩ v').setCell ⟨sb, 0, none⟩ (.slice none 0 0))) := hf.2
    have hsb4 : sb < w4.heap.size := lt_of_block hf.1
    obtain ⟨ao', cap', rfl⟩ := slice_form ho4.own
    clear ho4 hk4 hf HINS HFIN HDN
    go_wp2_with fail
    refine hK.out _ _ trivial (fun _ => ?_)
    clear hK K'
    refine wpAnyH_take (i := 12) (v := .pointer (some ⟨sb, 0, none⟩)) rfl (by kernel_rfl) (by kernel_rfl) (by kernel_rfl) (fun _ _ _ h => h) (Or.inl ⟨by rfl, ?_⟩) trivial ?_
    · intro w0 _
      go_simp
    simp only [Act.put]
    refine wpAnyH_take (i := 13) (v := .pointer (some ⟨sb, 1, none⟩)) rfl (by kernel_rfl) (by kernel_rfl) (by kernel_rfl) (fun _ _ _ h => h) (Or.inl ⟨by rfl, ?_⟩) trivial ?_
    · intro w0 _
      go_simp
    simp only [Act.put]
    refine wpAnyH_ready (rs := [14]) (by kernel_rfl) (by simp) ?_
    refine AllReadyH.cons rfl (fun K' hK => ?_) AllReadyH.nil
    rw [if_pos (by rfl)]
    go_wp2_with fail
    refine hK.out _ _ trivial (fun _ => ?_)
    clear hK K'
    refine wpAnyH_done (by kernel_rfl) ?_ _
    go_wp2
    go_end0
    exact FIN.out
  · rw [if_pos (by rfl)]
    go_wp2_with fail
    refine HDN.out.mono ?_
    rintro e w2 ⟨v, rfl, ho2, hb2'⟩
    have hb2 : Below w.heap.size w w2 := ⟨hb2'.os, hb2'.tape, hb2'.output, hb2'.size, hb2'.block⟩
    have B2 : Hid (Below w.heap.size w w2 ∧ w2.ownsRow w.heap.size 58 4 v R.length (ecells R)) := ⟨hb2, ho2⟩
    have c1' := cell_later hb2 c1
    have hsb2 : sb < w2.heap.size := block_lt_of_cell c1'
    obtain ⟨aoR, capR, rfl⟩ := slice_form ho2
    clear ho2 hb2' hb2
    go_wp2_with fail
    refine hK.out _ _ trivial (fun _ => ?_)
    clear hK K'
    refine wpAnyH_ready (rs := [4, 10]) (by kernel_rfl) (by simp) ?_
    refine AllReadyH.cons rfl (fun K' hK => ?_) (AllReadyH.cons rfl (fun K' hK => ?_) AllReadyH.nil)
    · rw [if_pos (by rfl)]
      go_wp2_with fail
      refine hK.out _ _ trivial (fun _ => ?_)
      clear hK K'
      refine wpAnyH_ready (rs := [10]) (by kernel_rfl) (by simp) ?_
      refine AllReadyH.cons rfl (fun K' hK => ?_) AllReadyH.nil
      rw [if_pos (by rfl)]
      go_wp2_with fail
      refine hK.out _ _ trivial (fun _ => ?_)
      clear hK K' c1'
      refine wpAnyH_ready (rs := [11]) (by kernel_rfl) (by simp) ?_
      refine AllReadyH.cons rfl (fun K' hK => ?_) AllReadyH.nil
      rw [if_pos (by rfl)]
      go_wp2_with fail
      refine Calls.mono (HINS.out w2 _ B2.out.1 B2.out.2) ?_
      rintro e w4 ⟨v', rfl, ho4, hk4⟩
      have hf := HFIN.out w2 w4 _ v' B2.out.1 B2.out.2 ho4 hk4
      have m1 : w4.cell? ⟨sb, 1, none⟩ = some (.slice aoL T.length capL) := by simp [World.cell?, hf.1]
      have f1 : w4.frozen? ⟨sb, 1, none⟩ = false := by simp [World.frozen?, hf.1]
      have m0 : (w4.setCell ⟨sb, 1, none⟩ v').cell? ⟨sb, 0, none⟩ = some (.slice (some ⟨g, 0, none⟩) O.length cap) := by simp [World.cell?, set_field hf.1 1 v']
      have f0 : (w4.setCell ⟨sb, 1, none⟩ v').frozen? ⟨sb, 0, none⟩ = false := by simp [World.frozen?, set_field hf.1 1 v']
      have FIN : Hid (LaidPost D F sb vR a3 a4 a5 a6 a7 T R w (.returned (.tuple #[])) ((w4.setCell ⟨sb, 1, none⟩ v').setCell ⟨sb, 0, none⟩ (.slice none 0 0))) := hf.2
      have hsb4 : sb < w4.heap.size := lt_of_block hf.1
      obtain ⟨ao', cap', rfl⟩ := slice_form ho4.own
      clear ho4 hk4 hf HINS HFIN HDN
      go_wp2_with fail
      refine hK.out _ _ trivial (fun _ => ?_)
      clear hK K'
      refine wpAnyH_take (i := 12) (v := .pointer (some ⟨sb, 0, none⟩)) rfl (by kernel_rfl) (by kernel_rfl) (by kernel_rfl) (fun _ _ _ h => h) (Or.inl ⟨by rfl, ?_⟩) trivial ?_
      · intro w0 _
        go_simp
      simp only [Act.put]
      refine wpAnyH_take (i := 13) (v := .pointer (some ⟨sb, 1, none⟩)) rfl (by kernel_rfl) (by kernel_rfl) (by kernel_rfl) (fun _ _ _ h => h) (Or.inl ⟨by rfl, ?_⟩) trivial ?_
      · intro w0 _
        go_simp
      simp only [Act.put]
      refine wpAnyH_ready (rs := [14]) (by kernel_rfl) (by simp) ?_
      refine AllReadyH.cons rfl (fun K' hK => ?_) AllReadyH.nil
      rw [if_pos (by rfl)]
      go_wp2_with fail
      refine hK.out _ _ trivial (fun _ => ?_)
      clear hK K'
      refine wpAnyH_done (by kernel_rfl) ?_ _
      go_wp2
      go_end0
      exact FIN.out
    · rw [if_pos (by rfl)]
      go_wp2_with fail
      refine hK.out _ _ trivial (fun _ => ?_)
      clear hK K'
      refine wpAnyH_ready (rs := [4]) (by kernel_rfl) (by simp) ?_
      refine AllReadyH.cons rfl (fun K' hK => ?_) AllReadyH.nil
      rw [if_pos (by rfl)]
      go_wp2_with fail
      refine hK.out _ _ trivial (fun _ => ?_)
      clear hK K' c1'
      refine wpAnyH_ready (rs := [11]) (by kernel_rfl) (by simp) ?_
      refine AllReadyH.cons rfl (fun K' hK => ?_) AllReadyH.nil
      rw [if_pos (by rfl)]
      go_wp2_with fail
      refine Calls.mono (HINS.out w2 _ B2.out.1 B2.out.2) ?_
      rintro e w4 ⟨v', rfl, ho4, hk4⟩
      have hf := HFIN.out w2 w4 _ v' B2.out.1 B2.out.2 ho4 hk4
      have m1 : w4.cell? ⟨sb, 1, none⟩ = some (.slice aoL T.length capL) := by simp [World.cell?, hf.1]
      have f1 : w4.frozen? ⟨sb, 1, none⟩ = false := by simp [World.frozen?, hf.1]
      have m0 : (w4.setCell ⟨sb, 1, none⟩ v').cell? ⟨sb, 0, none⟩ = some (.slice (some ⟨g, 0, none⟩) O.length cap) := by simp [World.cell?, set_field hf.1 1 v']
      have f0 : (w4.setCell ⟨sb, 1, none⟩ v').frozen? ⟨sb, 0, none⟩ = false := by simp [World.frozen?, set_field hf.1 1 v']
      have FIN : Hid (LaidPost D F sb vR a3 a4 a5 a6 a7 T R w (.returned (.tuple #[])) ((w4.setCell ⟨sb, 1, none⟩ v').setCell ⟨sb, 0, none⟩ (.slice none 0 0))) := hf.2
      have hsb4 : sb < w4.heap.size := lt_of_block hf.1
      obtain ⟨ao', cap', rfl⟩ := slice_form ho4.own
      clear ho4 hk4 hf HINS HFIN HDN
      go_wp2_with fail
      refine hK.out _ _ trivial (fun _ => ?_)
      clear hK K'
      refine wpAnyH_take (i := 12) (v := .pointer (some ⟨sb, 0, none⟩)) rfl (by kernel_rfl) (by kernel_rfl) (by kernel_rfl) (fun _ _ _ h => h) (Or.inl ⟨by rfl, ?_⟩) trivial ?_
      · intro w0 _
        go_simp
      simp only [Act.put]
      refine wpAnyH_take (i := 13) (v := .pointer (some ⟨sb, 1, none⟩)) rfl (by kernel_rfl) (by kernel_rfl) (by kernel_rfl) (fun _ _ _ h => h) (Or.inl ⟨by rfl, ?_⟩) trivial ?_
      · intro w0 _
        go_simp
      simp only [Act.put]
      refine wpAnyH_ready (rs := [14]) (by kernel_rfl) (by simp) ?_
      refine AllReadyH.cons rfl (fun K' hK => ?_) AllReadyH.nil
      rw [if_pos (by rfl)]
      go_wp2_with fail
      refine hK.out _ _ trivial (fun _ => ?_)
      clear hK K'
      refine wpAnyH_done (by kernel_rfl) ?_ _
      go_wp2
      go_end0
      exact FIN.out
end Go.Proofs.YtakipjofboipmaaGreat

/- The walks of this proof: Flush. -/
namespace Go.Proofs.YtakipjofboipmaaGreat
open Go.RowKit Go.Sort

/-- What Flush comes to. -/
def FlushPost (D F : Nat → Prop) (sb : Nat) (x : St) (w : World) (e : Ending) (w' : World) : Prop :=
  (x.B = [] ∧ e = .returned (.int .i64 8) ∧ w' = w) ∨
  (x.B ≠ [] ∧ e = .returned (.int .i64 0) ∧ ∃ g, w.heap.size ≤ g ∧ g < w'.heap.size ∧ StoreAt (Less D g) (More F g) sb x.fl w' ∧ Kd D [118, 169] w w')

theorem M_len {x : St} (ok : StOk x) : x.M.length ≤ x.E.length := sub_len ok.lv.msorted ok.sorted fun e he => ((ok.lv.mem e).1 he).1

set_option maxHeartbeats 2000000 in
set_option maxRecDepth 100000 in
theorem flush_any (D F : Nat → Prop) (sb : Nat) (x : St) (w : World) (hx : StoreAt D F sb x w) (hD : Opn D w) (ok : StOk x) (hfew : x.E.length < 100000000) (hTf : x.T.length + 1 < 1000000000) :
    Calls Tryz.prog 19 #[.pointer (some ⟨sb, 0, none⟩)] w fun e w' => FlushPost D F sb x w e w' := by
  have HR : Hid _ := hasRecords_any x D F sb w hx ok
  obtain ⟨vE, vL, vR, vS, hB, hs, hE, hT, hRr, hS⟩ := hx
  have hsb : sb < w.heap.size := lt_of_block hs
  by_cases hb : x.B = []
  · have hd : decide (x.B ≠ []) = false := by simp [hb]
    rw [hd] at HR
    clear hs hE hT hRr hS
    go_enter Tryz.func19, Tryz.ntmps19
    go_wp2_with fail
    refine Calls.mono HR.out ?_
    rintro e w0 ⟨rfl, rfl⟩
    go_wp2
    go_ret
    exact .inl ⟨hb, rfl, rfl⟩
  · have hd : decide (x.B ≠ []) = true := by simp [hb]
    rw [hd] at HR
    have c5 : w.cell? ⟨sb, 5, none⟩ = some vS := by simp [World.cell?, hs]
    have HQ : Hid (Calls Tryz.prog 58 #[.pointer (some ⟨sb, 5, none⟩)] w.drew fun e w' => ∃ vq, e = .returned vq ∧ IntRow w' vq x.Q ∧ Below w.drew.heap.size w.drew w') := snapSeqs_any x.S vS 0 sb w.drew ok.snaps c5 hS.own
    have hMl := M_len ok
    have HL : Hid (∀ w1 vq, Below w.heap.size w w1 → IntRow w1 vq x.Q → Calls Tryz.prog 57 #[.pointer (some ⟨sb, 0, none⟩), vq] w1 fun e w' => LaidPost D F sb vR (.int .i64 (rl (x.B.take x.sy))) (.int .i64 x.la) vS (.int .i64 x.lastSnap) (.int .i64 x.last) x.T (ndAll x.Q false x.M) w1 e w') := fun w1 vq hb1 hq =>
      layDown_any D F sb vE vL vR _ _ _ _ _ x.T x.M x.Q vq w1 ((hb1.block sb hsb).trans hs) hB (hD.later hb1.size) (hE.below hb1) (hT.kd (Kd.of_below (D := D) (ts := []) hb1) (by simp) (by simp)) ok.lv.msorted (M_ne ok hb) (by omega) (by omega) hq (by show (x.S.map (·.q)).length ≤ 4; rw [List.length_map]; exact ok.snaps)
    have HF : Hid (∀ w1 w2 e, Below w.heap.size w w1 → LaidPost D F sb vR (.int .i64 (rl (x.B.take x.sy))) (.int .i64 x.la) vS (.int .i64 x.lastSnap) (.int .i64 x.last) x.T (ndAll x.Q false x.M) w1 e w2 →
        ∃ vL', w2.heap[sb]? = some (.cells #[.slice none 0 0, vL', vR, .int .i64 (rl (x.B.take x.sy)), .int .i64 x.la, vS, .int .i64 x.lastSnap, .int .i64 x.last] 118 (0, 0)) ∧
        FlushPost D F sb x w (.returned (.int .i64 0)) (((w2.setCell ⟨sb, 2, none⟩ (.slice none 0 0)).setCell ⟨sb, 3, none⟩ (.int .i64 0)).setCell ⟨sb, 4, none⟩ (.int .i64 x.last))) := fun w1 w2 e hb1 h => by
      obtain ⟨_, g, vL', hDg, hg1, hg2, hs2, hT2, hk2, c, f, hgc⟩ := h
      refine ⟨vL', hs2, .inr ⟨hb, rfl, g, Nat.le_trans hb1.size hg1, ?_⟩⟩
      have s3 := set_field hs2 2 (.slice none 0 0)
      simp only [List.setIfInBounds_toArray, List.set_cons_succ, List.set_cons_zero] at s3
      have s4 := set_field s3 3 (.int .i64 0)
      simp only [List.setIfInBounds_toArray, List.set_cons_succ, List.set_cons_zero] at s4
      have s5 := set_field s4 4 (.int .i64 x.last)
      simp only [List.setIfInBounds_toArray, List.set_cons_succ, List.set_cons_zero] at s5
      have k : Kd D [118] w2 (((w2.setCell ⟨sb, 2, none⟩ (.slice none 0 0)).setCell ⟨sb, 3, none⟩ (.int .i64 0)).setCell ⟨sb, 4, none⟩ (.int .i64 x.last)) := ((Kd.field hB hs2 2 _).trans (Kd.field hB s3 3 _)).trans (Kd.field hB s4 4 _)
      have hsg : sb ≠ g := fun e => by rw [← e, hs2] at hgc; simp at hgc
      have kS : Kd D [118, 169] w (((w2.setCell ⟨sb, 2, none⟩ (.slice none 0 0)).setCell ⟨sb, 3, none⟩ (.int .i64 0)).setCell ⟨sb, 4, none⟩ (.int .i64 x.last)) := ((Kd.of_below hb1).trans hk2).trans (k.mono (by simp))
      have hS5 := kS.ownsIn hS (by simp)
      refine ⟨Nat.lt_of_lt_of_le hg2 k.size, ⟨.slice none 0 0, vL', .slice none 0 0, vS, ⟨hB, hsg⟩, ?_, ?_, ?_, ?_, ?_⟩, kS⟩
      · exact s5
      · exact ⟨World.ownsRow_nil _ _ _ _, fun g' e => by simp [Value.ownBlock] at e⟩
      · exact hT2.kd k (by simp) (by simp)
      · exact OwnsJ.nil _ _
      · exact hS5.less (hS5.other (k.keep hgc (by simp)) (by decide))
    clear hs hE hT hRr hS ok hMl hD
    go_enter Tryz.func19, Tryz.ntmps19
    go_wp2_with fail
    refine Calls.mono HR.out ?_
    rintro e w0 ⟨rfl, rfl⟩
    go_wp2
    go_region_with (first
      | (go_at_call 58; refine Calls.mono HQ.out ?_; rintro e w1 ⟨vq, rfl, hq, hb1⟩; have B1 : Hid (Below w0.heap.size w0 w1 ∧ IntRow w1 vq x.Q) := ⟨⟨hb1.os, hb1.tape, hb1.output, hb1.size, hb1.block⟩, hq⟩; obtain ⟨aoq, capq, rfl, _⟩ := hq; clear hb1)
      | (go_at_call 57; refine Calls.mono (HL.out _ _ B1.out.1 B1.out.2) ?_; rintro e w2 hlp; obtain ⟨vL', hs2, hfin⟩ := HF.out _ _ _ B1.out.1 hlp; obtain ⟨rfl, _⟩ := hlp; have FIN : Hid (FlushPost D F sb x w0 (.returned (.int .i64 0)) (((w2.setCell ⟨sb, 2, none⟩ (.slice none 0 0)).setCell ⟨sb, 3, none⟩ (.int .i64 0)).setCell ⟨sb, 4, none⟩ (.int .i64 x.last))) := hfin; have HS2 : Hid _ := hs2; clear hfin hs2))
    have c7 : w2.cell? ⟨sb, 7, none⟩ = some (.int .i64 x.last) := by simp [World.cell?, HS2.out]
    have c2 : w2.cell? ⟨sb, 2, none⟩ = some vR := by simp [World.cell?, HS2.out]
    have c3 : w2.cell? ⟨sb, 3, none⟩ = some (.int .i64 (rl (x.B.take x.sy))) := by simp [World.cell?, HS2.out]
    have c4 : w2.cell? ⟨sb, 4, none⟩ = some (.int .i64 x.la) := by simp [World.cell?, HS2.out]
    have f2 : w2.frozen? ⟨sb, 2, none⟩ = false := by simp [World.frozen?, HS2.out]
    have f3 : w2.frozen? ⟨sb, 3, none⟩ = false := by simp [World.frozen?, HS2.out]
    have f4 : w2.frozen? ⟨sb, 4, none⟩ = false := by simp [World.frozen?, HS2.out]
    go_wp2
    go_ret
    exact FIN.out
end Go.Proofs.YtakipjofboipmaaGreat

/- The walks of this proof: where the tables of a level begin. -/
namespace Go.Proofs.YtakipjofboipmaaGreat
open Go.RowKit Go.Sort

set_option maxHeartbeats 400000 in
theorem start1_any (v : Value) (l lev : Int) (pb : Nat) (w : World) (h : w.cell? ⟨pb, 0, none⟩ = some (.int .i64 l)) :
    Calls Tryz.prog 142 #[.agg #[v, .int .i64 lev], .pointer (some ⟨pb, 0, none⟩)] w fun e w' => e = .returned (.bool (decide (l ≤ lev))) ∧ Below w.heap.size w w' := by
  have hpb : pb < w.heap.size := block_lt_of_cell h
  have h' := cell_later ((Below.refl _ w).alloc (Nat.le_refl _) (.cells #[v, .int .i64 lev] 169)) h
  go_enter Tryz.func142, Tryz.ntmps142
  go_wp2
  go_ret
  exact ⟨rfl, (Below.refl _ _).alloc (Nat.le_refl _) _⟩

theorem stIdx_hit {T : List Lb} {l : Int} {k : Nat} {t : Lb} (ht : T[k]? = some t) (hl : l ≤ t.1) (hno : ∀ j t', j < k → T[j]? = some t' → t'.1 < l) : stIdx T l = k := by
  obtain ⟨hk, rfl⟩ := List.getElem?_eq_some_iff.1 ht
  refine (List.findIdx_eq hk).2 ⟨by simpa using hl, fun j hj => ?_⟩
  have := hno j _ hj (List.getElem?_eq_getElem (by omega))
  simp only [decide_eq_false_iff_not]
  omega

theorem stIdx_end {T : List Lb} {l : Int} (hno : ∀ j t', j < T.length → T[j]? = some t' → t'.1 < l) : stIdx T l = T.length := by
  refine List.findIdx_eq_length.2 fun t ht => ?_
  obtain ⟨j, hj, rfl⟩ := List.getElem_of_mem ht
  have := hno j _ hj (List.getElem?_eq_getElem hj)
  simp only [decide_eq_false_iff_not]
  omega

/-- What IndexFunc hands back. -/
def idxOf (T : List Lb) (l : Int) : Int := if stIdx T l < T.length then stIdx T l else -1

set_option maxHeartbeats 1000000 in
theorem indexLaid_any (T : List Lb) (v : Value) (l : Int) (pb : Nat) (w : World) (hT : LdRow w v T) (hf : T.length < 1000000000) (hp : w.cell? ⟨pb, 0, none⟩ = some (.int .i64 l)) :
    Calls Tryz.prog 141 #[v, .func (.func 142) #[] #[.pointer (some ⟨pb, 0, none⟩)]] w fun e w' => e = .returned (.int .i64 (idxOf T l)) ∧ Below w.heap.size w w' := by
  obtain ⟨ao, cap, rfl, hc⟩ := hT
  have HC : Hid _ := hc
  clear hc
  go_enter Tryz.func141, Tryz.ntmps141
  go_wp2
  go_loopw [8] (fun i wr => ∃ k : Nat, k ≤ T.length ∧ i = .int .i64 k ∧ Hid (Below w.heap.size w wr) ∧ Hid (∀ j t', j < k → T[j]? = some t' → t'.1 < l)) (fun i _ => T.length - (intOf i).toNat)
  case atStart => exact ⟨0, Nat.zero_le _, rfl, Below.refl _ _, fun j t' h => absurd h (Nat.not_lt_zero _)⟩
  case round =>
    obtain ⟨k, hk, rfl, HB, HN⟩ := hrel
    by_cases hlt : k < T.length
    · obtain ⟨g, rfl, hcap, hcell⟩ := HC.out (by omega)
      obtain ⟨t, ht⟩ : ∃ t, T[k]? = some t := ⟨_, List.getElem?_eq_getElem hlt⟩
      obtain ⟨vt, d0, _, d1⟩ := hcell k t ht
      have d0 := cell_later HB.out d0
      have d1 := cell_later HB.out d1
      have hgr : g < wr.heap.size := block_lt_of_cell d0
      have HP : Hid _ := start1_any vt l t.1 pb wr (cell_later HB.out hp)
      have HT : Hid (T[k]? = some t) := ht
      clear hcell ht
      by_cases hl : l ≤ t.1
      · have hd : decide (l ≤ t.1) = true := decide_eq_true hl
        rw [hd] at HP
        have hfin : Hid (idxOf T l = k) := (by unfold idxOf; rw [stIdx_hit HT.out hl HN.out, if_pos hlt] : idxOf T l = k)
        go_wp2_with fail
        refine Calls.mono HP.out ?_
        rintro e w2 ⟨rfl, hb2⟩
        have HB2 : Hid (Below w.heap.size w w2) := below_trans' HB.out hb2
        clear hb2
        go_wp2
        go_ret
        exact ⟨by rw [hfin.out]; rfl, HB2.out⟩
      · have hd : decide (l ≤ t.1) = false := decide_eq_false hl
        rw [hd] at HP
        go_wp2_with fail
        refine Calls.mono HP.out ?_
        rintro e w2 ⟨rfl, hb2⟩
        have HB2 : Hid (Below w.heap.size w w2) := below_trans' HB.out hb2
        clear hb2
        go_wp2
        go_roundw
        case rel => exact ⟨k + 1, by omega, by go_num, HB2, fun j t' hj ht' => by
          rcases Nat.lt_succ_iff_lt_or_eq.1 hj with h | rfl
          · exact HN.out j t' h ht'
          · rw [HT.out] at ht'; cases ht'; omega⟩
        case measure => simp [intOf]; omega
    · obtain rfl : k = T.length := by omega
      have hfin : Hid (idxOf T l = -1) := (by unfold idxOf; rw [stIdx_end HN.out, if_neg (by omega)] : idxOf T l = -1)
      go_wp2
      go_ret
      exact ⟨by rw [hfin.out]; rfl, HB.out⟩

set_option maxHeartbeats 1000000 in
theorem start_any (T : List Lb) (v : Value) (sb : Nat) (l : Int) (w : World) (hv : w.cell? ⟨sb, 1, none⟩ = some v) (hT : LdRow w v T) (hf : T.length < 1000000000) :
    Calls Tryz.prog 95 #[.pointer (some ⟨sb, 0, none⟩), .int .i64 l] w fun e w' => e = .returned (.int .i64 (stIdx T l)) ∧ Below w.heap.size w w' := by
  have hsb : sb < w.heap.size := block_lt_of_cell hv
  have hb0 : Below w.heap.size w (w.alloc (.cells #[.int .i64 l] 3)) := (Below.refl _ _).alloc (Nat.le_refl _) _
  have HI : Hid _ := indexLaid_any T v l w.heap.size (w.alloc (.cells #[.int .i64 l] 3)) (hT.below hb0) hf (by simp)
  have hle := stIdx_le T l
  have HB0 : Hid (Below w.heap.size w (w.alloc (.cells #[.int .i64 l] 3))) := hb0
  have hv0 := cell_later hb0 hv
  obtain ⟨ao, cap, rfl, _⟩ := hT
  clear hb0
  unfold idxOf at HI
  by_cases hlt : stIdx T l < T.length
  · rw [if_pos hlt] at HI
    go_enter Tryz.func95, Tryz.ntmps95
    go_wp2_with fail
    refine Calls.mono HI.out ?_
    rintro e w2 ⟨rfl, hb2⟩
    have HB2 : Hid (Below w.heap.size w w2) := below_trans' HB0.out hb2
    clear hb2
    go_wp2
    go_ret
    exact ⟨rfl, HB2.out⟩
  · rw [if_neg hlt] at HI
    have hfin : Hid (stIdx T l = T.length) := (by omega : stIdx T l = T.length)
    go_enter Tryz.func95, Tryz.ntmps95
    go_wp2_with fail
    refine Calls.mono HI.out ?_
    rintro e w2 ⟨rfl, hb2⟩
    have HB2 : Hid (Below w.heap.size w w2) := below_trans' HB0.out hb2
    have hv2 := cell_later hb2 hv0
    clear hb2
    go_wp2
    go_ret
    exact ⟨by rw [hfin.out]; rfl, HB2.out⟩

set_option maxHeartbeats 1000000 in
theorem hasTable_any (T : List Lb) (v : Value) (sb : Nat) (l : Int) (w : World) (hv : w.cell? ⟨sb, 1, none⟩ = some v) (hT : LdRow w v T) (hf : T.length < 1000000000) (h0 : 0 ≤ l) (h2 : l < 2) :
    Calls Tryz.prog 59 #[.pointer (some ⟨sb, 0, none⟩), .int .i64 l] w fun e w' => e = .returned (.bool (decide (stIdx T l < stIdx T (l + 1)))) ∧ Below w.heap.size w w' := by
  have HS : Hid (∀ w1 l', Below w.heap.size w w1 → Calls Tryz.prog 95 #[.pointer (some ⟨sb, 0, none⟩), .int .i64 l'] w1 fun e w' => e = .returned (.int .i64 (stIdx T l')) ∧ Below w1.heap.size w1 w') := fun w1 l' hb => start_any T v sb l' w1 (cell_later hb hv) (hT.below hb) hf
  have hsb : sb < w.heap.size := block_lt_of_cell hv
  clear hT
  go_enter Tryz.func59, Tryz.ntmps59
  go_wp2_with fail
  refine Calls.mono (HS.out _ _ (Below.refl _ _)) ?_
  rintro e w1 ⟨rfl, hb1⟩
  have HB1 : Hid (Below w.heap.size w w1) := hb1
  clear hb1
  go_wp2_with fail
  refine Calls.mono (HS.out _ _ HB1.out) ?_
  rintro e w2 ⟨rfl, hb2⟩
  have HB2 : Hid (Below w.heap.size w w2) := below_trans' HB1.out hb2
  clear hb2
  go_wp2
  go_ret
  exact ⟨rfl, HB2.out⟩
end Go.Proofs.YtakipjofboipmaaGreat
