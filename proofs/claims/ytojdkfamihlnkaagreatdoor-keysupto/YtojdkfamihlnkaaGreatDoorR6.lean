/- The walks of this proof: the document's store: the pairs of a batch that count. -/
import Derived.Test.YtojdkfamihlnkaaGreatDoorR4
import Derived.Test.YtojdkfamihlnkaaGreatDoorO
namespace Go.Proofs.YtojdkfamihlnkaaGreatDoor
open Go.RowKit Go.Sort

/-- What counted comes to. -/
def CountPost (L : List Pr) (w : World) (e : Ending) (w' : World) : Prop :=
  ∃ (v : Value) (C : List Pr), e = .returned v ∧ SamePr (keep L) C ∧ Upto C C.length ∧ w'.ownsRow w.heap.size 57 3 v C.length (pcells C) ∧ Below w.heap.size w w'

theorem ones_pair (p : Pr) : ∀ u ∈ Pr.cells p, u.oneCell' = true := by
  intro u hu; simp [Pr.cells] at hu; rcases hu with rfl | rfl | rfl <;> rfl

theorem pcells_snoc' {w : World} {B : Nat} {v : Value} {L : List Pr} {p : Pr} (h : w.ownsRow B 57 3 v (L.length + 1) (pcells L ++ Pr.cells p)) : w.ownsRow B 57 3 v (L ++ [p]).length (pcells (L ++ [p])) := by
  have e : pcells (L ++ [p]) = pcells L ++ Pr.cells p := by simp [pcells]
  rw [e, List.length_append]
  exact h

def bestVal : Option (Nat × Pr) → Value
  | some (j, _) => .int .i64 j
  | none => .int .i64 (-1)

set_option maxHeartbeats 4000000 in
set_option maxRecDepth 100000 in
theorem counted_any (L : List Pr) (v : Value) (w : World) (h : PairsAt w v L) (h4 : L.length ≤ 4) (h1 : ∀ p ∈ L, 1 ≤ p.k.size) :
    Calls Tryz.prog 76 #[v] w fun e w' => CountPost L w e w' := by
  obtain ⟨i0, hi, hz0, hz1, hz2⟩ := info_parts Tryz.info57
  obtain ⟨ao, cap, rfl, hl, hs, hc⟩ := h
  have HC : Hid _ := hc
  have H0 : Hid (CntInv L [] ⟨#[]⟩) := cnt_start h1
  clear hc hs h1 hl
  go_enter Tryz.func76, Tryz.ntmps76
  go_wp2
  go_loopg [3, 4, 5, 6, 7] L.length (fun kx s3 s4 s5 s6 s7 wr => ∃ (C : List Pr) (last : ByteArray), C.length ≤ L.length ∧ L.length - C.length ≤ kx ∧ s5 = .int .i64 C.length ∧ s4 = .string last ∧ Hid (CntInv L C last) ∧ Hid (wr.ownsRow w.heap.size 57 3 s3 C.length (pcells C)) ∧ Hid (Below w.heap.size w wr))
  case atStart => exact ⟨[], ⟨#[]⟩, Nat.zero_le _, Nat.le_refl _, rfl, rfl, H0.out, World.ownsRow_nil _ _ _ _, Below.refl _ _⟩
  case round =>
    clear H0
    obtain ⟨C, last, hCL, hCk, rfl, rfl, HI, HO, HB⟩ := hrel
    obtain ⟨aoC, capC, rfl⟩ := slice_form HO.out
    by_cases hlt : C.length < L.length
    · go_wp2
      go_loopg [6, 7] L.length (fun kx s6 s7 wx => ∃ (i : Nat) (o : Option (Nat × Pr)), i ≤ L.length ∧ L.length - i ≤ kx ∧ s7 = .int .i64 i ∧ s6 = bestVal o ∧ Hid (BestInv L last i o) ∧ Hid (wx.ownsRow w.heap.size 57 3 (.slice aoC C.length capC) C.length (pcells C)) ∧ Hid (Below w.heap.size w wx))
      case atStart => exact ⟨0, none, Nat.zero_le _, Nat.le_refl _, rfl, rfl, best_start _ _, HO.out, HB.out⟩
      case round =>
        clear HO HB
        obtain ⟨i, o, hil, hik, rfl, rfl, HBI, HO, HB⟩ := hrel
        by_cases hilt : i < L.length
        · obtain ⟨q, hq⟩ : ∃ q, L[i]? = some q := ⟨_, List.getElem?_eq_getElem hilt⟩
          obtain ⟨⟨g, off, spot⟩, rfl, hsp, c0, _, _⟩ := HC.out i q hq
          simp only at hsp c0
          subst hsp
          have c0 := cell_later HB.out c0
          have hgl : g < wr.heap.size := block_lt_of_cell c0
          have c0' := cell_regrown c0
          have e1 := str_lt q.k last
          have HQ : Hid (L[i]? = some q) := hq
          clear hq
          have hneg := kc_neg last q.k
          have hcase : (kc q.k last < 0 ∧ (q.k.toList == last.toList) = false ∧ ¬ kc last q.k < 0) ∨ (q.k = last ∧ ¬ kc last q.k < 0) ∨ (¬ kc q.k last < 0 ∧ (q.k.toList == last.toList) = false ∧ kc last q.k < 0) := by
            by_cases he : q.k = last
            · exact .inr (.inl ⟨he, by rw [he, kc_self]; omega⟩)
            · have h0 : kc last q.k ≠ 0 := fun h => he (kc_zero h).symm
              by_cases hl : kc q.k last < 0
              · exact .inl ⟨hl, str_ne he, by omega⟩
              · exact .inr (.inr ⟨hl, str_ne he, by omega⟩)
          clear hneg
          rcases hcase with ⟨h1, h2, h3⟩ | ⟨h1, h3⟩ | ⟨h1, h2, h3⟩
          · simp only [h1, decide_true] at e1
            have HS : Hid (BestInv L last (i + 1) o) := best_skip HBI.out HQ.out (.inl h3)
            clear h1 h3
            go_wp2
            refine wp_region_quiet_below (by kernel_rfl) (by kernel_rfl) ?_
            repeat (first | go_big_quiet_step (fail) | quiet_step (fail))
            refine wpQuiet_nil ?_
            intro w2 hw'
            have hb := below_of_regrown hw'
            clear hw'
            have HO2 : Hid (w2.ownsRow w.heap.size 57 3 (.slice aoC C.length capC) C.length (pcells C)) := (Kp.of_below (B := 0) (ts := []) hb).owns HO.out (by simp)
            have HB2 : Hid (Below w.heap.size w w2) := below_trans' HB.out hb
            clear hb
            go_wp2
            go_roundg (L.length - (i + 1))
            case measure => omega
            case rel => exact ⟨i + 1, o, by omega, Nat.le_refl _, by go_num, rfl, HS.out, HO2.out, HB2.out⟩
          · subst h1
            rw [kc_self] at e1
            simp only [Int.lt_irrefl, decide_false] at e1
            have h2 := str_same q.k
            have HS : Hid (BestInv L q.k (i + 1) o) := best_skip HBI.out HQ.out (.inl h3)
            clear h3
            go_wp2
            refine wp_region_quiet_below (by kernel_rfl) (by kernel_rfl) ?_
            repeat (first | go_big_quiet_step (fail) | quiet_step (fail))
            refine wpQuiet_nil ?_
            intro w2 hw'
            have hb := below_of_regrown hw'
            clear hw'
            have HO2 : Hid (w2.ownsRow w.heap.size 57 3 (.slice aoC C.length capC) C.length (pcells C)) := (Kp.of_below (B := 0) (ts := []) hb).owns HO.out (by simp)
            have HB2 : Hid (Below w.heap.size w w2) := below_trans' HB.out hb
            clear hb
            go_wp2
            go_roundg (L.length - (i + 1))
            case measure => omega
            case rel => exact ⟨i + 1, o, by omega, Nat.le_refl _, by go_num, rfl, HS.out, HO2.out, HB2.out⟩
          · simp only [h1, decide_false] at e1
            match o, HBI with
            | none, HBI =>
              have HS : Hid (BestInv L last (i + 1) (some (i, q))) := best_take HBI.out HQ.out h3 (fun j p h => by cases h)
              clear h1 h3
              simp only [bestVal]
              go_wp2
              refine wp_region_quiet_below (by kernel_rfl) (by kernel_rfl) ?_
              repeat (first | go_big_quiet_step (fail) | quiet_step (fail))
              refine wpQuiet_nil ?_
              intro w2 hw'
              have hb := below_of_regrown hw'
              clear hw'
              have HO2 : Hid (w2.ownsRow w.heap.size 57 3 (.slice aoC C.length capC) C.length (pcells C)) := (Kp.of_below (B := 0) (ts := []) hb).owns HO.out (by simp)
              have HB2 : Hid (Below w.heap.size w w2) := below_trans' HB.out hb
              clear hb
              go_wp2
              go_roundg (L.length - (i + 1))
              case measure => omega
              case rel => exact ⟨i + 1, some (i, q), by omega, Nat.le_refl _, by go_num, rfl, HS.out, HO2.out, HB2.out⟩
            | some (j, p), HBI =>
              have hjl : j < L.length := by have := HBI.out.1; omega
              obtain ⟨b, hbe, hsp, d0, _, _⟩ := HC.out j p HBI.out.2.1
              cases hbe
              simp only at d0
              have d0 := cell_later HB.out d0
              have d0' := cell_regrown d0
              have e2 := str_lt q.k p.k
              have hneg := kc_neg p.k q.k
              have hcase : (kc q.k p.k < 0 ∧ (q.k.toList == p.k.toList) = false ∧ ¬ kc p.k q.k < 0) ∨ (q.k = p.k ∧ ¬ kc p.k q.k < 0) ∨ (¬ kc q.k p.k < 0 ∧ (q.k.toList == p.k.toList) = false ∧ kc p.k q.k < 0) := by
                by_cases he : q.k = p.k
                · exact .inr (.inl ⟨he, by rw [he, kc_self]; omega⟩)
                · have h0 : kc p.k q.k ≠ 0 := fun h => he (kc_zero h).symm
                  by_cases hl : kc q.k p.k < 0
                  · exact .inl ⟨hl, str_ne he, by omega⟩
                  · exact .inr (.inr ⟨hl, str_ne he, by omega⟩)
              clear hneg hsp
              simp only [bestVal]
              rcases hcase with ⟨g1, g2, g3⟩ | ⟨g1, g3⟩ | ⟨g1, g2, g3⟩
              · simp only [g1, decide_true] at e2
                have HS : Hid (BestInv L last (i + 1) (some (i, q))) := best_take HBI.out HQ.out h3 (fun j p h => by cases h; exact g3)
                clear h1 h3 g1 g3
                go_wp2
                refine wp_region_quiet_below (by kernel_rfl) (by kernel_rfl) ?_
                repeat (first | go_big_quiet_step (fail) | quiet_step (fail))
                refine wpQuiet_nil ?_
                intro w2 hw'
                have hb := below_of_regrown hw'
                clear hw'
                have HO2 : Hid (w2.ownsRow w.heap.size 57 3 (.slice aoC C.length capC) C.length (pcells C)) := (Kp.of_below (B := 0) (ts := []) hb).owns HO.out (by simp)
                have HB2 : Hid (Below w.heap.size w w2) := below_trans' HB.out hb
                clear hb
                go_wp2
                go_roundg (L.length - (i + 1))
                case measure => omega
                case rel => exact ⟨i + 1, some (i, q), by omega, Nat.le_refl _, by go_num, rfl, HS.out, HO2.out, HB2.out⟩
              · have HS : Hid (BestInv L last (i + 1) (some (i, q))) := best_take HBI.out HQ.out h3 (fun j p h => by cases h; exact g3)
                rw [← g1, kc_self] at e2
                simp only [Int.lt_irrefl, decide_false] at e2
                have g2 := str_same q.k
                rw [← g1] at d0 d0'
                clear h1 h3 g1 g3
                go_wp2
                refine wp_region_quiet_below (by kernel_rfl) (by kernel_rfl) ?_
                repeat (first | go_big_quiet_step (fail) | quiet_step (fail))
                refine wpQuiet_nil ?_
                intro w2 hw'
                have hb := below_of_regrown hw'
                clear hw'
                have HO2 : Hid (w2.ownsRow w.heap.size 57 3 (.slice aoC C.length capC) C.length (pcells C)) := (Kp.of_below (B := 0) (ts := []) hb).owns HO.out (by simp)
                have HB2 : Hid (Below w.heap.size w w2) := below_trans' HB.out hb
                clear hb
                go_wp2
                go_roundg (L.length - (i + 1))
                case measure => omega
                case rel => exact ⟨i + 1, some (i, q), by omega, Nat.le_refl _, by go_num, rfl, HS.out, HO2.out, HB2.out⟩
              · simp only [g1, decide_false] at e2
                have HS : Hid (BestInv L last (i + 1) (some (j, p))) := best_skip HBI.out HQ.out (.inr ⟨j, p, rfl, g3⟩)
                clear h1 h3 g1 g3
                go_wp2
                refine wp_region_quiet_below (by kernel_rfl) (by kernel_rfl) ?_
                repeat (first | go_big_quiet_step (fail) | quiet_step (fail))
                refine wpQuiet_nil ?_
                intro w2 hw'
                have hb := below_of_regrown hw'
                clear hw'
                have HO2 : Hid (w2.ownsRow w.heap.size 57 3 (.slice aoC C.length capC) C.length (pcells C)) := (Kp.of_below (B := 0) (ts := []) hb).owns HO.out (by simp)
                have HB2 : Hid (Below w.heap.size w w2) := below_trans' HB.out hb
                clear hb
                go_wp2
                go_roundg (L.length - (i + 1))
                case measure => omega
                case rel => exact ⟨i + 1, some (j, p), by omega, Nat.le_refl _, by go_num, rfl, HS.out, HO2.out, HB2.out⟩
        · obtain rfl : i = L.length := by omega
          cases o with
          | none =>
            have HF : Hid (SamePr (keep L) C ∧ Upto C C.length) := cnt_none HI.out HBI.out
            unfold bestVal
            go_wp2
            go_ret
            exact ⟨_, C, rfl, HF.out.1, HF.out.2, HO.out, HB.out⟩
          | some jp =>
            obtain ⟨j, p⟩ := jp
            have hjl : j < L.length := HBI.out.1
            obtain ⟨⟨g, off, spot⟩, rfl, hsp, c0, c1, c2⟩ := HC.out j p HBI.out.2.1
            simp only at hsp c0 c1 c2
            subst hsp
            have C0 : Hid (w.cell? ⟨g, off + j * 3, none⟩ = some (.string p.k)) := c0
            have c0 := cell_later HB.out c0
            have c1 := cell_later HB.out c1
            have c2 := cell_later HB.out c2
            have hgl : g < wr.heap.size := block_lt_of_cell c0
            have HI2 : Hid (CntInv L (C ++ [p]) p.k) := cnt_step HI.out HBI.out
            have hsz := HB.out.size
            unfold bestVal
            go_wp2_with (at_builtin; refine wpList_append_own _ rfl _ _ 38 rfl w.heap.size 57 i0 _ 3 40 Tryz.underlying38 hi hz0 hz1 hz2 rfl (by decide) _ _ _ rfl (HO.out.alloc _) ⟨wr.heap.size, 0, none⟩ 1 1 (Pr.cells p) rfl rfl (one_pair _ _) (ones_pair p) ?c3 ?c4 ?c5 ?_)
            case c3 => unfold maxLen; omega
            case c4 => omega
            case c5 => simp; omega
            intro v9 w4 ho2 hg2 _
            have hb4 := app_below HB.out HO.out hg2
            have HB4 : Hid (Below w.heap.size w w4) := hb4
            have HO4 : Hid (w4.ownsRow w.heap.size 57 3 v9 (C ++ [p]).length (pcells (C ++ [p]))) := pcells_snoc' ho2
            have c0b := cell_later hb4 C0.out
            clear ho2 hg2 hb4 c0 c1 c2
            go_wp2
            go_roundg (L.length - (C.length + 1))
            case measure => omega
            case rel => exact ⟨C ++ [p], p.k, by simp; omega, by simp, by simp only [List.length_append, List.length_singleton]; go_num, rfl, HI2.out, HO4.out, HB4.out⟩
    · have HF : Hid (SamePr (keep L) C ∧ Upto C C.length) := cnt_full HI.out (by omega)
      go_wp2
      go_ret
      exact ⟨_, C, rfl, HF.out.1, HF.out.2, HO.out, HB.out⟩
end Go.Proofs.YtojdkfamihlnkaaGreatDoor
