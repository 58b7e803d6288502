/- The walks of this proof: whether a list that was lent is as it was. -/
import Derived.Test.YtojdkfamihlnkaaGreatDoorL1
namespace Go.Proofs.YtojdkfamihlnkaaGreatDoor
open Go.RowKit Go.Sort

def oth : Pr := ⟨⟨#[111, 116, 104, 101, 114]⟩, ⟨#[111, 116, 104, 101, 114, 115]⟩, false⟩

/-- The cells of a pair in an owned row of pairs. -/
theorem row_pair {w : World} {base g n cap : Nat} {A : List Pr} (h : w.ownsRow base 57 3 (.slice (some ⟨g, 0, none⟩) n cap) n (pcells A)) {k : Nat} {p : Pr} (hp : A[k]? = some p) (hn : n = A.length) :
    w.cell? ⟨g, k * 3, none⟩ = some (.string p.k) ∧ w.cell? ⟨g, k * 3 + 1, none⟩ = some (.string p.v) ∧ w.cell? ⟨g, k * 3 + 2, none⟩ = some (.bool p.g) := by
  subst hn
  have hk : k < A.length := (List.getElem?_eq_some_iff.1 hp).1
  obtain ⟨g', cap', hv, _, _, _, hcell⟩ := row_cell (fun a => by rfl) h (by omega)
  simp only [Value.slice.injEq, Option.some.injEq, Addr.mk.injEq, and_true, true_and] at hv
  obtain ⟨rfl, rfl⟩ := hv
  exact ⟨hcell k p 0 hp (by omega), hcell k p 1 hp (by omega), hcell k p 2 hp (by omega)⟩

set_option maxHeartbeats 2000000 in
set_option maxRecDepth 100000 in
theorem unspoilt_any (L : List Pr) (vl : Value) (base g : Nat) (w : World) (h : PairsAt w vl L) (ho : w.ownsRow base 57 3 (.slice (some ⟨g, 0, none⟩) (L.length + 8) (L.length + 8)) (L.length + 8) (pcells (L ++ bhs 8))) :
    Calls Tryz.prog 49 #[.slice (some ⟨g, 0, none⟩) (L.length + 8) (L.length + 8), vl] w fun e w' => e = .returned (.bool true) ∧ Kd (fun k => k = g ∨ w.heap.size ≤ k) [57] w w' := by
  obtain ⟨ao, cap, rfl, hl, _, hc⟩ := h
  have HC : Hid _ := hc
  have HO : Hid (w.ownsRow base 57 3 (.slice (some ⟨g, 0, none⟩) (L.length + 8) (L.length + 8)) (L.length + 8) (pcells (L ++ bhs 8))) := ho
  have hgl : g < w.heap.size := (ho.lt g rfl).2
  clear hc ho
  go_enter Tryz.func49, Tryz.ntmps49
  go_wp2
  go_loopw [5, 6] (fun s5 i wr => ∃ k : Nat, k ≤ 8 ∧ i = .int .i64 k ∧ s5 = .bool true ∧ Hid (Below w.heap.size w wr)) (fun _ i _ => 8 - (intOf i).toNat)
  case atStart => exact ⟨0, by omega, rfl, rfl, Below.refl _ _⟩
  case round =>
    obtain ⟨k, hk, rfl, rfl, HB⟩ := hrel
    by_cases hlt : k < 8
    · have HBH : Hid (∀ w d os, Calls Tryz.prog 77 #[.int .i64 k] (grow (redrawn w d) os) fun e w'' => e = .returned (.agg #[.string (bh k).k, .string (bh k).v, .bool (bh k).g]) ∧ ∃ p : Regrown, w'' = grow (redrawn w p.d) p.os) := behind2_in k hlt
      obtain ⟨c0, c1, c2⟩ := row_pair HO.out (k := L.length + k) (p := bh k) (by rw [List.getElem?_append_right (by omega), Nat.add_sub_cancel_left]; exact bhs_get hlt) (by simp [bhs_len])
      generalize bh k = q at HBH c0 c1 c2
      have c0 := cell_regrown (cell_later HB.out c0)
      have c1 := cell_regrown (cell_later HB.out c1)
      have c2 := cell_regrown (cell_later HB.out c2)
      have hkn : ((L.length : Int) + (k : Int)).toNat = L.length + k := by omega
      have hk0 : (0 : Int) ≤ (L.length : Int) + (k : Int) := by omega
      have hk8 : (L.length : Int) + (k : Int) < (L.length : Int) + 8 := by omega
      go_wp2
      refine wp_region_quiet_below (by kernel_rfl) (by kernel_rfl) ?_
      repeat (first | go_big_quiet_step (exact HBH.out _ _ _) | quiet_step (exact HBH.out _ _ _))
      refine wpQuiet_nil ?_
      intro w2 hw'
      have hb := below_of_regrown hw'
      have HB2 : Hid (Below w.heap.size w w2) := below_trans' HB.out hb
      clear hb hw'
      go_wp2
      go_roundw
      case rel => exact ⟨k + 1, by omega, by go_num, by simp, HB2.out⟩
      case measure => simp [intOf]; omega
    · obtain rfl : k = 8 := by omega
      rw [show (((8 : Nat) : Int)) = 8 from rfl]
      have HB0 := HB
      clear HB
      go_wp2
      go_loopw [5, 7] (fun s5 i wx => ∃ k : Nat, k ≤ L.length ∧ i = .int .i64 k ∧ s5 = .bool true ∧ Hid (Below w.heap.size w wx)) (fun _ i _ => L.length - (intOf i).toNat)
      case atStart => exact ⟨0, by omega, rfl, rfl, HB0.out⟩
      case round =>
        obtain ⟨k, hk, rfl, rfl, HB⟩ := hrel
        by_cases hlt : k < L.length
        · obtain ⟨q, hq⟩ : ∃ q, L[k]? = some q := ⟨_, List.getElem?_eq_getElem hlt⟩
          obtain ⟨c0, c1, c2⟩ := row_pair HO.out (k := k) (p := q) (by rw [List.getElem?_append_left hlt]; exact hq) (by simp [bhs_len])
          obtain ⟨⟨gs, off, spot⟩, rfl, hsp, d0, d1, d2⟩ := HC.out k q hq
          simp only at hsp d0 d1 d2
          subst hsp
          have c0 := cell_regrown (cell_later HB.out c0)
          have c1 := cell_regrown (cell_later HB.out c1)
          have c2 := cell_regrown (cell_later HB.out c2)
          have d0 := cell_regrown (cell_later HB.out d0)
          have d1 := cell_regrown (cell_later HB.out d1)
          have d2 := cell_regrown (cell_later HB.out d2)
          have hk8 : (k : Int) < (L.length : Int) + 8 := by omega
          have hkl : (k : Int) < (L.length : Int) := by omega
          clear hq
          go_wp2
          refine wp_region_quiet_below (by kernel_rfl) (by kernel_rfl) ?_
          repeat (first | go_big_quiet_step (fail) | quiet_step (fail))
          refine wpQuiet_nil ?_
          intro w2 hw'
          have hb := below_of_regrown hw'
          have HB2 : Hid (Below w.heap.size w w2) := below_trans' HB.out hb
          clear hb hw'
          go_wp2
          go_roundw
          case rel => exact ⟨k + 1, by omega, by go_num, by simp, HB2.out⟩
          case measure => simp [intOf]; omega
        · obtain rfl : k = L.length := by omega
          have HB1 := HB
          clear HB
          have HR : Hid (wr.ownsRow base 57 3 (.slice (some ⟨g, 0, none⟩) (L.length + 8) (L.length + 8)) (L.length + 8) (pcells (List.replicate 0 oth) ++ pcells (L ++ bhs 8))) := (Kp.of_below (B := 0) (ts := []) (show Below w.heap.size w wr from HB1.out)).owns HO.out (by simp)
          have hrl : (pcells (L ++ bhs 8)).length = (L.length + 8) * 3 := by rw [pcells_len, List.length_append, bhs_len]
          generalize pcells (L ++ bhs 8) = R0 at HR hrl
          go_wp2
          go_loopw [8] (fun i wx => ∃ (k : Nat) (rest : List Value), k ≤ L.length + 8 ∧ i = .int .i64 k ∧ rest.length = (L.length + 8 - k) * 3 ∧ Hid (wx.ownsRow base 57 3 (.slice (some ⟨g, 0, none⟩) (L.length + 8) (L.length + 8)) (L.length + 8) (pcells (List.replicate k oth) ++ rest)) ∧ Hid (Kd (fun k => k = g ∨ w.heap.size ≤ k) [57] w wx)) (fun i _ => L.length + 8 - (intOf i).toNat)
          case atStart => exact ⟨0, R0, by omega, rfl, by omega, HR.out, Kd.of_below HB1.out⟩
          case round =>
            clear HR hrl HB1
            obtain ⟨k, rest, hk, rfl, hrl, HO2, HK⟩ := hrel
            by_cases hlt : k < L.length + 8
            · have hput := put_raw HO2.out (by omega) oth
              rw [List.length_replicate, ← List.replicate_succ'] at hput
              have hcur : ∃ cur, wr.heap[g]? = some (.cells cur 57 (0, 0)) := by
                rcases HO2.out.2 with ⟨h, _⟩ | ⟨g', cap', cur, hv, _, hg, _⟩
                · cases h
                · simp only [Value.slice.injEq, Option.some.injEq, Addr.mk.injEq, and_true] at hv
                  obtain ⟨rfl, _⟩ := hv
                  exact ⟨cur, hg⟩
              have hce : ∀ o, o < (L.length + 8) * 3 → (wr.cell? ⟨g, o, none⟩).isSome = true ∧ wr.frozen? ⟨g, o, none⟩ = false := fun o ho => by
                obtain ⟨cur, hg⟩ := hcur
                refine ⟨?_, by simp [World.frozen?, hg]⟩
                rw [HO2.out.cellAt o ho]
                rw [List.getElem?_eq_getElem (by rw [HO2.out.1]; exact ho)]
                rfl
              have HF : Hid ((((wr.setCell ⟨g, k * 3, none⟩ (.string oth.k)).setCell ⟨g, k * 3 + 1, none⟩ (.string oth.v)).setCell ⟨g, k * 3 + 2, none⟩ (.bool oth.g)).ownsRow base 57 3 (.slice (some ⟨g, 0, none⟩) (L.length + 8) (L.length + 8)) (L.length + 8) (pcells (List.replicate (k + 1) oth) ++ rest.drop 3) ∧ Kd (fun k => k = g ∨ w.heap.size ≤ k) [57] w (((wr.setCell ⟨g, k * 3, none⟩ (.string oth.k)).setCell ⟨g, k * 3 + 1, none⟩ (.string oth.v)).setCell ⟨g, k * 3 + 2, none⟩ (.bool oth.g))) := by
                refine ⟨hput, ?_⟩
                obtain ⟨cur, hg⟩ := hcur
                have h1 := heap_setCell_same wr g (k * 3) cur 57 (.string oth.k) hg
                have h2 := heap_setCell_same _ g (k * 3 + 1) _ 57 (.string oth.v) h1
                exact ((HK.out.setCell (.inl rfl) hg (by simp) _).setCell (.inl rfl) h1 (by simp) _).setCell (.inl rfl) h2 (by simp) _
              obtain ⟨x0, y0⟩ := hce (k * 3) (by omega)
              obtain ⟨x1, y1⟩ := hce (k * 3 + 1) (by omega)
              obtain ⟨x2, y2⟩ := hce (k * 3 + 2) (by omega)
              obtain ⟨u0, x0⟩ := Option.isSome_iff_exists.1 x0
              obtain ⟨u1, x1⟩ := Option.isSome_iff_exists.1 x1
              obtain ⟨u2, x2⟩ := Option.isSome_iff_exists.1 x2
              clear hcur hput hce
              have hk8 : (k : Int) < (L.length : Int) + 8 := by omega
              go_wp2
              go_roundw
              case rel => exact ⟨k + 1, rest.drop 3, by omega, by go_num, by rw [List.length_drop]; omega, HF.out.1, HF.out.2⟩
              case measure => simp [intOf]; omega
            · obtain rfl : k = L.length + 8 := by omega
              rw [show (((L.length + 8 : Nat) : Int)) = (L.length : Int) + 8 by omega]
              go_wp2
              go_ret
              exact ⟨rfl, HK.out⟩
end Go.Proofs.YtojdkfamihlnkaaGreatDoor
