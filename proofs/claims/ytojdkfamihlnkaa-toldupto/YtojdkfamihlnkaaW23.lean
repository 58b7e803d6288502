/- The walks of this proof: a batch out of raw numbers. -/
import Derived.Test.YtojdkfamihlnkaaW22
namespace Go.Proofs.Ytojdkfamihlnkaa
open Go.RowKit Go.Sort

/-- Raw triples that can be read. -/
def RawAt (w : World) (v : Value) : Prop := ∃ (ao : Option Addr) (n cap : Nat), v = .slice ao n cap ∧ ∀ k, k < n → ∃ (b : Addr) (x y : Int) (g : Bool), ao = some b ∧ b.spot = none ∧
  w.cell? ⟨b.block, b.off + k * 3, none⟩ = some (.int .i64 x) ∧ w.cell? ⟨b.block, b.off + k * 3 + 1, none⟩ = some (.int .i64 y) ∧ w.cell? ⟨b.block, b.off + k * 3 + 2, none⟩ = some (.bool g) ∧
  -9223372036854775808 ≤ x ∧ x ≤ 9223372036854775807 ∧ -9223372036854775808 ≤ y ∧ y ≤ 9223372036854775807

/-- A batch that Write takes. -/
structure BOk (L : List Pr) : Prop where
  lo : 1 ≤ L.length
  hi : L.length ≤ 4
  ok : ∀ p ∈ L, PrOk p
  ten : ∀ p ∈ L, p.k ∈ tk

def BatchMade (w : World) (e : Ending) (w' : World) : Prop :=
  ∃ (v : Value) (L : List Pr), e = .returned v ∧ w'.ownsRow w.heap.size 78 3 v L.length (pcells L) ∧ BOk L ∧ Below w.heap.size w w'

theorem pcells_snoc {w : World} {B : Nat} {v : Value} {L : List Pr} {p : Pr} (h : w.ownsRow B 78 3 v (L.length + 1) (pcells L ++ Pr.cells p)) : w.ownsRow B 78 3 v (L ++ [p]).length (pcells (L ++ [p])) := by
  have e : pcells (L ++ [p]) = pcells L ++ Pr.cells p := by simp [pcells]
  rw [e, List.length_append]
  exact h

set_option maxHeartbeats 1000000 in
set_option maxRecDepth 100000 in
theorem batch_any (v : Value) (w : World) (h : RawAt w v) : Calls Try.prog 37 #[v] w fun e w' => BatchMade w e w' := by
  obtain ⟨i0, hi, hz0, hz1, hz2⟩ := info_parts Try.info78
  obtain ⟨ao, n, cap, rfl, hc⟩ := h
  have HC : Hid _ := hc
  clear hc
  go_enter Try.func37, Try.ntmps37
  go_wp2
  go_loopw [3, 4] (fun s3 i wr => ∃ (L : List Pr), L.length ≤ n ∧ L.length ≤ 4 ∧ i = .int .i64 L.length ∧ Hid (wr.ownsRow w.heap.size 78 3 s3 L.length (pcells L)) ∧ Hid ((∀ p ∈ L, PrOk p) ∧ (∀ p ∈ L, p.k ∈ tk)) ∧ Hid (Below w.heap.size w wr)) (fun _ i _ => 4 - (intOf i).toNat)
  case atStart => exact ⟨[], Nat.zero_le _, by simp, rfl, World.ownsRow_nil w _ _ _, ⟨by simp, by simp⟩, Below.refl _ _⟩
  case round =>
    obtain ⟨L, hk, hk4, rfl, HO, HP, HB⟩ := hrel
    have hsz : w.heap.size ≤ wr.heap.size := HB.out.size
    by_cases hlt : L.length < n
    · by_cases hlt4 : L.length < 4
      · obtain ⟨⟨g, off, spot⟩, x, y, gg, rfl, hsp, c0, c1, c2, hb1, hb2, hb3, hb4⟩ := HC.out L.length hlt
        simp only at hsp c0 c1 c2
        subst hsp
        have c0 := cell_later HB.out c0
        have c1 := cell_later HB.out c1
        have c2 := cell_later HB.out c2
        have hgl : g < wr.heap.size := block_lt_of_cell c0
        have H49 : Hid (Calls Try.prog 49 #[.agg #[.int .i64 x, .int .i64 y, .bool gg]] wr fun e w' => ∃ p : Pr, e = .returned (.agg #[.string p.k, .string p.v, .bool p.g]) ∧ PrOk p ∧ p.k ∈ tk ∧ Below wr.heap.size wr w') := pair_any x y gg wr hb1 hb2 hb3 hb4
        clear hb1 hb2 hb3 hb4
        go_wp2_with fail
        refine Calls.mono H49.out ?_
        rintro e w3 ⟨p, rfl, hpo, hpt, hb3⟩
        clear c0 c1 c2
        have hgl3 : g < w3.heap.size := Nat.lt_of_lt_of_le hgl hb3.size
        have hsz3 : w.heap.size ≤ w3.heap.size := Nat.le_trans hsz hb3.size
        have HO3 : w3.ownsRow w.heap.size 78 3 u3 L.length (pcells L) := (Kp.of_below (B := 0) (ts := []) hb3).owns HO.out (by simp)
        have HB3 : Hid (Below w.heap.size w w3) := below_trans' HB.out hb3
        have HP3 : Hid ((∀ q ∈ L ++ [p], PrOk q) ∧ (∀ q ∈ L ++ [p], q.k ∈ tk)) := ⟨by
          intro q hq
          rcases List.mem_append.1 hq with h | h
          · exact HP.out.1 q h
          · obtain rfl := List.mem_singleton.1 h; exact hpo, by
          intro q hq
          rcases List.mem_append.1 hq with h | h
          · exact HP.out.2 q h
          · obtain rfl := List.mem_singleton.1 h; exact hpt⟩
        clear HO HB HP hpo hpt hb3 hgl H49
        obtain ⟨ao3, cap3, rfl⟩ := slice_form HO3
        have HO4 : Hid (w3.ownsRow w.heap.size 78 3 (.slice ao3 L.length cap3) L.length (pcells L)) := HO3
        clear HO3
        go_wp2_with (at_builtin; refine wpList_append_own _ rfl _ _ 53 rfl w.heap.size 78 i0 _ 3 40 Try.underlying53 hi hz0 hz1 hz2 rfl (by decide) _ _ _ rfl (HO4.out.alloc _) ⟨w3.heap.size, 0, none⟩ 1 1 (Pr.cells p) rfl rfl (by exact one_pair _ _) (pair_one p) (by unfold maxLen; omega) (by omega) (by simp; omega) ?_)
        intro v9 w4 ho4 hg4 _
        have HB4 : Hid (Below w.heap.size w w4) := (HB3.out.alloc hsz3 _).grown hg4 (by simp; omega) fun k hk => (HO4.out.lt k hk).1
        have HO5 : Hid (w4.ownsRow w.heap.size 78 3 v9 (L ++ [p]).length (pcells (L ++ [p]))) := pcells_snoc ho4
        clear ho4 hg4 HO4 HB3
        go_wp2
        go_roundw
        case rel => exact ⟨L ++ [p], by rw [List.length_append]; exact hlt, by rw [List.length_append]; exact hlt4, by simp, HO5, HP3, HB4⟩
        case measure => simp [intOf]; omega
      · obtain ⟨ao3, cap3, rfl⟩ := slice_form HO.out
        have hL0 : (L.length : Int) ≠ 0 := by omega
        go_wp2
        go_ret
        exact ⟨_, L, rfl, HO.out, ⟨by omega, by omega, HP.out.1, HP.out.2⟩, HB.out⟩
    · obtain rfl : n = L.length := by omega
      obtain ⟨ao3, cap3, rfl⟩ := slice_form HO.out
      by_cases hz : L.length = 0
      · obtain rfl : L = [] := List.length_eq_zero_iff.1 hz
        have HO4 : Hid (wr.ownsRow w.heap.size 78 3 (.slice ao3 0 cap3) 0 []) := HO.out
        go_wp2_with (at_builtin; refine wpList_append_own _ rfl _ _ 53 rfl w.heap.size 78 i0 _ 3 40 Try.underlying53 hi hz0 hz1 hz2 rfl (by decide) _ _ _ rfl (HO4.out.alloc _) ⟨wr.heap.size, 0, none⟩ 1 1 (Pr.cells ⟨⟨#[97]⟩, ⟨#[48, 48]⟩, false⟩) rfl rfl (by exact one_pair wr ⟨⟨#[97]⟩, ⟨#[48, 48]⟩, false⟩) (pair_one _) (by unfold maxLen; omega) (by omega) (by simp; omega) ?_)
        intro v9 w4 ho4 hg4 _
        have HB4 : Hid (Below w.heap.size w w4) := (HB.out.alloc hsz _).grown hg4 (by simp; omega) fun k hk => (HO4.out.lt k hk).1
        have HO5 : Hid (w4.ownsRow w.heap.size 78 3 v9 [(⟨⟨#[97]⟩, ⟨#[48, 48]⟩, false⟩ : Pr)].length (pcells [(⟨⟨#[97]⟩, ⟨#[48, 48]⟩, false⟩ : Pr)])) := ho4
        clear ho4 hg4 HO4 HB HO
        go_wp2
        go_ret
        refine ⟨_, _, rfl, HO5.out, ⟨by simp, by simp, ?_, ?_⟩, HB4.out⟩
        · intro q hq
          obtain rfl := List.mem_singleton.1 hq
          exact ⟨Nat.le_refl 1, Nat.le_add_left 1 5, Nat.le_add_left 2 6, by simp⟩
        · intro q hq
          obtain rfl := List.mem_singleton.1 hq
          exact List.mem_cons_self
      · have hL0 : (L.length : Int) ≠ 0 := by omega
        go_wp2
        go_ret
        exact ⟨_, L, rfl, HO.out, ⟨by omega, by omega, HP.out.1, HP.out.2⟩, HB.out⟩
end Go.Proofs.Ytojdkfamihlnkaa
