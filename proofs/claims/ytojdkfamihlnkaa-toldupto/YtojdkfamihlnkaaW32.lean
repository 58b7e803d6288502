/- What is read of the argument: a script. -/
import Derived.Test.YtojdkfamihlnkaaW31
import Derived.ProofKit
import Derived.OpenShut
import Derived.JoinedCond
import Derived.Deep.Slices
namespace Go.Proofs.Ytojdkfamihlnkaa
open Go.ChangeShapes Go.WideShapes Go.ChangeAt Go.RowKit Go.Deep

theorem Try.cells118 : Try.prog.cellsOf 118 = 3 := by kernel_rfl
theorem Try.cells28 : Try.prog.cellsOf 28 = 4 := by kernel_rfl
theorem Try.cells3 : Try.prog.cellsOf 3 = 1 := by kernel_rfl
theorem Try.cells4 : Try.prog.cellsOf 4 = 1 := by kernel_rfl
theorem Try.cells26 : Try.prog.cellsOf 26 = 1 := by kernel_rfl

theorem len3 {α : Type} : ∀ {l : List α}, l.length = 3 → ∃ a b c, l = [a, b, c]
  | [a, b, c], _ => ⟨a, b, c, rfl⟩
theorem len4 {α : Type} : ∀ {l : List α}, l.length = 4 → ∃ a b c d, l = [a, b, c, d]
  | [a, b, c, d], _ => ⟨a, b, c, d, rfl⟩

theorem one_le {H : Type} (d : DataW H) : 1 ≤ Rows.uptoBulk d := by
  cases d
  case lit l => cases l <;> simp [Rows.uptoBulk]
  all_goals simp [Rows.uptoBulk]

/-- A list's bulk is no less than its length. -/
theorem all_len {H : Type} (l : List (DataW H)) : l.length ≤ Rows.uptoBulkAll l := by
  induction l
  case nil => exact Nat.zero_le _
  case cons d r ih =>
    have h := one_le d
    rw [Rows.uptoBulkAll, List.length_cons]
    omega

section
variable {H : Type} {enc : TypeId × Value → H} {W : World} {base : Nat} {spare : Nat → Bool} {held : Bool}

theorem cell_at {a : Addr} {n i : Nat} {v : Value} (hs : a.spot = none) (h : W.cell? ((a.add n).add i) = some v) : W.cell? ⟨a.block, a.off + n + i, none⟩ = some v := by
  obtain ⟨b, o, s⟩ := a
  simp only at hs
  subst hs
  rw [add_plain, add_plain] at h
  exact h

theorem int_of {fuel : Nat} {v : Value} {x : DataW H × List MemPlace} (h : DataW.trod enc Try.prog W base spare held fuel 3 [v] = some x) : ∃ n : Int, v = .int .i64 n ∧ -9223372036854775808 ≤ n ∧ n ≤ 9223372036854775807 := by
  obtain ⟨n, hc, _, hw⟩ := DataW.trod_int Try.underlying3 h
  simp only [List.cons.injEq, and_true] at hc
  exact ⟨n, hc, bounds_i64 hw⟩

theorem bool_of {fuel : Nat} {v : Value} {x : DataW H × List MemPlace} (h : DataW.trod enc Try.prog W base spare held fuel 4 [v] = some x) : ∃ b : Bool, v = .bool b := by
  obtain ⟨b, hc, _⟩ := DataW.trod_bool Try.underlying4 h
  simp only [List.cons.injEq, and_true] at hc
  exact ⟨b, hc⟩

theorem raw_of {fuel : Nat} {v : Value} {x : DataW H × List MemPlace} (h : DataW.trod enc Try.prog W base spare held fuel 26 [v] = some x) : RawAt W v := by
  rcases open_slice Try.underlying26 h with ⟨hcs, _⟩ | ⟨a, len, cap, m, n, D, Pl, hcs, _, hl, _, hmm, _, hx⟩
  · simp only [List.cons.injEq, and_true] at hcs
    subst hcs
    exact ⟨none, 0, 0, rfl, fun k hk => absurd hk (Nat.not_lt_zero _)⟩
  · simp only [List.cons.injEq, and_true] at hcs
    subst hcs
    have hlm : len ≤ m := by rw [hmm]; split <;> omega
    rw [Try.cells118] at hx
    refine ⟨some a, len, cap, rfl, fun k hk => ?_⟩
    have hsp : a.spot = none := by
      obtain ⟨cs', h1, _⟩ := hx 0 (by omega)
      obtain ⟨_, hlen, hcell⟩ := World.cells?_some h1
      have := hcell 0 (by omega)
      rw [List.getElem?_eq_getElem (by omega)] at this
      simpa [Addr.add] using World.cell?_spot this
    obtain ⟨cs', h1, h2⟩ := hx k (by omega)
    obtain ⟨_, hlen, hcell⟩ := World.cells?_some h1
    obtain ⟨xs, j, _, _, _, hxl, hf⟩ := DataW.trod_struct Try.underlying118 h2
    obtain ⟨y0, y1, y2, rfl⟩ := len3 hxl
    obtain ⟨v0, v1, v2, rfl⟩ := len3 hlen
    · have g0 := hf 0 _ rfl
      have g1 := hf 1 _ rfl
      have g2 := hf 2 _ rfl
      simp [Try.cells3, Try.cells4] at g0 g1 g2
      obtain ⟨n0, rfl, b0, b0'⟩ := int_of g0
      obtain ⟨n1, rfl, b1, b1'⟩ := int_of g1
      obtain ⟨b, rfl⟩ := bool_of g2
      exact ⟨a, n0, n1, b, rfl, hsp, cell_at hsp (hcell 0 (by omega)), cell_at hsp (hcell 1 (by omega)), cell_at hsp (hcell 2 (by omega)), b0, b0', b1, b1'⟩

theorem script_of {fuel : Nat} {v : Value} {x : DataW H × List MemPlace} (h : DataW.trod enc Try.prog W base spare held fuel 22 [v] = some x) : ∃ n, ScriptAt W v n ∧ n ≤ Rows.uptoBulk x.1 := by
  rcases open_slice Try.underlying22 h with ⟨hcs, _⟩ | ⟨a, len, cap, m, n, D, Pl, hcs, _, hl, _, hmm, hxx, hx⟩
  · simp only [List.cons.injEq, and_true] at hcs
    subst hcs
    exact ⟨0, ⟨none, 0, rfl, fun k hk => absurd hk (Nat.not_lt_zero _)⟩, Nat.zero_le _⟩
  · simp only [List.cons.injEq, and_true] at hcs
    subst hcs
    have hlm : len ≤ m := by rw [hmm]; split <;> omega
    rw [Try.cells28] at hx
    refine ⟨len, ⟨some a, cap, rfl, fun k hk => ?_⟩, ?_⟩
    · have hsp : a.spot = none := by
        obtain ⟨cs', h1, _⟩ := hx 0 (by omega)
        obtain ⟨_, hlen, hcell⟩ := World.cells?_some h1
        have := hcell 0 (by omega)
        rw [List.getElem?_eq_getElem (by omega)] at this
        simpa [Addr.add] using World.cell?_spot this
      obtain ⟨cs', h1, h2⟩ := hx k (by omega)
      obtain ⟨_, hlen, hcell⟩ := World.cells?_some h1
      obtain ⟨xs, j, _, _, _, hxl, hf⟩ := DataW.trod_struct Try.underlying28 h2
      obtain ⟨y0, y1, y2, y3, rfl⟩ := len4 hxl
      obtain ⟨v0, v1, v2, v3, rfl⟩ := len4 hlen
      · have g0 := hf 0 _ rfl
        have g1 := hf 1 _ rfl
        have g2 := hf 2 _ rfl
        have g3 := hf 3 _ rfl
        simp [Try.cells3, Try.cells4, Try.cells26] at g0 g1 g2 g3
        obtain ⟨n0, rfl, _, _⟩ := int_of g0
        obtain ⟨n1, rfl, b1, b1'⟩ := int_of g1
        obtain ⟨b, rfl⟩ := bool_of g3
        have hr := raw_of g2
        obtain ⟨al, nl, cl, rfl, _⟩ := id hr
        exact ⟨a, n0, n1, al, nl, cl, b, rfl, hsp, cell_at hsp (hcell 0 (by omega)), cell_at hsp (hcell 1 (by omega)), cell_at hsp (hcell 2 (by omega)), cell_at hsp (hcell 3 (by omega)), hr, b1, b1'⟩
    · rw [hxx]
      simp only [Rows.uptoBulk]
      have := all_len (H := H) ((List.range len).map D)
      simp only [List.length_map, List.length_range] at this
      omega
end
end Go.Proofs.Ytojdkfamihlnkaa
