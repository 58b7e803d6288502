/- The walks of this proof: snapshots by their numbers; Get and Scan. -/
import Derived.Test.YtojdkfamihlnkaaGreatDoorW4
namespace Go.Proofs.YtojdkfamihlnkaaGreatDoor
open Go.RowKit Go.Sort

/-- What lies in a row, by its places. -/
theorem row_cell {α : Type} {w : World} {base : Nat} {e : TypeId} {size : Nat} {v : Value} {l : List α} {f : α → List Value} (hf : ∀ a, (f a).length = size) (h : w.ownsRow base e size v l.length (l.flatMap f)) (hl : 0 < l.length) :
    ∃ g cap, v = .slice (some ⟨g, 0, none⟩) l.length cap ∧ base ≤ g ∧ g < w.heap.size ∧ l.length ≤ cap ∧ ∀ j a i, l[j]? = some a → i < size → w.cell? ⟨g, j * size + i, none⟩ = (f a)[i]? := by
  rcases h.2 with ⟨_, h0⟩ | ⟨g, cap, cur, rfl, hb, hg, hnc, _⟩
  · omega
  · refine ⟨g, cap, rfl, hb, lt_of_block hg, hnc, fun j a i hj hi => ?_⟩
    have hj' : j < l.length := (List.getElem?_eq_some_iff.1 hj).1
    rw [h.cellAt _ (by have := Nat.mul_le_mul_right size hj'; simp only [Nat.succ_eq_add_one, Nat.add_mul] at this; omega), flat_get f size hf l j a i hj hi]

theorem enrow_of_owns {w : World} {base : Nat} {v : Value} {E : List En} (h : w.ownsRow base 61 4 v E.length (ecells E)) : EnRow w v E := by
  by_cases hl : 0 < E.length
  · obtain ⟨g, cap, rfl, _, _, hc, hcell⟩ := row_cell (fun a => by rfl) h hl
    exact .inr ⟨g, cap, rfl, hc, fun j e he => ⟨hcell j e 0 he (by omega), hcell j e 1 he (by omega), hcell j e 2 he (by omega), hcell j e 3 he (by omega)⟩⟩
  · have : E = [] := List.eq_nil_of_length_eq_zero (by omega)
    subst this
    rcases h.2 with ⟨rfl, _⟩ | ⟨g, cap, cur, rfl, _, _, hc, _⟩
    · exact .inl ⟨rfl, rfl⟩
    · exact .inr ⟨g, cap, rfl, hc, fun j e he => by simp at he⟩

/-- A snapshot: its number, and the batch number at which it sees. -/
structure Sn where
  n : Int
  q : Int
def Sn.cells (s : Sn) : List Value := [.int .i64 s.n, .int .i64 s.q]
def scells (l : List Sn) : List Value := l.flatMap Sn.cells

/-- Where a number stands among snapshots. -/
def sidx (S : List Sn) (n : Int) : Option Nat := S.findIdx? fun s => decide (s.n = n)

theorem sidx_hit {S : List Sn} {n : Int} {k : Nat} {s : Sn} (hs : S[k]? = some s) (hn : s.n = n) (hno : ∀ j s', j < k → S[j]? = some s' → s'.n ≠ n) : sidx S n = some k := by
  obtain ⟨hk, rfl⟩ := List.getElem?_eq_some_iff.1 hs
  refine List.findIdx?_eq_some_iff_getElem.2 ⟨hk, by simp [hn], fun j hj => ?_⟩
  simpa using hno j _ hj (List.getElem?_eq_getElem (by omega))

theorem sidx_none {S : List Sn} {n : Int} (hno : ∀ j s', j < S.length → S[j]? = some s' → s'.n ≠ n) : sidx S n = none := by
  refine List.findIdx?_eq_none_iff.2 fun x hx => ?_
  obtain ⟨j, hj, rfl⟩ := List.getElem_of_mem hx
  simpa using hno j _ hj (List.getElem?_eq_getElem hj)

def idxVal : Option Nat → Value
  | some i => .tuple #[.int .i64 i, .bool true]
  | none => .tuple #[.int .i64 0, .bool false]

set_option maxHeartbeats 1000000 in
theorem indexSnap_any (S : List Sn) (v : Value) (base sb : Nat) (n : Int) (w : World) (hl : S.length ≤ 4) (hv : w.cell? ⟨sb, 3, none⟩ = some v) (hS : w.ownsRow base 165 2 v S.length (scells S)) :
    Calls Tryz.prog 86 #[.pointer (some ⟨sb, 3, none⟩), .int .i64 n] w fun e w' => e = .returned (idxVal (sidx S n)) ∧ Below w.heap.size w w' := by
  obtain ⟨ao, cap, rfl⟩ := slice_form hS
  have HS : Hid _ := hS
  clear hS
  go_enter Tryz.func86, Tryz.ntmps86
  go_wp2
  go_loopw [13] (fun i wr => ∃ k : Nat, k ≤ S.length ∧ i = .int .i64 k ∧ Hid (Below w.heap.size w wr) ∧ Hid (∀ j s', j < k → S[j]? = some s' → s'.n ≠ n)) (fun i _ => S.length - (intOf i).toNat)
  case atStart => exact ⟨0, Nat.zero_le _, rfl, Below.refl _ _, fun j s' h => absurd h (Nat.not_lt_zero _)⟩
  case round =>
    obtain ⟨k, hk, rfl, HB, HN⟩ := hrel
    by_cases hlt : k < S.length
    · obtain ⟨g, cap', hv', hbg, hgl, hcap, hcell⟩ := row_cell (fun a => by rfl) HS.out (by omega)
      simp only [Value.slice.injEq, true_and] at hv'
      obtain ⟨rfl, rfl⟩ := hv'
      obtain ⟨s, hs⟩ : ∃ s, S[k]? = some s := ⟨_, List.getElem?_eq_getElem hlt⟩
      have c0 := cell_later HB.out (show w.cell? ⟨g, k * 2, none⟩ = some (Value.int .i64 s.n) from hcell k s 0 hs (by omega))
      have c1 := cell_later HB.out (show w.cell? ⟨g, k * 2 + 1, none⟩ = some (Value.int .i64 s.q) from hcell k s 1 hs (by omega))
      have HE : Hid (S[k]? = some s) := hs
      have hsz : g < wr.heap.size := Nat.lt_of_lt_of_le hgl HB.out.size
      clear hs hcell
      by_cases hn : s.n = n
      · have hfin : Hid (sidx S n = some k) := sidx_hit HE.out hn HN.out
        have hnb : (s.n == n) = true := by simp [hn]
        go_wp2
        go_ret2
        exact ⟨by rw [hfin.out]; rfl, HB.out.alloc HB.out.size _⟩
      · have hnb : (s.n == n) = false := by simp [hn]
        go_wp2
        go_roundw
        case rel => exact ⟨k + 1, by omega, by go_num, HB.out.alloc HB.out.size _, fun j s' hj hs' => by
          rcases Nat.lt_succ_iff_lt_or_eq.1 hj with h | rfl
          · exact HN.out j s' h hs'
          · rw [HE.out] at hs'; cases hs'; exact hn⟩
        case measure => simp [intOf]; omega
    · obtain rfl : k = S.length := by omega
      have hfin : Hid (sidx S n = none) := sidx_none HN.out
      go_wp2
      go_ret2
      exact ⟨by rw [hfin.out]; rfl, HB.out⟩

/-- The batch number at which a number sees; none: there is no such snapshot. -/
def snq (S : List Sn) (n : Int) : Option Int := (S.find? fun s => decide (s.n = n)).map (·.q)

theorem snq_idx {S : List Sn} {n : Int} : snq S n = (sidx S n).bind fun i => S[i]?.map (·.q) := by
  unfold snq sidx
  induction S with
  | nil => rfl
  | cons s S ih =>
    by_cases h : s.n = n
    · simp [List.findIdx?_cons, h]
    · simp only [List.find?_cons, List.findIdx?_cons, h, decide_false, Bool.false_eq_true, if_false, ih]
      cases S.findIdx? fun s => decide (s.n = n) <;> simp

def seqVal : Option Int → Value
  | some q => .tuple #[.int .i64 q, .bool true]
  | none => .tuple #[.int .i64 0, .bool false]

set_option maxHeartbeats 1000000 in
theorem snapSeq_any (S : List Sn) (v : Value) (base sb : Nat) (n : Int) (w : World) (hl : S.length ≤ 4) (hv : w.cell? ⟨sb, 3, none⟩ = some v) (hS : w.ownsRow base 165 2 v S.length (scells S)) :
    Calls Tryz.prog 82 #[.pointer (some ⟨sb, 3, none⟩), .int .i64 n] w fun e w' => e = .returned (seqVal (snq S n)) ∧ Below w.heap.size w w' := by
  have hi := indexSnap_any S v base sb n w hl hv hS
  rw [snq_idx]
  generalize hr : sidx S n = r at hi
  cases r with
  | none =>
    have HI : Hid _ := hi
    clear hi hS hr
    go_enter Tryz.func82, Tryz.ntmps82
    go_wp2_with fail
    refine Calls.mono HI.out ?_
    rintro e w1 ⟨rfl, hb⟩
    have HB : Hid (Below w.heap.size w w1) := hb
    clear hb
    unfold idxVal
    go_wp2
    go_ret2
    exact ⟨rfl, HB.out⟩
  | some i =>
    have hil : i < S.length := (List.findIdx?_eq_some_iff_getElem.1 hr).1
    obtain ⟨g, cap, rfl, hbg, hgl, hcap, hcell⟩ := row_cell (fun a => by rfl) hS (by omega)
    obtain ⟨s, hs⟩ : ∃ s, S[i]? = some s := ⟨_, List.getElem?_eq_getElem hil⟩
    have c1 := show w.cell? ⟨g, i * 2 + 1, none⟩ = some (Value.int .i64 s.q) from hcell i s 1 hs (by omega)
    have HI : Hid _ := hi
    have HE : Hid (S[i]? = some s) := hs
    clear hi hS hr hcell hs
    go_enter Tryz.func82, Tryz.ntmps82
    go_wp2_with fail
    refine Calls.mono HI.out ?_
    rintro e w1 ⟨rfl, hb⟩
    have HB : Hid (Below w.heap.size w w1) := hb
    have hv1 := cell_later hb hv
    have c1 := cell_later hb c1
    clear hb
    unfold idxVal
    go_wp2
    go_ret2
    exact ⟨by simp [HE.out, seqVal], HB.out⟩

/-- At which number is seen: the latest (0), or a snapshot's. -/
def seqOf (S : List Sn) (last : Int) (at_ : Int) : Option Int := if at_ = 0 then some last else snq S at_

set_option maxHeartbeats 1000000 in
theorem seqAt_any (S : List Sn) (v : Value) (base sb : Nat) (n last : Int) (w : World) (hl : S.length ≤ 4) (hv : w.cell? ⟨sb, 3, none⟩ = some v) (hlast : w.cell? ⟨sb, 5, none⟩ = some (.int .i64 last)) (hS : w.ownsRow base 165 2 v S.length (scells S)) :
    Calls Tryz.prog 51 #[.pointer (some ⟨sb, 0, none⟩), .int .i64 n] w fun e w' => e = .returned (seqVal (seqOf S last n)) ∧ Below w.heap.size w w' := by
  unfold seqOf
  by_cases hn : n = 0
  · subst hn
    clear hS
    rw [if_pos rfl]
    go_enter Tryz.func51, Tryz.ntmps51
    go_wp2
    go_ret2
    exact ⟨rfl, Below.refl _ _⟩
  · have hnb : (n == 0) = false := by simp [hn]
    rw [if_neg hn]
    have hi := snapSeq_any S v base sb n w hl hv hS
    generalize snq S n = r at hi
    have HI : Hid _ := hi
    clear hi hS
    cases r with
    | none =>
      go_enter Tryz.func51, Tryz.ntmps51
      go_wp2_with fail
      refine Calls.mono HI.out ?_
      rintro e w1 ⟨rfl, hb⟩
      have HB : Hid (Below w.heap.size w w1) := hb
      clear hb
      unfold seqVal
      go_wp2
      go_ret2
      exact ⟨rfl, HB.out⟩
    | some q =>
      go_enter Tryz.func51, Tryz.ntmps51
      go_wp2_with fail
      refine Calls.mono HI.out ?_
      rintro e w1 ⟨rfl, hb⟩
      have HB : Hid (Below w.heap.size w w1) := hb
      clear hb
      unfold seqVal
      go_wp2
      go_ret2
      exact ⟨rfl, HB.out⟩
end Go.Proofs.YtojdkfamihlnkaaGreatDoor
