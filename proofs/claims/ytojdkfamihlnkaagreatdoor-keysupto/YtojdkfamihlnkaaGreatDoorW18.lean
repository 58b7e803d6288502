/- The walks of this proof: laying entries together. -/
import Derived.Test.YtojdkfamihlnkaaGreatDoorW17
import Derived.Test.YtojdkfamihlnkaaGreatDoorO
namespace Go.Proofs.YtojdkfamihlnkaaGreatDoor
open Go.RowKit Go.Sort

theorem run_loadCells_rows {P : Program} (w : World) (a : Addr) (cs : List Value) (h : ∀ j v, cs[j]? = some v → w.cell? (a.add j) = some v) (n size : Nat) (len cap : Nat) (hl : cs.length = n * size) :
    (Builtin.firstCells size n (.slice (some a) len cap)).run P w = .ok cs.toArray w := run_firstCells_some (P := P) w size n a len cap cs hl h

/-- copy within a row of elements of some cells, the row written out. -/
theorem run_copy_rows {P : Program} (w : World) (dT sT ty elem : TypeId) (i : TypeInfo) (g o dLen dCap sLen sCap n : Nat) (dp sp : Option Addr) (a : Addr) (cur : Array Value) (t : TypeId) (cs : List Value)
    (hu : P.underlying dT = some (.slice elem)) (hi : P.info? elem = some i) (hg : w.heap[g]? = some (.cells cur t (0, 0))) (hn : Nat.min sLen dLen = n) (hcs : cs.length = n * i.size)
    (hpos : 0 < n → dp = some ⟨g, o, none⟩ ∧ sp = some a) (hsrc : ∀ j v, cs[j]? = some v → w.cell? (a.add j) = some v) (hfit : o + cs.length ≤ cur.size) (h1 : ∀ v ∈ cs, v.oneCell' = true) :
    (Builtin.copy_ #[dT, sT] ty #[.slice dp dLen dCap, .slice sp sLen sCap]).run P w = .ok (goInt n) (w.setRow g (cur.toList.take o ++ cs ++ cur.toList.drop (o + cs.length)).toArray) := by
  by_cases h0 : 0 < n
  · obtain ⟨rfl, rfl⟩ := hpos h0
    have hf := run_firstCells_some (P := P) w i.size n a sLen sCap cs hcs hsrc
    have hst := run_storeCells_at P g o t cs 0 cur w hg (by simpa using hfit) h1
    simp only [Nat.add_zero] at hst
    simp [Builtin.copy_, run_underlying hu, Builtin.lenOf, sizeOf, typeInfo, hi, hn, hf, hst]
  · obtain rfl : n = 0 := by omega
    have hc0 : cs = [] := List.eq_nil_of_length_eq_zero (by omega)
    subst hc0
    have hself : w.setRow g (cur.toList.take o ++ [] ++ cur.toList.drop (o + ([] : List Value).length)).toArray = w := by
      simp only [List.append_nil, List.length_nil, Nat.add_zero, List.take_append_drop]
      exact setRow_self w g cur t (0, 0) hg
    rw [hself]
    have hf : (Builtin.firstCells i.size 0 (.slice sp sLen sCap)).run P w = .ok #[] w := by
      cases sp with
      | none => simp [Builtin.firstCells]
      | some b => exact run_firstCells_some (P := P) w i.size 0 b sLen sCap [] (by simp) (by simp)
    cases dp with
    | none => simp [Builtin.copy_, run_underlying hu, Builtin.lenOf, sizeOf, typeInfo, hi, hn, hf]
    | some b => simp [Builtin.copy_, run_underlying hu, Builtin.lenOf, sizeOf, typeInfo, hi, hn, hf, storeCells]

theorem ecells_len (L : List En) : (ecells L).length = L.length * 4 := flat_len _ 4 (fun a => by rfl) L

theorem set4 {β : Type} (a b c d : β) : ∀ (n : Nat) (xs : List β), n + 3 < xs.length → (((xs.set n a).set (n + 1) b).set (n + 2) c).set (n + 3) d = xs.take n ++ [a, b, c, d] ++ xs.drop (n + 4)
  | 0, x :: y :: z :: u :: r, _ => by simp
  | 0, [], h => by simp at h
  | 0, [_], h => by simp at h
  | 0, [_, _], h => by simp at h
  | 0, [_, _, _], h => by simp at h
  | n + 1, [], h => by simp at h
  | n + 1, x :: r, h => by
    have ih := set4 a b c d n r (by simp at h; omega)
    simp only [List.set_cons_succ, List.take_succ_cons, List.cons_append, List.drop_succ_cons]
    rw [ih]

theorem ecells_set (L : List En) (k : Nat) (x : En) (hk : k < L.length) : ((((ecells L).set (k * 4) (.string x.k)).set (k * 4 + 1) (.int .i64 x.s)).set (k * 4 + 2) (.bool x.g)).set (k * 4 + 3) (.string x.v) = ecells (L.set k x) := by
  rw [set4 _ _ _ _ _ _ (by rw [ecells_len]; omega)]
  unfold ecells
  rw [flat_set _ 4 (fun a => by rfl) L k x hk, show k * 4 + 4 = (k + 1) * 4 by omega]
  rfl

/-- An entry stored into a row. -/
theorem put_entry {w : World} {base g cap : Nat} {L : List En} (h : w.ownsRow base 61 4 (.slice (some ⟨g, 0, none⟩) L.length cap) L.length (ecells L)) (k : Nat) (x : En) (hk : k < L.length) :
    ((((w.setCell ⟨g, k * 4, none⟩ (.string x.k)).setCell ⟨g, k * 4 + 1, none⟩ (.int .i64 x.s)).setCell ⟨g, k * 4 + 2, none⟩ (.bool x.g)).setCell ⟨g, k * 4 + 3, none⟩ (.string x.v)).ownsRow base 61 4 (.slice (some ⟨g, 0, none⟩) (L.set k x).length cap) (L.set k x).length (ecells (L.set k x)) := by
  have h4 := ((((h.stored (k * 4) (.string x.k)).1.stored (k * 4 + 1) (.int .i64 x.s)).1.stored (k * 4 + 2) (.bool x.g)).1.stored (k * 4 + 3) (.string x.v)).1
  rw [ecells_set L k x hk] at h4
  rw [List.length_set]; exact h4

/-- A part of a row copied to another place in it. -/
theorem copy_entries {w : World} {base g cap : Nat} {L : List En} (h : w.ownsRow base 61 4 (.slice (some ⟨g, 0, none⟩) L.length cap) L.length (ecells L)) (d s l : Nat) (hs : s + l ≤ L.length) (hd : d + l ≤ L.length) :
    ∃ cur : Array Value, w.heap[g]? = some (.cells cur 61 (0, 0)) ∧ base ≤ g ∧ d * 4 + (ecells ((L.drop s).take l)).length ≤ cur.size ∧
      (∀ j v, (ecells ((L.drop s).take l))[j]? = some v → w.cell? ((⟨g, s * 4, none⟩ : Addr).add j) = some v) ∧
      (w.setRow g (cur.toList.take (d * 4) ++ ecells ((L.drop s).take l) ++ cur.toList.drop (d * 4 + (ecells ((L.drop s).take l)).length)).toArray).ownsRow base 61 4 (.slice (some ⟨g, 0, none⟩) L.length cap) L.length (ecells (L.take d ++ (L.drop s).take l ++ L.drop (d + l))) := by
  have hlen : (ecells ((L.drop s).take l)).length = l * 4 := by rw [ecells_len, List.length_take, List.length_drop, Nat.min_eq_left (by omega)]
  rcases h.2 with ⟨h', _⟩ | ⟨g', cap', cur, hv, hb, hg, hnc, hcm, hsz, htake⟩
  · cases h'
  simp only [Value.slice.injEq, Option.some.injEq, Addr.mk.injEq, and_true, true_and] at hv
  obtain ⟨rfl, rfl⟩ := hv
  refine ⟨cur, hg, hb, by rw [hlen, hsz]; omega, fun j v hj => ?_, ?_⟩
  · have hadd : (⟨g, s * 4, none⟩ : Addr).add j = ⟨g, s * 4 + j, none⟩ := by unfold Addr.add; split <;> simp_all
    have hj' : j < l * 4 := by rw [← hlen]; exact (List.getElem?_eq_some_iff.1 hj).1
    rw [hadd, h.cellAt _ (by omega)]
    have e : ecells ((L.drop s).take l) = ((ecells L).drop (s * 4)).take (l * 4) := by
      unfold ecells
      rw [flat_drop _ 4 (fun a => by rfl), flat_take _ 4 (fun a => by rfl)]
    rw [e, List.getElem?_take, if_pos hj', List.getElem?_drop] at hj
    exact hj
  · refine ⟨?_, .inr ⟨g, cap, _, rfl, hb, setRow_heap w g cur _ 61 _ hg, hnc, hcm, ?_, ?_⟩⟩
    · rw [ecells_len]; simp only [List.length_append, List.length_take, List.length_drop]; omega
    · simp only [List.size_toArray, List.length_append, List.length_take, List.length_drop, Array.length_toList, hlen, hsz]; omega
    · have hA : cur.toList.take (d * 4) = ecells (L.take d) := by
        have : (cur.toList.take (L.length * 4)).take (d * 4) = cur.toList.take (d * 4) := by rw [List.take_take, Nat.min_eq_left (by omega)]
        rw [← this, htake]; exact flat_take _ 4 (fun a => by rfl) L d
      have hC : (cur.toList.drop (d * 4 + l * 4)).take (L.length * 4 - (d * 4 + l * 4)) = ecells (L.drop (d + l)) := by
        rw [← List.drop_take, htake, show d * 4 + l * 4 = (d + l) * 4 by omega]
        exact flat_drop _ 4 (fun a => by rfl) L (d + l)
      show List.take _ (_ ++ _ ++ _) = _
      rw [hlen, hA, List.take_append, List.take_of_length_le (by rw [List.length_append, ecells_len, ecells_len, List.length_take, List.length_take, List.length_drop]; omega)]
      have e2 : L.length * 4 - (ecells (L.take d) ++ ecells ((L.drop s).take l)).length = L.length * 4 - (d * 4 + l * 4) := by
        rw [List.length_append, ecells_len, hlen, List.length_take, Nat.min_eq_left (by omega)]
      rw [e2, hC]
      simp [ecells]
end Go.Proofs.YtojdkfamihlnkaaGreatDoor
