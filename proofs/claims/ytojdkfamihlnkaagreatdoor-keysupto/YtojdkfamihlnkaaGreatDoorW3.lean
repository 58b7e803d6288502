/- The walks of this proof: a run of entries: place, Find, KeyFrom; what is seen. -/
import Derived.Test.YtojdkfamihlnkaaGreatDoorW2
namespace Go.Proofs.YtojdkfamihlnkaaGreatDoor
open Go.RowKit Go.Sort

/-- A slice value that holds these entries. -/
def EnRow (w : World) (v : Value) (E : List En) : Prop :=
  (E = [] ∧ v = .slice none 0 0) ∨ ∃ b cap, v = .slice (some ⟨b, 0, none⟩) E.length cap ∧ E.length ≤ cap ∧ EnAt w b E

theorem EnRow.below {w w' : World} {v : Value} {E : List En} (h : EnRow w v E) (hb : Below w.heap.size w w') : EnRow w' v E := by
  rcases h with h | ⟨b, cap, hv, hcap, hE⟩
  · exact .inl h
  · exact .inr ⟨b, cap, hv, hcap, hE.below hb⟩

set_option maxHeartbeats 1000000 in
set_option maxRecDepth 100000 in
theorem search_none (t : En) (ao : Option Addr) (cap : Nat) (w : World) :
    Calls Tryz.prog 123 #[.slice ao 0 cap, t.val, .func (.func 124) #[] #[]] w fun e w' => ∃ (x : Bool), e = .returned (.tuple #[.int .i64 0, .bool x]) ∧ Below w.heap.size w w' := by
  unfold En.val
  go_enter Tryz.func123, Tryz.ntmps123
  go_wp2
  refine wp_loop_rounds 1 ?_
  rw [rounds_succ]
  go_wp2
  refine wp_region_quiet_below (by kernel_rfl) (by kernel_rfl) ?_
  repeat (first | go_big_quiet_step (fail) | quiet_step (fail))
  refine wpQuiet_nil ?_
  intro _ hw'
  obtain ⟨⟨dq, osq⟩, hw''⟩ := hw'
  subst hw''
  go_wp2
  go_ret2
  exact ⟨_, rfl, below_trans' ((Below.refl _ _).alloc (Nat.le_refl _) _) (below_regrown _ dq osq)⟩

set_option maxHeartbeats 1000000 in
theorem place_any (E : List En) (v : Value) (k : ByteArray) (s : Int) (w : World) (hn : E.length < 1000000000) (hs : Sorted E) (hc : EnRow w v E) :
    Calls Tryz.prog 106 #[v, .string k, .int .i64 s] w fun e w' => ∃ i : Nat, e = .returned (.int .i64 i) ∧ IsPlace E k s i ∧ Below w.heap.size w w' := by
  rcases hc with ⟨rfl, rfl⟩ | ⟨b, cap, rfl, _, hE⟩
  · go_enter Tryz.func106, Tryz.ntmps106
    go_wp2_with (go_at_call 123; refine (search_none ⟨k, s, false, ⟨#[]⟩⟩ _ _ _).mono ?_; rintro e w' ⟨x, rfl, hb⟩)
    go_ret
    exact ⟨0, rfl, ⟨Nat.le_refl _, fun j e h => by simp at h⟩, by assumption⟩
  · have HE : Hid (EnAt w b E) := hE
    have HS : Hid (Sorted E) := hs
    clear hE hs
    go_enter Tryz.func106, Tryz.ntmps106
    go_wp2_with (go_at_call 123; refine (search_any E ⟨k, s, false, ⟨#[]⟩⟩ _ _ _ hn HS.out HE.out).mono ?_; rintro e w' ⟨i, x, rfl, hp, hb⟩; have HP : Hid (IsPlace E k s i) := hp; clear hp)
    go_ret
    exact ⟨_, rfl, Hid.out (by assumption), by assumption⟩

/-- What Find hands back. -/
def foundVal : Option En → Value
  | some e => .tuple #[.agg #[.string e.k, .int .i64 e.s, .bool e.g, .string e.v], .bool true]
  | none => .tuple #[.agg #[.string ⟨#[]⟩, .int .i64 0, .bool false, .string ⟨#[]⟩], .bool false]

theorem EnRow.form {w : World} {v : Value} {E : List En} (h : EnRow w v E) : ∃ ao cap, v = .slice ao E.length cap ∧ (0 < E.length → ∃ b, ao = some ⟨b, 0, none⟩ ∧ EnAt w b E) := by
  rcases h with ⟨rfl, rfl⟩ | ⟨b, cap, rfl, _, hE⟩
  · exact ⟨none, 0, rfl, fun h => absurd h (by simp)⟩
  · exact ⟨_, cap, rfl, fun _ => ⟨b, rfl, hE⟩⟩

set_option maxHeartbeats 1000000 in
theorem find_any (E : List En) (v : Value) (sb : Nat) (k : ByteArray) (s : Int) (w : World) (hn : E.length < 1000000000) (hs : Sorted E) (hv : w.cell? ⟨sb, 0, none⟩ = some v) (hc : EnRow w v E) :
    Calls Tryz.prog 83 #[.pointer (some ⟨sb, 0, none⟩), .string k, .int .i64 s] w fun e w' => e = .returned (foundVal (fnd E k s)) ∧ Below w.heap.size w w' := by
  have hsb : sb < w.heap.size := block_lt_of_cell hv
  have HC : Hid (EnRow w v E) := hc
  have HS : Hid (Sorted E) := hs
  clear hc hs
  go_enter Tryz.func83, Tryz.ntmps83
  go_wp2_with fail
  refine (place_any E v k s _ hn HS.out (by exact HC.out.below ((Below.refl _ _).alloc (Nat.le_refl _) _))).mono ?_
  rintro e w1 ⟨i, rfl, hp, hb⟩
  have hv1 := cell_later (below_trans' ((Below.refl _ w).alloc (Nat.le_refl _) _) hb) hv
  have hc1 := HC.out.below (below_trans' ((Below.refl _ w).alloc (Nat.le_refl _) _) hb)
  have r0 := (hb.cell (p := ⟨w.heap.size, 0, none⟩) (by simp)).trans (by simp : _ = some (Value.string ⟨#[]⟩))
  have r1 := (hb.cell (p := ⟨w.heap.size, 1, none⟩) (by simp)).trans (by simp : _ = some (Value.int .i64 0))
  have r2 := (hb.cell (p := ⟨w.heap.size, 2, none⟩) (by simp)).trans (by simp : _ = some (Value.bool false))
  have r3 := (hb.cell (p := ⟨w.heap.size, 3, none⟩) (by simp)).trans (by simp : _ = some (Value.string ⟨#[]⟩))
  have f0 := (hb.frozen (p := ⟨w.heap.size, 0, none⟩) (by simp)).trans (by simp : _ = false)
  have f1 := (hb.frozen (p := ⟨w.heap.size, 1, none⟩) (by simp)).trans (by simp : _ = false)
  have f2 := (hb.frozen (p := ⟨w.heap.size, 2, none⟩) (by simp)).trans (by simp : _ = false)
  have f3 := (hb.frozen (p := ⟨w.heap.size, 3, none⟩) (by simp)).trans (by simp : _ = false)
  have HP : Hid (IsPlace E k s i) := hp
  have HB : Hid (Below w.heap.size w w1) := below_trans' ((Below.refl _ w).alloc (Nat.le_refl _) _) hb
  clear hp hb
  obtain ⟨ao, cap, rfl, hf⟩ := hc1.form
  clear hc1
  by_cases hi : i < E.length
  · obtain ⟨b, rfl, hE⟩ := hf (by omega)
    obtain ⟨e, he⟩ : ∃ e, E[i]? = some e := ⟨_, List.getElem?_eq_getElem hi⟩
    obtain ⟨c0, c1, c2, c3⟩ := hE i e he
    have HE : Hid (E[i]? = some e) := he
    clear he hE hf
    have hne : ((i : Int) == (E.length : Int)) = false := by simp; omega
    by_cases hk : e.k = k
    · have hfin : Hid (fnd E k s = some e) := fnd_hit HP.out HE.out hk
      subst hk
      go_wp2
      exact bodyPost_ret (v := foundVal (some e)) (by simp [results, Tryz.results83, go_sem, foundVal, r0, r1, r2, r3]) rfl ⟨by rw [hfin.out], (((HB.out.setCell (Nat.le_refl _) _).setCell (Nat.le_refl _) _).setCell (Nat.le_refl _) _).setCell (Nat.le_refl _) _⟩
    · have hfin : Hid (fnd E k s = none) := fnd_miss HS.out HP.out HE.out hk
      have hkb := str_ne hk
      go_wp2
      exact bodyPost_ret (v := foundVal none) (by simp [results, Tryz.results83, go_sem, foundVal, r0, r1, r2, r3]) rfl ⟨by rw [hfin.out], (((HB.out.setCell (Nat.le_refl _) _).setCell (Nat.le_refl _) _).setCell (Nat.le_refl _) _).setCell (Nat.le_refl _) _⟩
  · have hil : i = E.length := by have := HP.out.1; omega
    subst hil
    have hfin : Hid (fnd E k s = none) := fnd_end HP.out
    clear hf
    go_wp2
    exact bodyPost_ret (v := foundVal none) (by simp [results, Tryz.results83, go_sem, foundVal, r0, r1, r2, r3]) rfl ⟨by rw [hfin.out], (((HB.out.setCell (Nat.le_refl _) _).setCell (Nat.le_refl _) _).setCell (Nat.le_refl _) _).setCell (Nat.le_refl _) _⟩

/-- What KeyFrom hands back. -/
def nextVal : Option En → Value
  | some e => .tuple #[.string e.k, .bool true]
  | none => .tuple #[.string ⟨#[]⟩, .bool false]

set_option maxHeartbeats 1000000 in
theorem keyFrom_any (E : List En) (v : Value) (sb : Nat) (k : ByteArray) (w : World) (hn : E.length < 1000000000) (hs : Sorted E) (hq : ∀ e ∈ E, e.s ≤ 9223372036854775807) (hv : w.cell? ⟨sb, 0, none⟩ = some v) (hc : EnRow w v E) :
    Calls Tryz.prog 107 #[.pointer (some ⟨sb, 0, none⟩), .string k] w fun e w' => e = .returned (nextVal (nxt E k)) ∧ Below w.heap.size w w' := by
  have hsb : sb < w.heap.size := block_lt_of_cell hv
  have HC : Hid (EnRow w v E) := hc
  have HS : Hid (Sorted E) := hs
  have HQ : Hid (∀ e ∈ E, e.s ≤ 9223372036854775807) := hq
  clear hc hs hq
  go_enter Tryz.func107, Tryz.ntmps107
  go_wp2_with fail
  refine (place_any E v k _ _ hn HS.out HC.out).mono ?_
  rintro e w1 ⟨i, rfl, hp, hb⟩
  have hv1 := cell_later hb hv
  have hc1 := HC.out.below hb
  have HP : Hid (IsPlace E k 9223372036854775807 i) := hp
  have HB : Hid (Below w.heap.size w w1) := hb
  clear hp hb
  obtain ⟨ao, cap, rfl, hf⟩ := hc1.form
  clear hc1
  by_cases hi : i < E.length
  · obtain ⟨b, rfl, hE⟩ := hf (by omega)
    obtain ⟨e, he⟩ : ∃ e, E[i]? = some e := ⟨_, List.getElem?_eq_getElem hi⟩
    obtain ⟨c0, c1, c2, c3⟩ := hE i e he
    have hfin : Hid (nxt E k = some e) := nxt_hit HQ.out HP.out he
    clear he hE hf c1 c2 c3
    have hne : ((i : Int) == (E.length : Int)) = false := by simp; omega
    go_wp2
    go_ret2
    exact ⟨by rw [hfin.out]; rfl, HB.out⟩
  · have hil : i = E.length := by have := HP.out.1; omega
    subst hil
    have hfin : Hid (nxt E k = none) := nxt_end HQ.out HP.out
    clear hf
    go_wp2
    go_ret2
    exact ⟨by rw [hfin.out]; rfl, HB.out⟩

/-- What is seen of what was found. -/
def seenVal : Option En → Value
  | some e => if e.g then .tuple #[.string ⟨#[]⟩, .bool false] else .tuple #[.string e.v, .bool true]
  | none => .tuple #[.string ⟨#[]⟩, .bool false]

set_option maxHeartbeats 1000000 in
theorem seen_any (E : List En) (v : Value) (sb : Nat) (k : ByteArray) (s : Int) (w : World) (hn : E.length < 1000000000) (hs : Sorted E) (hv : w.cell? ⟨sb, 0, none⟩ = some v) (hc : EnRow w v E) :
    Calls Tryz.prog 52 #[.pointer (some ⟨sb, 0, none⟩), .string k, .int .i64 s] w fun e w' => e = .returned (seenVal (fnd E k s)) ∧ Below w.heap.size w w' := by
  have hfi := find_any E v sb k s w hn hs hv hc
  clear hs hc
  generalize fnd E k s = r at *
  cases r with
  | none =>
    have HF : Hid _ := hfi
    clear hfi
    go_enter Tryz.func52, Tryz.ntmps52
    go_wp2_with fail
    refine Calls.mono HF.out ?_
    rintro e w1 ⟨rfl, hb⟩
    have HB : Hid (Below w.heap.size w w1) := hb
    clear hb
    unfold foundVal
    go_wp2
    go_ret2
    exact ⟨rfl, HB.out.alloc HB.out.size _⟩
  | some e =>
    obtain ⟨k', s', g', v'⟩ := e
    have HF : Hid _ := hfi
    clear hfi
    cases g' <;>
    · go_enter Tryz.func52, Tryz.ntmps52
      go_wp2_with fail
      refine Calls.mono HF.out ?_
      rintro e w1 ⟨rfl, hb⟩
      have HB : Hid (Below w.heap.size w w1) := hb
      clear hb
      unfold foundVal
      go_wp2
      go_ret2
      exact ⟨rfl, HB.out.alloc HB.out.size _⟩

set_option maxHeartbeats 1000000 in
theorem behind_any (k : ByteArray) (w : World) (hk : k.size ≤ 1000) :
    Calls Tryz.prog 108 #[.string k] w fun e w' => e = .returned (.string (k ++ nul)) ∧ w' = w := by
  go_enter Tryz.func108, Tryz.ntmps108
  go_wp2
  go_ret
  exact ⟨rfl, rfl⟩

end Go.Proofs.YtojdkfamihlnkaaGreatDoor
