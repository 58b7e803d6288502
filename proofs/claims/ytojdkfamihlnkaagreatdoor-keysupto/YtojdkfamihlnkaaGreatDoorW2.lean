/- The walks of this proof: the place of a key among entries. -/
import Derived.Test.YtojdkfamihlnkaaGreatDoorW1
namespace Go.Proofs.YtojdkfamihlnkaaGreatDoor
open Go.RowKit Go.Sort

/-- Entries that lie in a block, from its head on. -/
def EnAt (w : World) (b : Nat) (E : List En) : Prop :=
  ∀ j e, E[j]? = some e → w.cell? ⟨b, j * 4, none⟩ = some (.string e.k) ∧ w.cell? ⟨b, j * 4 + 1, none⟩ = some (.int .i64 e.s) ∧ w.cell? ⟨b, j * 4 + 2, none⟩ = some (.bool e.g) ∧ w.cell? ⟨b, j * 4 + 3, none⟩ = some (.string e.v)

theorem EnAt.below {w w' : World} {b : Nat} {E : List En} (h : EnAt w b E) (hb : Below w.heap.size w w') : EnAt w' b E := fun j e he =>
  let ⟨h0, h1, h2, h3⟩ := h j e he
  ⟨cell_later hb h0, cell_later hb h1, cell_later hb h2, cell_later hb h3⟩

theorem order_in (a b : En) (w : World) (d : Nat) (os : Array Obj) :
    Calls Tryz.prog 124 #[.agg #[.string a.k, .int .i64 a.s, .bool a.g, .string a.v], .agg #[.string b.k, .int .i64 b.s, .bool b.g, .string b.v]] (grow (redrawn w d) os) fun e w'' => e = .returned (.int .i64 (oc a.k a.s b.k b.s)) ∧ ∃ p : Regrown, w'' = grow (redrawn w p.d) p.os :=
  Calls.regrown_of (order_any a b _)

set_option maxHeartbeats 1000000 in
set_option maxRecDepth 100000 in
theorem search_any (E : List En) (t : En) (b cap : Nat) (w : World) (hn : E.length < 1000000000) (hs : Sorted E) (hc : EnAt w b E) :
    Calls Tryz.prog 123 #[.slice (some ⟨b, 0, none⟩) E.length cap, t.val, .func (.func 124) #[] #[]] w fun e w' => ∃ (i : Nat) (x : Bool), e = .returned (.tuple #[.int .i64 i, .bool x]) ∧ IsPlace E t.k t.s i ∧ Below w.heap.size w w' := by
  unfold En.val
  have HS : Hid (Sorted E) := hs
  have HC : Hid (EnAt w b E) := hc
  clear hs hc
  go_enter Tryz.func123, Tryz.ntmps123
  go_wp2
  go_loopg [9, 10] E.length (fun kx s9 s10 wr => ∃ lo hi : Nat, s9 = .int .i64 lo ∧ s10 = .int .i64 hi ∧ lo ≤ hi ∧ hi ≤ E.length ∧ hi - lo ≤ kx ∧ Hid (Below (w.heap.size + 1) (w.alloc (.cells #[.string t.k, .int .i64 t.s, .bool t.g, .string t.v] 61)) wr) ∧
    Hid (∀ j e, E[j]? = some e → (j < lo → oc e.k e.s t.k t.s < 0) ∧ (hi ≤ j → 0 ≤ oc e.k e.s t.k t.s)))
  case atStart => exact ⟨0, E.length, rfl, rfl, Nat.zero_le _, Nat.le_refl _, by omega, Below.refl _ _, fun j e he => ⟨fun h => absurd h (Nat.not_lt_zero _), fun h => absurd (List.getElem?_eq_some_iff.1 he).1 (by omega)⟩⟩
  case round =>
    obtain ⟨lo, hi, rfl, rfl, hlh, hin, hg, hbl, hI⟩ := hrel
    have hbw : Hid (Below w.heap.size w wr) := ((Below.refl _ _).alloc (Nat.le_refl _) _).trans (hbl.out.mono (Nat.le_succ _))
    have b0 := cell_regrown ((hbl.out.cell (p := ⟨w.heap.size, 0, none⟩) (Nat.lt_succ_self _)).trans (by simp : _ = some (Value.string t.k)))
    have b1 := cell_regrown ((hbl.out.cell (p := ⟨w.heap.size, 1, none⟩) (Nat.lt_succ_self _)).trans (by simp : _ = some (Value.int .i64 t.s)))
    have b2 := cell_regrown ((hbl.out.cell (p := ⟨w.heap.size, 2, none⟩) (Nat.lt_succ_self _)).trans (by simp : _ = some (Value.bool t.g)))
    have b3 := cell_regrown ((hbl.out.cell (p := ⟨w.heap.size, 3, none⟩) (Nat.lt_succ_self _)).trans (by simp : _ = some (Value.string t.v)))
    by_cases hlt : lo < hi
    · obtain ⟨e, he⟩ : ∃ e, E[(lo + hi) / 2]? = some e := ⟨_, List.getElem?_eq_getElem (by omega)⟩
      have HE : Hid (E[(lo + hi) / 2]? = some e) := he
      obtain ⟨c0, c1, c2, c3⟩ := HC.out.below hbw.out _ e he
      clear he
      have c0 := cell_regrown c0
      have c1 := cell_regrown c1
      have c2 := cell_regrown c2
      have c3 := cell_regrown c3
      have hm : (lo + hi) / 2 < E.length := by omega
      by_cases hyx : oc e.k e.s t.k t.s < 0
      · go_wp2
        refine wp_region_quiet_below (by kernel_rfl) (by kernel_rfl) ?_
        repeat (first | go_big_quiet_step (exact order_in _ _ _ _ _) | quiet_step (exact order_in _ _ _ _ _))
        refine wpQuiet_nil ?_
        intro _ hw'
        obtain ⟨⟨dq, osq⟩, hw''⟩ := hw'
        subst hw''
        go_wp2
        go_roundg (hi - ((lo + hi) / 2 + 1))
        case measure => omega
        case rel =>
          refine ⟨(lo + hi) / 2 + 1, hi, by rw [show ((lo : Int) + (hi : Int)) / 2 + 1 = (((lo + hi) / 2 + 1 : Nat) : Int) by omega], rfl, by omega, hin, Nat.le_refl _, hbl.out.trans ((below_regrown wr dq osq).mono ?_), fun j e' he' => ⟨fun h => sorted_mono HS.out (by omega) he' HE.out hyx, (hI.out j e' he').2⟩⟩
          have := hbl.out.size; simpa using this
      · go_wp2
        refine wp_region_quiet_below (by kernel_rfl) (by kernel_rfl) ?_
        repeat (first | go_big_quiet_step (exact order_in _ _ _ _ _) | quiet_step (exact order_in _ _ _ _ _))
        refine wpQuiet_nil ?_
        intro _ hw'
        obtain ⟨⟨dq, osq⟩, hw''⟩ := hw'
        subst hw''
        go_wp2
        go_roundg ((lo + hi) / 2 - lo)
        case measure => omega
        case rel =>
          refine ⟨lo, (lo + hi) / 2, rfl, by rw [show ((lo : Int) + (hi : Int)) / 2 = (((lo + hi) / 2 : Nat) : Int) by omega], by omega, by omega, Nat.le_refl _, hbl.out.trans ((below_regrown wr dq osq).mono ?_), fun j e' he' => ⟨(hI.out j e' he').1, fun h => Int.not_lt.1 fun h2 => absurd (sorted_mono HS.out h HE.out he' h2) (Int.not_lt.2 hyx)⟩⟩
          have := hbl.out.size; simpa using this
    · obtain rfl : hi = lo := by omega
      by_cases hn2 : hi < E.length
      · obtain ⟨e, he⟩ : ∃ e, E[hi]? = some e := ⟨_, List.getElem?_eq_getElem (by omega)⟩
        obtain ⟨c0, c1, c2, c3⟩ := HC.out.below hbw.out _ e he
        clear he
        have c0 := cell_regrown c0
        have c1 := cell_regrown c1
        have c2 := cell_regrown c2
        have c3 := cell_regrown c3
        go_wp2
        refine wp_region_quiet_below (by kernel_rfl) (by kernel_rfl) ?_
        repeat (first | go_big_quiet_step (exact order_in _ _ _ _ _) | quiet_step (exact order_in _ _ _ _ _))
        refine wpQuiet_nil ?_
        intro _ hw'
        obtain ⟨⟨dq, osq⟩, hw''⟩ := hw'
        subst hw''
        go_wp2
        go_ret2
        exact ⟨hi, _, rfl, ⟨hin, hI.out⟩, below_trans' hbw.out (below_regrown wr dq osq)⟩
      · have hd : decide ((hi : Int) < (E.length : Int)) = false := by simp; omega
        go_wp2
        refine wp_region_quiet_below (by kernel_rfl) (by kernel_rfl) ?_
        repeat (first | go_big_quiet_step (exact order_in _ _ _ _ _) | quiet_step (exact order_in _ _ _ _ _))
        refine wpQuiet_nil ?_
        intro _ hw'
        obtain ⟨⟨dq, osq⟩, hw''⟩ := hw'
        subst hw''
        go_wp2
        go_ret2
        exact ⟨hi, _, rfl, ⟨hin, hI.out⟩, below_trans' hbw.out (below_regrown wr dq osq)⟩
end Go.Proofs.YtojdkfamihlnkaaGreatDoor
