/- The walks of this proof: comparing keys and entries, looking for the place of one. -/
import Derived.Test.YtakipjofboipmaaGreatDoorJ1
import Derived.Test.YtakipjofboipmaaGreatDoorJ2
namespace Go.Proofs.YtakipjofboipmaaGreatDoor
open Go.RowKit

set_option maxHeartbeats 1000000 in
set_option maxRecDepth 100000 in
theorem compareString_any (a b : ByteArray) (w : World) :
    Calls Tryz.prog 201 #[.string a, .string b] w fun e w' => e = .returned (.int .i64 (kc a b)) ∧ w' = w := by
  go_enter Tryz.func201, Tryz.ntmps201
  go_wp2
  rw [run_callFunc_extern Tryz.func239 (by kernel_rfl) (by kernel_rfl) (by kernel_rfl) (e := Extern.BytealgCompare.compare) (by kernel_rfl), Lib.run_compareString]
  simp only [Result.andThen]
  rw [Oper.upon_value]
  go_wp2
  go_ret
  exact ⟨rfl, rfl⟩

set_option maxHeartbeats 400000 in
theorem compare_any (a b : ByteArray) (w : World) :
    Calls Tryz.prog 149 #[.string a, .string b] w fun e w' => e = .returned (.int .i64 (kc a b)) ∧ w' = w := by
  go_enter Tryz.func149, Tryz.ntmps149
  go_wp2_with (go_at_call 201; refine (compareString_any _ _ _).mono ?_; rintro e w' ⟨rfl, rfl⟩)
  go_ret
  exact ⟨rfl, rfl⟩

def ci (a b : Int) : Int := if a < b then -1 else if b < a then 1 else 0

set_option maxHeartbeats 400000 in
theorem cmpint_any (a b : Int) (w : World) :
    Calls Tryz.prog 139 #[.int .i64 a, .int .i64 b] w fun e w' => e = .returned (.int .i64 (ci a b)) ∧ w' = w := by
  by_cases h1 : a < b
  · have e : ci a b = -1 := by simp [ci, h1]
    rw [e]
    go_enter Tryz.func139, Tryz.ntmps139
    go_wp2
    go_ret
    exact ⟨rfl, rfl⟩
  · by_cases h2 : b < a
    · have e : ci a b = 1 := by simp [ci, h1, h2]
      rw [e]
      go_enter Tryz.func139, Tryz.ntmps139
      go_wp2
      go_ret
      exact ⟨rfl, rfl⟩
    · have e : ci a b = 0 := by simp [ci, h1, h2]
      rw [e]
      go_enter Tryz.func139, Tryz.ntmps139
      go_wp2
      go_ret
      exact ⟨rfl, rfl⟩

/-- An entry as a value. -/
def En.val (e : En) : Value := .agg #[.string e.k, .int .i64 e.s, .bool e.g, .string e.v]

set_option maxHeartbeats 400000 in
theorem order_any (a b : En) (w : World) :
    Calls Tryz.prog 96 #[a.val, b.val] w fun e w' => e = .returned (.int .i64 (oc a.k a.s b.k b.s)) ∧ Below w.heap.size w w' := by
  obtain ⟨k1, s1, g1, v1⟩ := a
  obtain ⟨k2, s2, g2, v2⟩ := b
  unfold En.val
  generalize hn : kc k1 k2 = n
  have H : Hid (kc k1 k2 = n) := hn
  clear hn
  by_cases h0 : n = 0
  · subst h0
    have e : oc k1 s1 k2 s2 = ci s2 s1 := by simp [oc, ci, H.out]
    simp only [e]
    go_enter Tryz.func96, Tryz.ntmps96
    go_wp2_with (first
      | (go_at_call 149; refine (compare_any _ _ _).mono ?_; rintro e w' ⟨rfl, rfl⟩; rw [H.out])
      | (go_at_call 139; refine (cmpint_any _ _ _).mono ?_; rintro e w' ⟨rfl, rfl⟩))
    go_ret
    exact ⟨rfl, ((Below.refl _ _).alloc (Nat.le_refl _) _).alloc (by simp) _⟩
  · have e : oc k1 s1 k2 s2 = n := by simp [oc, H.out, h0]
    simp only [e]
    have hb : (n != 0) = true := by simp [h0]
    go_enter Tryz.func96, Tryz.ntmps96
    go_wp2_with (first
      | (go_at_call 149; refine (compare_any _ _ _).mono ?_; rintro e w' ⟨rfl, rfl⟩; rw [H.out])
      | (go_at_call 139; refine (cmpint_any _ _ _).mono ?_; rintro e w' ⟨rfl, rfl⟩))
    go_ret
    exact ⟨rfl, ((Below.refl _ _).alloc (Nat.le_refl _) _).alloc (by simp) _⟩

end Go.Proofs.YtakipjofboipmaaGreatDoor

/- The walks of this proof: the place of a key among entries. -/
namespace Go.Proofs.YtakipjofboipmaaGreatDoor
open Go.RowKit Go.Sort

/-- Entries that lie in a block, from its head on. -/
def EnAt (w : World) (b : Nat) (E : List En) : Prop :=
  ∀ j e, E[j]? = some e → w.cell? ⟨b, j * 4, none⟩ = some (.string e.k) ∧ w.cell? ⟨b, j * 4 + 1, none⟩ = some (.int .i64 e.s) ∧ w.cell? ⟨b, j * 4 + 2, none⟩ = some (.bool e.g) ∧ w.cell? ⟨b, j * 4 + 3, none⟩ = some (.string e.v)

theorem EnAt.below {w w' : World} {b : Nat} {E : List En} (h : EnAt w b E) (hb : Below w.heap.size w w') : EnAt w' b E := fun j e he =>
  let ⟨h0, h1, h2, h3⟩ := h j e he
  ⟨cell_later hb h0, cell_later hb h1, cell_later hb h2, cell_later hb h3⟩

theorem order_in (a b : En) (w : World) (d : Nat) (os : Array Obj) :
    Calls Tryz.prog 96 #[.agg #[.string a.k, .int .i64 a.s, .bool a.g, .string a.v], .agg #[.string b.k, .int .i64 b.s, .bool b.g, .string b.v]] (grow (redrawn w d) os) fun e w'' => e = .returned (.int .i64 (oc a.k a.s b.k b.s)) ∧ ∃ p : Regrown, w'' = grow (redrawn w p.d) p.os :=
  Calls.regrown_of (order_any a b _)

set_option maxHeartbeats 1000000 in
set_option maxRecDepth 100000 in
theorem search_any (E : List En) (t : En) (b cap : Nat) (w : World) (hn : E.length < 4500000000000) (hs : Sorted E) (hc : EnAt w b E) :
    Calls Tryz.prog 240 #[.slice (some ⟨b, 0, none⟩) E.length cap, t.val, .func (.func 96) #[] #[]] w fun e w' => ∃ (i : Nat) (x : Bool), e = .returned (.tuple #[.int .i64 i, .bool x]) ∧ IsPlace E t.k t.s i ∧ Below w.heap.size w w' := by
  unfold En.val
  have HS : Hid (Sorted E) := hs
  have HC : Hid (EnAt w b E) := hc
  clear hs hc
  go_enter Tryz.func240, Tryz.ntmps240
  go_wp2
  go_loopg [9, 10] E.length (fun kx s9 s10 wr => ∃ lo hi : Nat, s9 = .int .i64 lo ∧ s10 = .int .i64 hi ∧ lo ≤ hi ∧ hi ≤ E.length ∧ hi - lo ≤ kx ∧ Hid (Below (w.heap.size + 1) (w.alloc (.cells #[.string t.k, .int .i64 t.s, .bool t.g, .string t.v] 61)) wr) ∧
    Hid (∀ j e, E[j]? = some e → (j < lo → oc e.k e.s t.k t.s < 0) ∧ (hi ≤ j → 0 ≤ oc e.k e.s t.k t.s)))
  case atStart => exact ⟨0, E.length, rfl, rfl, Nat.zero_le _, Nat.le_refl _, by omega, Below.refl _ _, fun j e he => ⟨fun h => absurd h (Nat.not_lt_zero _), fun h => absurd (List.getElem?_eq_some_iff.1 he).1 (by omega)⟩⟩
  case round =>
    obtain ⟨lo, hi, rfl, rfl, hlh, hin, hg, hbl, hI⟩ := hrel
    have hbw : Hid (Below w.heap.size w wr) := ((Below.refl _ _).alloc (Nat.le_refl _) _).trans (hbl.out.mono (Nat.le_succ _))
    have b0 := cell_regrown ((hbl.out.cell (p := ⟨w.heap.size, 0, none⟩) (Nat.lt_succ_self _)).trans (by simp : _ = some (Value.string t.k)))
    have b1 := cell_regrown ((hbl.out.cell (p := ⟨w.heap.size, 1, none⟩) (Nat.lt_succ_self _)).trans (by simp : _ = some (Value.int .i64 t.s)))
    have b2 := cell_regrown ((hbl.out.cell (p := ⟨w.heap.size, 2, none⟩) (Nat.lt_succ_self _)).trans (by simp : _ = some (Value.bool t.g)))
    have b3 := cell_regrown ((hbl.out.cell (p := ⟨w.heap.size, 3, none⟩) (Nat.lt_succ_self _)).trans (by simp : _ = some (Value.string t.v)))
    by_cases hlt : lo < hi
    · obtain ⟨e, he⟩ : ∃ e, E[(lo + hi) / 2]? = some e := ⟨_, List.getElem?_eq_getElem (by omega)⟩
      have HE : Hid (E[(lo + hi) / 2]? = some e) := he
      obtain ⟨c0, c1, c2, c3⟩ := HC.out.below hbw.out _ e he
      clear he
      have c0 := cell_regrown c0
      have c1 := cell_regrown c1
      have c2 := cell_regrown c2
      have c3 := cell_regrown c3
      have hm : (lo + hi) / 2 < E.length := by omega
      by_cases hyx : oc e.k e.s t.k t.s < 0
      · go_wp2
        refine wp_region_quiet_below (by kernel_rfl) (by kernel_rfl) ?_
        repeat (first | go_big_quiet_step (exact order_in _ _ _ _ _) | quiet_step (exact order_in _ _ _ _ _))
        refine wpQuiet_nil ?_
        intro _ hw'
        obtain ⟨⟨dq, osq⟩, hw''⟩ := hw'
        subst hw''
        go_wp2
        go_roundg (hi - ((lo + hi) / 2 + 1))
        case measure => omega
        case rel =>
          refine ⟨(lo + hi) / 2 + 1, hi, by rw [show ((lo : Int) + (hi : Int)) / 2 + 1 = (((lo + hi) / 2 + 1 : Nat) : Int) by omega], rfl, by omega, hin, Nat.le_refl _, hbl.out.trans ((below_regrown wr dq osq).mono ?_), fun j e' he' => ⟨fun h => sorted_mono HS.out (by omega) he' HE.out hyx, (hI.out j e' he').2⟩⟩
          have := hbl.out.size; simpa using this
      · go_wp2
        refine wp_region_quiet_below (by kernel_rfl) (by kernel_rfl) ?_
        repeat (first | go_big_quiet_step (exact order_in _ _ _ _ _) | quiet_step (exact order_in _ _ _ _ _))
        refine wpQuiet_nil ?_
        intro _ hw'
        obtain ⟨⟨dq, osq⟩, hw''⟩ := hw'
        subst hw''
        go_wp2
        go_roundg ((lo + hi) / 2 - lo)
        case measure => omega
        case rel =>
          refine ⟨lo, (lo + hi) / 2, rfl, by rw [show ((lo : Int) + (hi : Int)) / 2 = (((lo + hi) / 2 : Nat) : Int) by omega], by omega, by omega, Nat.le_refl _, hbl.out.trans ((below_regrown wr dq osq).mono ?_), fun j e' he' => ⟨(hI.out j e' he').1, fun h => Int.not_lt.1 fun h2 => absurd (sorted_mono HS.out h HE.out he' h2) (Int.not_lt.2 hyx)⟩⟩
          have := hbl.out.size; simpa using this
    · obtain rfl : hi = lo := by omega
      by_cases hn2 : hi < E.length
      · obtain ⟨e, he⟩ : ∃ e, E[hi]? = some e := ⟨_, List.getElem?_eq_getElem (by omega)⟩
        obtain ⟨c0, c1, c2, c3⟩ := HC.out.below hbw.out _ e he
        clear he
        have c0 := cell_regrown c0
        have c1 := cell_regrown c1
        have c2 := cell_regrown c2
        have c3 := cell_regrown c3
        go_wp2
        refine wp_region_quiet_below (by kernel_rfl) (by kernel_rfl) ?_
        repeat (first | go_big_quiet_step (exact order_in _ _ _ _ _) | quiet_step (exact order_in _ _ _ _ _))
        refine wpQuiet_nil ?_
        intro _ hw'
        obtain ⟨⟨dq, osq⟩, hw''⟩ := hw'
        subst hw''
        go_wp2
        go_ret2
        exact ⟨hi, _, rfl, ⟨hin, hI.out⟩, below_trans' hbw.out (below_regrown wr dq osq)⟩
      · have hd : decide ((hi : Int) < (E.length : Int)) = false := by simp; omega
        go_wp2
        refine wp_region_quiet_below (by kernel_rfl) (by kernel_rfl) ?_
        repeat (first | go_big_quiet_step (exact order_in _ _ _ _ _) | quiet_step (exact order_in _ _ _ _ _))
        refine wpQuiet_nil ?_
        intro _ hw'
        obtain ⟨⟨dq, osq⟩, hw''⟩ := hw'
        subst hw''
        go_wp2
        go_ret2
        exact ⟨hi, _, rfl, ⟨hin, hI.out⟩, below_trans' hbw.out (below_regrown wr dq osq)⟩
end Go.Proofs.YtakipjofboipmaaGreatDoor

/- The walks of this proof: a run of entries: place, Find, KeyFrom; what is seen. -/
namespace Go.Proofs.YtakipjofboipmaaGreatDoor
open Go.RowKit Go.Sort

/-- A slice value that holds these entries. -/
def EnRow (w : World) (v : Value) (E : List En) : Prop :=
  (E = [] ∧ v = .slice none 0 0) ∨ ∃ b cap, v = .slice (some ⟨b, 0, none⟩) E.length cap ∧ E.length ≤ cap ∧ EnAt w b E

theorem EnRow.below {w w' : World} {v : Value} {E : List En} (h : EnRow w v E) (hb : Below w.heap.size w w') : EnRow w' v E := by
  rcases h with h | ⟨b, cap, hv, hcap, hE⟩
  · exact .inl h
  · exact .inr ⟨b, cap, hv, hcap, hE.below hb⟩

set_option maxHeartbeats 1000000 in
set_option maxRecDepth 100000 in
theorem search_none (t : En) (ao : Option Addr) (cap : Nat) (w : World) :
    Calls Tryz.prog 240 #[.slice ao 0 cap, t.val, .func (.func 96) #[] #[]] w fun e w' => ∃ (x : Bool), e = .returned (.tuple #[.int .i64 0, .bool x]) ∧ Below w.heap.size w w' := by
  unfold En.val
  go_enter Tryz.func240, Tryz.ntmps240
  go_wp2
  refine wp_loop_rounds 1 ?_
  rw [rounds_succ]
  go_wp2
  refine wp_region_quiet_below (by kernel_rfl) (by kernel_rfl) ?_
  repeat (first | go_big_quiet_step (fail) | quiet_step (fail))
  refine wpQuiet_nil ?_
  intro _ hw'
  obtain ⟨⟨dq, osq⟩, hw''⟩ := hw'
  subst hw''
  go_wp2
  go_ret2
  exact ⟨_, rfl, below_trans' ((Below.refl _ _).alloc (Nat.le_refl _) _) (below_regrown _ dq osq)⟩

set_option maxHeartbeats 1000000 in
theorem place_any (E : List En) (v : Value) (k : ByteArray) (s : Int) (w : World) (hn : E.length < 4500000000000) (hs : Sorted E) (hc : EnRow w v E) :
    Calls Tryz.prog 203 #[v, .string k, .int .i64 s] w fun e w' => ∃ i : Nat, e = .returned (.int .i64 i) ∧ IsPlace E k s i ∧ Below w.heap.size w w' := by
  rcases hc with ⟨rfl, rfl⟩ | ⟨b, cap, rfl, _, hE⟩
  · go_enter Tryz.func203, Tryz.ntmps203
    go_wp2_with (go_at_call 240; refine (search_none ⟨k, s, false, ⟨#[]⟩⟩ _ _ _).mono ?_; rintro e w' ⟨x, rfl, hb⟩)
    go_ret
    exact ⟨0, rfl, ⟨Nat.le_refl _, fun j e h => by simp at h⟩, by assumption⟩
  · have HE : Hid (EnAt w b E) := hE
    have HS : Hid (Sorted E) := hs
    clear hE hs
    go_enter Tryz.func203, Tryz.ntmps203
    go_wp2_with (go_at_call 240; refine (search_any E ⟨k, s, false, ⟨#[]⟩⟩ _ _ _ hn HS.out HE.out).mono ?_; rintro e w' ⟨i, x, rfl, hp, hb⟩; have HP : Hid (IsPlace E k s i) := hp; clear hp)
    go_ret
    exact ⟨_, rfl, Hid.out (by assumption), by assumption⟩

/-- What Find hands back. -/
def foundVal : Option En → Value
  | some e => .tuple #[.agg #[.string e.k, .int .i64 e.s, .bool e.g, .string e.v], .bool true]
  | none => .tuple #[.agg #[.string ⟨#[]⟩, .int .i64 0, .bool false, .string ⟨#[]⟩], .bool false]

theorem EnRow.form {w : World} {v : Value} {E : List En} (h : EnRow w v E) : ∃ ao cap, v = .slice ao E.length cap ∧ (0 < E.length → ∃ b, ao = some ⟨b, 0, none⟩ ∧ EnAt w b E) := by
  rcases h with ⟨rfl, rfl⟩ | ⟨b, cap, rfl, _, hE⟩
  · exact ⟨none, 0, rfl, fun h => absurd h (by simp)⟩
  · exact ⟨_, cap, rfl, fun _ => ⟨b, rfl, hE⟩⟩

set_option maxHeartbeats 1000000 in
theorem find_any (E : List En) (v : Value) (sb o : Nat) (k : ByteArray) (s : Int) (w : World) (hn : E.length < 4500000000000) (hs : Sorted E) (hv : w.cell? ⟨sb, o, none⟩ = some v) (hc : EnRow w v E) :
    Calls Tryz.prog 161 #[.pointer (some ⟨sb, o, none⟩), .string k, .int .i64 s] w fun e w' => e = .returned (foundVal (fnd E k s)) ∧ Below w.heap.size w w' := by
  have hsb : sb < w.heap.size := block_lt_of_cell hv
  have HC : Hid (EnRow w v E) := hc
  have HS : Hid (Sorted E) := hs
  clear hc hs
  go_enter Tryz.func161, Tryz.ntmps161
  go_wp2_with fail
  refine (place_any E v k s _ hn HS.out (by exact HC.out.below ((Below.refl _ _).alloc (Nat.le_refl _) _))).mono ?_
  rintro e w1 ⟨i, rfl, hp, hb⟩
  have hv1 := cell_later (below_trans' ((Below.refl _ w).alloc (Nat.le_refl _) _) hb) hv
  have hc1 := HC.out.below (below_trans' ((Below.refl _ w).alloc (Nat.le_refl _) _) hb)
  have r0 := (hb.cell (p := ⟨w.heap.size, 0, none⟩) (by simp)).trans (by simp : _ = some (Value.string ⟨#[]⟩))
  have r1 := (hb.cell (p := ⟨w.heap.size, 1, none⟩) (by simp)).trans (by simp : _ = some (Value.int .i64 0))
  have r2 := (hb.cell (p := ⟨w.heap.size, 2, none⟩) (by simp)).trans (by simp : _ = some (Value.bool false))
  have r3 := (hb.cell (p := ⟨w.heap.size, 3, none⟩) (by simp)).trans (by simp : _ = some (Value.string ⟨#[]⟩))
  have f0 := (hb.frozen (p := ⟨w.heap.size, 0, none⟩) (by simp)).trans (by simp : _ = false)
  have f1 := (hb.frozen (p := ⟨w.heap.size, 1, none⟩) (by simp)).trans (by simp : _ = false)
  have f2 := (hb.frozen (p := ⟨w.heap.size, 2, none⟩) (by simp)).trans (by simp : _ = false)
  have f3 := (hb.frozen (p := ⟨w.heap.size, 3, none⟩) (by simp)).trans (by simp : _ = false)
  have HP : Hid (IsPlace E k s i) := hp
  have HB : Hid (Below w.heap.size w w1) := below_trans' ((Below.refl _ w).alloc (Nat.le_refl _) _) hb
  clear hp hb
  obtain ⟨ao, cap, rfl, hf⟩ := hc1.form
  clear hc1
  by_cases hi : i < E.length
  · obtain ⟨b, rfl, hE⟩ := hf (by omega)
    obtain ⟨e, he⟩ : ∃ e, E[i]? = some e := ⟨_, List.getElem?_eq_getElem hi⟩
    obtain ⟨c0, c1, c2, c3⟩ := hE i e he
    have HE : Hid (E[i]? = some e) := he
    clear he hE hf
    have hne : ((i : Int) == (E.length : Int)) = false := by simp; omega
    by_cases hk : e.k = k
    · have hfin : Hid (fnd E k s = some e) := fnd_hit HP.out HE.out hk
      subst hk
      go_wp2
      exact bodyPost_ret (v := foundVal (some e)) (by simp [results, Tryz.results161, go_sem, foundVal, r0, r1, r2, r3]) rfl ⟨by rw [hfin.out], (((HB.out.setCell (Nat.le_refl _) _).setCell (Nat.le_refl _) _).setCell (Nat.le_refl _) _).setCell (Nat.le_refl _) _⟩
    · have hfin : Hid (fnd E k s = none) := fnd_miss HS.out HP.out HE.out hk
      have hkb := str_ne hk
      go_wp2
      exact bodyPost_ret (v := foundVal none) (by simp [results, Tryz.results161, go_sem, foundVal, r0, r1, r2, r3]) rfl ⟨by rw [hfin.out], (((HB.out.setCell (Nat.le_refl _) _).setCell (Nat.le_refl _) _).setCell (Nat.le_refl _) _).setCell (Nat.le_refl _) _⟩
  · have hil : i = E.length := by have := HP.out.1; omega
    subst hil
    have hfin : Hid (fnd E k s = none) := fnd_end HP.out
    clear hf
    go_wp2
    exact bodyPost_ret (v := foundVal none) (by simp [results, Tryz.results161, go_sem, foundVal, r0, r1, r2, r3]) rfl ⟨by rw [hfin.out], (((HB.out.setCell (Nat.le_refl _) _).setCell (Nat.le_refl _) _).setCell (Nat.le_refl _) _).setCell (Nat.le_refl _) _⟩

/-- What KeyFrom hands back. -/
def nextVal : Option En → Value
  | some e => .tuple #[.string e.k, .bool true]
  | none => .tuple #[.string ⟨#[]⟩, .bool false]

set_option maxHeartbeats 1000000 in
theorem keyFrom_any (E : List En) (v : Value) (sb o : Nat) (k : ByteArray) (w : World) (hn : E.length < 4500000000000) (hs : Sorted E) (hq : ∀ e ∈ E, e.s ≤ 9223372036854775807) (hv : w.cell? ⟨sb, o, none⟩ = some v) (hc : EnRow w v E) :
    Calls Tryz.prog 206 #[.pointer (some ⟨sb, o, none⟩), .string k] w fun e w' => e = .returned (nextVal (nxt E k)) ∧ Below w.heap.size w w' := by
  have hsb : sb < w.heap.size := block_lt_of_cell hv
  have HC : Hid (EnRow w v E) := hc
  have HS : Hid (Sorted E) := hs
  have HQ : Hid (∀ e ∈ E, e.s ≤ 9223372036854775807) := hq
  clear hc hs hq
  go_enter Tryz.func206, Tryz.ntmps206
  go_wp2_with fail
  refine (place_any E v k _ _ hn HS.out HC.out).mono ?_
  rintro e w1 ⟨i, rfl, hp, hb⟩
  have hv1 := cell_later hb hv
  have hc1 := HC.out.below hb
  have HP : Hid (IsPlace E k 9223372036854775807 i) := hp
  have HB : Hid (Below w.heap.size w w1) := hb
  clear hp hb
  obtain ⟨ao, cap, rfl, hf⟩ := hc1.form
  clear hc1
  by_cases hi : i < E.length
  · obtain ⟨b, rfl, hE⟩ := hf (by omega)
    obtain ⟨e, he⟩ : ∃ e, E[i]? = some e := ⟨_, List.getElem?_eq_getElem hi⟩
    obtain ⟨c0, c1, c2, c3⟩ := hE i e he
    have hfin : Hid (nxt E k = some e) := nxt_hit HQ.out HP.out he
    clear he hE hf c1 c2 c3
    have hne : ((i : Int) == (E.length : Int)) = false := by simp; omega
    go_wp2
    go_ret2
    exact ⟨by rw [hfin.out]; rfl, HB.out⟩
  · have hil : i = E.length := by have := HP.out.1; omega
    subst hil
    have hfin : Hid (nxt E k = none) := nxt_end HQ.out HP.out
    clear hf
    go_wp2
    go_ret2
    exact ⟨by rw [hfin.out]; rfl, HB.out⟩

set_option maxHeartbeats 1000000 in
theorem behind_any (k : ByteArray) (w : World) (hk : k.size ≤ 1000) :
    Calls Tryz.prog 163 #[.string k] w fun e w' => e = .returned (.string (k ++ nul)) ∧ w' = w := by
  go_enter Tryz.func163, Tryz.ntmps163
  go_wp2
  go_ret
  exact ⟨rfl, rfl⟩

end Go.Proofs.YtakipjofboipmaaGreatDoor
