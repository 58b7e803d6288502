/- The walks of this proof: whether pairs are a batch. -/
import Derived.Test.YtojdkfamihlnkaaGreatDoorW8
namespace Go.Proofs.YtojdkfamihlnkaaGreatDoor
open Go.RowKit Go.Sort

/-- A pair that may stand in a batch. -/
structure PrOk (p : Pr) : Prop where
  lo : 1 ≤ p.k.size
  hi : p.k.size ≤ 6
  val : p.v.size ≤ 8
  gone : p.g = true → p.v = ⟨#[]⟩

set_option maxHeartbeats 400000 in
theorem hasNoKey_any (p : Pr) (w : World) (ok : PrOk p) :
    Calls Tryz.prog 95 #[.agg #[.string p.k, .string p.v, .bool p.g]] w fun e w' => e = .returned (.bool false) ∧ Below w.heap.size w w' := by
  have hk : ∀ w, Calls Tryz.prog 50 #[.string p.k] w fun e w' => e = .returned (.bool true) ∧ w' = w := fun w => by
    have h := isKey_any p.k w (by have := ok.hi; unfold maxLen; omega)
    simpa only [ok.lo, ok.hi, decide_true, Bool.and_self] using h
  have HK : Hid _ := hk
  clear hk
  go_enter Tryz.func95, Tryz.ntmps95
  go_wp2_with fail
  refine Calls.mono (HK.out _) ?_
  rintro e w0 ⟨rfl, rfl⟩
  go_wp2
  go_ret
  exact ⟨rfl, (Below.refl _ _).alloc (Nat.le_refl _) _⟩

set_option maxHeartbeats 400000 in
theorem isLong_any (p : Pr) (w : World) (ok : PrOk p) :
    Calls Tryz.prog 96 #[.agg #[.string p.k, .string p.v, .bool p.g]] w fun e w' => e = .returned (.bool false) ∧ Below w.heap.size w w' := by
  have hv := ok.val
  have hd : decide ((8 : Int) < (p.v.size : Int)) = false := by simp; omega
  go_enter Tryz.func96, Tryz.ntmps96
  go_wp2
  go_ret
  exact ⟨by simp, (Below.refl _ _).alloc (Nat.le_refl _) _⟩

set_option maxHeartbeats 400000 in
theorem goneWith_any (p : Pr) (w : World) (ok : PrOk p) :
    Calls Tryz.prog 97 #[.agg #[.string p.k, .string p.v, .bool p.g]] w fun e w' => e = .returned (.bool false) ∧ Below w.heap.size w w' := by
  have hg := ok.gone
  obtain ⟨k, v, g⟩ := p
  cases g with
  | false =>
    clear hg ok
    go_enter Tryz.func97, Tryz.ntmps97
    go_wp2
    go_ret
    exact ⟨rfl, (Below.refl _ _).alloc (Nat.le_refl _) _⟩
  | true =>
    obtain rfl : v = ⟨#[]⟩ := hg rfl
    clear hg ok
    go_enter Tryz.func97, Tryz.ntmps97
    go_wp2
    go_ret
    exact ⟨rfl, (Below.refl _ _).alloc (Nat.le_refl _) _⟩

/-- The cells of pairs in a row. -/
theorem pr_cells {w w' : World} {base : Nat} {v : Value} {L : List Pr} (h : w.ownsRow base 57 3 v L.length (pcells L)) (hb : Below w.heap.size w w') (hl : 0 < L.length) :
    ∃ g cap, v = .slice (some ⟨g, 0, none⟩) L.length cap ∧ base ≤ g ∧ g < w.heap.size ∧ L.length ≤ cap ∧ ∀ (k : Nat) p, L[k]? = some p → w'.cell? ⟨g, k * 3, none⟩ = some (.string p.k) ∧ w'.cell? ⟨g, k * 3 + 1, none⟩ = some (.string p.v) ∧ w'.cell? ⟨g, k * 3 + 2, none⟩ = some (.bool p.g) := by
  obtain ⟨g, cap, rfl, hbg, hgl, hcap, hcell⟩ := row_cell (fun a => by rfl) h hl
  exact ⟨g, cap, rfl, hbg, hgl, hcap, fun k p hp => ⟨cell_later hb (hcell k p 0 hp (by omega)), cell_later hb (hcell k p 1 hp (by omega)), cell_later hb (hcell k p 2 hp (by omega))⟩⟩

set_option maxHeartbeats 1000000 in
theorem index55 (L : List Pr) (v : Value) (base : Nat) (w : World) (h : w.ownsRow base 57 3 v L.length (pcells L)) (h4 : L.length ≤ 4) (ok : ∀ p ∈ L, PrOk p) :
    Calls Tryz.prog 115 #[v, .func (.func 95) #[] #[]] w fun e w' => e = .returned (.int .i64 (-1)) ∧ Below w.heap.size w w' := by
  obtain ⟨ao, cap, rfl⟩ := slice_form h
  have H : Hid _ := h
  have OK : Hid (∀ p ∈ L, PrOk p) := ok
  clear h ok
  go_enter Tryz.func115, Tryz.ntmps115
  go_wp2
  go_loopw [8] (fun i wr => ∃ k : Nat, k ≤ L.length ∧ i = .int .i64 k ∧ Hid (Below w.heap.size w wr)) (fun i _ => L.length - (intOf i).toNat)
  case atStart => exact ⟨0, Nat.zero_le _, rfl, Below.refl _ _⟩
  case round =>
    obtain ⟨k, hk, rfl, HB⟩ := hrel
    by_cases hlt : k < L.length
    · obtain ⟨g, cap', hv', hbg, hgl, hcap, hcell⟩ := pr_cells H.out HB.out (by omega)
      simp only [Value.slice.injEq, true_and] at hv'
      obtain ⟨rfl, rfl⟩ := hv'
      obtain ⟨p, hp⟩ : ∃ p, L[k]? = some p := ⟨_, List.getElem?_eq_getElem hlt⟩
      obtain ⟨c0, c1, c2⟩ := hcell k p hp
      have OKp : Hid (PrOk p) := OK.out p (List.mem_of_getElem? hp)
      clear hp hcell
      go_wp2_with (go_at_call 95; refine (hasNoKey_any p _ OKp.out).mono ?_; rintro e w2 ⟨rfl, hb2⟩; have HB2 : Hid (Below w.heap.size w w2) := below_trans' HB.out hb2; clear hb2)
      go_roundw
      case rel => exact ⟨k + 1, by omega, by go_num, by assumption⟩
      case measure => simp [intOf]; omega
    · go_wp2
      go_ret
      exact ⟨rfl, HB.out⟩

set_option maxHeartbeats 1000000 in
theorem contains55 (L : List Pr) (v : Value) (base : Nat) (w : World) (h : w.ownsRow base 57 3 v L.length (pcells L)) (h4 : L.length ≤ 4) (ok : ∀ p ∈ L, PrOk p) :
    Calls Tryz.prog 94 #[v, .func (.func 95) #[] #[]] w fun e w' => e = .returned (.bool false) ∧ Below w.heap.size w w' := by
  have hi := index55 L v base w h h4 ok
  have HI : Hid _ := hi
  clear hi h ok
  go_enter Tryz.func94, Tryz.ntmps94
  go_wp2_with fail
  refine Calls.mono HI.out ?_
  rintro e w0 ⟨rfl, hb⟩
  have HB : Hid (Below w.heap.size w w0) := hb
  clear hb
  go_wp2
  go_ret
  exact ⟨rfl, HB.out⟩

set_option maxHeartbeats 1000000 in
theorem index56 (L : List Pr) (v : Value) (base : Nat) (w : World) (h : w.ownsRow base 57 3 v L.length (pcells L)) (h4 : L.length ≤ 4) (ok : ∀ p ∈ L, PrOk p) :
    Calls Tryz.prog 115 #[v, .func (.func 96) #[] #[]] w fun e w' => e = .returned (.int .i64 (-1)) ∧ Below w.heap.size w w' := by
  obtain ⟨ao, cap, rfl⟩ := slice_form h
  have H : Hid _ := h
  have OK : Hid (∀ p ∈ L, PrOk p) := ok
  clear h ok
  go_enter Tryz.func115, Tryz.ntmps115
  go_wp2
  go_loopw [8] (fun i wr => ∃ k : Nat, k ≤ L.length ∧ i = .int .i64 k ∧ Hid (Below w.heap.size w wr)) (fun i _ => L.length - (intOf i).toNat)
  case atStart => exact ⟨0, Nat.zero_le _, rfl, Below.refl _ _⟩
  case round =>
    obtain ⟨k, hk, rfl, HB⟩ := hrel
    by_cases hlt : k < L.length
    · obtain ⟨g, cap', hv', hbg, hgl, hcap, hcell⟩ := pr_cells H.out HB.out (by omega)
      simp only [Value.slice.injEq, true_and] at hv'
      obtain ⟨rfl, rfl⟩ := hv'
      obtain ⟨p, hp⟩ : ∃ p, L[k]? = some p := ⟨_, List.getElem?_eq_getElem hlt⟩
      obtain ⟨c0, c1, c2⟩ := hcell k p hp
      have OKp : Hid (PrOk p) := OK.out p (List.mem_of_getElem? hp)
      clear hp hcell
      go_wp2_with (go_at_call 96; refine (isLong_any p _ OKp.out).mono ?_; rintro e w2 ⟨rfl, hb2⟩; have HB2 : Hid (Below w.heap.size w w2) := below_trans' HB.out hb2; clear hb2)
      go_roundw
      case rel => exact ⟨k + 1, by omega, by go_num, by assumption⟩
      case measure => simp [intOf]; omega
    · go_wp2
      go_ret
      exact ⟨rfl, HB.out⟩

set_option maxHeartbeats 1000000 in
theorem contains56 (L : List Pr) (v : Value) (base : Nat) (w : World) (h : w.ownsRow base 57 3 v L.length (pcells L)) (h4 : L.length ≤ 4) (ok : ∀ p ∈ L, PrOk p) :
    Calls Tryz.prog 94 #[v, .func (.func 96) #[] #[]] w fun e w' => e = .returned (.bool false) ∧ Below w.heap.size w w' := by
  have hi := index56 L v base w h h4 ok
  have HI : Hid _ := hi
  clear hi h ok
  go_enter Tryz.func94, Tryz.ntmps94
  go_wp2_with fail
  refine Calls.mono HI.out ?_
  rintro e w0 ⟨rfl, hb⟩
  have HB : Hid (Below w.heap.size w w0) := hb
  clear hb
  go_wp2
  go_ret
  exact ⟨rfl, HB.out⟩

set_option maxHeartbeats 1000000 in
theorem index57 (L : List Pr) (v : Value) (base : Nat) (w : World) (h : w.ownsRow base 57 3 v L.length (pcells L)) (h4 : L.length ≤ 4) (ok : ∀ p ∈ L, PrOk p) :
    Calls Tryz.prog 115 #[v, .func (.func 97) #[] #[]] w fun e w' => e = .returned (.int .i64 (-1)) ∧ Below w.heap.size w w' := by
  obtain ⟨ao, cap, rfl⟩ := slice_form h
  have H : Hid _ := h
  have OK : Hid (∀ p ∈ L, PrOk p) := ok
  clear h ok
  go_enter Tryz.func115, Tryz.ntmps115
  go_wp2
  go_loopw [8] (fun i wr => ∃ k : Nat, k ≤ L.length ∧ i = .int .i64 k ∧ Hid (Below w.heap.size w wr)) (fun i _ => L.length - (intOf i).toNat)
  case atStart => exact ⟨0, Nat.zero_le _, rfl, Below.refl _ _⟩
  case round =>
    obtain ⟨k, hk, rfl, HB⟩ := hrel
    by_cases hlt : k < L.length
    · obtain ⟨g, cap', hv', hbg, hgl, hcap, hcell⟩ := pr_cells H.out HB.out (by omega)
      simp only [Value.slice.injEq, true_and] at hv'
      obtain ⟨rfl, rfl⟩ := hv'
      obtain ⟨p, hp⟩ : ∃ p, L[k]? = some p := ⟨_, List.getElem?_eq_getElem hlt⟩
      obtain ⟨c0, c1, c2⟩ := hcell k p hp
      have OKp : Hid (PrOk p) := OK.out p (List.mem_of_getElem? hp)
      clear hp hcell
      go_wp2_with (go_at_call 97; refine (goneWith_any p _ OKp.out).mono ?_; rintro e w2 ⟨rfl, hb2⟩; have HB2 : Hid (Below w.heap.size w w2) := below_trans' HB.out hb2; clear hb2)
      go_roundw
      case rel => exact ⟨k + 1, by omega, by go_num, by assumption⟩
      case measure => simp [intOf]; omega
    · go_wp2
      go_ret
      exact ⟨rfl, HB.out⟩

set_option maxHeartbeats 1000000 in
theorem contains57 (L : List Pr) (v : Value) (base : Nat) (w : World) (h : w.ownsRow base 57 3 v L.length (pcells L)) (h4 : L.length ≤ 4) (ok : ∀ p ∈ L, PrOk p) :
    Calls Tryz.prog 94 #[v, .func (.func 97) #[] #[]] w fun e w' => e = .returned (.bool false) ∧ Below w.heap.size w w' := by
  have hi := index57 L v base w h h4 ok
  have HI : Hid _ := hi
  clear hi h ok
  go_enter Tryz.func94, Tryz.ntmps94
  go_wp2_with fail
  refine Calls.mono HI.out ?_
  rintro e w0 ⟨rfl, hb⟩
  have HB : Hid (Below w.heap.size w w0) := hb
  clear hb
  go_wp2
  go_ret
  exact ⟨rfl, HB.out⟩

set_option maxHeartbeats 1000000 in
theorem check_any (L : List Pr) (v : Value) (base : Nat) (w : World) (h : w.ownsRow base 57 3 v L.length (pcells L)) (h1 : 1 ≤ L.length) (h4 : L.length ≤ 4) (ok : ∀ p ∈ L, PrOk p) :
    Calls Tryz.prog 78 #[v] w fun e w' => e = .returned (.int .i64 0) ∧ Below w.heap.size w w' := by
  have H5 : Hid (∀ w1, Below w.heap.size w w1 → Calls Tryz.prog 94 #[v, .func (.func 95) #[] #[]] w1 fun e w' => e = .returned (.bool false) ∧ Below w1.heap.size w1 w') := fun w1 hb => contains55 L v base w1 ((Kp.of_below (B := 0) (ts := []) hb).owns h (by simp)) h4 ok
  have H6 : Hid (∀ w1, Below w.heap.size w w1 → Calls Tryz.prog 94 #[v, .func (.func 96) #[] #[]] w1 fun e w' => e = .returned (.bool false) ∧ Below w1.heap.size w1 w') := fun w1 hb => contains56 L v base w1 ((Kp.of_below (B := 0) (ts := []) hb).owns h (by simp)) h4 ok
  have H7 : Hid (∀ w1, Below w.heap.size w w1 → Calls Tryz.prog 94 #[v, .func (.func 97) #[] #[]] w1 fun e w' => e = .returned (.bool false) ∧ Below w1.heap.size w1 w') := fun w1 hb => contains57 L v base w1 ((Kp.of_below (B := 0) (ts := []) hb).owns h (by simp)) h4 ok
  obtain ⟨ao, cap, rfl⟩ := slice_form h
  clear h ok
  have hd0 : ((L.length : Int) == 0) = false := by rw [beq_eq_false_iff_ne]; omega
  go_enter Tryz.func78, Tryz.ntmps78
  go_wp2_with fail
  refine Calls.mono (H5.out _ (Below.refl _ _)) ?_
  rintro e wa ⟨rfl, hb⟩
  have HA : Hid (Below w.heap.size w wa) := hb
  clear hb
  go_wp2_with fail
  refine Calls.mono (H6.out _ HA.out) ?_
  rintro e wb ⟨rfl, hb⟩
  have HB : Hid (Below w.heap.size w wb) := below_trans' HA.out hb
  clear hb
  go_wp2_with fail
  refine Calls.mono (H7.out _ HB.out) ?_
  rintro e wc ⟨rfl, hb⟩
  have HC : Hid (Below w.heap.size w wc) := below_trans' HB.out hb
  clear hb
  go_wp2
  go_ret
  exact ⟨rfl, HC.out⟩
end Go.Proofs.YtojdkfamihlnkaaGreatDoor
