/- The walks of this proof: whether pairs are a batch, whatever they are. -/
import Derived.Test.YtakipjofboipmaaGreatJ8
namespace Go.Proofs.YtakipjofboipmaaGreat
open Go.RowKit Go.Sort

def noKey (p : Pr) : Bool := decide (p.k.size < 1) || decide (6 < p.k.size)
def isLong (p : Pr) : Bool := decide (8 < p.v.size)
def goneW (p : Pr) : Bool := p.g && !p.v.toList.isEmpty

/-- The first error of a batch. -/
def flt (L : List Pr) : Int :=
  if L.length = 0 ∨ 4 < L.length then 3 else if L.any noKey then 1 else if L.any isLong then 2 else if L.any goneW then 4 else 0

theorem any_take {L : List Pr} {k : Nat} {p : Pr} (f : Pr → Bool) (h : L[k]? = some p) : (L.take (k + 1)).any f = ((L.take k).any f || f p) := by
  rw [List.take_add_one, h]
  simp

set_option maxHeartbeats 400000 in
theorem hasNoKey_gen (p : Pr) (w : World) (hs : p.k.size ≤ 10000000) :
    Calls Tryz.prog 82 #[.agg #[.string p.k, .string p.v, .bool p.g]] w fun e w' => e = .returned (.bool (noKey p)) ∧ Below w.heap.size w w' := by
  have hk : ∀ w, Calls Tryz.prog 64 #[.string p.k] w fun e w' => e = .returned (.bool (!noKey p)) ∧ w' = w := fun w => by
    have h := isKey_any p.k w (by unfold maxLen; omega)
    have e : (decide (1 ≤ p.k.size) && decide (p.k.size ≤ 6)) = !noKey p := by
      unfold noKey
      by_cases h1 : 1 ≤ p.k.size
      · have h3 : ¬ p.k.size < 1 := by omega
        by_cases h2 : p.k.size ≤ 6
        · have h4 : ¬ 6 < p.k.size := by omega
          simp only [h1, h2, h3, h4]; rfl
        · have h4 : 6 < p.k.size := by omega
          simp only [h1, h2, h3, h4]; rfl
      · have h3 : p.k.size < 1 := by omega
        simp only [h1, h3]; rfl
    rw [e] at h
    exact h
  have HK : Hid _ := hk
  clear hk
  cases hn : noKey p
  · rw [hn] at HK
    go_enter Tryz.func82, Tryz.ntmps82
    go_wp2_with fail
    refine Calls.mono (HK.out _) ?_
    rintro e w0 ⟨rfl, rfl⟩
    go_wp2
    go_ret
    exact ⟨rfl, (Below.refl _ _).alloc (Nat.le_refl _) _⟩
  · rw [hn] at HK
    go_enter Tryz.func82, Tryz.ntmps82
    go_wp2_with fail
    refine Calls.mono (HK.out _) ?_
    rintro e w0 ⟨rfl, rfl⟩
    go_wp2
    go_ret
    exact ⟨rfl, (Below.refl _ _).alloc (Nat.le_refl _) _⟩

set_option maxHeartbeats 400000 in
theorem isLong_gen (p : Pr) (w : World) (hs : p.v.size ≤ 10000000) :
    Calls Tryz.prog 83 #[.agg #[.string p.k, .string p.v, .bool p.g]] w fun e w' => e = .returned (.bool (isLong p)) ∧ Below w.heap.size w w' := by
  have hd : decide ((8 : Int) < (p.v.size : Int)) = isLong p := by unfold isLong; simp only [decide_eq_decide]; omega
  rw [← hd]
  clear hd
  go_enter Tryz.func83, Tryz.ntmps83
  go_wp2
  go_ret
  exact ⟨by simp, (Below.refl _ _).alloc (Nat.le_refl _) _⟩

set_option maxHeartbeats 400000 in
theorem goneWith_gen (p : Pr) (w : World) :
    Calls Tryz.prog 84 #[.agg #[.string p.k, .string p.v, .bool p.g]] w fun e w' => e = .returned (.bool (goneW p)) ∧ Below w.heap.size w w' := by
  obtain ⟨k, v, g⟩ := p
  unfold goneW
  cases g with
  | false =>
    go_enter Tryz.func84, Tryz.ntmps84
    go_wp2
    go_ret
    exact ⟨rfl, (Below.refl _ _).alloc (Nat.le_refl _) _⟩
  | true =>
    go_enter Tryz.func84, Tryz.ntmps84
    go_wp2
    go_ret
    exact ⟨by simp, (Below.refl _ _).alloc (Nat.le_refl _) _⟩

set_option maxHeartbeats 1000000 in
set_option maxRecDepth 100000 in
theorem index_gen95 (f : Pr → Bool) (L : List Pr) (v : Value) (base : Nat) (w : World) (h : w.ownsRow base 48 3 v L.length (pcells L)) (h4 : L.length ≤ 10000000)
    (hF : ∀ p ∈ L, ∀ w, Calls Tryz.prog 82 #[.agg #[.string p.k, .string p.v, .bool p.g]] w fun e w' => e = .returned (.bool (f p)) ∧ Below w.heap.size w w') :
    Calls Tryz.prog 129 #[v, .func (.func 82) #[] #[]] w fun e w' => ∃ r : Int, e = .returned (.int .i64 r) ∧ decide (0 ≤ r) = L.any f ∧ Below w.heap.size w w' := by
  obtain ⟨ao, cap, rfl⟩ := slice_form h
  have H : Hid _ := h
  have HF : Hid _ := hF
  clear h hF
  go_enter Tryz.func129, Tryz.ntmps129
  go_wp2
  go_loopw [8] (fun i wr => ∃ k : Nat, k ≤ L.length ∧ i = .int .i64 k ∧ Hid ((L.take k).any f = false) ∧ Hid (Below w.heap.size w wr)) (fun i _ => L.length - (intOf i).toNat)
  case atStart => exact ⟨0, Nat.zero_le _, rfl, rfl, Below.refl _ _⟩
  case round =>
    obtain ⟨k, hk, rfl, HN, HB⟩ := hrel
    by_cases hlt : k < L.length
    · obtain ⟨g, cap', hv', hbg, hgl, hcap, hcell⟩ := pr_cells H.out HB.out (by omega)
      simp only [Value.slice.injEq, true_and] at hv'
      obtain ⟨rfl, rfl⟩ := hv'
      obtain ⟨p, hp⟩ : ∃ p, L[k]? = some p := ⟨_, List.getElem?_eq_getElem hlt⟩
      obtain ⟨c0, c1, c2⟩ := hcell k p hp
      have HP : Hid (L[k]? = some p) := hp
      clear hp hcell
      have HT : Hid ((L.take (k + 1)).any f = f p) := by show _ = _; rw [any_take f HP.out, HN.out, Bool.false_or]
      have HC : Hid _ := HF.out p (List.mem_of_getElem? HP.out) wr
      cases hfp : f p
      · rw [hfp] at HC HT
        go_wp2_with fail
        refine Calls.mono HC.out ?_
        rintro e w2 ⟨rfl, hb2⟩
        have HB2 : Hid (Below w.heap.size w w2) := below_trans' HB.out hb2
        clear hb2
        go_wp2
        go_roundw
        case rel => exact ⟨k + 1, by omega, by go_num, HT.out, HB2.out⟩
        case measure => simp [intOf]; omega
      · rw [hfp] at HC
        have HA : Hid (L.any f = true) := List.any_eq_true.2 ⟨p, List.mem_of_getElem? HP.out, hfp⟩
        go_wp2_with fail
        refine Calls.mono HC.out ?_
        rintro e w2 ⟨rfl, hb2⟩
        have HB2 : Hid (Below w.heap.size w w2) := below_trans' HB.out hb2
        clear hb2
        go_wp2
        go_ret
        exact ⟨k, rfl, by rw [HA.out]; simp, HB2.out⟩
    · obtain rfl : k = L.length := by omega
      have HA : Hid (L.any f = false) := by
        have := HN.out
        rw [List.take_of_length_le (Nat.le_refl _)] at this
        exact this
      go_wp2
      go_ret
      exact ⟨-1, rfl, by rw [HA.out]; rfl, HB.out⟩

set_option maxHeartbeats 1000000 in
theorem contains_gen95 (f : Pr → Bool) (L : List Pr) (v : Value) (base : Nat) (w : World) (h : w.ownsRow base 48 3 v L.length (pcells L)) (h4 : L.length ≤ 10000000)
    (hF : ∀ p ∈ L, ∀ w, Calls Tryz.prog 82 #[.agg #[.string p.k, .string p.v, .bool p.g]] w fun e w' => e = .returned (.bool (f p)) ∧ Below w.heap.size w w') :
    Calls Tryz.prog 81 #[v, .func (.func 82) #[] #[]] w fun e w' => e = .returned (.bool (L.any f)) ∧ Below w.heap.size w w' := by
  have HI : Hid _ := index_gen95 f L v base w h h4 hF
  clear h hF
  generalize L.any f = b at HI
  go_enter Tryz.func81, Tryz.ntmps81
  go_wp2_with fail
  refine Calls.mono HI.out ?_
  rintro e w0 ⟨r, rfl, hr, hb⟩
  have HB : Hid (Below w.heap.size w w0) := hb
  clear hb
  go_wp2
  go_ret
  exact ⟨by simp [← hr], HB.out⟩

set_option maxHeartbeats 1000000 in
set_option maxRecDepth 100000 in
theorem index_gen96 (f : Pr → Bool) (L : List Pr) (v : Value) (base : Nat) (w : World) (h : w.ownsRow base 48 3 v L.length (pcells L)) (h4 : L.length ≤ 10000000)
    (hF : ∀ p ∈ L, ∀ w, Calls Tryz.prog 83 #[.agg #[.string p.k, .string p.v, .bool p.g]] w fun e w' => e = .returned (.bool (f p)) ∧ Below w.heap.size w w') :
    Calls Tryz.prog 129 #[v, .func (.func 83) #[] #[]] w fun e w' => ∃ r : Int, e = .returned (.int .i64 r) ∧ decide (0 ≤ r) = L.any f ∧ Below w.heap.size w w' := by
  obtain ⟨ao, cap, rfl⟩ := slice_form h
  have H : Hid _ := h
  have HF : Hid _ := hF
  clear h hF
  go_enter Tryz.func129, Tryz.ntmps129
  go_wp2
  go_loopw [8] (fun i wr => ∃ k : Nat, k ≤ L.length ∧ i = .int .i64 k ∧ Hid ((L.take k).any f = false) ∧ Hid (Below w.heap.size w wr)) (fun i _ => L.length - (intOf i).toNat)
  case atStart => exact ⟨0, Nat.zero_le _, rfl, rfl, Below.refl _ _⟩
  case round =>
    obtain ⟨k, hk, rfl, HN, HB⟩ := hrel
    by_cases hlt : k < L.length
    · obtain ⟨g, cap', hv', hbg, hgl, hcap, hcell⟩ := pr_cells H.out HB.out (by omega)
      simp only [Value.slice.injEq, true_and] at hv'
      obtain ⟨rfl, rfl⟩ := hv'
      obtain ⟨p, hp⟩ : ∃ p, L[k]? = some p := ⟨_, List.getElem?_eq_getElem hlt⟩
      obtain ⟨c0, c1, c2⟩ := hcell k p hp
      have HP : Hid (L[k]? = some p) := hp
      clear hp hcell
      have HT : Hid ((L.take (k + 1)).any f = f p) := by show _ = _; rw [any_take f HP.out, HN.out, Bool.false_or]
      have HC : Hid _ := HF.out p (List.mem_of_getElem? HP.out) wr
      cases hfp : f p
      · rw [hfp] at HC HT
        go_wp2_with fail
        refine Calls.mono HC.out ?_
        rintro e w2 ⟨rfl, hb2⟩
        have HB2 : Hid (Below w.heap.size w w2) := below_trans' HB.out hb2
        clear hb2
        go_wp2
        go_roundw
        case rel => exact ⟨k + 1, by omega, by go_num, HT.out, HB2.out⟩
        case measure => simp [intOf]; omega
      · rw [hfp] at HC
        have HA : Hid (L.any f = true) := List.any_eq_true.2 ⟨p, List.mem_of_getElem? HP.out, hfp⟩
        go_wp2_with fail
        refine Calls.mono HC.out ?_
        rintro e w2 ⟨rfl, hb2⟩
        have HB2 : Hid (Below w.heap.size w w2) := below_trans' HB.out hb2
        clear hb2
        go_wp2
        go_ret
        exact ⟨k, rfl, by rw [HA.out]; simp, HB2.out⟩
    · obtain rfl : k = L.length := by omega
      have HA : Hid (L.any f = false) := by
        have := HN.out
        rw [List.take_of_length_le (Nat.le_refl _)] at this
        exact this
      go_wp2
      go_ret
      exact ⟨-1, rfl, by rw [HA.out]; rfl, HB.out⟩

set_option maxHeartbeats 1000000 in
theorem contains_gen96 (f : Pr → Bool) (L : List Pr) (v : Value) (base : Nat) (w : World) (h : w.ownsRow base 48 3 v L.length (pcells L)) (h4 : L.length ≤ 10000000)
    (hF : ∀ p ∈ L, ∀ w, Calls Tryz.prog 83 #[.agg #[.string p.k, .string p.v, .bool p.g]] w fun e w' => e = .returned (.bool (f p)) ∧ Below w.heap.size w w') :
    Calls Tryz.prog 81 #[v, .func (.func 83) #[] #[]] w fun e w' => e = .returned (.bool (L.any f)) ∧ Below w.heap.size w w' := by
  have HI : Hid _ := index_gen96 f L v base w h h4 hF
  clear h hF
  generalize L.any f = b at HI
  go_enter Tryz.func81, Tryz.ntmps81
  go_wp2_with fail
  refine Calls.mono HI.out ?_
  rintro e w0 ⟨r, rfl, hr, hb⟩
  have HB : Hid (Below w.heap.size w w0) := hb
  clear hb
  go_wp2
  go_ret
  exact ⟨by simp [← hr], HB.out⟩

set_option maxHeartbeats 1000000 in
set_option maxRecDepth 100000 in
theorem index_gen97 (f : Pr → Bool) (L : List Pr) (v : Value) (base : Nat) (w : World) (h : w.ownsRow base 48 3 v L.length (pcells L)) (h4 : L.length ≤ 10000000)
    (hF : ∀ p ∈ L, ∀ w, Calls Tryz.prog 84 #[.agg #[.string p.k, .string p.v, .bool p.g]] w fun e w' => e = .returned (.bool (f p)) ∧ Below w.heap.size w w') :
    Calls Tryz.prog 129 #[v, .func (.func 84) #[] #[]] w fun e w' => ∃ r : Int, e = .returned (.int .i64 r) ∧ decide (0 ≤ r) = L.any f ∧ Below w.heap.size w w' := by
  obtain ⟨ao, cap, rfl⟩ := slice_form h
  have H : Hid _ := h
  have HF : Hid _ := hF
  clear h hF
  go_enter Tryz.func129, Tryz.ntmps129
  go_wp2
  go_loopw [8] (fun i wr => ∃ k : Nat, k ≤ L.length ∧ i = .int .i64 k ∧ Hid ((L.take k).any f = false) ∧ Hid (Below w.heap.size w wr)) (fun i _ => L.length - (intOf i).toNat)
  case atStart => exact ⟨0, Nat.zero_le _, rfl, rfl, Below.refl _ _⟩
  case round =>
    obtain ⟨k, hk, rfl, HN, HB⟩ := hrel
    by_cases hlt : k < L.length
    · obtain ⟨g, cap', hv', hbg, hgl, hcap, hcell⟩ := pr_cells H.out HB.out (by omega)
      simp only [Value.slice.injEq, true_and] at hv'
      obtain ⟨rfl, rfl⟩ := hv'
      obtain ⟨p, hp⟩ : ∃ p, L[k]? = some p := ⟨_, List.getElem?_eq_getElem hlt⟩
      obtain ⟨c0, c1, c2⟩ := hcell k p hp
      have HP : Hid (L[k]? = some p) := hp
      clear hp hcell
      have HT : Hid ((L.take (k + 1)).any f = f p) := by show _ = _; rw [any_take f HP.out, HN.out, Bool.false_or]
      have HC : Hid _ := HF.out p (List.mem_of_getElem? HP.out) wr
      cases hfp : f p
      · rw [hfp] at HC HT
        go_wp2_with fail
        refine Calls.mono HC.out ?_
        rintro e w2 ⟨rfl, hb2⟩
        have HB2 : Hid (Below w.heap.size w w2) := below_trans' HB.out hb2
        clear hb2
        go_wp2
        go_roundw
        case rel => exact ⟨k + 1, by omega, by go_num, HT.out, HB2.out⟩
        case measure => simp [intOf]; omega
      · rw [hfp] at HC
        have HA : Hid (L.any f = true) := List.any_eq_true.2 ⟨p, List.mem_of_getElem? HP.out, hfp⟩
        go_wp2_with fail
        refine Calls.mono HC.out ?_
        rintro e w2 ⟨rfl, hb2⟩
        have HB2 : Hid (Below w.heap.size w w2) := below_trans' HB.out hb2
        clear hb2
        go_wp2
        go_ret
        exact ⟨k, rfl, by rw [HA.out]; simp, HB2.out⟩
    · obtain rfl : k = L.length := by omega
      have HA : Hid (L.any f = false) := by
        have := HN.out
        rw [List.take_of_length_le (Nat.le_refl _)] at this
        exact this
      go_wp2
      go_ret
      exact ⟨-1, rfl, by rw [HA.out]; rfl, HB.out⟩

set_option maxHeartbeats 1000000 in
theorem contains_gen97 (f : Pr → Bool) (L : List Pr) (v : Value) (base : Nat) (w : World) (h : w.ownsRow base 48 3 v L.length (pcells L)) (h4 : L.length ≤ 10000000)
    (hF : ∀ p ∈ L, ∀ w, Calls Tryz.prog 84 #[.agg #[.string p.k, .string p.v, .bool p.g]] w fun e w' => e = .returned (.bool (f p)) ∧ Below w.heap.size w w') :
    Calls Tryz.prog 81 #[v, .func (.func 84) #[] #[]] w fun e w' => e = .returned (.bool (L.any f)) ∧ Below w.heap.size w w' := by
  have HI : Hid _ := index_gen97 f L v base w h h4 hF
  clear h hF
  generalize L.any f = b at HI
  go_enter Tryz.func81, Tryz.ntmps81
  go_wp2_with fail
  refine Calls.mono HI.out ?_
  rintro e w0 ⟨r, rfl, hr, hb⟩
  have HB : Hid (Below w.heap.size w w0) := hb
  clear hb
  go_wp2
  go_ret
  exact ⟨by simp [← hr], HB.out⟩

set_option maxHeartbeats 2000000 in
theorem check_gen (L : List Pr) (v : Value) (base : Nat) (w : World) (h : w.ownsRow base 48 3 v L.length (pcells L)) (h4 : L.length ≤ 10000000) (hs : ∀ p ∈ L, p.k.size ≤ 10000000 ∧ p.v.size ≤ 10000000) :
    Calls Tryz.prog 52 #[v] w fun e w' => e = .returned (.int .i64 (flt L)) ∧ Below w.heap.size w w' := by
  have H5 : Hid (∀ w1, Below w.heap.size w w1 → Calls Tryz.prog 81 #[v, .func (.func 82) #[] #[]] w1 fun e w' => e = .returned (.bool (L.any noKey)) ∧ Below w1.heap.size w1 w') := fun w1 hb => contains_gen95 noKey L v base w1 ((Kp.of_below (B := 0) (ts := []) hb).owns h (by simp)) h4 (fun p hp w => hasNoKey_gen p w (hs p hp).1)
  have H6 : Hid (∀ w1, Below w.heap.size w w1 → Calls Tryz.prog 81 #[v, .func (.func 83) #[] #[]] w1 fun e w' => e = .returned (.bool (L.any isLong)) ∧ Below w1.heap.size w1 w') := fun w1 hb => contains_gen96 isLong L v base w1 ((Kp.of_below (B := 0) (ts := []) hb).owns h (by simp)) h4 (fun p hp w => isLong_gen p w (hs p hp).2)
  have H7 : Hid (∀ w1, Below w.heap.size w w1 → Calls Tryz.prog 81 #[v, .func (.func 84) #[] #[]] w1 fun e w' => e = .returned (.bool (L.any goneW)) ∧ Below w1.heap.size w1 w') := fun w1 hb => contains_gen97 goneW L v base w1 ((Kp.of_below (B := 0) (ts := []) hb).owns h (by simp)) h4 (fun p hp w => goneWith_gen p w)
  obtain ⟨ao, cap, rfl⟩ := slice_form h
  clear h hs
  unfold flt
  generalize L.any noKey = K at H5
  generalize L.any isLong = G at H6
  generalize L.any goneW = A at H7
  by_cases h0 : L.length = 0
  · rw [if_pos (.inl h0)]
    have hd0 : ((L.length : Int) == 0) = true := by rw [beq_iff_eq]; omega
    clear H5 H6 H7
    go_enter Tryz.func52, Tryz.ntmps52
    go_wp2
    go_ret
    exact ⟨rfl, Below.refl _ _⟩
  have hd0 : ((L.length : Int) == 0) = false := by rw [beq_eq_false_iff_ne]; omega
  by_cases h5 : 4 < L.length
  · rw [if_pos (.inr h5)]
    clear H5 H6 H7
    go_enter Tryz.func52, Tryz.ntmps52
    go_wp2
    go_ret
    exact ⟨rfl, Below.refl _ _⟩
  rw [if_neg (fun h => h.elim h0 h5)]
  cases K with
  | true =>
    clear H6 H7
    go_enter Tryz.func52, Tryz.ntmps52
    go_wp2_with fail
    refine Calls.mono (H5.out _ (Below.refl _ _)) ?_
    rintro e wa ⟨rfl, hb⟩
    have HA : Hid (Below w.heap.size w wa) := hb
    clear hb
    go_wp2
    go_ret
    exact ⟨rfl, HA.out⟩
  | false =>
    cases G with
    | true =>
      clear H7
      go_enter Tryz.func52, Tryz.ntmps52
      go_wp2_with fail
      refine Calls.mono (H5.out _ (Below.refl _ _)) ?_
      rintro e wa ⟨rfl, hb⟩
      have HA : Hid (Below w.heap.size w wa) := hb
      clear hb
      go_wp2_with fail
      refine Calls.mono (H6.out _ HA.out) ?_
      rintro e wb ⟨rfl, hb⟩
      have HB : Hid (Below w.heap.size w wb) := below_trans' HA.out hb
      clear hb
      go_wp2
      go_ret
      exact ⟨rfl, HB.out⟩
    | false =>
      cases A with
      | true =>
        go_enter Tryz.func52, Tryz.ntmps52
        go_wp2_with fail
        refine Calls.mono (H5.out _ (Below.refl _ _)) ?_
        rintro e wa ⟨rfl, hb⟩
        have HA : Hid (Below w.heap.size w wa) := hb
        clear hb
        go_wp2_with fail
        refine Calls.mono (H6.out _ HA.out) ?_
        rintro e wb ⟨rfl, hb⟩
        have HB : Hid (Below w.heap.size w wb) := below_trans' HA.out hb
        clear hb
        go_wp2_with fail
        refine Calls.mono (H7.out _ HB.out) ?_
        rintro e wc ⟨rfl, hb⟩
        have HC : Hid (Below w.heap.size w wc) := below_trans' HB.out hb
        clear hb
        go_wp2
        go_ret
        exact ⟨rfl, HC.out⟩
      | false =>
        go_enter Tryz.func52, Tryz.ntmps52
        go_wp2_with fail
        refine Calls.mono (H5.out _ (Below.refl _ _)) ?_
        rintro e wa ⟨rfl, hb⟩
        have HA : Hid (Below w.heap.size w wa) := hb
        clear hb
        go_wp2_with fail
        refine Calls.mono (H6.out _ HA.out) ?_
        rintro e wb ⟨rfl, hb⟩
        have HB : Hid (Below w.heap.size w wb) := below_trans' HA.out hb
        clear hb
        go_wp2_with fail
        refine Calls.mono (H7.out _ HB.out) ?_
        rintro e wc ⟨rfl, hb⟩
        have HC : Hid (Below w.heap.size w wc) := below_trans' HB.out hb
        clear hb
        go_wp2
        go_ret
        exact ⟨rfl, HC.out⟩
end Go.Proofs.YtakipjofboipmaaGreat

/- The walks of this proof: what is taken of a text. -/
namespace Go.Proofs.YtakipjofboipmaaGreat
open Go.RowKit Go.Sort

/-- A text as bytes. -/
def bs (t : List UInt8) : ByteArray := ⟨t.toArray⟩

theorem bs_size (t : List UInt8) : (bs t).size = t.length := by simp [bs, ByteArray.size]
theorem bs_nil : ByteArray.empty = bs [] := rfl
theorem bs_list (t : List UInt8) : (bs t).toList = t := by rw [ByteArray.toList_eq]; simp [bs]
theorem bs_inj {a b : List UInt8} (h : bs a = bs b) : a = b := by rw [← bs_list a, ← bs_list b, h]
theorem bs_eta (s : ByteArray) : bs s.data.toList = s := ba_eta s
theorem bs_extract (t : List UInt8) (a b : Nat) : (bs t).extract a b = bs ((t.take b).drop a) := by
  refine str_eq ?_
  rw [bs_list, ByteArray.toList_eq, ByteArray.data_extract, Array.toList_extract]
  simp [bs, List.drop_take]

/-- A reader: what is left of a text. -/
def RdAt (w : World) (rb : Nat) (t : List UInt8) : Prop := w.heap[rb]? = some (.cells #[.string (bs t)] 286 (0, 0))

/-- What taking leaves. -/
def RdTo (rb : Nat) (t : List UInt8) (w w' : World) : Prop := RdAt w' rb t ∧ Kp rb [286] w w'

theorem rd_set {w : World} {rb : Nat} {t : List UInt8} (h : RdAt w rb t) (t' : List UInt8) : RdTo rb t' w (w.setCell ⟨rb, 0, none⟩ (.string (bs t'))) := by
  have s := heap_setCell_same w rb 0 _ 286 (.string (bs t')) h
  simp only [List.setIfInBounds_toArray, List.set_cons_zero] at s
  exact ⟨s, (Kp.refl rb [286] w).setCell (Nat.le_refl _) h (by simp) _⟩

set_option maxHeartbeats 1000000 in
theorem take_any (t : List UInt8) (n rb : Nat) (w : World) (h : RdAt w rb t) (hn : n ≤ 1000) (_ht : t.length < 1000000000) :
    Calls Tryz.prog 226 #[.pointer (some ⟨rb, 0, none⟩), .int .i64 n] w fun e w' => e = .returned (.string (bs (t.take n))) ∧ RdTo rb (t.drop n) w w' := by
  have c0 : w.cell? ⟨rb, 0, none⟩ = some (.string (bs t)) := by simp [World.cell?, show w.heap[rb]? = _ from h]
  have f0 : w.frozen? ⟨rb, 0, none⟩ = false := by simp [World.frozen?, show w.heap[rb]? = _ from h]
  have hsz : (bs t).size = t.length := bs_size t
  have hrb : rb < w.heap.size := lt_of_block h
  have HF : Hid (RdTo rb (t.drop n) w (w.setCell ⟨rb, 0, none⟩ (.string (bs (t.drop n))))) := rd_set h _
  have E1 : Hid (∀ m, (bs t).extract 0 m = bs (t.take m)) := fun m => by rw [bs_extract, List.drop_zero]
  have E2 : Hid (∀ m, (bs t).extract m t.length = bs (t.drop m)) := fun m => by rw [bs_extract, List.take_of_length_le (Nat.le_refl _)]
  clear h
  by_cases hc : t.length < n
  · have e1 : t.take n = t := List.take_of_length_le (by omega)
    have e2 : t.drop n = [] := List.drop_eq_nil_of_le (by omega)
    have E3 : Hid (bs (t.take n) = (bs t).extract 0 t.length ∧ bs (t.drop n) = ByteArray.empty) := ⟨by rw [E1.out, e1, List.take_of_length_le (Nat.le_refl _)], by rw [e2]; rfl⟩
    clear e1 e2
    go_enter Tryz.func226, Tryz.ntmps226
    go_wp2
    go_ret
    rw [E3.out.1]
    refine ⟨rfl, ?_⟩
    have := HF.out
    rw [E3.out.2] at this
    exact this
  · go_enter Tryz.func226, Tryz.ntmps226
    go_wp2
    go_ret
    rw [E1.out, E2.out]
    exact ⟨rfl, HF.out⟩

theorem tNum_le (t : List UInt8) : tNum t ≤ 255 := by
  cases t with
  | nil => simp [tNum]
  | cons b t => have := b.toNat_lt; simp only [tNum]; omega

set_option maxHeartbeats 1000000 in
theorem takeNumber_any (t : List UInt8) (rb : Nat) (w : World) (h : RdAt w rb t) (ht : t.length < 1000000000) :
    Calls Tryz.prog 208 #[.pointer (some ⟨rb, 0, none⟩)] w fun e w' => e = .returned (.int .i64 (tNum t)) ∧ RdTo rb (t.drop 1) w w' := by
  have HT : Hid (Calls Tryz.prog 226 #[.pointer (some ⟨rb, 0, none⟩), .int .i64 1] w fun e w' => e = .returned (.string (bs (t.take 1))) ∧ RdTo rb (t.drop 1) w w') := take_any t 1 rb w h (by omega) ht
  cases t with
  | nil =>
    have e : Hid (bs (([] : List UInt8).take 1) = ⟨#[]⟩) := rfl
    rw [e.out] at HT
    clear h
    go_enter Tryz.func208, Tryz.ntmps208
    go_wp2_with fail
    refine Calls.mono HT.out ?_
    rintro e w2 ⟨rfl, h2⟩
    have H2 : Hid _ := h2
    clear h2
    go_wp2
    go_ret
    exact ⟨rfl, H2.out⟩
  | cons b t =>
    have e : Hid (bs ((b :: t).take 1) = ⟨#[b]⟩) := rfl
    rw [e.out] at HT
    have hne := str_ne (a := ⟨#[b]⟩) (b := ⟨#[]⟩) (fun h => by have := congrArg ByteArray.size h; simp [ByteArray.size] at this)
    clear h
    go_enter Tryz.func208, Tryz.ntmps208
    go_wp2_with fail
    refine Calls.mono HT.out ?_
    rintro e w2 ⟨rfl, h2⟩
    have H2 : Hid _ := h2
    clear h2
    go_wp2
    go_ret
    refine ⟨?_, H2.out⟩
    show Ending.returned (Value.int IntKind.i64 (wrap64 (b.toNat : Int))) = Ending.returned (Value.int IntKind.i64 (b.toNat : Int))
    have := b.toNat_lt
    rw [IntWalk.wrap64_in _ (by omega)]

set_option maxHeartbeats 1000000 in
theorem takeText_any (t : List UInt8) (rb : Nat) (w : World) (h : RdAt w rb t) (ht : t.length < 1000000000) :
    Calls Tryz.prog 227 #[.pointer (some ⟨rb, 0, none⟩)] w fun e w' => e = .returned (.string (bs (tTxt t).1)) ∧ RdTo rb (tTxt t).2 w w' := by
  have hl : (t.drop 1).length < 1000000000 := by simp; omega
  have HN : Hid _ := takeNumber_any t rb w h ht
  have HT : Hid (∀ w2, RdAt w2 rb (t.drop 1) → Calls Tryz.prog 226 #[.pointer (some ⟨rb, 0, none⟩), .int .i64 (tNum t)] w2 fun e w' => e = .returned (.string (bs (tTxt t).1)) ∧ RdTo rb (tTxt t).2 w2 w') := fun w2 h2 => take_any (t.drop 1) (tNum t) rb w2 h2 (by have := tNum_le t; omega) hl
  clear h
  go_enter Tryz.func227, Tryz.ntmps227
  go_wp2_with fail
  refine Calls.mono HN.out ?_
  rintro e w2 ⟨rfl, h2, k2⟩
  have H2 : Hid (Kp rb [286] w w2) := k2
  have HC := HT.out w2 h2
  have HC' : Hid _ := HC
  clear h2 k2 HC HN HT
  go_wp2_with fail
  refine Calls.mono HC'.out ?_
  rintro e w3 ⟨rfl, h3, k3⟩
  have H3 : Hid (RdTo rb (tTxt t).2 w w3) := ⟨h3, H2.out.trans k3⟩
  clear h3 k3
  go_wp2
  go_ret
  exact ⟨rfl, H3.out⟩

theorem tTxt_len (t : List UInt8) : (tTxt t).2.length ≤ t.length ∧ (tTxt t).1.length ≤ 255 := by
  have := tNum_le t
  unfold tTxt
  simp
  omega

/-- A pair as a value. -/
def Pr.val (p : Pr) : Value := .agg #[.string p.k, .string p.v, .bool p.g]

set_option maxHeartbeats 2000000 in
set_option maxRecDepth 100000 in
theorem takePair_any (t : List UInt8) (rb : Nat) (w : World) (h : RdAt w rb t) (ht : t.length < 1000000000) :
    Calls Tryz.prog 209 #[.pointer (some ⟨rb, 0, none⟩)] w fun e w' => e = .returned (.agg #[.string (tPair t).1.k, .string (tPair t).1.v, .bool (tPair t).1.g]) ∧ RdTo rb (tPair t).2 w w' := by
  have hrb : rb < w.heap.size := lt_of_block h
  obtain ⟨W, hW⟩ : ∃ W, w.alloc (.cells #[.string ⟨#[]⟩, .string ⟨#[]⟩, .bool false] 48) = W := ⟨_, rfl⟩
  have hbW : Below w.heap.size w W := by rw [← hW]; exact (Below.refl _ _).alloc (Nat.le_refl _) _
  have hWb : W.heap[w.heap.size]? = some (.cells #[.string ⟨#[]⟩, .string ⟨#[]⟩, .bool false] 48 (0, 0)) := by rw [← hW]; exact heap_alloc_new w _
  have kW : Kp rb [286] w W := Kp.of_below hbW
  have hWr : RdAt W rb t := kW.trans (Kp.refl _ _ _) |>.size |> fun _ => (hbW.block rb hrb).trans h
  have HN : Hid _ := takeNumber_any t rb W hWr ht
  have HW : Hid (w.alloc (.cells #[.string ⟨#[]⟩, .string ⟨#[]⟩, .bool false] 48) = W) := hW
  have HWB : Hid (W.heap[w.heap.size]? = some (.cells #[.string ⟨#[]⟩, .string ⟨#[]⟩, .bool false] 48 (0, 0)) ∧ Kp rb [286] w W) := ⟨hWb, kW⟩
  -- the result's cell is set at the end
  have FIN : Hid (∀ (w3 : World) (k v : Value) (g : Bool) (t' : List UInt8), Kp rb [286] W w3 → RdAt w3 rb t' → ∀ o, w3.heap[w.heap.size]? = some o → RdTo rb t' w (((w3.setCell ⟨w.heap.size, 0, none⟩ k).setCell ⟨w.heap.size, 1, none⟩ v).setCell ⟨w.heap.size, 2, none⟩ (.bool g))) := fun w3 k v g t' k3 h3 o _ => by
    have s : ∀ (w4 : World) (i : Nat) (u : Value), Below w.heap.size w4 (w4.setCell ⟨w.heap.size, i, none⟩ u) := fun w4 i u => Below.setCell (p := ⟨w.heap.size, i, none⟩) (Below.refl w.heap.size w4) (Nat.le_refl w.heap.size) u
    have b3 : Below w.heap.size w3 (((w3.setCell ⟨w.heap.size, 0, none⟩ k).setCell ⟨w.heap.size, 1, none⟩ v).setCell ⟨w.heap.size, 2, none⟩ (.bool g)) := ((s _ _ _).trans (s _ _ _)).trans (s _ _ _)
    have kk : Kp rb [286] w w3 := kW.trans k3
    refine ⟨(b3.block rb hrb).trans h3, ⟨b3.os.trans kk.os, b3.tape.trans kk.tape, b3.output.trans kk.output, Nat.le_trans kk.size b3.size, fun i hi hor => ?_⟩⟩
    exact (b3.block i hi).trans (kk.block i hi hor)
  have hl1 : (t.drop 1).length < 1000000000 := by simp; omega
  have hl2 : (tTxt (t.drop 1)).2.length < 1000000000 := by have := (tTxt_len (t.drop 1)).1; omega
  have HT1 : Hid (∀ w2, RdAt w2 rb (t.drop 1) → Calls Tryz.prog 227 #[.pointer (some ⟨rb, 0, none⟩)] w2 fun e w' => e = .returned (.string (bs (tTxt (t.drop 1)).1)) ∧ RdTo rb (tTxt (t.drop 1)).2 w2 w') := fun w2 h2 => takeText_any (t.drop 1) rb w2 h2 hl1
  have HT2 : Hid (∀ w2, RdAt w2 rb (tTxt (t.drop 1)).2 → Calls Tryz.prog 227 #[.pointer (some ⟨rb, 0, none⟩)] w2 fun e w' => e = .returned (.string (bs (tTxt (tTxt (t.drop 1)).2).1)) ∧ RdTo rb (tTxt (tTxt (t.drop 1)).2).2 w2 w') := fun w2 h2 => takeText_any _ rb w2 h2 hl2
  clear h hW hbW hWb kW hWr hl1 hl2
  by_cases h0 : tNum t = 0
  · have hp : tPair t = (⟨bs (tTxt (t.drop 1)).1, bs (tTxt (tTxt (t.drop 1)).2).1, false⟩, (tTxt (tTxt (t.drop 1)).2).2) := by unfold tPair; rw [if_pos h0]; rfl
    rw [hp]
    rw [h0] at HN
    clear hp h0
    generalize List.drop 1 t = t1 at HN HT1 HT2 FIN ⊢
    go_enter Tryz.func209, Tryz.ntmps209
    go_wp2_with fail
    rw [HW.out]
    refine Calls.mono HN.out ?_
    rintro e w2 ⟨rfl, h2, k2⟩
    have K2 : Hid (Kp rb [286] W w2) := k2
    have HC := HT1.out w2 h2
    have HC' : Hid _ := HC
    clear h2 k2 HC HN HT1
    go_wp2_with fail
    refine Calls.mono HC'.out ?_
    rintro e w3 ⟨rfl, h3, k3⟩
    have K3 : Hid (Kp rb [286] W w3) := K2.out.trans k3
    have HC := HT2.out w3 h3
    have HC'' : Hid _ := HC
    clear h3 k3 HC HC' HT2 K2
    go_wp2_with fail
    refine Calls.mono HC''.out ?_
    rintro e w4 ⟨rfl, h4, k4⟩
    have k4' : Kp rb [286] W w4 := K3.out.trans k4
    have hw4 := k4'.keep HWB.out.1 (by simp)
    have HFN : Hid _ := FIN.out w4 (.string (bs (tTxt t1).1)) (.string (bs (tTxt (tTxt t1).2).1)) false _ k4' h4 _ hw4
    have r0 : w4.cell? ⟨w.heap.size, 0, none⟩ = some (.string ⟨#[]⟩) := by simp [World.cell?, hw4]
    have r1 : w4.cell? ⟨w.heap.size, 1, none⟩ = some (.string ⟨#[]⟩) := by simp [World.cell?, hw4]
    have r2 : w4.cell? ⟨w.heap.size, 2, none⟩ = some (.bool false) := by simp [World.cell?, hw4]
    have f0 : w4.frozen? ⟨w.heap.size, 0, none⟩ = false := by simp [World.frozen?, hw4]
    have f1 : w4.frozen? ⟨w.heap.size, 1, none⟩ = false := by simp [World.frozen?, hw4]
    have f2 : w4.frozen? ⟨w.heap.size, 2, none⟩ = false := by simp [World.frozen?, hw4]
    have hz : w.heap.size < w4.heap.size := lt_of_block hw4
    clear h4 k4 k4' hw4 K3 FIN HWB HC''
    go_wp2
    exact bodyPost_ret (v := .agg #[.string (bs (tTxt t1).1), .string (bs (tTxt (tTxt t1).2).1), .bool false]) (by simp [results, Tryz.results209, go_sem, r0, r1, r2]) rfl ⟨rfl, HFN.out⟩
  · have hp : tPair t = (⟨bs (tTxt (t.drop 1)).1, ⟨#[]⟩, true⟩, (tTxt (t.drop 1)).2) := by unfold tPair; rw [if_neg h0]; rfl
    rw [hp]
    have hnz : ((tNum t : Int) != 0) = true := by simp; omega
    clear hp h0 HT2
    generalize List.drop 1 t = t1 at HN HT1 FIN ⊢
    go_enter Tryz.func209, Tryz.ntmps209
    go_wp2_with fail
    rw [HW.out]
    refine Calls.mono HN.out ?_
    rintro e w2 ⟨rfl, h2, k2⟩
    have K2 : Hid (Kp rb [286] W w2) := k2
    have HC := HT1.out w2 h2
    have HC' : Hid _ := HC
    clear h2 k2 HC HN HT1
    go_wp2_with fail
    refine Calls.mono HC'.out ?_
    rintro e w4 ⟨rfl, h4, k4⟩
    have k4' : Kp rb [286] W w4 := K2.out.trans k4
    have hw4 := k4'.keep HWB.out.1 (by simp)
    have HFN : Hid _ := FIN.out w4 (.string (bs (tTxt t1).1)) (.string ⟨#[]⟩) true _ k4' h4 _ hw4
    have r0 : w4.cell? ⟨w.heap.size, 0, none⟩ = some (.string ⟨#[]⟩) := by simp [World.cell?, hw4]
    have r1 : w4.cell? ⟨w.heap.size, 1, none⟩ = some (.string ⟨#[]⟩) := by simp [World.cell?, hw4]
    have r2 : w4.cell? ⟨w.heap.size, 2, none⟩ = some (.bool false) := by simp [World.cell?, hw4]
    have f0 : w4.frozen? ⟨w.heap.size, 0, none⟩ = false := by simp [World.frozen?, hw4]
    have f1 : w4.frozen? ⟨w.heap.size, 1, none⟩ = false := by simp [World.frozen?, hw4]
    have f2 : w4.frozen? ⟨w.heap.size, 2, none⟩ = false := by simp [World.frozen?, hw4]
    have hz : w.heap.size < w4.heap.size := lt_of_block hw4
    clear h4 k4 k4' hw4 K2 FIN HWB HC'
    go_wp2
    exact bodyPost_ret (v := .agg #[.string (bs (tTxt t1).1), .string ⟨#[]⟩, .bool true]) (by simp [results, Tryz.results209, go_sem, r0, r1, r2]) rfl ⟨rfl, HFN.out⟩
end Go.Proofs.YtakipjofboipmaaGreat

/- The walks of this proof: the document's own ceiling. -/
namespace Go.Proofs.YtakipjofboipmaaGreat
open Go.RowKit Go.Sort

theorem odd_u32' (a : BitVec 32) : ((a.toNat : Int) % 2 == 1) = a.getLsbD 0 := by
  have e : (a.toNat : Int) % 2 = ((a.toNat % 2 : Nat) : Int) := rfl
  rw [e, BitVec.getLsbD, Nat.testBit_zero]
  by_cases h : a.toNat % 2 = 1
  · simp [h]
  · have : a.toNat % 2 = 0 := by omega
    simp [this]

theorem not_u32' (c : BitVec 32) : bits .xor .u32 c.toNat 4294967295 = (~~~c).toNat := by
  have := bits_xor c 4294967295#32
  rw [show (((4294967295#32).toNat : Nat) : Int) = 4294967295 from rfl] at this
  rw [this]
  have : (4294967295#32 : BitVec 32) = BitVec.allOnes 32 := by decide
  rw [this, BitVec.xor_allOnes]

theorem bs_at {l : List UInt8} {k : Nat} {b : UInt8} (h : l[k]? = some b) : ∀ h' : k < (bs l).size, (bs l)[k]'h' = b := fun h' => by
  obtain ⟨h1, h2⟩ := List.getElem?_eq_some_iff.1 h
  rw [← h2]
  simp [bs, ByteArray.getElem_eq_getElem_data]

set_option maxHeartbeats 2000000 in
set_option maxRecDepth 100000 in
theorem ceilT_any (l : List UInt8) (w : World) (hn : l.length ≤ 1000000) :
    Calls Tryz.prog 67 #[.string (bs l)] w fun e w' => e = .returned (.int .u32 (ceil l).toNat) ∧ w' = w := by
  have hsz : (bs l).size = l.length := bs_size l
  have HCE : Hid (bits .xor .u32 (crc 4294967295#32 l).toNat 4294967295 = (ceil l).toNat) := not_u32' _
  have HIX : Hid (∀ k b, l[k]? = some b → ∀ h : k < (bs l).size, (bs l)[k]'h = b) := fun k b h => bs_at h
  go_enter Tryz.func67, Tryz.ntmps67
  go_wp2
  go_loop [3, 4] (fun s3 i => ∃ (k : Nat), k ≤ l.length ∧ i = .int .i64 k ∧ s3 = .int .u32 (crc 4294967295#32 (l.take k)).toNat) (fun _ i => l.length - (intOf i).toNat)
  case atStart => exact ⟨0, by omega, rfl, rfl⟩
  case round =>
    obtain ⟨k, hk, rfl, rfl⟩ := hrel
    by_cases hlt : k < l.length
    · obtain ⟨b, hlb⟩ : ∃ b, l[k]? = some b := ⟨_, List.getElem?_eq_getElem hlt⟩
      have HT : Hid (l.take (k + 1) = l.take k ++ [b]) := (by rw [List.take_add_one, hlb]; rfl : l.take (k + 1) = l.take k ++ [b])
      have hix := HIX.out k b hlb
      have hb0 : (0 : Int) ≤ b.toNat := by omega
      have hb1 : (b.toNat : Int) ≤ 255 := by have := b.toNat_lt; omega
      clear hlb
      obtain ⟨c, hc⟩ : ∃ c, crc 4294967295#32 (l.take k) = c := ⟨_, rfl⟩
      have HC : Hid (crc 4294967295#32 (l.take k) = c) := hc
      rw [hc]
      clear hc
      have HX : Hid (bits .xor .u32 c.toNat b.toNat = (c ^^^ BitVec.ofNat 32 b.toNat).toNat) := (by
        have := bits_xor c (BitVec.ofNat 32 b.toNat)
        rwa [BitVec.toNat_ofNat, Nat.mod_eq_of_lt (by have := b.toNat_lt; omega)] at this : _ = _)
      go_wp2
      rw [HX.out]
      obtain ⟨c1, hc1⟩ : ∃ c1, c ^^^ BitVec.ofNat 32 b.toNat = c1 := ⟨_, rfl⟩
      have HC1 : Hid (c ^^^ BitVec.ofNat 32 b.toNat = c1) := hc1
      rw [hc1]
      clear hc1
      go_loop [3, 5] (fun s3 i => ∃ (m : Nat), m ≤ 8 ∧ i = .int .i64 m ∧ s3 = .int .u32 (itS m c1).toNat) (fun _ i => 8 - (intOf i).toNat)
      case atStart => exact ⟨0, by omega, rfl, rfl⟩
      case round =>
        obtain ⟨m, hm, rfl, rfl⟩ := hrel
        by_cases hlt : m < 8
        · go_wp2
          · rename_i hb
            rw [odd_u32'] at hb
            refine ⟨⟨m + 1, by omega, by go_num, ?_⟩, by simp [intOf]; omega⟩
            rw [show ((itS m c1).toNat : Int) / 2 = ((itS m c1 >>> (1 : Nat)).toNat : Int) from half_u32 _]
            have := bits_xor (itS m c1 >>> 1) 3988292384#32
            rw [show (((3988292384#32).toNat : Nat) : Int) = 3988292384 from rfl] at this
            rw [this]
            simp only [itS, st1, hb, if_true]
          · rename_i hb
            rw [odd_u32'] at hb
            refine ⟨⟨m + 1, by omega, by go_num, ?_⟩, by simp [intOf]; omega⟩
            rw [show ((itS m c1).toNat : Int) / 2 = ((itS m c1 >>> (1 : Nat)).toNat : Int) from half_u32 _]
            simp only [itS, st1, hb, Bool.false_eq_true, if_false]
        · obtain rfl : m = 8 := by omega
          have HE : Hid (itS 8 c1 = crc 4294967295#32 (l.take (k + 1))) := (by rw [HT.out, crc_snoc, HC.out, HC1.out] : _ = _)
          rw [HE.out]
          go_wp2
          go_round
          case rel => exact ⟨k + 1, by omega, by go_num, rfl⟩
          case measure => simp [intOf]; omega
    · obtain rfl : k = l.length := by omega
      rw [List.take_length]
      obtain ⟨c, hc⟩ : ∃ c, crc 4294967295#32 l = c := ⟨_, rfl⟩
      rw [hc] at HCE ⊢
      clear hc
      go_wp2
      go_ret
      rw [HCE.out]
      exact ⟨rfl, rfl⟩
end Go.Proofs.YtakipjofboipmaaGreat

/- Of a record's bytes: which belong to a key, a value or the ceiling; and what comes of it when one is turned. -/
namespace Go.Proofs.YtakipjofboipmaaGreat
open Go.RowKit Go.Sort

/-- A byte of a key, a value or the ceiling: whatever it is turned to, the body is one of pairs. -/
def PlainIn (M : List Pr) (d : Nat) : Prop :=
  (bodyB M).length ≤ d ∨ ∀ b : UInt8, ∃ M' : List Pr, (∀ p ∈ M', PrOk p) ∧ M'.length = M.length ∧ bodyB M' = (bodyB M).set d b

theorem takeP_body {M : List Pr} (ok : ∀ p ∈ M, PrOk p) (h4 : M.length ≤ 4) (r : List UInt8) : takeP (bodyB M ++ r) = M := by
  unfold takeP bodyB
  have e : (UInt8.ofNat M.length).toNat = M.length := by
    rw [UInt8.toNat_ofNat', Nat.mod_eq_of_lt (by omega)]
  simp only [List.cons_append, tNum, List.drop_succ_cons, List.drop_zero, e]
  rw [tPs_flat M.length M ok (Nat.le_refl _)]
  simp

theorem num4_len (c : BitVec 32) : (num4 c).length = 4 := rfl

theorem recB_pre {M : List Pr} {c r : List UInt8} (hc : c.length = 4) (h : recB M <+: bodyB M ++ (c ++ r)) : num4 (ceil (bodyB M)) = c := by
  unfold recB at h
  rw [List.prefix_append_right_inj] at h
  have h1 := List.prefix_of_prefix_length_le h (List.prefix_append c r) (by rw [hc, num4_len]; exact Nat.le_refl _)
  exact h1.eq_of_length (by rw [hc, num4_len])

theorem set_split {l : List UInt8} {d : Nat} {a b : UInt8} (h : l[d]? = some a) : l = l.take d ++ a :: l.drop (d + 1) ∧ l.set d b = l.take d ++ b :: l.drop (d + 1) := by
  obtain ⟨h1, h2⟩ := List.getElem?_eq_some_iff.1 h
  refine ⟨?_, by rw [List.set_eq_take_append_cons_drop, if_pos h1]⟩
  conv => lhs; rw [← List.take_append_drop d l, List.drop_eq_getElem_cons h1, h2]

/-- No record begins where such a byte of one is turned. -/
theorem norec_turned {M : List Pr} (bt : Bt M) {d : Nat} (hd : d < (recB M).length) (hp : PlainIn M d) {b : UInt8} (hne : (recB M)[d]? ≠ some b) (r : List UInt8) : NoRec ((recB M ++ r).set d b) := by
  intro N hN hpre
  have hN' := takeP_pre hN hpre
  have hset : (recB M ++ r).set d b = (recB M).set d b ++ r := List.set_append_left _ _ hd
  rw [hset] at hpre hN'
  obtain ⟨a, ha⟩ : ∃ a, (recB M)[d]? = some a := ⟨_, List.getElem?_eq_getElem hd⟩
  have hab : a ≠ b := fun e => hne (by rw [ha, e])
  by_cases hb : d < (bodyB M).length
  · rcases hp with hp | hp
    · omega
    · obtain ⟨M', ok', hl', hM'⟩ := hp b
      have e1 : (recB M).set d b = bodyB M' ++ num4 (ceil (bodyB M)) := by
        unfold recB
        rw [List.set_append_left _ _ hb, hM']
      rw [e1, List.append_assoc] at hpre hN'
      rw [takeP_body ok' (by have := bt.hi; omega)] at hN'
      subst hN'
      have h1 := num4_inj (recB_pre (num4_len _) hpre)
      have ha' : (bodyB M)[d]? = some a := by
        have := ha
        unfold recB at this
        rwa [List.getElem?_append_left hb] at this
      obtain ⟨s1, s2⟩ := set_split (b := b) ha'
      rw [hM', s2] at h1
      exact hab (ceil_byte (h1.trans (congrArg ceil s1))).symm
  · have e1 : (recB M).set d b = bodyB M ++ (num4 (ceil (bodyB M))).set (d - (bodyB M).length) b := by
      unfold recB
      rw [List.set_append_right _ _ (by omega)]
    rw [e1, List.append_assoc] at hpre hN'
    rw [takeP_body bt.ok bt.hi] at hN'
    subst hN'
    have h1 := recB_pre (by rw [List.length_set, num4_len]) hpre
    have hl : d - (bodyB M).length < (num4 (ceil (bodyB M))).length := by
      unfold recB at hd
      rw [List.length_append] at hd
      omega
    have h2 : (recB M)[d]? = some b := by
      unfold recB
      rw [List.getElem?_append_right (by omega), h1, List.getElem?_set_self hl]
    exact hne h2

/-- Where the k-th pair's bytes begin, behind the number of pairs. -/
def pl (M : List Pr) (k : Nat) : Nat := ((M.take k).flatMap prB).length

theorem flat_split {M : List Pr} {k : Nat} {p : Pr} (h : M[k]? = some p) : M.flatMap prB = (M.take k).flatMap prB ++ (prB p ++ (M.drop (k + 1)).flatMap prB) := by
  obtain ⟨h1, h2⟩ := List.getElem?_eq_some_iff.1 h
  conv => lhs; rw [← List.take_append_drop k M, List.drop_eq_getElem_cons h1, h2]
  simp

theorem body_at {M : List Pr} {k y : Nat} {p : Pr} {b : UInt8} (h : M[k]? = some p) (hb : (prB p)[y]? = some b) : (bodyB M)[1 + pl M k + y]? = some b := by
  have hy := (List.getElem?_eq_some_iff.1 hb).1
  have e : 1 + pl M k + y = (pl M k + y) + 1 := by omega
  rw [bodyB, e, List.getElem?_cons_succ, flat_split h, pl, List.getElem?_append_right (by omega), Nat.add_sub_cancel_left, List.getElem?_append_left hy]
  exact hb

/-- A pair's bytes turned. -/
theorem body_set {M : List Pr} {k y : Nat} {p p' : Pr} {b : UInt8} (h : M[k]? = some p) (hy : y < (prB p).length) (hp : prB p' = (prB p).set y b) : bodyB (M.set k p') = (bodyB M).set (1 + pl M k + y) b := by
  have hk := (List.getElem?_eq_some_iff.1 h).1
  have h' : (M.set k p')[k]? = some p' := List.getElem?_set_self hk
  have e : 1 + pl M k + y = (pl M k + y) + 1 := by omega
  rw [bodyB, bodyB, List.length_set, e, List.set_cons_succ, flat_split h', flat_split h, hp]
  have e2 : (M.set k p').take k = M.take k := by rw [List.take_set_of_le (Nat.le_refl _)]
  have e3 : (M.set k p').drop (k + 1) = M.drop (k + 1) := by rw [List.drop_set_of_lt (Nat.lt_succ_self _)]
  rw [e2, e3, pl, List.set_append_right _ _ (by omega), Nat.add_sub_cancel_left, List.set_append_left _ _ hy]

theorem pl_succ {M : List Pr} {k : Nat} {p : Pr} (h : M[k]? = some p) : pl M (k + 1) = pl M k + (prB p).length := by
  unfold pl
  rw [List.take_add_one, h]
  simp

theorem size_toList (s : ByteArray) : s.data.toList.length = s.size := by simp [ByteArray.size_data]

/-- A key's bytes. -/
theorem plain_key {M : List Pr} (ok : ∀ p ∈ M, PrOk p) {k e : Nat} {p : Pr} (h : M[k]? = some p) (he : e < p.k.size) : PlainIn M (1 + pl M k + (2 + e)) := by
  right
  intro b
  have hpk := ok p (List.mem_of_getElem? h)
  have hlen : ((p.k.data.toList.set e b).toArray).size = p.k.size := by simp
  refine ⟨M.set k { p with k := ⟨(p.k.data.toList.set e b).toArray⟩ }, fun q hq => ?_, by simp, body_set h ?_ ?_⟩
  · rcases List.mem_or_eq_of_mem_set hq with hq | rfl
    · exact ok q hq
    · have e1 : ByteArray.size ⟨(p.k.data.toList.set e b).toArray⟩ = p.k.size := hlen
      exact ⟨by show 1 ≤ ByteArray.size ⟨_⟩; rw [e1]; exact hpk.lo, by show ByteArray.size ⟨_⟩ ≤ 6; rw [e1]; exact hpk.hi, hpk.val, hpk.gone⟩
  · unfold prB
    split <;> simp only [List.length_cons, List.length_append, txB_len] <;> omega
  · have e1 : ByteArray.size ⟨(p.k.data.toList.set e b).toArray⟩ = p.k.size := hlen
    have e2 : txB ⟨(p.k.data.toList.set e b).toArray⟩ = (txB p.k).set (1 + e) b := by
      unfold txB
      rw [e1, Nat.add_comm 1 e, List.set_cons_succ]
    have hl : 1 + e < (txB p.k).length := by rw [txB_len]; omega
    unfold prB
    simp only
    rw [e2]
    split
    · rw [show 2 + e = (1 + e) + 1 by omega, List.set_cons_succ]
    · rw [show 2 + e = (1 + e) + 1 by omega, List.set_cons_succ, List.set_append_left _ _ hl]

/-- A value's bytes. -/
theorem plain_val {M : List Pr} (ok : ∀ p ∈ M, PrOk p) {k e : Nat} {p : Pr} (h : M[k]? = some p) (hg : p.g = false) (he : e < p.v.size) : PlainIn M (1 + pl M k + (3 + p.k.size + e)) := by
  right
  intro b
  have hpk := ok p (List.mem_of_getElem? h)
  have hlen : ((p.v.data.toList.set e b).toArray).size = p.v.size := by simp
  have e1 : ByteArray.size ⟨(p.v.data.toList.set e b).toArray⟩ = p.v.size := hlen
  refine ⟨M.set k { p with v := ⟨(p.v.data.toList.set e b).toArray⟩ }, fun q hq => ?_, by simp, body_set h ?_ ?_⟩
  · rcases List.mem_or_eq_of_mem_set hq with hq | rfl
    · exact ok q hq
    · exact ⟨hpk.lo, hpk.hi, by show ByteArray.size ⟨_⟩ ≤ 8; rw [e1]; exact hpk.val, fun h => by simp only at h; rw [hg] at h; cases h⟩
  · unfold prB
    rw [hg]
    simp only [Bool.false_eq_true, if_false, List.length_cons, List.length_append, txB_len]
    omega
  · have e2 : txB ⟨(p.v.data.toList.set e b).toArray⟩ = (txB p.v).set (1 + e) b := by
      unfold txB
      rw [e1, Nat.add_comm 1 e, List.set_cons_succ]
    unfold prB
    simp only [hg, Bool.false_eq_true, if_false]
    rw [e2, show 3 + p.k.size + e = (p.k.size + 1 + (1 + e)) + 1 by omega, List.set_cons_succ, List.set_append_right _ _ (by rw [txB_len]; omega), txB_len, Nat.add_sub_cancel_left]
end Go.Proofs.YtakipjofboipmaaGreat

/- The walks of this proof: does a byte belong to a key, a value or the ceiling? -/
namespace Go.Proofs.YtakipjofboipmaaGreat
open Go.RowKit Go.Sort

theorem u8_small {n : Nat} (h : n < 256) : (UInt8.ofNat n).toNat = n := by rw [UInt8.toNat_ofNat', Nat.mod_eq_of_lt (by omega)]

theorem prB_gone {p : Pr} (hg : p.g = true) : (prB p)[0]? = some 1 ∧ (prB p)[1]? = some (UInt8.ofNat p.k.size) ∧ (prB p).length = 2 + p.k.size := by
  unfold prB
  rw [hg]
  refine ⟨rfl, rfl, ?_⟩
  simp only [if_true, List.length_cons, txB_len]
  omega

theorem prB_here {p : Pr} (hg : p.g = false) : (prB p)[0]? = some 0 ∧ (prB p)[1]? = some (UInt8.ofNat p.k.size) ∧ (prB p)[2 + p.k.size]? = some (UInt8.ofNat p.v.size) ∧ (prB p).length = 3 + p.k.size + p.v.size := by
  unfold prB
  rw [hg]
  refine ⟨rfl, rfl, ?_, ?_⟩
  · simp only [Bool.false_eq_true, if_false]
    rw [show 2 + p.k.size = (p.k.size + 1) + 1 by omega, List.getElem?_cons_succ, List.getElem?_append_right (by rw [txB_len]; omega), txB_len, Nat.sub_self]
    rfl
  · simp only [Bool.false_eq_true, if_false, List.length_cons, List.length_append, txB_len]
    omega

/-- What plain comes to. -/
def PlnPost (M : List Pr) (d : Nat) (w : World) (e : Ending) (w' : World) : Prop := ∃ r, e = .returned (.bool r) ∧ (r = true → PlainIn M d) ∧ w' = w

set_option maxHeartbeats 4000000 in
set_option maxRecDepth 100000 in
theorem plain_any (t : List UInt8) (M : List Pr) (fr place : Nat) (w : World) (bt : Bt M) (hpre : recB M <+: t.drop fr) (ht : t.length < 100000000) (h1 : fr ≤ place) (h2 : place < fr + (recB M).length) :
    Calls Tryz.prog 31 #[.string (bs t), .int .i64 fr, .int .i64 place] w fun e w' => PlnPost M (place - fr) w e w' := by
  have hsz : (bs t).size = t.length := bs_size t
  have hrl := hpre.length_le
  rw [List.length_drop] at hrl
  have hbl : (recB M).length = (bodyB M).length + 4 := by simp [recB, num4]
  have HAT : Hid (∀ x y b, (bodyB M)[x]? = some b → fr + x = y → y < t.length ∧ ∀ h : y < (bs t).size, (bs t)[y]'h = b) := fun x y b hb hxy => by
    subst hxy
    have hx := (List.getElem?_eq_some_iff.1 hb).1
    have e : t[fr + x]? = some b := by
      obtain ⟨r, hr⟩ := hpre
      have : (t.drop fr)[x]? = some b := by
        rw [← hr, recB, List.append_assoc, List.getElem?_append_left hx]
        exact hb
      rwa [List.getElem?_drop] at this
    exact ⟨by omega, bs_at e⟩
  have hM4 := bt.hi
  have HB0 : Hid ((bodyB M)[0]? = some (UInt8.ofNat M.length)) := rfl
  obtain ⟨hf0, hf1⟩ := HAT.out 0 fr _ HB0.out rfl
  have hn0 : (UInt8.ofNat M.length).toNat = M.length := u8_small (by omega)
  have HBT : Hid (Bt M) := bt
  have HBL : Hid ((recB M).length = (bodyB M).length + 4) := hbl
  have HPL : Hid (∀ k, k ≤ M.length → 1 + pl M k ≤ (bodyB M).length) := fun k hk => by
    show 1 + ((M.take k).flatMap prB).length ≤ (UInt8.ofNat M.length :: M.flatMap prB).length
    rw [List.length_cons]
    conv => rhs; rw [← List.take_append_drop k M, List.flatMap_append, List.length_append]
    omega
  have HEN : Hid (1 + pl M M.length = (bodyB M).length) := by
    show 1 + ((M.take M.length).flatMap prB).length = (UInt8.ofNat M.length :: M.flatMap prB).length
    rw [List.take_length, List.length_cons]
    omega
  generalize hbb : (bodyB M).length = bl at hbl
  clear hpre bt
  go_enter Tryz.func31, Tryz.ntmps31
  go_wp2
  go_loop [7, 8] (fun s7 s8 => ∃ k : Nat, k ≤ M.length ∧ s7 = .int .i64 ((fr + 1 + pl M k : Nat) : Int) ∧ s8 = .int .i64 ((M.length - k : Nat) : Int)) (fun _ s8 => (intOf s8).toNat)
  case atStart => exact ⟨0, Nat.zero_le _, by simp [pl], by simp⟩
  case round =>
    obtain ⟨k, hk, rfl, rfl⟩ := hrel
    have hpk := HPL.out k hk
    by_cases hlt : k < M.length
    · obtain ⟨p, hp⟩ : ∃ p, M[k]? = some p := ⟨_, List.getElem?_eq_getElem hlt⟩
      have okp := HBT.out.ok p (List.mem_of_getElem? hp)
      have hks := okp.hi
      have hvs := okp.val
      obtain ⟨a, ha⟩ : ∃ a, fr + 1 + pl M k = a := ⟨_, rfl⟩
      obtain ⟨q, hq⟩ : ∃ q, M.length - k = q := ⟨_, rfl⟩
      have hq1 : 0 < q := by omega
      have hq4 : q ≤ 4 := by omega
      have HQ : Hid (M.length - k = q ∧ fr + 1 + pl M k = a ∧ M[k]? = some p ∧ k < M.length) := ⟨hq, ha, hp, hlt⟩
      have HOK : Hid (∀ p ∈ M, PrOk p) := HBT.out.ok
      have haP : fr + 1 ≤ a := by omega
      have hak : a ≤ fr + (bodyB M).length := by have := hpk; omega
      rw [hq, ha]
      clear hq ha hpk
      have HK1 : Hid (∀ ks, ks = p.k.size → a + 2 ≤ place → place < a + 2 + ks → PlnPost M (place - fr) w (.returned (.bool true)) w) := fun ks hks c1 c2 => by
        refine ⟨true, rfl, fun _ => ?_, rfl⟩
        have := plain_key HOK.out HQ.out.2.2.1 (e := place - (a + 2)) (by omega)
        rwa [show 1 + pl M k + (2 + (place - (a + 2))) = place - fr by have := HQ.out.2.1; omega] at this
      by_cases hg : p.g = true
      · obtain ⟨r0, r1, r2⟩ := prB_gone hg
        obtain ⟨x0, y0⟩ := HAT.out _ a _ (body_at hp r0) (by have := HQ.out.2.1; omega)
        obtain ⟨x1, y1⟩ := HAT.out _ (a + 1) _ (body_at hp r1) (by have := HQ.out.2.1; omega)
        have z1 : (UInt8.ofNat p.k.size).toNat = p.k.size := u8_small (by omega)
        have HNX : Hid (fr + 1 + pl M (k + 1) = a + (2 + p.k.size)) := by
          show _ = _
          rw [pl_succ hp, r2]
          have := HQ.out.2.1
          omega
        clear hp r0 r1 r2 hg
        generalize hks2 : p.k.size = ks at *
        clear hks2
        by_cases c1 : a + 2 ≤ place
        · by_cases c2 : place < a + 2 + ks
          · have FIN : Hid (PlnPost M (place - fr) w (.returned (.bool true)) w) := HK1.out ks rfl c1 c2
            go_wp2
            go_ret
            exact FIN.out
          · have c3 : ¬ ((place : Int) < (a : Int) + 2 + ks) := by omega
            go_wp2
            go_round
            case rel => exact ⟨k + 1, HQ.out.2.2.2, by rw [HNX.out]; push_cast; congr 1; omega, by have := HQ.out.1; congr 1; omega⟩
            case measure => simp [intOf]; omega
        · go_wp2
          go_round
          case rel => exact ⟨k + 1, HQ.out.2.2.2, by rw [HNX.out]; push_cast; congr 1; omega, by have := HQ.out.1; congr 1; omega⟩
          case measure => simp [intOf]; omega
      · have hg' : p.g = false := by simpa using hg
        obtain ⟨r0, r1, r3, r2⟩ := prB_here hg'
        obtain ⟨x0, y0⟩ := HAT.out _ a _ (body_at hp r0) (by have := HQ.out.2.1; omega)
        obtain ⟨x1, y1⟩ := HAT.out _ (a + 1) _ (body_at hp r1) (by have := HQ.out.2.1; omega)
        obtain ⟨x3, y3⟩ := HAT.out _ (a + 2 + p.k.size) _ (body_at hp r3) (by have := HQ.out.2.1; omega)
        have z1 : (UInt8.ofNat p.k.size).toNat = p.k.size := u8_small (by omega)
        have z3 : (UInt8.ofNat p.v.size).toNat = p.v.size := u8_small (by omega)
        have HNX : Hid (fr + 1 + pl M (k + 1) = a + (3 + p.k.size + p.v.size)) := by
          show _ = _
          rw [pl_succ hp, r2]
          have := HQ.out.2.1
          omega
        have HK2 : Hid (∀ ks vs, ks = p.k.size → vs = p.v.size → a + 3 + ks ≤ place → place < a + 3 + ks + vs → PlnPost M (place - fr) w (.returned (.bool true)) w) := fun ks vs hks hvs c1 c2 => by
          refine ⟨true, rfl, fun _ => ?_, rfl⟩
          have := plain_val HOK.out HQ.out.2.2.1 hg' (e := place - (a + 3 + ks)) (by omega)
          rwa [show 1 + pl M k + (3 + p.k.size + (place - (a + 3 + ks))) = place - fr by have := HQ.out.2.1; omega] at this
        clear hp r0 r1 r2 r3 hg hg'
        generalize hks2 : p.k.size = ks at *
        clear hks2
        generalize hvs2 : p.v.size = vs at *
        clear hvs2
        by_cases c1 : a + 2 ≤ place
        · by_cases c2 : place < a + 2 + ks
          · have FIN : Hid (PlnPost M (place - fr) w (.returned (.bool true)) w) := HK1.out ks rfl c1 c2
            go_wp2
            go_ret
            exact FIN.out
          · have c3 : ¬ ((place : Int) < (a : Int) + 2 + ks) := by omega
            by_cases d1 : a + 3 + ks ≤ place
            · by_cases d2 : place < a + 3 + ks + vs
              · have FIN : Hid (PlnPost M (place - fr) w (.returned (.bool true)) w) := HK2.out ks vs rfl rfl d1 d2
                go_wp2
                go_ret
                exact FIN.out
              · go_wp2
                go_round
                case rel => exact ⟨k + 1, HQ.out.2.2.2, by rw [HNX.out]; push_cast; congr 1; omega, by have := HQ.out.1; congr 1; omega⟩
                case measure => simp [intOf]; omega
            · go_wp2
              go_round
              case rel => exact ⟨k + 1, HQ.out.2.2.2, by rw [HNX.out]; push_cast; congr 1; omega, by have := HQ.out.1; congr 1; omega⟩
              case measure => simp [intOf]; omega
        · go_wp2
          go_round
          case rel => exact ⟨k + 1, HQ.out.2.2.2, by rw [HNX.out]; push_cast; congr 1; omega, by have := HQ.out.1; congr 1; omega⟩
          case measure => simp [intOf]; omega
    · obtain rfl : k = M.length := by omega
      have HEN2 : Hid (fr + 1 + pl M M.length = fr + bl) := by show _ = _; have := HEN.out; omega
      rw [HEN2.out]
      have FIN : Hid (PlnPost M (place - fr) w (.returned (.bool (decide ((fr : Int) + bl ≤ place)))) w) := ⟨_, rfl, fun h => .inl (by have := of_decide_eq_true h; omega), rfl⟩
      clear hpk
      go_wp2
      go_ret
      exact FIN.out
end Go.Proofs.YtakipjofboipmaaGreat

/- The walks of this proof: the pairs of a record, as far as the text goes. -/
namespace Go.Proofs.YtakipjofboipmaaGreat
open Go.RowKit Go.Sort

theorem tPs_len : ∀ (n : Nat) (t : List UInt8), (tPs n t).1.length = n
  | 0, _ => rfl
  | n + 1, t => by unfold tPs; simp [tPs_len n t]

theorem tPair_len (t : List UInt8) : (tPair t).2.length ≤ t.length := by
  have h1 := tTxt_len (t.drop 1)
  have h2 := tTxt_len (tTxt (t.drop 1)).2
  have h3 : (t.drop 1).length ≤ t.length := by simp
  unfold tPair
  split <;> simp only <;> omega

theorem tPs_rest : ∀ (n : Nat) (t : List UInt8), (tPs n t).2.length ≤ t.length
  | 0, _ => Nat.le_refl _
  | n + 1, t => by
    have h1 := tPs_rest n t
    have h2 := tPair_len (tPs n t).2
    unfold tPs
    simp only
    omega

theorem tPair_ok (t : List UInt8) : (tPair t).1.k.size ≤ 255 ∧ (tPair t).1.v.size ≤ 255 := by
  have h1 := tTxt_len (t.drop 1)
  have h2 := tTxt_len (tTxt (t.drop 1)).2
  unfold tPair
  split
  · refine ⟨?_, ?_⟩
    · show (bs _).size ≤ _; rw [bs_size]; exact h1.2
    · show (bs _).size ≤ _; rw [bs_size]; exact h2.2
  · refine ⟨?_, by show (⟨#[]⟩ : ByteArray).size ≤ 255; decide⟩
    show (bs _).size ≤ _; rw [bs_size]; exact h1.2

theorem tPs_ok : ∀ (n : Nat) (t : List UInt8), ∀ p ∈ (tPs n t).1, p.k.size ≤ 255 ∧ p.v.size ≤ 255
  | 0, _, p, h => by simp [tPs] at h
  | n + 1, t, p, h => by
    unfold tPs at h
    rcases List.mem_append.1 h with h | h
    · exact tPs_ok n t p h
    · rw [List.mem_singleton] at h
      subst h
      exact tPair_ok _

theorem pr_one (p : Pr) : ∀ u ∈ Pr.cells p, u.oneCell' = true := by
  intro u hu; simp [Pr.cells] at hu; rcases hu with rfl | rfl | rfl <;> rfl

/-- What takePairs comes to. -/
def TakenPost (t : List UInt8) (w : World) (e : Ending) (w' : World) : Prop :=
  ∃ v, e = .returned v ∧ w'.ownsRow w.heap.size 48 3 v (takeP t).length (pcells (takeP t)) ∧ Below w.heap.size w w'

set_option maxHeartbeats 2000000 in
set_option maxRecDepth 100000 in
theorem takePairs_any (t : List UInt8) (w : World) (ht : t.length < 1000000000) :
    Calls Tryz.prog 184 #[.string (bs t)] w fun e w' => TakenPost t w e w' := by
  obtain ⟨i0, hi, hz0, hz1, hz2⟩ := info_parts Tryz.info48
  obtain ⟨W, hW⟩ : ∃ W, w.alloc (.cells #[.string (bs t)] 286) = W := ⟨_, rfl⟩
  have hbW : Below w.heap.size w W := by rw [← hW]; exact (Below.refl _ _).alloc (Nat.le_refl _) _
  have hWr : RdAt W w.heap.size t := by rw [← hW]; exact heap_alloc_new w _
  have HW : Hid (w.alloc (.cells #[.string (bs t)] 286) = W) := hW
  have HN : Hid _ := takeNumber_any t w.heap.size W hWr ht
  have HBW : Hid (Below w.heap.size w W) := hbW
  have hn := tNum_le t
  have HTK : Hid (takeP t = (tPs (tNum t) (t.drop 1)).1) := rfl
  have hl1 : (t.drop 1).length < 1000000000 := by simp; omega
  have HT : Hid (∀ (k : Nat) (w2 : World), RdAt w2 w.heap.size (tPs k (t.drop 1)).2 → Calls Tryz.prog 209 #[.pointer (some ⟨w.heap.size, 0, none⟩)] w2 fun e w' => e = .returned (.agg #[.string (tPair (tPs k (t.drop 1)).2).1.k, .string (tPair (tPs k (t.drop 1)).2).1.v, .bool (tPair (tPs k (t.drop 1)).2).1.g]) ∧ RdTo w.heap.size (tPair (tPs k (t.drop 1)).2).2 w2 w') := fun k w2 h2 => takePair_any _ _ w2 h2 (Nat.lt_of_le_of_lt (tPs_rest _ _) hl1)
  clear hW hbW hWr hl1
  generalize tNum t = n at HN HTK hn
  generalize List.drop 1 t = t1 at HN HTK HT
  go_enter Tryz.func184, Tryz.ntmps184
  go_wp2_with fail
  rw [HW.out]
  refine Calls.mono HN.out ?_
  rintro e w1 ⟨rfl, h1, k1⟩
  have HI1 : Hid (RdAt w1 w.heap.size t1 ∧ Below w.heap.size w w1) := ⟨h1, HBW.out.trans (k1.belowB HBW.out.size)⟩
  clear h1 k1 HN HW HBW
  go_wp2
  go_loopw [4, 7] (fun s4 i wr => ∃ k : Nat, k ≤ n ∧ i = .int .i64 k ∧ Hid (wr.ownsRow w.heap.size 48 3 s4 k (pcells (tPs k t1).1) ∧ RdAt wr w.heap.size (tPs k t1).2 ∧ Below w.heap.size w wr)) (fun _ i _ => n - (intOf i).toNat)
  case atStart => exact ⟨0, Nat.zero_le _, rfl, World.ownsRow_nil _ _ _ _, HI1.out.1, HI1.out.2⟩
  case round =>
    clear HI1
    obtain ⟨k, hk, rfl, HI⟩ := hrel
    by_cases hlt : k < n
    · have HC : Hid _ := HT.out k wr HI.out.2.1
      obtain ⟨ao4, cap4, rfl⟩ := slice_form HI.out.1
      have HP1 : Hid ((tPs (k + 1) t1).1 = (tPs k t1).1 ++ [(tPair (tPs k t1).2).1] ∧ (tPs (k + 1) t1).2 = (tPair (tPs k t1).2).2) := ⟨rfl, rfl⟩
      generalize (tPair (tPs k t1).2).1 = p at HC HP1
      generalize (tPair (tPs k t1).2).2 = t2 at HC HP1
      go_wp2_with fail
      refine Calls.mono HC.out ?_
      rintro e w2 ⟨rfl, h2, k2⟩
      have HO2 : Hid (w2.ownsRow w.heap.size 48 3 (.slice ao4 k cap4) k (pcells (tPs k t1).1)) := k2.owns HI.out.1 (by simp)
      have H2 : Hid (RdAt w2 w.heap.size t2) := h2
      have HB2 : Hid (Below w.heap.size w w2) := HI.out.2.2.trans (k2.belowB HI.out.2.2.size)
      clear h2 k2 HI HC
      go_wp2_with (at_builtin; refine wpList_append_own _ rfl (.tmp 9) (.tmp 11) 49 rfl w.heap.size 48 i0 _ 3 40 Tryz.underlying49 hi hz0 hz1 hz2 rfl (by decide) _ _ _ rfl (by exact HO2.out.alloc _) ⟨w2.heap.size, 0, none⟩ 1 1 (Pr.cells p) rfl rfl (by exact one_pair w2 p) (pr_one p) (by unfold maxLen; omega) (by omega) (by have := HB2.out.size; simp; omega) ?_)
      intro v9 w3 ho3 hg3 _
      have k3 : Kp w.heap.size [48] w2 w3 := Kp.grown ((Kp.refl _ _ w2).alloc _) (HO2.out.alloc _) hg3 (Nat.le_refl _) (by simp)
      have HI3 : Hid (w3.ownsRow w.heap.size 48 3 v9 (k + 1) (pcells (tPs (k + 1) t1).1) ∧ RdAt w3 w.heap.size (tPs (k + 1) t1).2 ∧ Below w.heap.size w w3) := by
        rw [HP1.out.1, HP1.out.2]
        refine ⟨?_, k3.keep H2.out (by simp), HB2.out.trans (k3.belowB HB2.out.size)⟩
        have e : pcells ((tPs k t1).1 ++ [p]) = pcells (tPs k t1).1 ++ Pr.cells p := by unfold pcells; rw [List.flatMap_append]; simp
        rw [e]
        exact ho3
      clear ho3 hg3 k3 HO2 H2 HB2 HP1
      go_wp2
      go_roundw
      case rel => exact ⟨k + 1, by omega, by go_num, HI3⟩
      case measure => simp [intOf]; omega
    · obtain rfl : k = n := by omega
      have HF : Hid (∀ s4, wr.ownsRow w.heap.size 48 3 s4 k (pcells (tPs k t1).1) → TakenPost t w (.returned s4) wr) := fun s4 h => by
        refine ⟨s4, rfl, ?_, HI.out.2.2⟩
        rw [HTK.out, tPs_len]
        exact h
      clear HT HTK
      go_wp2
      go_ret
      exact HF.out _ HI.out.1
end Go.Proofs.YtakipjofboipmaaGreat

/- The walks of this proof: the record that a text begins with. -/
namespace Go.Proofs.YtakipjofboipmaaGreat
open Go.RowKit Go.Sort

set_option maxHeartbeats 1000000 in
theorem liteHasPrefix_any (a b : List UInt8) (r : Bool) (w : World) (_ha : a.length < 1000000000) (_hb : b.length < 1000000000) (hr : r = true ↔ b <+: a) :
    Calls Tryz.prog 210 #[.string (bs a), .string (bs b)] w fun e w' => e = .returned (.bool r) ∧ w' = w := by
  have hsa : (bs a).size = a.length := bs_size a
  have hsb : (bs b).size = b.length := bs_size b
  by_cases hl : b.length ≤ a.length
  · have hex : (bs a).extract 0 b.length = bs (a.take b.length) := by rw [bs_extract, List.drop_zero]
    have hd : decide ((b.length : Int) ≤ (a.length : Int)) = true := decide_eq_true (by omega)
    have he : ((bs (a.take b.length)).toList == (bs b).toList) = r := by
      rw [bs_list, bs_list]
      cases r with
      | true =>
        have := hr.1 rfl
        rw [beq_iff_eq]
        exact (List.prefix_iff_eq_take.1 this).symm
      | false =>
        rw [beq_eq_false_iff_ne]
        intro h
        have : b <+: a := by rw [← h]; exact List.take_prefix _ _
        have := hr.2 this
        cases this
    have HEX : Hid _ := hex
    have HE : Hid _ := he
    clear hr hex he
    go_enter Tryz.func210, Tryz.ntmps210
    go_wp2_with (first | rw [HEX.out] | fail)
    go_ret
    exact ⟨by rw [← HE.out]; rfl, rfl⟩
  · have hf : r = false := by
      cases r with
      | false => rfl
      | true => exact absurd (hr.1 rfl).length_le hl
    subst hf
    have hd : decide ((b.length : Int) ≤ (a.length : Int)) = false := decide_eq_false (by omega)
    clear hr
    go_enter Tryz.func210, Tryz.ntmps210
    go_wp2
    go_ret
    exact ⟨rfl, rfl⟩

set_option maxHeartbeats 1000000 in
theorem hasPrefix_any (a b : List UInt8) (r : Bool) (w : World) (ha : a.length < 1000000000) (hb : b.length < 1000000000) (hr : r = true ↔ b <+: a) :
    Calls Tryz.prog 185 #[.string (bs a), .string (bs b)] w fun e w' => e = .returned (.bool r) ∧ w' = w := by
  have H : Hid _ := liteHasPrefix_any a b r w ha hb hr
  clear hr
  go_enter Tryz.func185, Tryz.ntmps185
  go_wp2_with fail
  refine Calls.mono H.out ?_
  rintro e w0 ⟨rfl, rfl⟩
  go_wp2
  go_ret
  exact ⟨rfl, rfl⟩

theorem flt_ok {L : List Pr} (h : flt L = 0) : 1 ≤ L.length ∧ L.length ≤ 4 ∧ ∀ p ∈ L, PrOk p := by
  unfold flt at h
  split at h
  · cases h
  rename_i h0
  split at h
  · cases h
  rename_i h1
  split at h
  · cases h
  rename_i h2
  split at h
  · cases h
  rename_i h3
  simp only [not_or] at h0
  refine ⟨by omega, by omega, fun p hp => ?_⟩
  have k1 : noKey p = false := by
    cases hk : noKey p with
    | false => rfl
    | true => exact absurd (List.any_eq_true.2 ⟨p, hp, hk⟩) h1
  have k2 : isLong p = false := by
    cases hk : isLong p with
    | false => rfl
    | true => exact absurd (List.any_eq_true.2 ⟨p, hp, hk⟩) h2
  have k3 : goneW p = false := by
    cases hk : goneW p with
    | false => rfl
    | true => exact absurd (List.any_eq_true.2 ⟨p, hp, hk⟩) h3
  simp only [noKey, Bool.or_eq_false_iff, decide_eq_false_iff_not] at k1
  simp only [isLong, decide_eq_false_iff_not] at k2
  refine ⟨by omega, by omega, by omega, fun hg => ?_⟩
  simp only [goneW, hg, Bool.true_and, Bool.not_eq_false', List.isEmpty_iff] at k3
  exact str_eq (k3.trans (bs_list []).symm)

theorem bt_flt {M : List Pr} (h : Bt M) : flt M = 0 := by
  unfold flt
  have h1 := h.lo
  have h4 := h.hi
  rw [if_neg (by omega), if_neg, if_neg, if_neg]
  · intro hc
    obtain ⟨p, hp, hg⟩ := List.any_eq_true.1 hc
    have ok := h.ok p hp
    unfold goneW at hg
    simp only [Bool.and_eq_true] at hg
    rw [ok.gone hg.1] at hg
    simp at hg
  · intro hc
    obtain ⟨p, hp, hg⟩ := List.any_eq_true.1 hc
    have := (h.ok p hp).val
    simp only [isLong, decide_eq_true_eq] at hg
    omega
  · intro hc
    obtain ⟨p, hp, hg⟩ := List.any_eq_true.1 hc
    have h2 := (h.ok p hp).lo
    have h3 := (h.ok p hp).hi
    simp only [noKey, Bool.or_eq_true, decide_eq_true_eq] at hg
    omega

theorem upto_pw {L : List Pr} (h : Upto L L.length) : L.Pairwise fun a b => kc a.k b.k < 0 := by
  rw [List.pairwise_iff_getElem]
  intro i j hi hj hij
  exact h i j _ _ hij hj (List.getElem?_eq_getElem hi) (List.getElem?_eq_getElem hj)

/-- Two lists in order of the same pairs are one. -/
theorem upto_unique : ∀ {L M : List Pr}, L.Pairwise (fun a b => kc a.k b.k < 0) → M.Pairwise (fun a b => kc a.k b.k < 0) → (∀ p, p ∈ M ↔ p ∈ L) → M = L
  | [], [], _, _, _ => rfl
  | [], m :: M, _, _, h => by have := (h m).1 List.mem_cons_self; cases this
  | l :: L, [], _, _, h => by have := (h l).2 List.mem_cons_self; cases this
  | l :: L, m :: M, hL, hM, h => by
    obtain ⟨h1, h2⟩ := List.pairwise_cons.1 hL
    obtain ⟨g1, g2⟩ := List.pairwise_cons.1 hM
    have hml : m = l := by
      rcases List.mem_cons.1 ((h m).1 List.mem_cons_self) with e | e
      · exact e
      · rcases List.mem_cons.1 ((h l).2 List.mem_cons_self) with e2 | e2
        · exact e2.symm
        · have a := h1 m e
          have b := g1 l e2
          have := kc_neg l.k m.k
          omega
    subst hml
    congr 1
    refine upto_unique h2 g2 fun p => ⟨fun hp => ?_, fun hp => ?_⟩
    · rcases List.mem_cons.1 ((h p).1 (List.mem_cons_of_mem _ hp)) with e | e
      · subst e; have := g1 p hp; rw [kc_self] at this; omega
      · exact e
    · rcases List.mem_cons.1 ((h p).2 (List.mem_cons_of_mem _ hp)) with e | e
      · subst e; have := h1 p hp; rw [kc_self] at this; omega
      · exact e

theorem settles_bt {L M : List Pr} (h : Bt L) (hs : Settles L M) : M = L := by
  refine upto_unique (upto_pw h.up) (upto_pw hs.2) fun p => ?_
  rw [hs.1.2 p, keep_mem]
  constructor
  · intro hp; exact (lastP_key hp).2
  · intro hp
    cases hl : lastP L p.k with
    | none => exact absurd hp (fun hp => by
        exact (lastP_none.1 hl) p hp rfl)
    | some q =>
      obtain ⟨hk, hq⟩ := lastP_key hl
      congr 1
      obtain ⟨i, hi, rfl⟩ := List.getElem_of_mem hp
      obtain ⟨j, hj, rfl⟩ := List.getElem_of_mem hq
      have := upto_distinct h.up j i _ _ (List.getElem?_eq_getElem hj) (List.getElem?_eq_getElem hi) hk
      subst this
      rfl

/-- What read comes to. -/
def ReadPost (t : List UInt8) (w : World) (e : Ending) (w' : World) : Prop :=
  Below w.heap.size w w' ∧ ((∃ (M : List Pr) (v : Value), Bt M ∧ recB M <+: t ∧ e = .returned (.tuple #[v, .int .i64 ((recB M).length : Nat)]) ∧ w'.ownsRow w.heap.size 48 3 v M.length (pcells M)) ∨
    (NoRec t ∧ e = .returned (.tuple #[.slice none 0 0, .int .i64 0])))

theorem norec_of {t : List UInt8} (h : flt (takeP t) ≠ 0) : NoRec t := fun N hN hp => h (by rw [takeP_pre hN hp]; exact bt_flt hN)

theorem norec_of2 {t : List UInt8} {M : List Pr} (hs : Settles (takeP t) M) (h : ¬ recB M <+: t) : NoRec t := fun N hN hp => by
  rw [takeP_pre hN hp] at hs
  rw [settles_bt hN hs] at h
  exact h hp

theorem takeP_len (t : List UInt8) : (takeP t).length ≤ 255 := by unfold takeP; rw [tPs_len]; exact tNum_le t

set_option maxHeartbeats 2000000 in
set_option maxRecDepth 100000 in
theorem read_any (t : List UInt8) (w : World) (ht : t.length < 1000000000) :
    Calls Tryz.prog 143 #[.string (bs t)] w fun e w' => ReadPost t w e w' := by
  have HT : Hid _ := takePairs_any t w ht
  go_enter Tryz.func143, Tryz.ntmps143
  go_wp2_with fail
  refine Calls.mono HT.out ?_
  rintro e w1 ⟨v1, rfl, ho1, hb1⟩
  have hlen := takeP_len t
  have HCK := check_gen (takeP t) v1 w.heap.size w1 ho1 (by omega) (fun p hp => by have := tPs_ok _ _ p hp; omega)
  have HO1 : Hid (w1.ownsRow w.heap.size 48 3 v1 (takeP t).length (pcells (takeP t))) := ho1
  have HB1 : Hid (Below w.heap.size w w1) := hb1
  have HSP : Hid (flt (takeP t) = 0 → ∀ w2, Below w1.heap.size w1 w2 → Calls Tryz.prog 54 #[v1] w2 fun e w' => SettlePost (takeP t) w2 e w') := fun h w2 hb2 =>
    settle_any (takeP t) v1 w.heap.size w2 ((Kp.of_below (B := 0) (ts := []) hb2).owns ho1 (by simp)) (flt_ok h).1 (flt_ok h).2.1 (flt_ok h).2.2
  have HFO : Hid (flt (takeP t) = 0 → 1 ≤ (takeP t).length ∧ (takeP t).length ≤ 4 ∧ ∀ p ∈ takeP t, PrOk p) := flt_ok
  have HNO : Hid (flt (takeP t) ≠ 0 → NoRec t) := norec_of
  obtain ⟨ao1, cap1, rfl⟩ := slice_form ho1
  generalize flt (takeP t) = f at HCK HSP HFO HNO
  have HC : Hid _ := HCK
  clear HCK ho1 hb1 HT
  by_cases hf : f = 0
  · subst hf
    go_wp2_with fail
    refine Calls.mono HC.out ?_
    rintro e w2 ⟨rfl, hb2⟩
    have HB2 : Hid (Below w.heap.size w w2) := below_trans' HB1.out hb2
    have HS : Hid _ := HSP.out (by first | exact rfl | exact trivial) w2 hb2
    clear hb2 HSP HC
    go_wp2_with fail
    refine Calls.mono HS.out ?_
    rintro e w3 ⟨v3, M, rfl, hM1, hM2, ho3, hb3⟩
    have hse : Settles (takeP t) M := ⟨hM1, hM2⟩
    have bt : Bt M := hse.bt (HFO.out (by first | exact rfl | exact trivial)).1 (HFO.out (by first | exact rfl | exact trivial)).2.1 (HFO.out (by first | exact rfl | exact trivial)).2.2
    have HRC : Hid _ := record_any M v3 w2.heap.size w3 ho3 bt.hi bt.ok
    have HO3 : Hid (w3.ownsRow w2.heap.size 48 3 v3 M.length (pcells M)) := ho3
    have HB3 : Hid (Below w.heap.size w w3) := below_trans' HB2.out hb3
    have HSE : Hid (Settles (takeP t) M ∧ Bt M) := ⟨hse, bt⟩
    obtain ⟨ao3, cap3, rfl⟩ := slice_form ho3
    have hrl := recB_len bt
    clear hM1 hM2 ho3 hb3 hse bt HS HB1
    go_wp2_with fail
    refine Calls.mono HRC.out ?_
    rintro e w4 ⟨v4, rfl, hr4, hb4⟩
    have hr4' : w4.ownsRow w3.heap.size 5 1 v4 (recB M).length (bcells (recB M)) := hr4
    obtain ⟨g4, cap4, rfl, _, hg4⟩ := hr4'.form (by omega)
    have hcv : (convert 71 9 (.slice (some ⟨g4, 0, none⟩) (recB M).length cap4)).run Tryz.prog w4 = .ok (.string (bs (recB M))) w4 :=
      run_convert_bytes_back w4 71 9 5 ⟨g4, 0, none⟩ cap4 (recB M) Tryz.underlying71 Tryz.underlying5 Tryz.underlying9 (fun j hj => hr4'.cells (g := g4) rfl j _ (by simp [bcells, hj]))
    have HB4 : Hid (Below w.heap.size w w4) := below_trans' HB3.out hb4
    have HFIN : Hid (ReadPost t w (.returned (.tuple #[.slice ao3 M.length cap3, .int .i64 ((recB M).length : Nat)])) w4 ∨ ¬ recB M <+: t) := by
      by_cases hp : recB M <+: t
      · exact .inl ⟨HB4.out, .inl ⟨M, _, HSE.out.2, hp, rfl, owns_base ((Kp.of_below (B := 0) (ts := []) hb4).owns HO3.out (by simp)) HB2.out.size⟩⟩
      · exact .inr hp
    have HNR : Hid (¬ recB M <+: t → ReadPost t w (.returned (.tuple #[.slice none 0 0, .int .i64 0])) w4) := fun h => ⟨HB4.out, .inr ⟨norec_of2 HSE.out.1 h, rfl⟩⟩
    clear hr4 hr4' hb4 HRC HO3
    generalize recB M = rc at hcv HFIN HNR hrl
    by_cases hp : rc <+: t
    · have HPX : Hid _ := hasPrefix_any t rc true w4 ht (by omega) (by simp [hp])
      have HF2 : Hid (ReadPost t w (.returned (.tuple #[.slice ao3 M.length cap3, .int .i64 (rc.length : Nat)])) w4) := HFIN.out.resolve_right (fun h => h hp)
      clear HFIN HNR
      go_wp2_with fail
      refine Calls.mono HPX.out ?_
      rintro e w5 ⟨rfl, rfl⟩
      go_wp2
      go_ret2
      exact HF2.out
    · have HPX : Hid _ := hasPrefix_any t rc false w4 ht (by omega) (by simp [hp])
      have HF2 : Hid (ReadPost t w (.returned (.tuple #[.slice none 0 0, .int .i64 0])) w4) := HNR.out hp
      clear HFIN HNR
      go_wp2_with fail
      refine Calls.mono HPX.out ?_
      rintro e w5 ⟨rfl, rfl⟩
      go_wp2
      go_ret2
      exact HF2.out
  · have hne : (f != 0) = true := by simp [hf]
    have HN : Hid (NoRec t) := HNO.out hf
    clear HSP HFO HNO
    go_wp2_with fail
    refine Calls.mono HC.out ?_
    rintro e w2 ⟨rfl, hb2⟩
    have HB2 : Hid (Below w.heap.size w w2) := below_trans' HB1.out hb2
    clear hb2 HC
    go_wp2
    go_ret2
    exact ⟨HB2.out, .inr ⟨HN.out, rfl⟩⟩
end Go.Proofs.YtakipjofboipmaaGreat
