/- The walks of this proof: whether pairs are a batch, whatever they are. -/
import Derived.Test.YtakipjofboipmaaGreatJ12
import Derived.Test.YtakipjofboipmaaGreatJ13
namespace Go.Proofs.YtakipjofboipmaaGreat
open Go.RowKit Go.Sort

def noKey (p : Pr) : Bool := decide (p.k.size < 1) || decide (6 < p.k.size)
def isLong (p : Pr) : Bool := decide (8 < p.v.size)
def goneW (p : Pr) : Bool := p.g && !p.v.toList.isEmpty

/-- The first error of a batch. -/
def flt (L : List Pr) : Int :=
  if L.length = 0 ∨ 4 < L.length then 3 else if L.any noKey then 1 else if L.any isLong then 2 else if L.any goneW then 4 else 0

theorem any_take {L : List Pr} {k : Nat} {p : Pr} (f : Pr → Bool) (h : L[k]? = some p) : (L.take (k + 1)).any f = ((L.take k).any f || f p) := by
  rw [List.take_add_one, h]
  simp

set_option maxHeartbeats 400000 in
theorem hasNoKey_gen (p : Pr) (w : World) (hs : p.k.size ≤ 10000000) :
    Calls Tryz.prog 82 #[.agg #[.string p.k, .string p.v, .bool p.g]] w fun e w' => e = .returned (.bool (noKey p)) ∧ Below w.heap.size w w' := by
  have hk : ∀ w, Calls Tryz.prog 64 #[.string p.k] w fun e w' => e = .returned (.bool (!noKey p)) ∧ w' = w := fun w => by
    have h := isKey_any p.k w (by unfold maxLen; omega)
    have e : (decide (1 ≤ p.k.size) && decide (p.k.size ≤ 6)) = !noKey p := by
      unfold noKey
      by_cases h1 : 1 ≤ p.k.size
      · have h3 : ¬ p.k.size < 1 := by omega
        by_cases h2 : p.k.size ≤ 6
        · have h4 : ¬ 6 < p.k.size := by omega
          simp only [h1, h2, h3, h4]; rfl
        · have h4 : 6 < p.k.size := by omega
          simp only [h1, h2, h3, h4]; rfl
      · have h3 : p.k.size < 1 := by omega
        simp only [h1, h3]; rfl
    rw [e] at h
    exact h
  have HK : Hid _ := hk
  clear hk
  cases hn : noKey p
  · rw [hn] at HK
    go_enter Tryz.func82, Tryz.ntmps82
    go_wp2_with fail
    refine Calls.mono (HK.out _) ?_
    rintro e w0 ⟨rfl, rfl⟩
    go_wp2
    go_ret
    exact ⟨rfl, (Below.refl _ _).alloc (Nat.le_refl _) _⟩
  · rw [hn] at HK
    go_enter Tryz.func82, Tryz.ntmps82
    go_wp2_with fail
    refine Calls.mono (HK.out _) ?_
    rintro e w0 ⟨rfl, rfl⟩
    go_wp2
    go_ret
    exact ⟨rfl, (Below.refl _ _).alloc (Nat.le_refl _) _⟩

set_option maxHeartbeats 400000 in
theorem isLong_gen (p : Pr) (w : World) (hs : p.v.size ≤ 10000000) :
    Calls Tryz.prog 83 #[.agg #[.string p.k, .string p.v, .bool p.g]] w fun e w' => e = .returned (.bool (isLong p)) ∧ Below w.heap.size w w' := by
  have hd : decide ((8 : Int) < (p.v.size : Int)) = isLong p := by unfold isLong; simp only [decide_eq_decide]; omega
  rw [← hd]
  clear hd
  go_enter Tryz.func83, Tryz.ntmps83
  go_wp2
  go_ret
  exact ⟨by simp, (Below.refl _ _).alloc (Nat.le_refl _) _⟩

set_option maxHeartbeats 400000 in
theorem goneWith_gen (p : Pr) (w : World) :
    Calls Tryz.prog 84 #[.agg #[.string p.k, .string p.v, .bool p.g]] w fun e w' => e = .returned (.bool (goneW p)) ∧ Below w.heap.size w w' := by
  obtain ⟨k, v, g⟩ := p
  unfold goneW
  cases g with
  | false =>
    go_enter Tryz.func84, Tryz.ntmps84
    go_wp2
    go_ret
    exact ⟨rfl, (Below.refl _ _).alloc (Nat.le_refl _) _⟩
  | true =>
    go_enter Tryz.func84, Tryz.ntmps84
    go_wp2
    go_ret
    exact ⟨by simp, (Below.refl _ _).alloc (Nat.le_refl _) _⟩

set_option maxHeartbeats 1000000 in
set_option maxRecDepth 100000 in
theorem index_gen95 (f : Pr → Bool) (L : List Pr) (v : Value) (base : Nat) (w : World) (h : w.ownsRow base 48 3 v L.length (pcells L)) (h4 : L.length ≤ 10000000)
    (hF : ∀ p ∈ L, ∀ w, Calls Tryz.prog 82 #[.agg #[.string p.k, .string p.v, .bool p.g]] w fun e w' => e = .returned (.bool (f p)) ∧ Below w.heap.size w w') :
    Calls Tryz.prog 129 #[v, .func (.func 82) #[] #[]] w fun e w' => ∃ r : Int, e = .returned (.int .i64 r) ∧ decide (0 ≤ r) = L.any f ∧ Below w.heap.size w w' := by
  obtain ⟨ao, cap, rfl⟩ := slice_form h
  have H : Hid _ := h
  have HF : Hid _ := hF
  clear h hF
  go_enter Tryz.func129, Tryz.ntmps129
  go_wp2
  go_loopw [8] (fun i wr => ∃ k : Nat, k ≤ L.length ∧ i = .int .i64 k ∧ Hid ((L.take k).any f = false) ∧ Hid (Below w.heap.size w wr)) (fun i _ => L.length - (intOf i).toNat)
  case atStart => exact ⟨0, Nat.zero_le _, rfl, rfl, Below.refl _ _⟩
  case round =>
    obtain ⟨k, hk, rfl, HN, HB⟩ := hrel
    by_cases hlt : k < L.length
    · obtain ⟨g, cap', hv', hbg, hgl, hcap, hcell⟩ := pr_cells H.out HB.out (by omega)
      simp only [Value.slice.injEq, true_and] at hv'
      obtain ⟨rfl, rfl⟩ := hv'
      obtain ⟨p, hp⟩ : ∃ p, L[k]? = some p := ⟨_, List.getElem?_eq_getElem hlt⟩
      obtain ⟨c0, c1, c2⟩ := hcell k p hp
      have HP : Hid (L[k]? = some p) := hp
      clear hp hcell
      have HT : Hid ((L.take (k + 1)).any f = f p) := by show _ = _; rw [any_take f HP.out, HN.out, Bool.false_or]
      have HC : Hid _ := HF.out p (List.mem_of_getElem? HP.out) wr
      cases hfp : f p
      · rw [hfp] at HC HT
        go_wp2_with fail
        refine Calls.mono HC.out ?_
        rintro e w2 ⟨rfl, hb2⟩
        have HB2 : Hid (Below w.heap.size w w2) := below_trans' HB.out hb2
        clear hb2
        go_wp2
        go_roundw
        case rel => exact ⟨k + 1, by omega, by go_num, HT.out, HB2.out⟩
        case measure => simp [intOf]; omega
      · rw [hfp] at HC
        have HA : Hid (L.any f = true) := List.any_eq_true.2 ⟨p, List.mem_of_getElem? HP.out, hfp⟩
        go_wp2_with fail
        refine Calls.mono HC.out ?_
        rintro e w2 ⟨rfl, hb2⟩
        have HB2 : Hid (Below w.heap.size w w2) := below_trans' HB.out hb2
        clear hb2
        go_wp2
        go_ret
        exact ⟨k, rfl, by rw [HA.out]; simp, HB2.out⟩
    · obtain rfl : k = L.length := by omega
      have HA : Hid (L.any f = false) := by
        have := HN.out
        rw [List.take_of_length_le (Nat.le_refl _)] at this
        exact this
      go_wp2
      go_ret
      exact ⟨-1, rfl, by rw [HA.out]; rfl, HB.out⟩

set_option maxHeartbeats 1000000 in
theorem contains_gen95 (f : Pr → Bool) (L : List Pr) (v : Value) (base : Nat) (w : World) (h : w.ownsRow base 48 3 v L.length (pcells L)) (h4 : L.length ≤ 10000000)
    (hF : ∀ p ∈ L, ∀ w, Calls Tryz.prog 82 #[.agg #[.string p.k, .string p.v, .bool p.g]] w fun e w' => e = .returned (.bool (f p)) ∧ Below w.heap.size w w') :
    Calls Tryz.prog 81 #[v, .func (.func 82) #[] #[]] w fun e w' => e = .returned (.bool (L.any f)) ∧ Below w.heap.size w w' := by
  have HI : Hid _ := index_gen95 f L v base w h h4 hF
  clear h hF
  generalize L.any f = b at HI
  go_enter Tryz.func81, Tryz.ntmps81
  go_wp2_with fail
  refine Calls.mono HI.out ?_
  rintro e w0 ⟨r, rfl, hr, hb⟩
  have HB : Hid (Below w.heap.size w w0) := hb
  clear hb
  go_wp2
  go_ret
  exact ⟨by simp [← hr], HB.out⟩

set_option maxHeartbeats 1000000 in
set_option maxRecDepth 100000 in
theorem index_gen96 (f : Pr → Bool) (L : List Pr) (v : Value) (base : Nat) (w : World) (h : w.ownsRow base 48 3 v L.length (pcells L)) (h4 : L.length ≤ 10000000)
    (hF : ∀ p ∈ L, ∀ w, Calls Tryz.prog 83 #[.agg #[.string p.k, .string p.v, .bool p.g]] w fun e w' => e = .returned (.bool (f p)) ∧ Below w.heap.size w w') :
    Calls Tryz.prog 129 #[v, .func (.func 83) #[] #[]] w fun e w' => ∃ r : Int, e = .returned (.int .i64 r) ∧ decide (0 ≤ r) = L.any f ∧ Below w.heap.size w w' := by
  obtain ⟨ao, cap, rfl⟩ := slice_form h
  have H : Hid _ := h
  have HF : Hid _ := hF
  clear h hF
  go_enter Tryz.func129, Tryz.ntmps129
  go_wp2
  go_loopw [8] (fun i wr => ∃ k : Nat, k ≤ L.length ∧ i = .int .i64 k ∧ Hid ((L.take k).any f = false) ∧ Hid (Below w.heap.size w wr)) (fun i _ => L.length - (intOf i).toNat)
  case atStart => exact ⟨0, Nat.zero_le _, rfl, rfl, Below.refl _ _⟩
  case round =>
    obtain ⟨k, hk, rfl, HN, HB⟩ := hrel
    by_cases hlt : k < L.length
    · obtain ⟨g, cap', hv', hbg, hgl, hcap, hcell⟩ := pr_cells H.out HB.out (by omega)
      simp only [Value.slice.injEq, true_and] at hv'
      obtain ⟨rfl, rfl⟩ := hv'
      obtain ⟨p, hp⟩ : ∃ p, L[k]? = some p := ⟨_, List.getElem?_eq_getElem hlt⟩
      obtain ⟨c0, c1, c2⟩ := hcell k p hp
      have HP : Hid (L[k]? = some p) := hp
      clear hp hcell
      have HT : Hid ((L.take (k + 1)).any f = f p) := by show _ = _; rw [any_take f HP.out, HN.out, Bool.false_or]
      have HC : Hid _ := HF.out p (List.mem_of_getElem? HP.out) wr
      cases hfp : f p
      · rw [hfp] at HC HT
        go_wp2_with fail
        refine Calls.mono HC.out ?_
        rintro e w2 ⟨rfl, hb2⟩
        have HB2 : Hid (Below w.heap.size w w2) := below_trans' HB.out hb2
        clear hb2
        go_wp2
        go_roundw
        case rel => exact ⟨k + 1, by omega, by go_num, HT.out, HB2.out⟩
        case measure => simp [intOf]; omega
      · rw [hfp] at HC
        have HA : Hid (L.any f = true) := List.any_eq_true.2 ⟨p, List.mem_of_getElem? HP.out, hfp⟩
        go_wp2_with fail
        refine Calls.mono HC.out ?_
        rintro e w2 ⟨rfl, hb2⟩
        have HB2 : Hid (Below w.heap.size w w2) := below_trans' HB.out hb2
        clear hb2
        go_wp2
        go_ret
        exact ⟨k, rfl, by rw [HA.out]; simp, HB2.out⟩
    · obtain rfl : k = L.length := by omega
      have HA : Hid (L.any f = false) := by
        have := HN.out
        rw [List.take_of_length_le (Nat.le_refl _)] at this
        exact this
      go_wp2
      go_ret
      exact ⟨-1, rfl, by rw [HA.out]; rfl, HB.out⟩

set_option maxHeartbeats 1000000 in
theorem contains_gen96 (f : Pr → Bool) (L : List Pr) (v : Value) (base : Nat) (w : World) (h : w.ownsRow base 48 3 v L.length (pcells L)) (h4 : L.length ≤ 10000000)
    (hF : ∀ p ∈ L, ∀ w, Calls Tryz.prog 83 #[.agg #[.string p.k, .string p.v, .bool p.g]] w fun e w' => e = .returned (.bool (f p)) ∧ Below w.heap.size w w') :
    Calls Tryz.prog 81 #[v, .func (.func 83) #[] #[]] w fun e w' => e = .returned (.bool (L.any f)) ∧ Below w.heap.size w w' := by
  have HI : Hid _ := index_gen96 f L v base w h h4 hF
  clear h hF
  generalize L.any f = b at HI
  go_enter Tryz.func81, Tryz.ntmps81
  go_wp2_with fail
  refine Calls.mono HI.out ?_
  rintro e w0 ⟨r, rfl, hr, hb⟩
  have HB : Hid (Below w.heap.size w w0) := hb
  clear hb
  go_wp2
  go_ret
  exact ⟨by simp [← hr], HB.out⟩

set_option maxHeartbeats 1000000 in
set_option maxRecDepth 100000 in
theorem index_gen97 (f : Pr → Bool) (L : List Pr) (v : Value) (base : Nat) (w : World) (h : w.ownsRow base 48 3 v L.length (pcells L)) (h4 : L.length ≤ 10000000)
    (hF : ∀ p ∈ L, ∀ w, Calls Tryz.prog 84 #[.agg #[.string p.k, .string p.v, .bool p.g]] w fun e w' => e = .returned (.bool (f p)) ∧ Below w.heap.size w w') :
    Calls Tryz.prog 129 #[v, .func (.func 84) #[] #[]] w fun e w' => ∃ r : Int, e = .returned (.int .i64 r) ∧ decide (0 ≤ r) = L.any f ∧ Below w.heap.size w w' := by
  obtain ⟨ao, cap, rfl⟩ := slice_form h
  have H : Hid _ := h
  have HF : Hid _ := hF
  clear h hF
  go_enter Tryz.func129, Tryz.ntmps129
  go_wp2
  go_loopw [8] (fun i wr => ∃ k : Nat, k ≤ L.length ∧ i = .int .i64 k ∧ Hid ((L.take k).any f = false) ∧ Hid (Below w.heap.size w wr)) (fun i _ => L.length - (intOf i).toNat)
  case atStart => exact ⟨0, Nat.zero_le _, rfl, rfl, Below.refl _ _⟩
  case round =>
    obtain ⟨k, hk, rfl, HN, HB⟩ := hrel
    by_cases hlt : k < L.length
    · obtain ⟨g, cap', hv', hbg, hgl, hcap, hcell⟩ := pr_cells H.out HB.out (by omega)
      simp only [Value.slice.injEq, true_and] at hv'
      obtain ⟨rfl, rfl⟩ := hv'
      obtain ⟨p, hp⟩ : ∃ p, L[k]? = some p := ⟨_, List.getElem?_eq_getElem hlt⟩
      obtain ⟨c0, c1, c2⟩ := hcell k p hp
      have HP : Hid (L[k]? = some p) := hp
      clear hp hcell
      have HT : Hid ((L.take (k + 1)).any f = f p) := by show _ = _; rw [any_take f HP.out, HN.out, Bool.false_or]
      have HC : Hid _ := HF.out p (List.mem_of_getElem? HP.out) wr
      cases hfp : f p
      · rw [hfp] at HC HT
        go_wp2_with fail
        refine Calls.mono HC.out ?_
        rintro e w2 ⟨rfl, hb2⟩
        have HB2 : Hid (Below w.heap.size w w2) := below_trans' HB.out hb2
        clear hb2
        go_wp2
        go_roundw
        case rel => exact ⟨k + 1, by omega, by go_num, HT.out, HB2.out⟩
        case measure => simp [intOf]; omega
      · rw [hfp] at HC
        have HA : Hid (L.any f = true) := List.any_eq_true.2 ⟨p, List.mem_of_getElem? HP.out, hfp⟩
        go_wp2_with fail
        refine Calls.mono HC.out ?_
        rintro e w2 ⟨rfl, hb2⟩
        have HB2 : Hid (Below w.heap.size w w2) := below_trans' HB.out hb2
        clear hb2
        go_wp2
        go_ret
        exact ⟨k, rfl, by rw [HA.out]; simp, HB2.out⟩
    · obtain rfl : k = L.length := by omega
      have HA : Hid (L.any f = false) := by
        have := HN.out
        rw [List.take_of_length_le (Nat.le_refl _)] at this
        exact this
      go_wp2
      go_ret
      exact ⟨-1, rfl, by rw [HA.out]; rfl, HB.out⟩

set_option maxHeartbeats 1000000 in
theorem contains_gen97 (f : Pr → Bool) (L : List Pr) (v : Value) (base : Nat) (w : World) (h : w.ownsRow base 48 3 v L.length (pcells L)) (h4 : L.length ≤ 10000000)
    (hF : ∀ p ∈ L, ∀ w, Calls Tryz.prog 84 #[.agg #[.string p.k, .string p.v, .bool p.g]] w fun e w' => e = .returned (.bool (f p)) ∧ Below w.heap.size w w') :
    Calls Tryz.prog 81 #[v, .func (.func 84) #[] #[]] w fun e w' => e = .returned (.bool (L.any f)) ∧ Below w.heap.size w w' := by
  have HI : Hid _ := index_gen97 f L v base w h h4 hF
  clear h hF
  generalize L.any f = b at HI
  go_enter Tryz.func81, Tryz.ntmps81
  go_wp2_with fail
  refine Calls.mono HI.out ?_
  rintro e w0 ⟨r, rfl, hr, hb⟩
  have HB : Hid (Below w.heap.size w w0) := hb
  clear hb
  go_wp2
  go_ret
  exact ⟨by simp [← hr], HB.out⟩

set_option maxHeartbeats 2000000 in
theorem check_gen (L : List Pr) (v : Value) (base : Nat) (w : World) (h : w.ownsRow base 48 3 v L.length (pcells L)) (h4 : L.length ≤ 10000000) (hs : ∀ p ∈ L, p.k.size ≤ 10000000 ∧ p.v.size ≤ 10000000) :
    Calls Tryz.prog 52 #[v] w fun e w' => e = .returned (.int .i64 (flt L)) ∧ Below w.heap.size w w' := by
  have H5 : Hid (∀ w1, Below w.heap.size w w1 → Calls Tryz.prog 81 #[v, .func (.func 82) #[] #[]] w1 fun e w' => e = .returned (.bool (L.any noKey)) ∧ Below w1.heap.size w1 w') := fun w1 hb => contains_gen95 noKey L v base w1 ((Kp.of_below (B := 0) (ts := []) hb).owns h (by simp)) h4 (fun p hp w => hasNoKey_gen p w (hs p hp).1)
  have H6 : Hid (∀ w1, Below w.heap.size w w1 → Calls Tryz.prog 81 #[v, .func (.func 83) #[] #[]] w1 fun e w' => e = .returned (.bool (L.any isLong)) ∧ Below w1.heap.size w1 w') := fun w1 hb => contains_gen96 isLong L v base w1 ((Kp.of_below (B := 0) (ts := []) hb).owns h (by simp)) h4 (fun p hp w => isLong_gen p w (hs p hp).2)
  have H7 : Hid (∀ w1, Below w.heap.size w w1 → Calls Tryz.prog 81 #[v, .func (.func 84) #[] #[]] w1 fun e w' => e = .returned (.bool (L.any goneW)) ∧ Below w1.heap.size w1 w') := fun w1 hb => contains_gen97 goneW L v base w1 ((Kp.of_below (B := 0) (ts := []) hb).owns h (by simp)) h4 (fun p hp w => goneWith_gen p w)
  obtain ⟨ao, cap, rfl⟩ := slice_form h
  clear h hs
  unfold flt
  generalize L.any noKey = K at H5
  generalize L.any isLong = G at H6
  generalize L.any goneW = A at H7
  by_cases h0 : L.length = 0
  · rw [if_pos (.inl h0)]
    have hd0 : ((L.length : Int) == 0) = true := by rw [beq_iff_eq]; omega
    clear H5 H6 H7
    go_enter Tryz.func52, Tryz.ntmps52
    go_wp2
    go_ret
    exact ⟨rfl, Below.refl _ _⟩
  have hd0 : ((L.length : Int) == 0) = false := by rw [beq_eq_false_iff_ne]; omega
  by_cases h5 : 4 < L.length
  · rw [if_pos (.inr h5)]
    clear H5 H6 H7
    go_enter Tryz.func52, Tryz.ntmps52
    go_wp2
    go_ret
    exact ⟨rfl, Below.refl _ _⟩
  rw [if_neg (fun h => h.elim h0 h5)]
  cases K with
  | true =>
    clear H6 H7
    go_enter Tryz.func52, Tryz.ntmps52
    go_wp2_with fail
    refine Calls.mono (H5.out _ (Below.refl _ _)) ?_
    rintro e wa ⟨rfl, hb⟩
    have HA : Hid (Below w.heap.size w wa) := hb
    clear hb
    go_wp2
    go_ret
    exact ⟨rfl, HA.out⟩
  | false =>
    cases G with
    | true =>
      clear H7
      go_enter Tryz.func52, Tryz.ntmps52
      go_wp2_with fail
      refine Calls.mono (H5.out _ (Below.refl _ _)) ?_
      rintro e wa ⟨rfl, hb⟩
      have HA : Hid (Below w.heap.size w wa) := hb
      clear hb
      go_wp2_with fail
      refine Calls.mono (H6.out _ HA.out) ?_
      rintro e wb ⟨rfl, hb⟩
      have HB : Hid (Below w.heap.size w wb) := below_trans' HA.out hb
      clear hb
      go_wp2
      go_ret
      exact ⟨rfl, HB.out⟩
    | false =>
      cases A with
      | true =>
        go_enter Tryz.func52, Tryz.ntmps52
        go_wp2_with fail
        refine Calls.mono (H5.out _ (Below.refl _ _)) ?_
        rintro e wa ⟨rfl, hb⟩
        have HA : Hid (Below w.heap.size w wa) := hb
        clear hb
        go_wp2_with fail
        refine Calls.mono (H6.out _ HA.out) ?_
        rintro e wb ⟨rfl, hb⟩
        have HB : Hid (Below w.heap.size w wb) := below_trans' HA.out hb
        clear hb
        go_wp2_with fail
        refine Calls.mono (H7.out _ HB.out) ?_
        rintro e wc ⟨rfl, hb⟩
        have HC : Hid (Below w.heap.size w wc) := below_trans' HB.out hb
        clear hb
        go_wp2
        go_ret
        exact ⟨rfl, HC.out⟩
      | false =>
        go_enter Tryz.func52, Tryz.ntmps52
        go_wp2_with fail
        refine Calls.mono (H5.out _ (Below.refl _ _)) ?_
        rintro e wa ⟨rfl, hb⟩
        have HA : Hid (Below w.heap.size w wa) := hb
        clear hb
        go_wp2_with fail
        refine Calls.mono (H6.out _ HA.out) ?_
        rintro e wb ⟨rfl, hb⟩
        have HB : Hid (Below w.heap.size w wb) := below_trans' HA.out hb
        clear hb
        go_wp2_with fail
        refine Calls.mono (H7.out _ HB.out) ?_
        rintro e wc ⟨rfl, hb⟩
        have HC : Hid (Below w.heap.size w wc) := below_trans' HB.out hb
        clear hb
        go_wp2
        go_ret
        exact ⟨rfl, HC.out⟩
end Go.Proofs.YtakipjofboipmaaGreat

/- The walks of this proof: what is taken of a text. -/
namespace Go.Proofs.YtakipjofboipmaaGreat
open Go.RowKit Go.Sort

/-- A text as bytes. -/
def bs (t : List UInt8) : ByteArray := ⟨t.toArray⟩

theorem bs_size (t : List UInt8) : (bs t).size = t.length := by simp [bs, ByteArray.size]
theorem bs_nil : ByteArray.empty = bs [] := rfl
theorem bs_list (t : List UInt8) : (bs t).toList = t := by rw [ByteArray.toList_eq]; simp [bs]
theorem bs_inj {a b : List UInt8} (h : bs a = bs b) : a = b := by rw [← bs_list a, ← bs_list b, h]
theorem bs_eta (s : ByteArray) : bs s.data.toList = s := ba_eta s
theorem bs_extract (t : List UInt8) (a b : Nat) : (bs t).extract a b = bs ((t.take b).drop a) := by
  refine str_eq ?_
  rw [bs_list, ByteArray.toList_eq, ByteArray.data_extract, Array.toList_extract]
  simp [bs, List.drop_take]

/-- A reader: what is left of a text. -/
def RdAt (w : World) (rb : Nat) (t : List UInt8) : Prop := w.heap[rb]? = some (.cells #[.string (bs t)] 286 (0, 0))

/-- What taking leaves. -/
def RdTo (rb : Nat) (t : List UInt8) (w w' : World) : Prop := RdAt w' rb t ∧ Kp rb [286] w w'

theorem rd_set {w : World} {rb : Nat} {t : List UInt8} (h : RdAt w rb t) (t' : List UInt8) : RdTo rb t' w (w.setCell ⟨rb, 0, none⟩ (.string (bs t'))) := by
  have s := heap_setCell_same w rb 0 _ 286 (.string (bs t')) h
  simp only [List.setIfInBounds_toArray, List.set_cons_zero] at s
  exact ⟨s, (Kp.refl rb [286] w).setCell (Nat.le_refl _) h (by simp) _⟩

set_option maxHeartbeats 1000000 in
theorem take_any (t : List UInt8) (n rb : Nat) (w : World) (h : RdAt w rb t) (hn : n ≤ 1000) (_ht : t.length < 1000000000) :
    Calls Tryz.prog 226 #[.pointer (some ⟨rb, 0, none⟩), .int .i64 n] w fun e w' => e = .returned (.string (bs (t.take n))) ∧ RdTo rb (t.drop n) w w' := by
  have c0 : w.cell? ⟨rb, 0, none⟩ = some (.string (bs t)) := by simp [World.cell?, show w.heap[rb]? = _ from h]
  have f0 : w.frozen? ⟨rb, 0, none⟩ = false := by simp [World.frozen?, show w.heap[rb]? = _ from h]
  have hsz : (bs t).size = t.length := bs_size t
  have hrb : rb < w.heap.size := lt_of_block h
  have HF : Hid (RdTo rb (t.drop n) w (w.setCell ⟨rb, 0, none⟩ (.string (bs (t.drop n))))) := rd_set h _
  have E1 : Hid (∀ m, (bs t).extract 0 m = bs (t.take m)) := fun m => by rw [bs_extract, List.drop_zero]
  have E2 : Hid (∀ m, (bs t).extract m t.length = bs (t.drop m)) := fun m => by rw [bs_extract, List.take_of_length_le (Nat.le_refl _)]
  clear h
  by_cases hc : t.length < n
  · have e1 : t.take n = t := List.take_of_length_le (by omega)
    have e2 : t.drop n = [] := List.drop_eq_nil_of_le (by omega)
    have E3 : Hid (bs (t.take n) = (bs t).extract 0 t.length ∧ bs (t.drop n) = ByteArray.empty) := ⟨by rw [E1.out, e1, List.take_of_length_le (Nat.le_refl _)], by rw [e2]; rfl⟩
    clear e1 e2
    go_enter Tryz.func226, Tryz.ntmps226
    go_wp2
    go_ret
    rw [E3.out.1]
    refine ⟨rfl, ?_⟩
    have := HF.out
    rw [E3.out.2] at this
    exact this
  · go_enter Tryz.func226, Tryz.ntmps226
    go_wp2
    go_ret
    rw [E1.out, E2.out]
    exact ⟨rfl, HF.out⟩

theorem tNum_le (t : List UInt8) : tNum t ≤ 255 := by
  cases t with
  | nil => simp [tNum]
  | cons b t => have := b.toNat_lt; simp only [tNum]; omega

set_option maxHeartbeats 1000000 in
theorem takeNumber_any (t : List UInt8) (rb : Nat) (w : World) (h : RdAt w rb t) (ht : t.length < 1000000000) :
    Calls Tryz.prog 208 #[.pointer (some ⟨rb, 0, none⟩)] w fun e w' => e = .returned (.int .i64 (tNum t)) ∧ RdTo rb (t.drop 1) w w' := by
  have HT : Hid (Calls Tryz.prog 226 #[.pointer (some ⟨rb, 0, none⟩), .int .i64 1] w fun e w' => e = .returned (.string (bs (t.take 1))) ∧ RdTo rb (t.drop 1) w w') := take_any t 1 rb w h (by omega) ht
  cases t with
  | nil =>
    have e : Hid (bs (([] : List UInt8).take 1) = ⟨#[]⟩) := rfl
    rw [e.out] at HT
    clear h
    go_enter Tryz.func208, Tryz.ntmps208
    go_wp2_with fail
    refine Calls.mono HT.out ?_
    rintro e w2 ⟨rfl, h2⟩
    have H2 : Hid _ := h2
    clear h2
    go_wp2
    go_ret
    exact ⟨rfl, H2.out⟩
  | cons b t =>
    have e : Hid (bs ((b :: t).take 1) = ⟨#[b]⟩) := rfl
    rw [e.out] at HT
    have hne := str_ne (a := ⟨#[b]⟩) (b := ⟨#[]⟩) (fun h => by have := congrArg ByteArray.size h; simp [ByteArray.size] at this)
    clear h
    go_enter Tryz.func208, Tryz.ntmps208
    go_wp2_with fail
    refine Calls.mono HT.out ?_
    rintro e w2 ⟨rfl, h2⟩
    have H2 : Hid _ := h2
    clear h2
    go_wp2
    go_ret
    refine ⟨?_, H2.out⟩
    show Ending.returned (Value.int IntKind.i64 (wrap64 (b.toNat : Int))) = Ending.returned (Value.int IntKind.i64 (b.toNat : Int))
    have := b.toNat_lt
    rw [IntWalk.wrap64_in _ (by omega)]

set_option maxHeartbeats 1000000 in
theorem takeText_any (t : List UInt8) (rb : Nat) (w : World) (h : RdAt w rb t) (ht : t.length < 1000000000) :
    Calls Tryz.prog 227 #[.pointer (some ⟨rb, 0, none⟩)] w fun e w' => e = .returned (.string (bs (tTxt t).1)) ∧ RdTo rb (tTxt t).2 w w' := by
  have hl : (t.drop 1).length < 1000000000 := by simp; omega
  have HN : Hid _ := takeNumber_any t rb w h ht
  have HT : Hid (∀ w2, RdAt w2 rb (t.drop 1) → Calls Tryz.prog 226 #[.pointer (some ⟨rb, 0, none⟩), .int .i64 (tNum t)] w2 fun e w' => e = .returned (.string (bs (tTxt t).1)) ∧ RdTo rb (tTxt t).2 w2 w') := fun w2 h2 => take_any (t.drop 1) (tNum t) rb w2 h2 (by have := tNum_le t; omega) hl
  clear h
  go_enter Tryz.func227, Tryz.ntmps227
  go_wp2_with fail
  refine Calls.mono HN.out ?_
  rintro e w2 ⟨rfl, h2, k2⟩
  have H2 : Hid (Kp rb [286] w w2) := k2
  have HC := HT.out w2 h2
  have HC' : Hid _ := HC
  clear h2 k2 HC HN HT
  go_wp2_with fail
  refine Calls.mono HC'.out ?_
  rintro e w3 ⟨rfl, h3, k3⟩
  have H3 : Hid (RdTo rb (tTxt t).2 w w3) := ⟨h3, H2.out.trans k3⟩
  clear h3 k3
  go_wp2
  go_ret
  exact ⟨rfl, H3.out⟩

theorem tTxt_len (t : List UInt8) : (tTxt t).2.length ≤ t.length ∧ (tTxt t).1.length ≤ 255 := by
  have := tNum_le t
  unfold tTxt
  simp
  omega

/-- A pair as a value. -/
def Pr.val (p : Pr) : Value := .agg #[.string p.k, .string p.v, .bool p.g]

set_option maxHeartbeats 2000000 in
set_option maxRecDepth 100000 in
theorem takePair_any (t : List UInt8) (rb : Nat) (w : World) (h : RdAt w rb t) (ht : t.length < 1000000000) :
    Calls Tryz.prog 209 #[.pointer (some ⟨rb, 0, none⟩)] w fun e w' => e = .returned (.agg #[.string (tPair t).1.k, .string (tPair t).1.v, .bool (tPair t).1.g]) ∧ RdTo rb (tPair t).2 w w' := by
  have hrb : rb < w.heap.size := lt_of_block h
  obtain ⟨W, hW⟩ : ∃ W, w.alloc (.cells #[.string ⟨#[]⟩, .string ⟨#[]⟩, .bool false] 48) = W := ⟨_, rfl⟩
  have hbW : Below w.heap.size w W := by rw [← hW]; exact (Below.refl _ _).alloc (Nat.le_refl _) _
  have hWb : W.heap[w.heap.size]? = some (.cells #[.string ⟨#[]⟩, .string ⟨#[]⟩, .bool false] 48 (0, 0)) := by rw [← hW]; exact heap_alloc_new w _
  have kW : Kp rb [286] w W := Kp.of_below hbW
  have hWr : RdAt W rb t := kW.trans (Kp.refl _ _ _) |>.size |> fun _ => (hbW.block rb hrb).trans h
  have HN : Hid _ := takeNumber_any t rb W hWr ht
  have HW : Hid (w.alloc (.cells #[.string ⟨#[]⟩, .string ⟨#[]⟩, .bool false] 48) = W) := hW
  have HWB : Hid (W.heap[w.heap.size]? = some (.cells #[.string ⟨#[]⟩, .string ⟨#[]⟩, .bool false] 48 (0, 0)) ∧ Kp rb [286] w W) := ⟨hWb, kW⟩
  -- the result's cell is set at the end
  have FIN : Hid (∀ (w3 : World) (k v : Value) (g : Bool) (t' : List UInt8), Kp rb [286] W w3 → RdAt w3 rb t' → ∀ o, w3.heap[w.heap.size]? = some o → RdTo rb t' w (((w3.setCell ⟨w.heap.size, 0, none⟩ k).setCell ⟨w.heap.size, 1, none⟩ v).setCell ⟨w.heap.size, 2, none⟩ (.bool g))) := fun w3 k v g t' k3 h3 o _ => by
    have s : ∀ (w4 : World) (i : Nat) (u : Value), Below w.heap.size w4 (w4.setCell ⟨w.heap.size, i, none⟩ u) := fun w4 i u => Below.setCell (p := ⟨w.heap.size, i, none⟩) (Below.refl w.heap.size w4) (Nat.le_refl w.heap.size) u
    have b3 : Below w.heap.size w3 (((w3.setCell ⟨w.heap.size, 0, none⟩ k).setCell ⟨w.heap.size, 1, none⟩ v).setCell ⟨w.heap.size, 2, none⟩ (.bool g)) := ((s _ _ _).trans (s _ _ _)).trans (s _ _ _)
    have kk : Kp rb [286] w w3 := kW.trans k3
    refine ⟨(b3.block rb hrb).trans h3, ⟨b3.os.trans kk.os, b3.tape.trans kk.tape, b3.output.trans kk.output, Nat.le_trans kk.size b3.size, fun i hi hor => ?_⟩⟩
    exact (b3.block i hi).trans (kk.block i hi hor)
  have hl1 : (t.drop 1).length < 1000000000 := by simp; omega
  have hl2 : (tTxt (t.drop 1)).2.length < 1000000000 := by have := (tTxt_len (t.drop 1)).1; omega
  have HT1 : Hid (∀ w2, RdAt w2 rb (t.drop 1) → Calls Tryz.prog 227 #[.pointer (some ⟨rb, 0, none⟩)] w2 fun e w' => e = .returned (.string (bs (tTxt (t.drop 1)).1)) ∧ RdTo rb (tTxt (t.drop 1)).2 w2 w') := fun w2 h2 => takeText_any (t.drop 1) rb w2 h2 hl1
  have HT2 : Hid (∀ w2, RdAt w2 rb (tTxt (t.drop 1)).2 → Calls Tryz.prog 227 #[.pointer (some ⟨rb, 0, none⟩)] w2 fun e w' => e = .returned (.string (bs (tTxt (tTxt (t.drop 1)).2).1)) ∧ RdTo rb (tTxt (tTxt (t.drop 1)).2).2 w2 w') := fun w2 h2 => takeText_any _ rb w2 h2 hl2
  clear h hW hbW hWb kW hWr hl1 hl2
  by_cases h0 : tNum t = 0
  · have hp : tPair t = (⟨bs (tTxt (t.drop 1)).1, bs (tTxt (tTxt (t.drop 1)).2).1, false⟩, (tTxt (tTxt (t.drop 1)).2).2) := by unfold tPair; rw [if_pos h0]; rfl
    rw [hp]
    rw [h0] at HN
    clear hp h0
    generalize List.drop 1 t = t1 at HN HT1 HT2 FIN ⊢
    go_enter Tryz.func209, Tryz.ntmps209
    go_wp2_with fail
    rw [HW.out]
    refine Calls.mono HN.out ?_
    rintro e w2 ⟨rfl, h2, k2⟩
    have K2 : Hid (Kp rb [286] W w2) := k2
    have HC := HT1.out w2 h2
    have HC' : Hid _ := HC
    clear h2 k2 HC HN HT1
    go_wp2_with fail
    refine Calls.mono HC'.out ?_
    rintro e w3 ⟨rfl, h3, k3⟩
    have K3 : Hid (Kp rb [286] W w3) := K2.out.trans k3
    have HC := HT2.out w3 h3
    have HC'' : Hid _ := HC
    clear h3 k3 HC HC' HT2 K2
    go_wp2_with fail
    refine Calls.mono HC''.out ?_
    rintro e w4 ⟨rfl, h4, k4⟩
    have k4' : Kp rb [286] W w4 := K3.out.trans k4
    have hw4 := k4'.keep HWB.out.1 (by simp)
    have HFN : Hid _ := FIN.out w4 (.string (bs (tTxt t1).1)) (.string (bs (tTxt (tTxt t1).2).1)) false _ k4' h4 _ hw4
    have r0 : w4.cell? ⟨w.heap.size, 0, none⟩ = some (.string ⟨#[]⟩) := by simp [World.cell?, hw4]
    have r1 : w4.cell? ⟨w.heap.size, 1, none⟩ = some (.string ⟨#[]⟩) := by simp [World.cell?, hw4]
    have r2 : w4.cell? ⟨w.heap.size, 2, none⟩ = some (.bool false) := by simp [World.cell?, hw4]
    have f0 : w4.frozen? ⟨w.heap.size, 0, none⟩ = false := by simp [World.frozen?, hw4]
    have f1 : w4.frozen? ⟨w.heap.size, 1, none⟩ = false := by simp [World.frozen?, hw4]
    have f2 : w4.frozen? ⟨w.heap.size, 2, none⟩ = false := by simp [World.frozen?, hw4]
    have hz : w.heap.size < w4.heap.size := lt_of_block hw4
    clear h4 k4 k4' hw4 K3 FIN HWB HC''
    go_wp2
    exact bodyPost_ret (v := .agg #[.string (bs (tTxt t1).1), .string (bs (tTxt (tTxt t1).2).1), .bool false]) (by simp [results, Tryz.results209, go_sem, r0, r1, r2]) rfl ⟨rfl, HFN.out⟩
  · have hp : tPair t = (⟨bs (tTxt (t.drop 1)).1, ⟨#[]⟩, true⟩, (tTxt (t.drop 1)).2) := by unfold tPair; rw [if_neg h0]; rfl
    rw [hp]
    have hnz : ((tNum t : Int) != 0) = true := by simp; omega
    clear hp h0 HT2
    generalize List.drop 1 t = t1 at HN HT1 FIN ⊢
    go_enter Tryz.func209, Tryz.ntmps209
    go_wp2_with fail
    rw [HW.out]
    refine Calls.mono HN.out ?_
    rintro e w2 ⟨rfl, h2, k2⟩
    have K2 : Hid (Kp rb [286] W w2) := k2
    have HC := HT1.out w2 h2
    have HC' : Hid _ := HC
    clear h2 k2 HC HN HT1
    go_wp2_with fail
    refine Calls.mono HC'.out ?_
    rintro e w4 ⟨rfl, h4, k4⟩
    have k4' : Kp rb [286] W w4 := K2.out.trans k4
    have hw4 := k4'.keep HWB.out.1 (by simp)
    have HFN : Hid _ := FIN.out w4 (.string (bs (tTxt t1).1)) (.string ⟨#[]⟩) true _ k4' h4 _ hw4
    have r0 : w4.cell? ⟨w.heap.size, 0, none⟩ = some (.string ⟨#[]⟩) := by simp [World.cell?, hw4]
    have r1 : w4.cell? ⟨w.heap.size, 1, none⟩ = some (.string ⟨#[]⟩) := by simp [World.cell?, hw4]
    have r2 : w4.cell? ⟨w.heap.size, 2, none⟩ = some (.bool false) := by simp [World.cell?, hw4]
    have f0 : w4.frozen? ⟨w.heap.size, 0, none⟩ = false := by simp [World.frozen?, hw4]
    have f1 : w4.frozen? ⟨w.heap.size, 1, none⟩ = false := by simp [World.frozen?, hw4]
    have f2 : w4.frozen? ⟨w.heap.size, 2, none⟩ = false := by simp [World.frozen?, hw4]
    have hz : w.heap.size < w4.heap.size := lt_of_block hw4
    clear h4 k4 k4' hw4 K2 FIN HWB HC'
    go_wp2
    exact bodyPost_ret (v := .agg #[.string (bs (tTxt t1).1), .string ⟨#[]⟩, .bool true]) (by simp [results, Tryz.results209, go_sem, r0, r1, r2]) rfl ⟨rfl, HFN.out⟩
end Go.Proofs.YtakipjofboipmaaGreat

/- The walks of this proof: the pairs of a record, as far as the text goes. -/
namespace Go.Proofs.YtakipjofboipmaaGreat
open Go.RowKit Go.Sort

theorem tPs_len : ∀ (n : Nat) (t : List UInt8), (tPs n t).1.length = n
  | 0, _ => rfl
  | n + 1, t => by unfold tPs; simp [tPs_len n t]

theorem tPair_len (t : List UInt8) : (tPair t).2.length ≤ t.length := by
  have h1 := tTxt_len (t.drop 1)
  have h2 := tTxt_len (tTxt (t.drop 1)).2
  have h3 : (t.drop 1).length ≤ t.length := by simp
  unfold tPair
  split <;> simp only <;> omega

theorem tPs_rest : ∀ (n : Nat) (t : List UInt8), (tPs n t).2.length ≤ t.length
  | 0, _ => Nat.le_refl _
  | n + 1, t => by
    have h1 := tPs_rest n t
    have h2 := tPair_len (tPs n t).2
    unfold tPs
    simp only
    omega

theorem tPair_ok (t : List UInt8) : (tPair t).1.k.size ≤ 255 ∧ (tPair t).1.v.size ≤ 255 := by
  have h1 := tTxt_len (t.drop 1)
  have h2 := tTxt_len (tTxt (t.drop 1)).2
  unfold tPair
  split
  · refine ⟨?_, ?_⟩
    · show (bs _).size ≤ _; rw [bs_size]; exact h1.2
    · show (bs _).size ≤ _; rw [bs_size]; exact h2.2
  · refine ⟨?_, by show (⟨#[]⟩ : ByteArray).size ≤ 255; decide⟩
    show (bs _).size ≤ _; rw [bs_size]; exact h1.2

theorem tPs_ok : ∀ (n : Nat) (t : List UInt8), ∀ p ∈ (tPs n t).1, p.k.size ≤ 255 ∧ p.v.size ≤ 255
  | 0, _, p, h => by simp [tPs] at h
  | n + 1, t, p, h => by
    unfold tPs at h
    rcases List.mem_append.1 h with h | h
    · exact tPs_ok n t p h
    · rw [List.mem_singleton] at h
      subst h
      exact tPair_ok _

theorem pr_one (p : Pr) : ∀ u ∈ Pr.cells p, u.oneCell' = true := by
  intro u hu; simp [Pr.cells] at hu; rcases hu with rfl | rfl | rfl <;> rfl

/-- What takePairs comes to. -/
def TakenPost (t : List UInt8) (w : World) (e : Ending) (w' : World) : Prop :=
  ∃ v, e = .returned v ∧ w'.ownsRow w.heap.size 48 3 v (takeP t).length (pcells (takeP t)) ∧ Below w.heap.size w w'

set_option maxHeartbeats 2000000 in
set_option maxRecDepth 100000 in
theorem takePairs_any (t : List UInt8) (w : World) (ht : t.length < 1000000000) :
    Calls Tryz.prog 184 #[.string (bs t)] w fun e w' => TakenPost t w e w' := by
  obtain ⟨i0, hi, hz0, hz1, hz2⟩ := info_parts Tryz.info48
  obtain ⟨W, hW⟩ : ∃ W, w.alloc (.cells #[.string (bs t)] 286) = W := ⟨_, rfl⟩
  have hbW : Below w.heap.size w W := by rw [← hW]; exact (Below.refl _ _).alloc (Nat.le_refl _) _
  have hWr : RdAt W w.heap.size t := by rw [← hW]; exact heap_alloc_new w _
  have HW : Hid (w.alloc (.cells #[.string (bs t)] 286) = W) := hW
  have HN : Hid _ := takeNumber_any t w.heap.size W hWr ht
  have HBW : Hid (Below w.heap.size w W) := hbW
  have hn := tNum_le t
  have HTK : Hid (takeP t = (tPs (tNum t) (t.drop 1)).1) := rfl
  have hl1 : (t.drop 1).length < 1000000000 := by simp; omega
  have HT : Hid (∀ (k : Nat) (w2 : World), RdAt w2 w.heap.size (tPs k (t.drop 1)).2 → Calls Tryz.prog 209 #[.pointer (some ⟨w.heap.size, 0, none⟩)] w2 fun e w' => e = .returned (.agg #[.string (tPair (tPs k (t.drop 1)).2).1.k, .string (tPair (tPs k (t.drop 1)).2).1.v, .bool (tPair (tPs k (t.drop 1)).2).1.g]) ∧ RdTo w.heap.size (tPair (tPs k (t.drop 1)).2).2 w2 w') := fun k w2 h2 => takePair_any _ _ w2 h2 (Nat.lt_of_le_of_lt (tPs_rest _ _) hl1)
  clear hW hbW hWr hl1
  generalize tNum t = n at HN HTK hn
  generalize List.drop 1 t = t1 at HN HTK HT
  go_enter Tryz.func184, Tryz.ntmps184
  go_wp2_with fail
  rw [HW.out]
  refine Calls.mono HN.out ?_
  rintro e w1 ⟨rfl, h1, k1⟩
  have HI1 : Hid (RdAt w1 w.heap.size t1 ∧ Below w.heap.size w w1) := ⟨h1, HBW.out.trans (k1.belowB HBW.out.size)⟩
  clear h1 k1 HN HW HBW
  go_wp2
  go_loopw [4, 7] (fun s4 i wr => ∃ k : Nat, k ≤ n ∧ i = .int .i64 k ∧ Hid (wr.ownsRow w.heap.size 48 3 s4 k (pcells (tPs k t1).1) ∧ RdAt wr w.heap.size (tPs k t1).2 ∧ Below w.heap.size w wr)) (fun _ i _ => n - (intOf i).toNat)
  case atStart => exact ⟨0, Nat.zero_le _, rfl, World.ownsRow_nil _ _ _ _, HI1.out.1, HI1.out.2⟩
  case round =>
    clear HI1
    obtain ⟨k, hk, rfl, HI⟩ := hrel
    by_cases hlt : k < n
    · have HC : Hid _ := HT.out k wr HI.out.2.1
      obtain ⟨ao4, cap4, rfl⟩ := slice_form HI.out.1
      have HP1 : Hid ((tPs (k + 1) t1).1 = (tPs k t1).1 ++ [(tPair (tPs k t1).2).1] ∧ (tPs (k + 1) t1).2 = (tPair (tPs k t1).2).2) := ⟨rfl, rfl⟩
      generalize (tPair (tPs k t1).2).1 = p at HC HP1
      generalize (tPair (tPs k t1).2).2 = t2 at HC HP1
      go_wp2_with fail
      refine Calls.mono HC.out ?_
      rintro e w2 ⟨rfl, h2, k2⟩
      have HO2 : Hid (w2.ownsRow w.heap.size 48 3 (.slice ao4 k cap4) k (pcells (tPs k t1).1)) := k2.owns HI.out.1 (by simp)
      have H2 : Hid (RdAt w2 w.heap.size t2) := h2
      have HB2 : Hid (Below w.heap.size w w2) := HI.out.2.2.trans (k2.belowB HI.out.2.2.size)
      clear h2 k2 HI HC
      go_wp2_with (at_builtin; refine wpList_append_own _ rfl (.tmp 9) (.tmp 11) 49 rfl w.heap.size 48 i0 _ 3 40 Tryz.underlying49 hi hz0 hz1 hz2 rfl (by decide) _ _ _ rfl (by exact HO2.out.alloc _) ⟨w2.heap.size, 0, none⟩ 1 1 (Pr.cells p) rfl rfl (by exact one_pair w2 p) (pr_one p) (by unfold maxLen; omega) (by omega) (by have := HB2.out.size; simp; omega) ?_)
      intro v9 w3 ho3 hg3 _
      have k3 : Kp w.heap.size [48] w2 w3 := Kp.grown ((Kp.refl _ _ w2).alloc _) (HO2.out.alloc _) hg3 (Nat.le_refl _) (by simp)
      have HI3 : Hid (w3.ownsRow w.heap.size 48 3 v9 (k + 1) (pcells (tPs (k + 1) t1).1) ∧ RdAt w3 w.heap.size (tPs (k + 1) t1).2 ∧ Below w.heap.size w w3) := by
        rw [HP1.out.1, HP1.out.2]
        refine ⟨?_, k3.keep H2.out (by simp), HB2.out.trans (k3.belowB HB2.out.size)⟩
        have e : pcells ((tPs k t1).1 ++ [p]) = pcells (tPs k t1).1 ++ Pr.cells p := by unfold pcells; rw [List.flatMap_append]; simp
        rw [e]
        exact ho3
      clear ho3 hg3 k3 HO2 H2 HB2 HP1
      go_wp2
      go_roundw
      case rel => exact ⟨k + 1, by omega, by go_num, HI3⟩
      case measure => simp [intOf]; omega
    · obtain rfl : k = n := by omega
      have HF : Hid (∀ s4, wr.ownsRow w.heap.size 48 3 s4 k (pcells (tPs k t1).1) → TakenPost t w (.returned s4) wr) := fun s4 h => by
        refine ⟨s4, rfl, ?_, HI.out.2.2⟩
        rw [HTK.out, tPs_len]
        exact h
      clear HT HTK
      go_wp2
      go_ret
      exact HF.out _ HI.out.1
end Go.Proofs.YtakipjofboipmaaGreat

/- The walks of this proof: the record that a text begins with. -/
namespace Go.Proofs.YtakipjofboipmaaGreat
open Go.RowKit Go.Sort

set_option maxHeartbeats 1000000 in
theorem liteHasPrefix_any (a b : List UInt8) (r : Bool) (w : World) (_ha : a.length < 1000000000) (_hb : b.length < 1000000000) (hr : r = true ↔ b <+: a) :
    Calls Tryz.prog 210 #[.string (bs a), .string (bs b)] w fun e w' => e = .returned (.bool r) ∧ w' = w := by
  have hsa : (bs a).size = a.length := bs_size a
  have hsb : (bs b).size = b.length := bs_size b
  by_cases hl : b.length ≤ a.length
  · have hex : (bs a).extract 0 b.length = bs (a.take b.length) := by rw [bs_extract, List.drop_zero]
    have hd : decide ((b.length : Int) ≤ (a.length : Int)) = true := decide_eq_true (by omega)
    have he : ((bs (a.take b.length)).toList == (bs b).toList) = r := by
      rw [bs_list, bs_list]
      cases r with
      | true =>
        have := hr.1 rfl
        rw [beq_iff_eq]
        exact (List.prefix_iff_eq_take.1 this).symm
      | false =>
        rw [beq_eq_false_iff_ne]
        intro h
        have : b <+: a := by rw [← h]; exact List.take_prefix _ _
        have := hr.2 this
        cases this
    have HEX : Hid _ := hex
    have HE : Hid _ := he
    clear hr hex he
    go_enter Tryz.func210, Tryz.ntmps210
    go_wp2_with (first | rw [HEX.out] | fail)
    go_ret
    exact ⟨by rw [← HE.out]; rfl, rfl⟩
  · have hf : r = false := by
      cases r with
      | false => rfl
      | true => exact absurd (hr.1 rfl).length_le hl
    subst hf
    have hd : decide ((b.length : Int) ≤ (a.length : Int)) = false := decide_eq_false (by omega)
    clear hr
    go_enter Tryz.func210, Tryz.ntmps210
    go_wp2
    go_ret
    exact ⟨rfl, rfl⟩

set_option maxHeartbeats 1000000 in
theorem hasPrefix_any (a b : List UInt8) (r : Bool) (w : World) (ha : a.length < 1000000000) (hb : b.length < 1000000000) (hr : r = true ↔ b <+: a) :
    Calls Tryz.prog 185 #[.string (bs a), .string (bs b)] w fun e w' => e = .returned (.bool r) ∧ w' = w := by
  have H : Hid _ := liteHasPrefix_any a b r w ha hb hr
  clear hr
  go_enter Tryz.func185, Tryz.ntmps185
  go_wp2_with fail
  refine Calls.mono H.out ?_
  rintro e w0 ⟨rfl, rfl⟩
  go_wp2
  go_ret
  exact ⟨rfl, rfl⟩

theorem flt_ok {L : List Pr} (h : flt L = 0) : 1 ≤ L.length ∧ L.length ≤ 4 ∧ ∀ p ∈ L, PrOk p := by
  unfold flt at h
  split at h
  · cases h
  rename_i h0
  split at h
  · cases h
  rename_i h1
  split at h
  · cases h
  rename_i h2
  split at h
  · cases h
  rename_i h3
  simp only [not_or] at h0
  refine ⟨by omega, by omega, fun p hp => ?_⟩
  have k1 : noKey p = false := by
    cases hk : noKey p with
    | false => rfl
    | true => exact absurd (List.any_eq_true.2 ⟨p, hp, hk⟩) h1
  have k2 : isLong p = false := by
    cases hk : isLong p with
    | false => rfl
    | true => exact absurd (List.any_eq_true.2 ⟨p, hp, hk⟩) h2
  have k3 : goneW p = false := by
    cases hk : goneW p with
    | false => rfl
    | true => exact absurd (List.any_eq_true.2 ⟨p, hp, hk⟩) h3
  simp only [noKey, Bool.or_eq_false_iff, decide_eq_false_iff_not] at k1
  simp only [isLong, decide_eq_false_iff_not] at k2
  refine ⟨by omega, by omega, by omega, fun hg => ?_⟩
  simp only [goneW, hg, Bool.true_and, Bool.not_eq_false', List.isEmpty_iff] at k3
  exact str_eq (k3.trans (bs_list []).symm)

theorem bt_flt {M : List Pr} (h : Bt M) : flt M = 0 := by
  unfold flt
  have h1 := h.lo
  have h4 := h.hi
  rw [if_neg (by omega), if_neg, if_neg, if_neg]
  · intro hc
    obtain ⟨p, hp, hg⟩ := List.any_eq_true.1 hc
    have ok := h.ok p hp
    unfold goneW at hg
    simp only [Bool.and_eq_true] at hg
    rw [ok.gone hg.1] at hg
    simp at hg
  · intro hc
    obtain ⟨p, hp, hg⟩ := List.any_eq_true.1 hc
    have := (h.ok p hp).val
    simp only [isLong, decide_eq_true_eq] at hg
    omega
  · intro hc
    obtain ⟨p, hp, hg⟩ := List.any_eq_true.1 hc
    have h2 := (h.ok p hp).lo
    have h3 := (h.ok p hp).hi
    simp only [noKey, Bool.or_eq_true, decide_eq_true_eq] at hg
    omega

theorem upto_pw {L : List Pr} (h : Upto L L.length) : L.Pairwise fun a b => kc a.k b.k < 0 := by
  rw [List.pairwise_iff_getElem]
  intro i j hi hj hij
  exact h i j _ _ hij hj (List.getElem?_eq_getElem hi) (List.getElem?_eq_getElem hj)

/-- Two lists in order of the same pairs are one. -/
theorem upto_unique : ∀ {L M : List Pr}, L.Pairwise (fun a b => kc a.k b.k < 0) → M.Pairwise (fun a b => kc a.k b.k < 0) → (∀ p, p ∈ M ↔ p ∈ L) → M = L
  | [], [], _, _, _ => rfl
  | [], m :: M, _, _, h => by have := (h m).1 List.mem_cons_self; cases this
  | l :: L, [], _, _, h => by have := (h l).2 List.mem_cons_self; cases this
  | l :: L, m :: M, hL, hM, h => by
    obtain ⟨h1, h2⟩ := List.pairwise_cons.1 hL
    obtain ⟨g1, g2⟩ := List.pairwise_cons.1 hM
    have hml : m = l := by
      rcases List.mem_cons.1 ((h m).1 List.mem_cons_self) with e | e
      · exact e
      · rcases List.mem_cons.1 ((h l).2 List.mem_cons_self) with e2 | e2
        · exact e2.symm
        · have a := h1 m e
          have b := g1 l e2
          have := kc_neg l.k m.k
          omega
    subst hml
    congr 1
    refine upto_unique h2 g2 fun p => ⟨fun hp => ?_, fun hp => ?_⟩
    · rcases List.mem_cons.1 ((h p).1 (List.mem_cons_of_mem _ hp)) with e | e
      · subst e; have := g1 p hp; rw [kc_self] at this; omega
      · exact e
    · rcases List.mem_cons.1 ((h p).2 (List.mem_cons_of_mem _ hp)) with e | e
      · subst e; have := h1 p hp; rw [kc_self] at this; omega
      · exact e

theorem settles_bt {L M : List Pr} (h : Bt L) (hs : Settles L M) : M = L := by
  refine upto_unique (upto_pw h.up) (upto_pw hs.2) fun p => ?_
  rw [hs.1.2 p, keep_mem]
  constructor
  · intro hp; exact (lastP_key hp).2
  · intro hp
    cases hl : lastP L p.k with
    | none => exact absurd hp (fun hp => by
        exact (lastP_none.1 hl) p hp rfl)
    | some q =>
      obtain ⟨hk, hq⟩ := lastP_key hl
      congr 1
      obtain ⟨i, hi, rfl⟩ := List.getElem_of_mem hp
      obtain ⟨j, hj, rfl⟩ := List.getElem_of_mem hq
      have := upto_distinct h.up j i _ _ (List.getElem?_eq_getElem hj) (List.getElem?_eq_getElem hi) hk
      subst this
      rfl

/-- What read comes to. -/
def ReadPost (t : List UInt8) (w : World) (e : Ending) (w' : World) : Prop :=
  Below w.heap.size w w' ∧ ((∃ (M : List Pr) (v : Value), Bt M ∧ recB M <+: t ∧ e = .returned (.tuple #[v, .int .i64 ((recB M).length : Nat)]) ∧ w'.ownsRow w.heap.size 48 3 v M.length (pcells M)) ∨
    (NoRec t ∧ e = .returned (.tuple #[.slice none 0 0, .int .i64 0])))

theorem norec_of {t : List UInt8} (h : flt (takeP t) ≠ 0) : NoRec t := fun N hN hp => h (by rw [takeP_pre hN hp]; exact bt_flt hN)

theorem norec_of2 {t : List UInt8} {M : List Pr} (hs : Settles (takeP t) M) (h : ¬ recB M <+: t) : NoRec t := fun N hN hp => by
  rw [takeP_pre hN hp] at hs
  rw [settles_bt hN hs] at h
  exact h hp

theorem takeP_len (t : List UInt8) : (takeP t).length ≤ 255 := by unfold takeP; rw [tPs_len]; exact tNum_le t

set_option maxHeartbeats 2000000 in
set_option maxRecDepth 100000 in
theorem read_any (t : List UInt8) (w : World) (ht : t.length < 1000000000) :
    Calls Tryz.prog 143 #[.string (bs t)] w fun e w' => ReadPost t w e w' := by
  have HT : Hid _ := takePairs_any t w ht
  go_enter Tryz.func143, Tryz.ntmps143
  go_wp2_with fail
  refine Calls.mono HT.out ?_
  rintro e w1 ⟨v1, rfl, ho1, hb1⟩
  have hlen := takeP_len t
  have HCK := check_gen (takeP t) v1 w.heap.size w1 ho1 (by omega) (fun p hp => by have := tPs_ok _ _ p hp; omega)
  have HO1 : Hid (w1.ownsRow w.heap.size 48 3 v1 (takeP t).length (pcells (takeP t))) := ho1
  have HB1 : Hid (Below w.heap.size w w1) := hb1
  have HSP : Hid (flt (takeP t) = 0 → ∀ w2, Below w1.heap.size w1 w2 → Calls Tryz.prog 54 #[v1] w2 fun e w' => SettlePost (takeP t) w2 e w') := fun h w2 hb2 =>
    settle_any (takeP t) v1 w.heap.size w2 ((Kp.of_below (B := 0) (ts := []) hb2).owns ho1 (by simp)) (flt_ok h).1 (flt_ok h).2.1 (flt_ok h).2.2
  have HFO : Hid (flt (takeP t) = 0 → 1 ≤ (takeP t).length ∧ (takeP t).length ≤ 4 ∧ ∀ p ∈ takeP t, PrOk p) := flt_ok
  have HNO : Hid (flt (takeP t) ≠ 0 → NoRec t) := norec_of
  obtain ⟨ao1, cap1, rfl⟩ := slice_form ho1
  generalize flt (takeP t) = f at HCK HSP HFO HNO
  have HC : Hid _ := HCK
  clear HCK ho1 hb1 HT
  by_cases hf : f = 0
  · subst hf
    go_wp2_with fail
    refine Calls.mono HC.out ?_
    rintro e w2 ⟨rfl, hb2⟩
    have HB2 : Hid (Below w.heap.size w w2) := below_trans' HB1.out hb2
    have HS : Hid _ := HSP.out (by first | exact rfl | exact trivial) w2 hb2
    clear hb2 HSP HC
    go_wp2_with fail
    refine Calls.mono HS.out ?_
    rintro e w3 ⟨v3, M, rfl, hM1, hM2, ho3, hb3⟩
    have hse : Settles (takeP t) M := ⟨hM1, hM2⟩
    have bt : Bt M := hse.bt (HFO.out (by first | exact rfl | exact trivial)).1 (HFO.out (by first | exact rfl | exact trivial)).2.1 (HFO.out (by first | exact rfl | exact trivial)).2.2
    have HRC : Hid _ := record_any M v3 w2.heap.size w3 ho3 bt.hi bt.ok
    have HO3 : Hid (w3.ownsRow w2.heap.size 48 3 v3 M.length (pcells M)) := ho3
    have HB3 : Hid (Below w.heap.size w w3) := below_trans' HB2.out hb3
    have HSE : Hid (Settles (takeP t) M ∧ Bt M) := ⟨hse, bt⟩
    obtain ⟨ao3, cap3, rfl⟩ := slice_form ho3
    have hrl := recB_len bt
    clear hM1 hM2 ho3 hb3 hse bt HS HB1
    go_wp2_with fail
    refine Calls.mono HRC.out ?_
    rintro e w4 ⟨v4, rfl, hr4, hb4⟩
    have hr4' : w4.ownsRow w3.heap.size 5 1 v4 (recB M).length (bcells (recB M)) := hr4
    obtain ⟨g4, cap4, rfl, _, hg4⟩ := hr4'.form (by omega)
    have hcv : (convert 71 9 (.slice (some ⟨g4, 0, none⟩) (recB M).length cap4)).run Tryz.prog w4 = .ok (.string (bs (recB M))) w4 :=
      run_convert_bytes_back w4 71 9 5 ⟨g4, 0, none⟩ cap4 (recB M) Tryz.underlying71 Tryz.underlying5 Tryz.underlying9 (fun j hj => hr4'.cells (g := g4) rfl j _ (by simp [bcells, hj]))
    have HB4 : Hid (Below w.heap.size w w4) := below_trans' HB3.out hb4
    have HFIN : Hid (ReadPost t w (.returned (.tuple #[.slice ao3 M.length cap3, .int .i64 ((recB M).length : Nat)])) w4 ∨ ¬ recB M <+: t) := by
      by_cases hp : recB M <+: t
      · exact .inl ⟨HB4.out, .inl ⟨M, _, HSE.out.2, hp, rfl, owns_base ((Kp.of_below (B := 0) (ts := []) hb4).owns HO3.out (by simp)) HB2.out.size⟩⟩
      · exact .inr hp
    have HNR : Hid (¬ recB M <+: t → ReadPost t w (.returned (.tuple #[.slice none 0 0, .int .i64 0])) w4) := fun h => ⟨HB4.out, .inr ⟨norec_of2 HSE.out.1 h, rfl⟩⟩
    clear hr4 hr4' hb4 HRC HO3
    generalize recB M = rc at hcv HFIN HNR hrl
    by_cases hp : rc <+: t
    · have HPX : Hid _ := hasPrefix_any t rc true w4 ht (by omega) (by simp [hp])
      have HF2 : Hid (ReadPost t w (.returned (.tuple #[.slice ao3 M.length cap3, .int .i64 (rc.length : Nat)])) w4) := HFIN.out.resolve_right (fun h => h hp)
      clear HFIN HNR
      go_wp2_with fail
      refine Calls.mono HPX.out ?_
      rintro e w5 ⟨rfl, rfl⟩
      go_wp2
      go_ret2
      exact HF2.out
    · have HPX : Hid _ := hasPrefix_any t rc false w4 ht (by omega) (by simp [hp])
      have HF2 : Hid (ReadPost t w (.returned (.tuple #[.slice none 0 0, .int .i64 0])) w4) := HNR.out hp
      clear HFIN HNR
      go_wp2_with fail
      refine Calls.mono HPX.out ?_
      rintro e w5 ⟨rfl, rfl⟩
      go_wp2
      go_ret2
      exact HF2.out
  · have hne : (f != 0) = true := by simp [hf]
    have HN : Hid (NoRec t) := HNO.out hf
    clear HSP HFO HNO
    go_wp2_with fail
    refine Calls.mono HC.out ?_
    rintro e w2 ⟨rfl, hb2⟩
    have HB2 : Hid (Below w.heap.size w w2) := below_trans' HB1.out hb2
    clear hb2 HC
    go_wp2
    go_ret2
    exact ⟨HB2.out, .inr ⟨HN.out, rfl⟩⟩
end Go.Proofs.YtakipjofboipmaaGreat

/- The walks of this proof: the records that a text begins with. -/
namespace Go.Proofs.YtakipjofboipmaaGreat
open Go.RowKit Go.Sort

/-- What reading a text gave: a batch and its record's size, or none. -/
def Got (base : Nat) (t : List UInt8) (s6 s7 : Value) (w : World) : Prop :=
  (∃ M : List Pr, Bt M ∧ recB M <+: t ∧ s7 = .int .i64 ((recB M).length : Nat) ∧ w.ownsRow base 48 3 s6 M.length (pcells M)) ∨ (NoRec t ∧ s6 = .slice none 0 0 ∧ s7 = .int .i64 0)

/-- What ReadAll comes to. -/
def AllPost (t : List UInt8) (w : World) (e : Ending) (w' : World) : Prop :=
  ∃ (Bs : List (List Pr)) (v : Value), Reads t Bs ∧ e = .returned (.tuple #[v, .int .i64 (rl Bs : Nat)]) ∧ AllAt w.heap.size w' v Bs ∧ Below w.heap.size w w'

theorem rl_snoc (Bs : List (List Pr)) (M : List Pr) : rl (Bs ++ [M]) = rl Bs + (recB M).length := by simp [rl]

theorem pre_snoc {t : List UInt8} {Bs : List (List Pr)} {M : List Pr} (h : Bs.flatMap recB <+: t) (hm : recB M <+: t.drop (rl Bs)) : (Bs ++ [M]).flatMap recB <+: t := by
  obtain ⟨r, rfl⟩ := h
  have e : (Bs.flatMap recB ++ r).drop (rl Bs) = r := List.drop_left' rfl
  rw [e] at hm
  obtain ⟨q, rfl⟩ := hm
  exact ⟨q, by simp⟩

set_option maxHeartbeats 4000000 in
set_option maxRecDepth 100000 in
theorem readAll_any (t : List UInt8) (w : World) (ht : t.length < 1000000000) :
    Calls Tryz.prog 99 #[.string (bs t)] w fun e w' => AllPost t w e w' := by
  obtain ⟨i0, hi, hz0, hz1, hz2⟩ := info_parts Tryz.info49
  have hsz : (bs t).size = t.length := bs_size t
  have HRD : Hid (∀ (n : Nat) (w2 : World), Calls Tryz.prog 143 #[.string (bs (t.drop n))] w2 fun e w' => ReadPost (t.drop n) w2 e w') := fun n w2 => read_any (t.drop n) w2 (by simp; omega)
  have HR0 : Hid (Calls Tryz.prog 143 #[.string (bs t)] w fun e w' => ReadPost t w e w') := read_any t w ht
  have HEX : Hid (∀ n, (bs t).extract n t.length = bs (t.drop n)) := fun n => by rw [bs_extract, List.take_of_length_le (Nat.le_refl _)]
  -- reading, as the loop has it
  have HGOT : Hid (∀ (t' : List UInt8) (w1 : World) (e : Ending) (w2 : World), ReadPost t' w1 e w2 → w.heap.size ≤ w1.heap.size → ∃ (ao : Option Addr) (l c : Nat) (s7 : Int), e = .returned (.tuple #[.slice ao l c, .int .i64 s7]) ∧ Got w.heap.size t' (.slice ao l c) (.int .i64 s7) w2 ∧ Below w1.heap.size w1 w2) := fun t' w1 e w2 h hw => by
    obtain ⟨hb, ⟨M, v, h1, h2, rfl, h3⟩ | ⟨h1, rfl⟩⟩ := h
    · obtain ⟨ao, c, rfl⟩ := slice_form h3
      exact ⟨ao, M.length, c, _, rfl, .inl ⟨M, h1, h2, rfl, owns_base h3 hw⟩, hb⟩
    · exact ⟨none, 0, 0, 0, rfl, .inr ⟨h1, rfl, rfl⟩, hb⟩
  go_enter Tryz.func99, Tryz.ntmps99
  go_wp2_with fail
  refine Calls.mono HR0.out ?_
  intro e w1 hr
  obtain ⟨ao, l, c, s7, rfl, hg, hb⟩ := HGOT.out t w e w1 hr (Nat.le_refl _)
  have INV0 : Hid (AllAt w.heap.size w1 (.slice none 0 0) [] ∧ Got w.heap.size (t.drop (rl [])) (.slice ao l c) (.int .i64 s7) w1 ∧ Below w.heap.size w w1) := ⟨⟨[], World.ownsRow_nil _ _ _ _, by simp⟩, hg, hb⟩
  clear hr hg hb HR0
  go_wp2
  go_loopw [4, 5, 6, 7] (fun s4 s5 s6 s7 wr => ∃ Bs : List (List Pr), s5 = .int .i64 (rl Bs : Nat) ∧ Hid ((∀ b ∈ Bs, Bt b) ∧ Bs.flatMap recB <+: t) ∧ Hid (AllAt w.heap.size wr s4 Bs ∧ Got w.heap.size (t.drop (rl Bs)) s6 s7 wr ∧ Below w.heap.size w wr)) (fun _ s5 _ _ _ => t.length - (intOf s5).toNat)
  case atStart => exact ⟨[], rfl, ⟨by simp, by simp⟩, INV0.out⟩
  case round =>
    clear INV0
    obtain ⟨Bs, rfl, HBS, HI⟩ := hrel
    obtain ⟨hall, hgot, hbel⟩ := HI.out
    have hrl : rl Bs ≤ t.length := HBS.out.2.length_le
    obtain ⟨Ws, hWo, hWr⟩ := hall
    have hWl : Ws.length = Bs.length := by have := hWo.1; omega
    obtain ⟨ao4, c4, rfl⟩ := slice_form hWo
    rcases hgot with ⟨M, hbt, hpre, rfl, hown⟩ | ⟨hno, rfl, rfl⟩
    · obtain ⟨ao6, c6, rfl⟩ := slice_form hown
      have hlen := recB_len hbt
      have hpl := hpre.length_le
      rw [List.length_drop] at hpl
      have hBl : Bs.length ≤ t.length := by
        have h1 := flat_bounds recB 8 73 Bs fun b hb => recB_len (HBS.out.1 b hb)
        have h2 : (Bs.flatMap recB).length = rl Bs := rfl
        omega
      have HWO : Hid (wr.ownsRow w.heap.size 49 1 (.slice ao4 Bs.length c4) Bs.length Ws) := hWo
      have HWR : Hid (∀ (i : Nat) (b : List Pr), Bs[i]? = some b → ∃ vi, Ws[i]? = some vi ∧ wr.ownsRow w.heap.size 48 3 vi b.length (pcells b)) := hWr
      have HOWN : Hid (wr.ownsRow w.heap.size 48 3 (.slice ao6 M.length c6) M.length (pcells M)) := hown
      have HBEL : Hid (Below w.heap.size w wr) := hbel
      have hwz := hbel.size
      have HBS2 : Hid ((∀ b ∈ Bs ++ [M], Bt b) ∧ (Bs ++ [M]).flatMap recB <+: t) := ⟨fun b hb => by
        rcases List.mem_append.1 hb with h | h
        · exact HBS.out.1 b h
        · rw [List.mem_singleton] at h; subst h; exact hbt, pre_snoc HBS.out.2 hpre⟩
      have hrs : rl (Bs ++ [M]) = rl Bs + (recB M).length := rl_snoc Bs M
      have HRS : Hid (rl (Bs ++ [M]) = rl Bs + (recB M).length) := hrs
      have hpos : decide ((0 : Int) < ((recB M).length : Int)) = true := decide_eq_true (by omega)
      clear hWo hWr hown hbel hpre hrs HI HBS
      generalize hrm : (recB M).length = rm at hlen hpl hpos HRS
      have HRN : Hid _ := HRD.out (rl Bs + rm)
      generalize hrb : rl Bs = rb at hrl hpl HRS HRN
      have hle2 : rb + rm ≤ t.length := by omega
      clear hbt hrm
      go_wp2_with (first | (at_builtin; refine wpList_append_own _ rfl (.tmp 15) (.tmp 17) 32 rfl w.heap.size 49 i0 _ 1 24 Tryz.underlying32 hi hz0 hz1 hz2 rfl (by decide) _ _ _ rfl (by exact HWO.out.alloc _) ⟨wr.heap.size, 0, none⟩ 1 1 [.slice ao6 M.length c6] rfl rfl (by exact one_cell wr _ 49) (by simp [Value.oneCell']) (by unfold maxLen; omega) (by omega) (by simp; omega) ?_))
      intro v9 w3 ho3 hg3 _
      have k3 : Kp w.heap.size [49] wr w3 := Kp.grown ((Kp.refl _ _ _).alloc _) (HWO.out.alloc _) hg3 (Nat.le_refl _) (by simp)
      have hfin : AllAt w.heap.size w3 v9 (Bs ++ [M]) := AllAt.snoc ho3 hWl (fun i c h => by obtain ⟨vi, h1, h2⟩ := HWR.out i c h; exact ⟨vi, h1, k3.owns h2 (by simp)⟩) (k3.owns HOWN.out (by simp))
      have HA3 : Hid (AllAt w.heap.size w3 v9 (Bs ++ [M]) ∧ Below w.heap.size w w3) := ⟨hfin, HBEL.out.trans (k3.belowB HBEL.out.size)⟩
      clear ho3 hg3 k3 hfin HWO HWR HOWN HBEL
      go_wp2_with fail
      rw [HEX.out]
      refine Calls.mono (HRN.out w3) ?_
      intro e w4 hr
      obtain ⟨ao, l, c, s7, rfl, hg, hb⟩ := HGOT.out _ w3 e w4 hr HA3.out.2.size
      have HI4 : Hid (AllAt w.heap.size w4 v9 (Bs ++ [M]) ∧ Got w.heap.size (t.drop (rl (Bs ++ [M]))) (.slice ao l c) (.int .i64 s7) w4 ∧ Below w.heap.size w w4) := ⟨HA3.out.1.kept (Kp.of_below (B := 0) (ts := []) hb) (by simp) (by simp), by rw [HRS.out]; exact hg, HA3.out.2.trans (hb.mono HA3.out.2.size)⟩
      clear hr hg hb HA3 HRN
      go_wp2
      go_roundw
      case rel => exact ⟨Bs ++ [M], by rw [HRS.out]; go_num, HBS2, HI4⟩
      case measure => simp [intOf]; omega
    · have HF : Hid (AllPost t w (.returned (.tuple #[.slice ao4 Bs.length c4, .int .i64 (rl Bs : Nat)])) wr) := ⟨Bs, _, ⟨HBS.out.1, HBS.out.2, hno⟩, rfl, ⟨Ws, hWo, hWr⟩, hbel⟩
      clear hWo hWr hno HI
      go_wp2
      go_ret2
      exact HF.out
end Go.Proofs.YtakipjofboipmaaGreat
