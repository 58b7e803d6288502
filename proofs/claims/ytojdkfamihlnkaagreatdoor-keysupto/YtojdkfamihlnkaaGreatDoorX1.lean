/- The walks of this proof: whether pairs are a batch, whatever they are; Write of any pairs. -/
import Derived.Test.YtojdkfamihlnkaaGreatDoorW20
import Derived.Test.YtojdkfamihlnkaaGreatDoorR4
namespace Go.Proofs.YtojdkfamihlnkaaGreatDoor
open Go.RowKit Go.Sort

set_option maxHeartbeats 400000 in
theorem hasNoKey_gen (p : Pr) (w : World) (hs : p.k.size ≤ 10000000) :
    Calls Tryz.prog 95 #[.agg #[.string p.k, .string p.v, .bool p.g]] w fun e w' => e = .returned (.bool (noKey p)) ∧ Below w.heap.size w w' := by
  have hk : ∀ w, Calls Tryz.prog 50 #[.string p.k] w fun e w' => e = .returned (.bool (!noKey p)) ∧ w' = w := fun w => by
    have h := isKey_any p.k w (by unfold maxLen; omega)
    have e : (decide (1 ≤ p.k.size) && decide (p.k.size ≤ 6)) = !noKey p := by
      unfold noKey
      by_cases h1 : 1 ≤ p.k.size
      · have h3 : ¬ p.k.size < 1 := by omega
        by_cases h2 : p.k.size ≤ 6
        · have h4 : ¬ 6 < p.k.size := by omega
          simp only [h1, h2, h3, h4]; rfl
        · have h4 : 6 < p.k.size := by omega
          simp only [h1, h2, h3, h4]; rfl
      · have h3 : p.k.size < 1 := by omega
        simp only [h1, h3]; rfl
    rw [e] at h
    exact h
  have HK : Hid _ := hk
  clear hk
  cases hn : noKey p
  · rw [hn] at HK
    go_enter Tryz.func95, Tryz.ntmps95
    go_wp2_with fail
    refine Calls.mono (HK.out _) ?_
    rintro e w0 ⟨rfl, rfl⟩
    go_wp2
    go_ret
    exact ⟨rfl, (Below.refl _ _).alloc (Nat.le_refl _) _⟩
  · rw [hn] at HK
    go_enter Tryz.func95, Tryz.ntmps95
    go_wp2_with fail
    refine Calls.mono (HK.out _) ?_
    rintro e w0 ⟨rfl, rfl⟩
    go_wp2
    go_ret
    exact ⟨rfl, (Below.refl _ _).alloc (Nat.le_refl _) _⟩

set_option maxHeartbeats 400000 in
theorem isLong_gen (p : Pr) (w : World) (hs : p.v.size ≤ 10000000) :
    Calls Tryz.prog 96 #[.agg #[.string p.k, .string p.v, .bool p.g]] w fun e w' => e = .returned (.bool (isLong p)) ∧ Below w.heap.size w w' := by
  have hd : decide ((8 : Int) < (p.v.size : Int)) = isLong p := by unfold isLong; simp only [decide_eq_decide]; omega
  rw [← hd]
  clear hd
  go_enter Tryz.func96, Tryz.ntmps96
  go_wp2
  go_ret
  exact ⟨by simp, (Below.refl _ _).alloc (Nat.le_refl _) _⟩

set_option maxHeartbeats 400000 in
theorem goneWith_gen (p : Pr) (w : World) :
    Calls Tryz.prog 97 #[.agg #[.string p.k, .string p.v, .bool p.g]] w fun e w' => e = .returned (.bool (goneW p)) ∧ Below w.heap.size w w' := by
  obtain ⟨k, v, g⟩ := p
  unfold goneW
  cases g with
  | false =>
    go_enter Tryz.func97, Tryz.ntmps97
    go_wp2
    go_ret
    exact ⟨rfl, (Below.refl _ _).alloc (Nat.le_refl _) _⟩
  | true =>
    go_enter Tryz.func97, Tryz.ntmps97
    go_wp2
    go_ret
    exact ⟨by simp, (Below.refl _ _).alloc (Nat.le_refl _) _⟩

set_option maxHeartbeats 1000000 in
set_option maxRecDepth 100000 in
theorem index_gen95 (f : Pr → Bool) (L : List Pr) (v : Value) (base : Nat) (w : World) (h : w.ownsRow base 57 3 v L.length (pcells L)) (h4 : L.length ≤ 10000000)
    (hF : ∀ p ∈ L, ∀ w, Calls Tryz.prog 95 #[.agg #[.string p.k, .string p.v, .bool p.g]] w fun e w' => e = .returned (.bool (f p)) ∧ Below w.heap.size w w') :
    Calls Tryz.prog 115 #[v, .func (.func 95) #[] #[]] w fun e w' => ∃ r : Int, e = .returned (.int .i64 r) ∧ decide (0 ≤ r) = L.any f ∧ Below w.heap.size w w' := by
  obtain ⟨ao, cap, rfl⟩ := slice_form h
  have H : Hid _ := h
  have HF : Hid _ := hF
  clear h hF
  go_enter Tryz.func115, Tryz.ntmps115
  go_wp2
  go_loopw [8] (fun i wr => ∃ k : Nat, k ≤ L.length ∧ i = .int .i64 k ∧ Hid ((L.take k).any f = false) ∧ Hid (Below w.heap.size w wr)) (fun i _ => L.length - (intOf i).toNat)
  case atStart => exact ⟨0, Nat.zero_le _, rfl, rfl, Below.refl _ _⟩
  case round =>
    obtain ⟨k, hk, rfl, HN, HB⟩ := hrel
    by_cases hlt : k < L.length
    · obtain ⟨g, cap', hv', hbg, hgl, hcap, hcell⟩ := pr_cells H.out HB.out (by omega)
      simp only [Value.slice.injEq, true_and] at hv'
      obtain ⟨rfl, rfl⟩ := hv'
      obtain ⟨p, hp⟩ : ∃ p, L[k]? = some p := ⟨_, List.getElem?_eq_getElem hlt⟩
      obtain ⟨c0, c1, c2⟩ := hcell k p hp
      have HP : Hid (L[k]? = some p) := hp
      clear hp hcell
      have HT : Hid ((L.take (k + 1)).any f = f p) := by show _ = _; rw [any_take f HP.out, HN.out, Bool.false_or]
      have HC : Hid _ := HF.out p (List.mem_of_getElem? HP.out) wr
      cases hfp : f p
      · rw [hfp] at HC HT
        go_wp2_with fail
        refine Calls.mono HC.out ?_
        rintro e w2 ⟨rfl, hb2⟩
        have HB2 : Hid (Below w.heap.size w w2) := below_trans' HB.out hb2
        clear hb2
        go_wp2
        go_roundw
        case rel => exact ⟨k + 1, by omega, by go_num, HT.out, HB2.out⟩
        case measure => simp [intOf]; omega
      · rw [hfp] at HC
        have HA : Hid (L.any f = true) := List.any_eq_true.2 ⟨p, List.mem_of_getElem? HP.out, hfp⟩
        go_wp2_with fail
        refine Calls.mono HC.out ?_
        rintro e w2 ⟨rfl, hb2⟩
        have HB2 : Hid (Below w.heap.size w w2) := below_trans' HB.out hb2
        clear hb2
        go_wp2
        go_ret
        exact ⟨k, rfl, by rw [HA.out]; simp, HB2.out⟩
    · obtain rfl : k = L.length := by omega
      have HA : Hid (L.any f = false) := by
        have := HN.out
        rw [List.take_of_length_le (Nat.le_refl _)] at this
        exact this
      go_wp2
      go_ret
      exact ⟨-1, rfl, by rw [HA.out]; rfl, HB.out⟩

set_option maxHeartbeats 1000000 in
theorem contains_gen95 (f : Pr → Bool) (L : List Pr) (v : Value) (base : Nat) (w : World) (h : w.ownsRow base 57 3 v L.length (pcells L)) (h4 : L.length ≤ 10000000)
    (hF : ∀ p ∈ L, ∀ w, Calls Tryz.prog 95 #[.agg #[.string p.k, .string p.v, .bool p.g]] w fun e w' => e = .returned (.bool (f p)) ∧ Below w.heap.size w w') :
    Calls Tryz.prog 94 #[v, .func (.func 95) #[] #[]] w fun e w' => e = .returned (.bool (L.any f)) ∧ Below w.heap.size w w' := by
  have HI : Hid _ := index_gen95 f L v base w h h4 hF
  clear h hF
  generalize L.any f = b at HI
  go_enter Tryz.func94, Tryz.ntmps94
  go_wp2_with fail
  refine Calls.mono HI.out ?_
  rintro e w0 ⟨r, rfl, hr, hb⟩
  have HB : Hid (Below w.heap.size w w0) := hb
  clear hb
  go_wp2
  go_ret
  exact ⟨by simp [← hr], HB.out⟩

set_option maxHeartbeats 1000000 in
set_option maxRecDepth 100000 in
theorem index_gen96 (f : Pr → Bool) (L : List Pr) (v : Value) (base : Nat) (w : World) (h : w.ownsRow base 57 3 v L.length (pcells L)) (h4 : L.length ≤ 10000000)
    (hF : ∀ p ∈ L, ∀ w, Calls Tryz.prog 96 #[.agg #[.string p.k, .string p.v, .bool p.g]] w fun e w' => e = .returned (.bool (f p)) ∧ Below w.heap.size w w') :
    Calls Tryz.prog 115 #[v, .func (.func 96) #[] #[]] w fun e w' => ∃ r : Int, e = .returned (.int .i64 r) ∧ decide (0 ≤ r) = L.any f ∧ Below w.heap.size w w' := by
  obtain ⟨ao, cap, rfl⟩ := slice_form h
  have H : Hid _ := h
  have HF : Hid _ := hF
  clear h hF
  go_enter Tryz.func115, Tryz.ntmps115
  go_wp2
  go_loopw [8] (fun i wr => ∃ k : Nat, k ≤ L.length ∧ i = .int .i64 k ∧ Hid ((L.take k).any f = false) ∧ Hid (Below w.heap.size w wr)) (fun i _ => L.length - (intOf i).toNat)
  case atStart => exact ⟨0, Nat.zero_le _, rfl, rfl, Below.refl _ _⟩
  case round =>
    obtain ⟨k, hk, rfl, HN, HB⟩ := hrel
    by_cases hlt : k < L.length
    · obtain ⟨g, cap', hv', hbg, hgl, hcap, hcell⟩ := pr_cells H.out HB.out (by omega)
      simp only [Value.slice.injEq, true_and] at hv'
      obtain ⟨rfl, rfl⟩ := hv'
      obtain ⟨p, hp⟩ : ∃ p, L[k]? = some p := ⟨_, List.getElem?_eq_getElem hlt⟩
      obtain ⟨c0, c1, c2⟩ := hcell k p hp
      have HP : Hid (L[k]? = some p) := hp
      clear hp hcell
      have HT : Hid ((L.take (k + 1)).any f = f p) := by show _ = _; rw [any_take f HP.out, HN.out, Bool.false_or]
      have HC : Hid _ := HF.out p (List.mem_of_getElem? HP.out) wr
      cases hfp : f p
      · rw [hfp] at HC HT
        go_wp2_with fail
        refine Calls.mono HC.out ?_
        rintro e w2 ⟨rfl, hb2⟩
        have HB2 : Hid (Below w.heap.size w w2) := below_trans' HB.out hb2
        clear hb2
        go_wp2
        go_roundw
        case rel => exact ⟨k + 1, by omega, by go_num, HT.out, HB2.out⟩
        case measure => simp [intOf]; omega
      · rw [hfp] at HC
        have HA : Hid (L.any f = true) := List.any_eq_true.2 ⟨p, List.mem_of_getElem? HP.out, hfp⟩
        go_wp2_with fail
        refine Calls.mono HC.out ?_
        rintro e w2 ⟨rfl, hb2⟩
        have HB2 : Hid (Below w.heap.size w w2) := below_trans' HB.out hb2
        clear hb2
        go_wp2
        go_ret
        exact ⟨k, rfl, by rw [HA.out]; simp, HB2.out⟩
    · obtain rfl : k = L.length := by omega
      have HA : Hid (L.any f = false) := by
        have := HN.out
        rw [List.take_of_length_le (Nat.le_refl _)] at this
        exact this
      go_wp2
      go_ret
      exact ⟨-1, rfl, by rw [HA.out]; rfl, HB.out⟩

set_option maxHeartbeats 1000000 in
theorem contains_gen96 (f : Pr → Bool) (L : List Pr) (v : Value) (base : Nat) (w : World) (h : w.ownsRow base 57 3 v L.length (pcells L)) (h4 : L.length ≤ 10000000)
    (hF : ∀ p ∈ L, ∀ w, Calls Tryz.prog 96 #[.agg #[.string p.k, .string p.v, .bool p.g]] w fun e w' => e = .returned (.bool (f p)) ∧ Below w.heap.size w w') :
    Calls Tryz.prog 94 #[v, .func (.func 96) #[] #[]] w fun e w' => e = .returned (.bool (L.any f)) ∧ Below w.heap.size w w' := by
  have HI : Hid _ := index_gen96 f L v base w h h4 hF
  clear h hF
  generalize L.any f = b at HI
  go_enter Tryz.func94, Tryz.ntmps94
  go_wp2_with fail
  refine Calls.mono HI.out ?_
  rintro e w0 ⟨r, rfl, hr, hb⟩
  have HB : Hid (Below w.heap.size w w0) := hb
  clear hb
  go_wp2
  go_ret
  exact ⟨by simp [← hr], HB.out⟩

set_option maxHeartbeats 1000000 in
set_option maxRecDepth 100000 in
theorem index_gen97 (f : Pr → Bool) (L : List Pr) (v : Value) (base : Nat) (w : World) (h : w.ownsRow base 57 3 v L.length (pcells L)) (h4 : L.length ≤ 10000000)
    (hF : ∀ p ∈ L, ∀ w, Calls Tryz.prog 97 #[.agg #[.string p.k, .string p.v, .bool p.g]] w fun e w' => e = .returned (.bool (f p)) ∧ Below w.heap.size w w') :
    Calls Tryz.prog 115 #[v, .func (.func 97) #[] #[]] w fun e w' => ∃ r : Int, e = .returned (.int .i64 r) ∧ decide (0 ≤ r) = L.any f ∧ Below w.heap.size w w' := by
  obtain ⟨ao, cap, rfl⟩ := slice_form h
  have H : Hid _ := h
  have HF : Hid _ := hF
  clear h hF
  go_enter Tryz.func115, Tryz.ntmps115
  go_wp2
  go_loopw [8] (fun i wr => ∃ k : Nat, k ≤ L.length ∧ i = .int .i64 k ∧ Hid ((L.take k).any f = false) ∧ Hid (Below w.heap.size w wr)) (fun i _ => L.length - (intOf i).toNat)
  case atStart => exact ⟨0, Nat.zero_le _, rfl, rfl, Below.refl _ _⟩
  case round =>
    obtain ⟨k, hk, rfl, HN, HB⟩ := hrel
    by_cases hlt : k < L.length
    · obtain ⟨g, cap', hv', hbg, hgl, hcap, hcell⟩ := pr_cells H.out HB.out (by omega)
      simp only [Value.slice.injEq, true_and] at hv'
      obtain ⟨rfl, rfl⟩ := hv'
      obtain ⟨p, hp⟩ : ∃ p, L[k]? = some p := ⟨_, List.getElem?_eq_getElem hlt⟩
      obtain ⟨c0, c1, c2⟩ := hcell k p hp
      have HP : Hid (L[k]? = some p) := hp
      clear hp hcell
      have HT : Hid ((L.take (k + 1)).any f = f p) := by show _ = _; rw [any_take f HP.out, HN.out, Bool.false_or]
      have HC : Hid _ := HF.out p (List.mem_of_getElem? HP.out) wr
      cases hfp : f p
      · rw [hfp] at HC HT
        go_wp2_with fail
        refine Calls.mono HC.out ?_
        rintro e w2 ⟨rfl, hb2⟩
        have HB2 : Hid (Below w.heap.size w w2) := below_trans' HB.out hb2
        clear hb2
        go_wp2
        go_roundw
        case rel => exact ⟨k + 1, by omega, by go_num, HT.out, HB2.out⟩
        case measure => simp [intOf]; omega
      · rw [hfp] at HC
        have HA : Hid (L.any f = true) := List.any_eq_true.2 ⟨p, List.mem_of_getElem? HP.out, hfp⟩
        go_wp2_with fail
        refine Calls.mono HC.out ?_
        rintro e w2 ⟨rfl, hb2⟩
        have HB2 : Hid (Below w.heap.size w w2) := below_trans' HB.out hb2
        clear hb2
        go_wp2
        go_ret
        exact ⟨k, rfl, by rw [HA.out]; simp, HB2.out⟩
    · obtain rfl : k = L.length := by omega
      have HA : Hid (L.any f = false) := by
        have := HN.out
        rw [List.take_of_length_le (Nat.le_refl _)] at this
        exact this
      go_wp2
      go_ret
      exact ⟨-1, rfl, by rw [HA.out]; rfl, HB.out⟩

set_option maxHeartbeats 1000000 in
theorem contains_gen97 (f : Pr → Bool) (L : List Pr) (v : Value) (base : Nat) (w : World) (h : w.ownsRow base 57 3 v L.length (pcells L)) (h4 : L.length ≤ 10000000)
    (hF : ∀ p ∈ L, ∀ w, Calls Tryz.prog 97 #[.agg #[.string p.k, .string p.v, .bool p.g]] w fun e w' => e = .returned (.bool (f p)) ∧ Below w.heap.size w w') :
    Calls Tryz.prog 94 #[v, .func (.func 97) #[] #[]] w fun e w' => e = .returned (.bool (L.any f)) ∧ Below w.heap.size w w' := by
  have HI : Hid _ := index_gen97 f L v base w h h4 hF
  clear h hF
  generalize L.any f = b at HI
  go_enter Tryz.func94, Tryz.ntmps94
  go_wp2_with fail
  refine Calls.mono HI.out ?_
  rintro e w0 ⟨r, rfl, hr, hb⟩
  have HB : Hid (Below w.heap.size w w0) := hb
  clear hb
  go_wp2
  go_ret
  exact ⟨by simp [← hr], HB.out⟩

set_option maxHeartbeats 2000000 in
theorem check_gen (L : List Pr) (v : Value) (base : Nat) (w : World) (h : w.ownsRow base 57 3 v L.length (pcells L)) (h4 : L.length ≤ 10000000) (hs : ∀ p ∈ L, p.k.size ≤ 10000000 ∧ p.v.size ≤ 10000000) :
    Calls Tryz.prog 78 #[v] w fun e w' => e = .returned (.int .i64 (flt L)) ∧ Below w.heap.size w w' := by
  have H5 : Hid (∀ w1, Below w.heap.size w w1 → Calls Tryz.prog 94 #[v, .func (.func 95) #[] #[]] w1 fun e w' => e = .returned (.bool (L.any noKey)) ∧ Below w1.heap.size w1 w') := fun w1 hb => contains_gen95 noKey L v base w1 ((Kp.of_below (B := 0) (ts := []) hb).owns h (by simp)) h4 (fun p hp w => hasNoKey_gen p w (hs p hp).1)
  have H6 : Hid (∀ w1, Below w.heap.size w w1 → Calls Tryz.prog 94 #[v, .func (.func 96) #[] #[]] w1 fun e w' => e = .returned (.bool (L.any isLong)) ∧ Below w1.heap.size w1 w') := fun w1 hb => contains_gen96 isLong L v base w1 ((Kp.of_below (B := 0) (ts := []) hb).owns h (by simp)) h4 (fun p hp w => isLong_gen p w (hs p hp).2)
  have H7 : Hid (∀ w1, Below w.heap.size w w1 → Calls Tryz.prog 94 #[v, .func (.func 97) #[] #[]] w1 fun e w' => e = .returned (.bool (L.any goneW)) ∧ Below w1.heap.size w1 w') := fun w1 hb => contains_gen97 goneW L v base w1 ((Kp.of_below (B := 0) (ts := []) hb).owns h (by simp)) h4 (fun p hp w => goneWith_gen p w)
  obtain ⟨ao, cap, rfl⟩ := slice_form h
  clear h hs
  unfold flt
  generalize L.any noKey = K at H5
  generalize L.any isLong = G at H6
  generalize L.any goneW = A at H7
  by_cases h0 : L.length = 0
  · rw [if_pos (.inl h0)]
    have hd0 : ((L.length : Int) == 0) = true := by rw [beq_iff_eq]; omega
    clear H5 H6 H7
    go_enter Tryz.func78, Tryz.ntmps78
    go_wp2
    go_ret
    exact ⟨rfl, Below.refl _ _⟩
  have hd0 : ((L.length : Int) == 0) = false := by rw [beq_eq_false_iff_ne]; omega
  by_cases h5 : 4 < L.length
  · rw [if_pos (.inr h5)]
    clear H5 H6 H7
    go_enter Tryz.func78, Tryz.ntmps78
    go_wp2
    go_ret
    exact ⟨rfl, Below.refl _ _⟩
  rw [if_neg (fun h => h.elim h0 h5)]
  cases K with
  | true =>
    clear H6 H7
    go_enter Tryz.func78, Tryz.ntmps78
    go_wp2_with fail
    refine Calls.mono (H5.out _ (Below.refl _ _)) ?_
    rintro e wa ⟨rfl, hb⟩
    have HA : Hid (Below w.heap.size w wa) := hb
    clear hb
    go_wp2
    go_ret
    exact ⟨rfl, HA.out⟩
  | false =>
    cases G with
    | true =>
      clear H7
      go_enter Tryz.func78, Tryz.ntmps78
      go_wp2_with fail
      refine Calls.mono (H5.out _ (Below.refl _ _)) ?_
      rintro e wa ⟨rfl, hb⟩
      have HA : Hid (Below w.heap.size w wa) := hb
      clear hb
      go_wp2_with fail
      refine Calls.mono (H6.out _ HA.out) ?_
      rintro e wb ⟨rfl, hb⟩
      have HB : Hid (Below w.heap.size w wb) := below_trans' HA.out hb
      clear hb
      go_wp2
      go_ret
      exact ⟨rfl, HB.out⟩
    | false =>
      cases A with
      | true =>
        go_enter Tryz.func78, Tryz.ntmps78
        go_wp2_with fail
        refine Calls.mono (H5.out _ (Below.refl _ _)) ?_
        rintro e wa ⟨rfl, hb⟩
        have HA : Hid (Below w.heap.size w wa) := hb
        clear hb
        go_wp2_with fail
        refine Calls.mono (H6.out _ HA.out) ?_
        rintro e wb ⟨rfl, hb⟩
        have HB : Hid (Below w.heap.size w wb) := below_trans' HA.out hb
        clear hb
        go_wp2_with fail
        refine Calls.mono (H7.out _ HB.out) ?_
        rintro e wc ⟨rfl, hb⟩
        have HC : Hid (Below w.heap.size w wc) := below_trans' HB.out hb
        clear hb
        go_wp2
        go_ret
        exact ⟨rfl, HC.out⟩
      | false =>
        go_enter Tryz.func78, Tryz.ntmps78
        go_wp2_with fail
        refine Calls.mono (H5.out _ (Below.refl _ _)) ?_
        rintro e wa ⟨rfl, hb⟩
        have HA : Hid (Below w.heap.size w wa) := hb
        clear hb
        go_wp2_with fail
        refine Calls.mono (H6.out _ HA.out) ?_
        rintro e wb ⟨rfl, hb⟩
        have HB : Hid (Below w.heap.size w wb) := below_trans' HA.out hb
        clear hb
        go_wp2_with fail
        refine Calls.mono (H7.out _ HB.out) ?_
        rintro e wc ⟨rfl, hb⟩
        have HC : Hid (Below w.heap.size w wc) := below_trans' HB.out hb
        clear hb
        go_wp2
        go_ret
        exact ⟨rfl, HC.out⟩

set_option maxHeartbeats 1000000 in
theorem writeBad_any (sb : Nat) (L : List Pr) (v : Value) (base : Nat) (sync : Bool) (w : World) (h : w.ownsRow base 57 3 v L.length (pcells L)) (h4 : L.length ≤ 10000000) (hs : ∀ p ∈ L, p.k.size ≤ 10000000 ∧ p.v.size ≤ 10000000) (hf : flt L ≠ 0) :
    Calls Tryz.prog 47 #[.pointer (some ⟨sb, 0, none⟩), v, .bool sync] w fun e w' => e = .returned (.tuple #[.int .i64 0, .int .i64 (flt L)]) ∧ Below w.heap.size w w' := by
  have HC : Hid _ := check_gen L v base w h h4 hs
  generalize flt L = fv at HC hf
  have hz : (fv == 0) = false := by rw [beq_eq_false_iff_ne]; exact hf
  clear h hs hf
  go_enter Tryz.func47, Tryz.ntmps47
  go_wp2_with fail
  refine Calls.mono HC.out ?_
  rintro e w1 ⟨rfl, hb⟩
  have HB : Hid (Below w.heap.size w w1) := hb
  clear hb
  go_wp2
  go_ret2
  exact ⟨rfl, HB.out⟩
end Go.Proofs.YtojdkfamihlnkaaGreatDoor
