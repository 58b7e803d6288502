/- The walks of this proof: whether pairs are a batch, whatever they are. -/
import Derived.Test.YtakipjofboipmaaGreatDoorJ21
import Derived.Test.YtakipjofboipmaaGreatDoorJ19
import Derived.Test.YtakipjofboipmaaGreatDoorJ8
namespace Go.Proofs.YtakipjofboipmaaGreatDoor
open Go.RowKit Go.Sort

def noKey (p : Pr) : Bool := decide (p.k.size < 1) || decide (6 < p.k.size)
def isLong (p : Pr) : Bool := decide (8 < p.v.size)
def goneW (p : Pr) : Bool := p.g && !p.v.toList.isEmpty

/-- The first error of a batch. -/
def flt (L : List Pr) : Int :=
  if L.length = 0 ∨ 4 < L.length then 3 else if L.any noKey then 1 else if L.any isLong then 2 else if L.any goneW then 4 else 0

theorem any_take {L : List Pr} {k : Nat} {p : Pr} (f : Pr → Bool) (h : L[k]? = some p) : (L.take (k + 1)).any f = ((L.take k).any f || f p) := by
  rw [List.take_add_one, h]
  simp

set_option maxHeartbeats 400000 in
theorem hasNoKey_gen (p : Pr) (w : World) (hs : p.k.size ≤ 140737488351232) :
    Calls Tryz.prog 152 #[.agg #[.string p.k, .string p.v, .bool p.g]] w fun e w' => e = .returned (.bool (noKey p)) ∧ Below w.heap.size w w' := by
  have hk : ∀ w, Calls Tryz.prog 57 #[.string p.k] w fun e w' => e = .returned (.bool (!noKey p)) ∧ w' = w := fun w => by
    have h := isKey_any p.k w (by unfold maxLen; omega)
    have e : (decide (1 ≤ p.k.size) && decide (p.k.size ≤ 6)) = !noKey p := by
      unfold noKey
      by_cases h1 : 1 ≤ p.k.size
      · have h3 : ¬ p.k.size < 1 := by omega
        by_cases h2 : p.k.size ≤ 6
        · have h4 : ¬ 6 < p.k.size := by omega
          simp only [h1, h2, h3, h4]; rfl
        · have h4 : 6 < p.k.size := by omega
          simp only [h1, h2, h3, h4]; rfl
      · have h3 : p.k.size < 1 := by omega
        simp only [h1, h3]; rfl
    rw [e] at h
    exact h
  have HK : Hid _ := hk
  clear hk
  cases hn : noKey p
  · rw [hn] at HK
    go_enter Tryz.func152, Tryz.ntmps152
    go_wp2_with fail
    refine Calls.mono (HK.out _) ?_
    rintro e w0 ⟨rfl, rfl⟩
    go_wp2
    go_ret
    exact ⟨rfl, (Below.refl _ _).alloc (Nat.le_refl _) _⟩
  · rw [hn] at HK
    go_enter Tryz.func152, Tryz.ntmps152
    go_wp2_with fail
    refine Calls.mono (HK.out _) ?_
    rintro e w0 ⟨rfl, rfl⟩
    go_wp2
    go_ret
    exact ⟨rfl, (Below.refl _ _).alloc (Nat.le_refl _) _⟩

set_option maxHeartbeats 400000 in
theorem isLong_gen (p : Pr) (w : World) (hs : p.v.size ≤ 140737488351232) :
    Calls Tryz.prog 153 #[.agg #[.string p.k, .string p.v, .bool p.g]] w fun e w' => e = .returned (.bool (isLong p)) ∧ Below w.heap.size w w' := by
  have hd : decide ((8 : Int) < (p.v.size : Int)) = isLong p := by unfold isLong; simp only [decide_eq_decide]; omega
  rw [← hd]
  clear hd
  go_enter Tryz.func153, Tryz.ntmps153
  go_wp2
  go_ret
  exact ⟨by simp, (Below.refl _ _).alloc (Nat.le_refl _) _⟩

set_option maxHeartbeats 400000 in
theorem goneWith_gen (p : Pr) (w : World) :
    Calls Tryz.prog 154 #[.agg #[.string p.k, .string p.v, .bool p.g]] w fun e w' => e = .returned (.bool (goneW p)) ∧ Below w.heap.size w w' := by
  obtain ⟨k, v, g⟩ := p
  unfold goneW
  cases g with
  | false =>
    go_enter Tryz.func154, Tryz.ntmps154
    go_wp2
    go_ret
    exact ⟨rfl, (Below.refl _ _).alloc (Nat.le_refl _) _⟩
  | true =>
    go_enter Tryz.func154, Tryz.ntmps154
    go_wp2
    go_ret
    exact ⟨by simp, (Below.refl _ _).alloc (Nat.le_refl _) _⟩

set_option maxHeartbeats 1000000 in
set_option maxRecDepth 100000 in
theorem index_gen95 (f : Pr → Bool) (L : List Pr) (v : Value) (base : Nat) (w : World) (h : w.ownsRow base 57 3 v L.length (pcells L)) (h4 : L.length ≤ 3518437208780)
    (hF : ∀ p ∈ L, ∀ w, Calls Tryz.prog 152 #[.agg #[.string p.k, .string p.v, .bool p.g]] w fun e w' => e = .returned (.bool (f p)) ∧ Below w.heap.size w w') :
    Calls Tryz.prog 202 #[v, .func (.func 152) #[] #[]] w fun e w' => ∃ r : Int, e = .returned (.int .i64 r) ∧ decide (0 ≤ r) = L.any f ∧ Below w.heap.size w w' := by
  obtain ⟨ao, cap, rfl⟩ := slice_form h
  have H : Hid _ := h
  have HF : Hid _ := hF
  clear h hF
  go_enter Tryz.func202, Tryz.ntmps202
  go_wp2
  go_loopw [8] (fun i wr => ∃ k : Nat, k ≤ L.length ∧ i = .int .i64 k ∧ Hid ((L.take k).any f = false) ∧ Hid (Below w.heap.size w wr)) (fun i _ => L.length - (intOf i).toNat)
  case atStart => exact ⟨0, Nat.zero_le _, rfl, rfl, Below.refl _ _⟩
  case round =>
    obtain ⟨k, hk, rfl, HN, HB⟩ := hrel
    by_cases hlt : k < L.length
    · obtain ⟨g, cap', hv', hbg, hgl, hcap, hcell⟩ := pr_cells H.out HB.out (by omega)
      simp only [Value.slice.injEq, true_and] at hv'
      obtain ⟨rfl, rfl⟩ := hv'
      obtain ⟨p, hp⟩ : ∃ p, L[k]? = some p := ⟨_, List.getElem?_eq_getElem hlt⟩
      obtain ⟨c0, c1, c2⟩ := hcell k p hp
      have HP : Hid (L[k]? = some p) := hp
      clear hp hcell
      have HT : Hid ((L.take (k + 1)).any f = f p) := by show _ = _; rw [any_take f HP.out, HN.out, Bool.false_or]
      have HC : Hid _ := HF.out p (List.mem_of_getElem? HP.out) wr
      cases hfp : f p
      · rw [hfp] at HC HT
        go_wp2_with fail
        refine Calls.mono HC.out ?_
        rintro e w2 ⟨rfl, hb2⟩
        have HB2 : Hid (Below w.heap.size w w2) := below_trans' HB.out hb2
        clear hb2
        go_wp2
        go_roundw
        case rel => exact ⟨k + 1, by omega, by go_num, HT.out, HB2.out⟩
        case measure => simp [intOf]; omega
      · rw [hfp] at HC
        have HA : Hid (L.any f = true) := List.any_eq_true.2 ⟨p, List.mem_of_getElem? HP.out, hfp⟩
        go_wp2_with fail
        refine Calls.mono HC.out ?_
        rintro e w2 ⟨rfl, hb2⟩
        have HB2 : Hid (Below w.heap.size w w2) := below_trans' HB.out hb2
        clear hb2
        go_wp2
        go_ret
        exact ⟨k, rfl, by rw [HA.out]; simp, HB2.out⟩
    · obtain rfl : k = L.length := by omega
      have HA : Hid (L.any f = false) := by
        have := HN.out
        rw [List.take_of_length_le (Nat.le_refl _)] at this
        exact this
      go_wp2
      go_ret
      exact ⟨-1, rfl, by rw [HA.out]; rfl, HB.out⟩

set_option maxHeartbeats 1000000 in
theorem contains_gen95 (f : Pr → Bool) (L : List Pr) (v : Value) (base : Nat) (w : World) (h : w.ownsRow base 57 3 v L.length (pcells L)) (h4 : L.length ≤ 3518437208780)
    (hF : ∀ p ∈ L, ∀ w, Calls Tryz.prog 152 #[.agg #[.string p.k, .string p.v, .bool p.g]] w fun e w' => e = .returned (.bool (f p)) ∧ Below w.heap.size w w') :
    Calls Tryz.prog 151 #[v, .func (.func 152) #[] #[]] w fun e w' => e = .returned (.bool (L.any f)) ∧ Below w.heap.size w w' := by
  have HI : Hid _ := index_gen95 f L v base w h h4 hF
  clear h hF
  generalize L.any f = b at HI
  go_enter Tryz.func151, Tryz.ntmps151
  go_wp2_with fail
  refine Calls.mono HI.out ?_
  rintro e w0 ⟨r, rfl, hr, hb⟩
  have HB : Hid (Below w.heap.size w w0) := hb
  clear hb
  go_wp2
  go_ret
  exact ⟨by simp [← hr], HB.out⟩

set_option maxHeartbeats 1000000 in
set_option maxRecDepth 100000 in
theorem index_gen96 (f : Pr → Bool) (L : List Pr) (v : Value) (base : Nat) (w : World) (h : w.ownsRow base 57 3 v L.length (pcells L)) (h4 : L.length ≤ 3518437208780)
    (hF : ∀ p ∈ L, ∀ w, Calls Tryz.prog 153 #[.agg #[.string p.k, .string p.v, .bool p.g]] w fun e w' => e = .returned (.bool (f p)) ∧ Below w.heap.size w w') :
    Calls Tryz.prog 202 #[v, .func (.func 153) #[] #[]] w fun e w' => ∃ r : Int, e = .returned (.int .i64 r) ∧ decide (0 ≤ r) = L.any f ∧ Below w.heap.size w w' := by
  obtain ⟨ao, cap, rfl⟩ := slice_form h
  have H : Hid _ := h
  have HF : Hid _ := hF
  clear h hF
  go_enter Tryz.func202, Tryz.ntmps202
  go_wp2
  go_loopw [8] (fun i wr => ∃ k : Nat, k ≤ L.length ∧ i = .int .i64 k ∧ Hid ((L.take k).any f = false) ∧ Hid (Below w.heap.size w wr)) (fun i _ => L.length - (intOf i).toNat)
  case atStart => exact ⟨0, Nat.zero_le _, rfl, rfl, Below.refl _ _⟩
  case round =>
    obtain ⟨k, hk, rfl, HN, HB⟩ := hrel
    by_cases hlt : k < L.length
    · obtain ⟨g, cap', hv', hbg, hgl, hcap, hcell⟩ := pr_cells H.out HB.out (by omega)
      simp only [Value.slice.injEq, true_and] at hv'
      obtain ⟨rfl, rfl⟩ := hv'
      obtain ⟨p, hp⟩ : ∃ p, L[k]? = some p := ⟨_, List.getElem?_eq_getElem hlt⟩
      obtain ⟨c0, c1, c2⟩ := hcell k p hp
      have HP : Hid (L[k]? = some p) := hp
      clear hp hcell
      have HT : Hid ((L.take (k + 1)).any f = f p) := by show _ = _; rw [any_take f HP.out, HN.out, Bool.false_or]
      have HC : Hid _ := HF.out p (List.mem_of_getElem? HP.out) wr
      cases hfp : f p
      · rw [hfp] at HC HT
        go_wp2_with fail
        refine Calls.mono HC.out ?_
        rintro e w2 ⟨rfl, hb2⟩
        have HB2 : Hid (Below w.heap.size w w2) := below_trans' HB.out hb2
        clear hb2
        go_wp2
        go_roundw
        case rel => exact ⟨k + 1, by omega, by go_num, HT.out, HB2.out⟩
        case measure => simp [intOf]; omega
      · rw [hfp] at HC
        have HA : Hid (L.any f = true) := List.any_eq_true.2 ⟨p, List.mem_of_getElem? HP.out, hfp⟩
        go_wp2_with fail
        refine Calls.mono HC.out ?_
        rintro e w2 ⟨rfl, hb2⟩
        have HB2 : Hid (Below w.heap.size w w2) := below_trans' HB.out hb2
        clear hb2
        go_wp2
        go_ret
        exact ⟨k, rfl, by rw [HA.out]; simp, HB2.out⟩
    · obtain rfl : k = L.length := by omega
      have HA : Hid (L.any f = false) := by
        have := HN.out
        rw [List.take_of_length_le (Nat.le_refl _)] at this
        exact this
      go_wp2
      go_ret
      exact ⟨-1, rfl, by rw [HA.out]; rfl, HB.out⟩

set_option maxHeartbeats 1000000 in
theorem contains_gen96 (f : Pr → Bool) (L : List Pr) (v : Value) (base : Nat) (w : World) (h : w.ownsRow base 57 3 v L.length (pcells L)) (h4 : L.length ≤ 3518437208780)
    (hF : ∀ p ∈ L, ∀ w, Calls Tryz.prog 153 #[.agg #[.string p.k, .string p.v, .bool p.g]] w fun e w' => e = .returned (.bool (f p)) ∧ Below w.heap.size w w') :
    Calls Tryz.prog 151 #[v, .func (.func 153) #[] #[]] w fun e w' => e = .returned (.bool (L.any f)) ∧ Below w.heap.size w w' := by
  have HI : Hid _ := index_gen96 f L v base w h h4 hF
  clear h hF
  generalize L.any f = b at HI
  go_enter Tryz.func151, Tryz.ntmps151
  go_wp2_with fail
  refine Calls.mono HI.out ?_
  rintro e w0 ⟨r, rfl, hr, hb⟩
  have HB : Hid (Below w.heap.size w w0) := hb
  clear hb
  go_wp2
  go_ret
  exact ⟨by simp [← hr], HB.out⟩

set_option maxHeartbeats 1000000 in
set_option maxRecDepth 100000 in
theorem index_gen97 (f : Pr → Bool) (L : List Pr) (v : Value) (base : Nat) (w : World) (h : w.ownsRow base 57 3 v L.length (pcells L)) (h4 : L.length ≤ 3518437208780)
    (hF : ∀ p ∈ L, ∀ w, Calls Tryz.prog 154 #[.agg #[.string p.k, .string p.v, .bool p.g]] w fun e w' => e = .returned (.bool (f p)) ∧ Below w.heap.size w w') :
    Calls Tryz.prog 202 #[v, .func (.func 154) #[] #[]] w fun e w' => ∃ r : Int, e = .returned (.int .i64 r) ∧ decide (0 ≤ r) = L.any f ∧ Below w.heap.size w w' := by
  obtain ⟨ao, cap, rfl⟩ := slice_form h
  have H : Hid _ := h
  have HF : Hid _ := hF
  clear h hF
  go_enter Tryz.func202, Tryz.ntmps202
  go_wp2
  go_loopw [8] (fun i wr => ∃ k : Nat, k ≤ L.length ∧ i = .int .i64 k ∧ Hid ((L.take k).any f = false) ∧ Hid (Below w.heap.size w wr)) (fun i _ => L.length - (intOf i).toNat)
  case atStart => exact ⟨0, Nat.zero_le _, rfl, rfl, Below.refl _ _⟩
  case round =>
    obtain ⟨k, hk, rfl, HN, HB⟩ := hrel
    by_cases hlt : k < L.length
    · obtain ⟨g, cap', hv', hbg, hgl, hcap, hcell⟩ := pr_cells H.out HB.out (by omega)
      simp only [Value.slice.injEq, true_and] at hv'
      obtain ⟨rfl, rfl⟩ := hv'
      obtain ⟨p, hp⟩ : ∃ p, L[k]? = some p := ⟨_, List.getElem?_eq_getElem hlt⟩
      obtain ⟨c0, c1, c2⟩ := hcell k p hp
      have HP : Hid (L[k]? = some p) := hp
      clear hp hcell
      have HT : Hid ((L.take (k + 1)).any f = f p) := by show _ = _; rw [any_take f HP.out, HN.out, Bool.false_or]
      have HC : Hid _ := HF.out p (List.mem_of_getElem? HP.out) wr
      cases hfp : f p
      · rw [hfp] at HC HT
        go_wp2_with fail
        refine Calls.mono HC.out ?_
        rintro e w2 ⟨rfl, hb2⟩
        have HB2 : Hid (Below w.heap.size w w2) := below_trans' HB.out hb2
        clear hb2
        go_wp2
        go_roundw
        case rel => exact ⟨k + 1, by omega, by go_num, HT.out, HB2.out⟩
        case measure => simp [intOf]; omega
      · rw [hfp] at HC
        have HA : Hid (L.any f = true) := List.any_eq_true.2 ⟨p, List.mem_of_getElem? HP.out, hfp⟩
        go_wp2_with fail
        refine Calls.mono HC.out ?_
        rintro e w2 ⟨rfl, hb2⟩
        have HB2 : Hid (Below w.heap.size w w2) := below_trans' HB.out hb2
        clear hb2
        go_wp2
        go_ret
        exact ⟨k, rfl, by rw [HA.out]; simp, HB2.out⟩
    · obtain rfl : k = L.length := by omega
      have HA : Hid (L.any f = false) := by
        have := HN.out
        rw [List.take_of_length_le (Nat.le_refl _)] at this
        exact this
      go_wp2
      go_ret
      exact ⟨-1, rfl, by rw [HA.out]; rfl, HB.out⟩

set_option maxHeartbeats 1000000 in
theorem contains_gen97 (f : Pr → Bool) (L : List Pr) (v : Value) (base : Nat) (w : World) (h : w.ownsRow base 57 3 v L.length (pcells L)) (h4 : L.length ≤ 3518437208780)
    (hF : ∀ p ∈ L, ∀ w, Calls Tryz.prog 154 #[.agg #[.string p.k, .string p.v, .bool p.g]] w fun e w' => e = .returned (.bool (f p)) ∧ Below w.heap.size w w') :
    Calls Tryz.prog 151 #[v, .func (.func 154) #[] #[]] w fun e w' => e = .returned (.bool (L.any f)) ∧ Below w.heap.size w w' := by
  have HI : Hid _ := index_gen97 f L v base w h h4 hF
  clear h hF
  generalize L.any f = b at HI
  go_enter Tryz.func151, Tryz.ntmps151
  go_wp2_with fail
  refine Calls.mono HI.out ?_
  rintro e w0 ⟨r, rfl, hr, hb⟩
  have HB : Hid (Below w.heap.size w w0) := hb
  clear hb
  go_wp2
  go_ret
  exact ⟨by simp [← hr], HB.out⟩

set_option maxHeartbeats 2000000 in
theorem check_gen (L : List Pr) (v : Value) (base : Nat) (w : World) (h : w.ownsRow base 57 3 v L.length (pcells L)) (h4 : L.length ≤ 3518437208780) (hs : ∀ p ∈ L, p.k.size ≤ 140737488351232 ∧ p.v.size ≤ 140737488351232) :
    Calls Tryz.prog 103 #[v] w fun e w' => e = .returned (.int .i64 (flt L)) ∧ Below w.heap.size w w' := by
  have H5 : Hid (∀ w1, Below w.heap.size w w1 → Calls Tryz.prog 151 #[v, .func (.func 152) #[] #[]] w1 fun e w' => e = .returned (.bool (L.any noKey)) ∧ Below w1.heap.size w1 w') := fun w1 hb => contains_gen95 noKey L v base w1 ((Kp.of_below (B := 0) (ts := []) hb).owns h (by simp)) h4 (fun p hp w => hasNoKey_gen p w (hs p hp).1)
  have H6 : Hid (∀ w1, Below w.heap.size w w1 → Calls Tryz.prog 151 #[v, .func (.func 153) #[] #[]] w1 fun e w' => e = .returned (.bool (L.any isLong)) ∧ Below w1.heap.size w1 w') := fun w1 hb => contains_gen96 isLong L v base w1 ((Kp.of_below (B := 0) (ts := []) hb).owns h (by simp)) h4 (fun p hp w => isLong_gen p w (hs p hp).2)
  have H7 : Hid (∀ w1, Below w.heap.size w w1 → Calls Tryz.prog 151 #[v, .func (.func 154) #[] #[]] w1 fun e w' => e = .returned (.bool (L.any goneW)) ∧ Below w1.heap.size w1 w') := fun w1 hb => contains_gen97 goneW L v base w1 ((Kp.of_below (B := 0) (ts := []) hb).owns h (by simp)) h4 (fun p hp w => goneWith_gen p w)
  obtain ⟨ao, cap, rfl⟩ := slice_form h
  clear h hs
  unfold flt
  generalize L.any noKey = K at H5
  generalize L.any isLong = G at H6
  generalize L.any goneW = A at H7
  by_cases h0 : L.length = 0
  · rw [if_pos (.inl h0)]
    have hd0 : ((L.length : Int) == 0) = true := by rw [beq_iff_eq]; omega
    clear H5 H6 H7
    go_enter Tryz.func103, Tryz.ntmps103
    go_wp2
    go_ret
    exact ⟨rfl, Below.refl _ _⟩
  have hd0 : ((L.length : Int) == 0) = false := by rw [beq_eq_false_iff_ne]; omega
  by_cases h5 : 4 < L.length
  · rw [if_pos (.inr h5)]
    clear H5 H6 H7
    go_enter Tryz.func103, Tryz.ntmps103
    go_wp2
    go_ret
    exact ⟨rfl, Below.refl _ _⟩
  rw [if_neg (fun h => h.elim h0 h5)]
  cases K with
  | true =>
    clear H6 H7
    go_enter Tryz.func103, Tryz.ntmps103
    go_wp2_with fail
    refine Calls.mono (H5.out _ (Below.refl _ _)) ?_
    rintro e wa ⟨rfl, hb⟩
    have HA : Hid (Below w.heap.size w wa) := hb
    clear hb
    go_wp2
    go_ret
    exact ⟨rfl, HA.out⟩
  | false =>
    cases G with
    | true =>
      clear H7
      go_enter Tryz.func103, Tryz.ntmps103
      go_wp2_with fail
      refine Calls.mono (H5.out _ (Below.refl _ _)) ?_
      rintro e wa ⟨rfl, hb⟩
      have HA : Hid (Below w.heap.size w wa) := hb
      clear hb
      go_wp2_with fail
      refine Calls.mono (H6.out _ HA.out) ?_
      rintro e wb ⟨rfl, hb⟩
      have HB : Hid (Below w.heap.size w wb) := below_trans' HA.out hb
      clear hb
      go_wp2
      go_ret
      exact ⟨rfl, HB.out⟩
    | false =>
      cases A with
      | true =>
        go_enter Tryz.func103, Tryz.ntmps103
        go_wp2_with fail
        refine Calls.mono (H5.out _ (Below.refl _ _)) ?_
        rintro e wa ⟨rfl, hb⟩
        have HA : Hid (Below w.heap.size w wa) := hb
        clear hb
        go_wp2_with fail
        refine Calls.mono (H6.out _ HA.out) ?_
        rintro e wb ⟨rfl, hb⟩
        have HB : Hid (Below w.heap.size w wb) := below_trans' HA.out hb
        clear hb
        go_wp2_with fail
        refine Calls.mono (H7.out _ HB.out) ?_
        rintro e wc ⟨rfl, hb⟩
        have HC : Hid (Below w.heap.size w wc) := below_trans' HB.out hb
        clear hb
        go_wp2
        go_ret
        exact ⟨rfl, HC.out⟩
      | false =>
        go_enter Tryz.func103, Tryz.ntmps103
        go_wp2_with fail
        refine Calls.mono (H5.out _ (Below.refl _ _)) ?_
        rintro e wa ⟨rfl, hb⟩
        have HA : Hid (Below w.heap.size w wa) := hb
        clear hb
        go_wp2_with fail
        refine Calls.mono (H6.out _ HA.out) ?_
        rintro e wb ⟨rfl, hb⟩
        have HB : Hid (Below w.heap.size w wb) := below_trans' HA.out hb
        clear hb
        go_wp2_with fail
        refine Calls.mono (H7.out _ HB.out) ?_
        rintro e wc ⟨rfl, hb⟩
        have HC : Hid (Below w.heap.size w wc) := below_trans' HB.out hb
        clear hb
        go_wp2
        go_ret
        exact ⟨rfl, HC.out⟩
end Go.Proofs.YtakipjofboipmaaGreatDoor

/- The walks of this proof: the document's store: the first error of a batch. -/
namespace Go.Proofs.YtakipjofboipmaaGreatDoor
open Go.RowKit Go.Sort

/-- Pairs that can be read, wherever they lie. -/
def PairsAt (w : World) (v : Value) (L : List Pr) : Prop :=
  ∃ (ao : Option Addr) (cap : Nat), v = .slice ao L.length cap ∧ L.length ≤ 3518437208780 ∧ (∀ p ∈ L, p.k.size ≤ 140737488351232 ∧ p.v.size ≤ 140737488351232) ∧ ∀ (k : Nat) (p : Pr), L[k]? = some p → ∃ b : Addr, ao = some b ∧ b.spot = none ∧
    w.cell? ⟨b.block, b.off + k * 3, none⟩ = some (.string p.k) ∧ w.cell? ⟨b.block, b.off + k * 3 + 1, none⟩ = some (.string p.v) ∧ w.cell? ⟨b.block, b.off + k * 3 + 2, none⟩ = some (.bool p.g)

theorem PairsAt.below {w w' : World} {v : Value} {L : List Pr} (h : PairsAt w v L) (hb : Below w.heap.size w w') : PairsAt w' v L := by
  obtain ⟨ao, cap, rfl, hl, hs, hc⟩ := h
  refine ⟨ao, cap, rfl, hl, hs, fun k p hp => ?_⟩
  obtain ⟨b, h1, h2, h3, h4, h5⟩ := hc k p hp
  exact ⟨b, h1, h2, cell_later hb h3, cell_later hb h4, cell_later hb h5⟩

set_option maxHeartbeats 4000000 in
set_option maxRecDepth 100000 in
theorem fault_any (L : List Pr) (v : Value) (w : World) (h : PairsAt w v L) :
    Calls Tryz.prog 99 #[v] w fun e w' => e = .returned (.int .i64 (flt L)) ∧ Below w.heap.size w w' := by
  obtain ⟨ao, cap, rfl, hl, hs, hc⟩ := h
  have HC : Hid _ := hc
  have HS : Hid _ := hs
  clear hc hs
  go_enter Tryz.func99, Tryz.ntmps99
  go_wp2
  go_loopg [3, 4, 5, 6, 7] L.length (fun kx s3 s4 s5 s6 s7 wr => ∃ (k : Nat) (K G A : Bool), k ≤ L.length ∧ L.length - k ≤ kx ∧ s6 = .int .i64 k ∧ s3 = .bool K ∧ s4 = .bool G ∧ s5 = .bool A ∧ Hid (K = (L.take k).any noKey) ∧ Hid (G = (L.take k).any isLong) ∧ Hid (A = (L.take k).any goneW) ∧ Hid (Below w.heap.size w wr))
  case atStart => exact ⟨0, false, false, false, Nat.zero_le _, Nat.le_refl _, rfl, rfl, rfl, rfl, rfl, rfl, rfl, Below.refl _ _⟩
  case round =>
    obtain ⟨k, K, G, A, hk, hkx, rfl, rfl, rfl, rfl, HK, HG, HA, HB⟩ := hrel
    by_cases hlt : k < L.length
    · obtain ⟨p, hp⟩ : ∃ p, L[k]? = some p := ⟨_, List.getElem?_eq_getElem hlt⟩
      obtain ⟨⟨g, off, spot⟩, rfl, hsp, c0, c1, c2⟩ := HC.out k p hp
      simp only at hsp c0 c1 c2
      subst hsp
      have c0 := cell_later HB.out c0
      have c1 := cell_later HB.out c1
      have c2 := cell_later HB.out c2
      have hgl : g < wr.heap.size := block_lt_of_cell c0
      have hps := HS.out p (List.mem_of_getElem? hp)
      have HK2 : Hid (∀ b, (K || noKey p) = b → b = (L.take (k + 1)).any noKey) := fun b hb => by rw [any_take noKey hp, ← HK.out, hb]
      have HG2 : Hid (∀ b, (G || isLong p) = b → b = (L.take (k + 1)).any isLong) := fun b hb => by rw [any_take isLong hp, ← HG.out, hb]
      have HA2 : Hid (∀ b, (A || goneW p) = b → b = (L.take (k + 1)).any goneW) := fun b hb => by rw [any_take goneW hp, ← HA.out, hb]
      have HF : Hid (Below w.heap.size w (wr.alloc (.cells #[.string p.k, .string p.v, .bool p.g] 57))) := HB.out.alloc HB.out.size _
      obtain ⟨hpk, hpv⟩ := hps
      clear hp HK HG HA
      obtain ⟨pk, pv, pg⟩ := p
      simp only at c0 c1 c2 hpk hpv HF
      have h6 : (∃ b, (K || noKey ⟨pk, pv, pg⟩) = b ∧ ((K = true ∧ b = true) ∨ (K = false ∧ (pk.size : Int) < 1 ∧ b = true) ∨ (K = false ∧ ¬ (pk.size : Int) < 1 ∧ (6 : Int) < pk.size ∧ b = true) ∨ (K = false ∧ ¬ (pk.size : Int) < 1 ∧ ¬ (6 : Int) < pk.size ∧ b = false))) := by
        refine ⟨_, rfl, ?_⟩
        cases K
        · by_cases h1 : pk.size < 1
          · exact .inr (.inl ⟨rfl, by omega, by simp [noKey, h1]⟩)
          · by_cases h2 : 6 < pk.size
            · exact .inr (.inr (.inl ⟨rfl, by omega, by omega, by simp [noKey, h2]⟩))
            · exact .inr (.inr (.inr ⟨rfl, by omega, by omega, by simp [noKey, h1, h2]⟩))
        · exact .inl ⟨rfl, by simp⟩
      have h7 : (∃ b, (G || isLong ⟨pk, pv, pg⟩) = b ∧ ((G = true ∧ b = true) ∨ (G = false ∧ (8 : Int) < pv.size ∧ b = true) ∨ (G = false ∧ ¬ (8 : Int) < pv.size ∧ b = false))) := by
        refine ⟨_, rfl, ?_⟩
        cases G
        · by_cases h2 : 8 < pv.size
          · exact .inr (.inl ⟨rfl, by omega, by simp [isLong, h2]⟩)
          · exact .inr (.inr ⟨rfl, by omega, by simp [isLong, h2]⟩)
        · exact .inl ⟨rfl, by simp⟩
      have h8 : (∃ b, (A || goneW ⟨pk, pv, pg⟩) = b ∧ ((A = true ∧ b = true) ∨ (A = false ∧ pg = false ∧ b = false) ∨ (A = false ∧ pg = true ∧ b = !pv.toList.isEmpty))) := by
        refine ⟨_, rfl, ?_⟩
        cases A
        · cases pg
          · exact .inr (.inl ⟨rfl, rfl, by simp [goneW]⟩)
          · exact .inr (.inr ⟨rfl, rfl, by simp [goneW]⟩)
        · exact .inl ⟨rfl, by simp⟩
      obtain ⟨b6, e6, h6⟩ := h6
      obtain ⟨b7, e7, h7⟩ := h7
      obtain ⟨b8, e8, h8⟩ := h8
      have HE6 : Hid _ := HK2.out _ e6
      have HE7 : Hid _ := HG2.out _ e7
      have HE8 : Hid _ := HA2.out _ e8
      clear e6 e7 e8 HK2 HG2 HA2
      rcases h6 with ⟨rfl, rfl⟩ | ⟨rfl, h61, rfl⟩ | ⟨rfl, h61, h62, rfl⟩ | ⟨rfl, h61, h62, rfl⟩ <;>
        rcases h7 with ⟨rfl, rfl⟩ | ⟨rfl, h71, rfl⟩ | ⟨rfl, h71, rfl⟩ <;>
        rcases h8 with ⟨rfl, rfl⟩ | ⟨rfl, rfl, rfl⟩ | ⟨rfl, rfl, rfl⟩
      all_goals (
        go_wp2
        go_roundg (L.length - (k + 1))
        case measure => omega
        case rel => exact ⟨k + 1, _, _, _, by omega, Nat.le_refl _, by go_num, rfl, rfl, rfl, HE6.out, HE7.out, HE8.out, HF.out⟩)
    · obtain rfl : k = L.length := by omega
      have hFL : Hid (flt L = if L.length = 0 ∨ 4 < L.length then 3 else if K then 1 else if G then 2 else if A then 4 else 0) := by
        show _ = _
        unfold flt
        rw [HK.out, HG.out, HA.out, List.take_of_length_le (Nat.le_refl _)]
      clear HK HG HA
      by_cases h0 : L.length = 0
      · have hd0 : ((L.length : Int) == 0) = true := by rw [beq_iff_eq]; omega
        have HV : Hid (flt L = 3) := by show _ = _; rw [hFL.out, if_pos (.inl h0)]
        clear hFL
        go_wp2
        go_ret
        exact ⟨by rw [HV.out]; rfl, HB.out⟩
      · have hd0 : ((L.length : Int) == 0) = false := by rw [beq_eq_false_iff_ne]; omega
        by_cases h4 : 4 < L.length
        · have HV : Hid (flt L = 3) := by show _ = _; rw [hFL.out, if_pos (.inr h4)]
          clear hFL
          go_wp2
          go_ret
          exact ⟨by rw [HV.out]; rfl, HB.out⟩
        · have HV : Hid (flt L = if K then 1 else if G then 2 else if A then 4 else 0) := by show _ = _; rw [hFL.out, if_neg (fun h => h.elim h0 h4)]
          clear hFL
          cases K
          · cases G
            · cases A
              · go_wp2
                go_ret
                exact ⟨by rw [HV.out]; rfl, HB.out⟩
              · go_wp2
                go_ret
                exact ⟨by rw [HV.out]; rfl, HB.out⟩
            · go_wp2
              go_ret
              exact ⟨by rw [HV.out]; rfl, HB.out⟩
          · go_wp2
            go_ret
            exact ⟨by rw [HV.out]; rfl, HB.out⟩
end Go.Proofs.YtakipjofboipmaaGreatDoor

/- The walks of this proof: the document's store: the pairs of a batch that count. -/
namespace Go.Proofs.YtakipjofboipmaaGreatDoor
open Go.RowKit Go.Sort

/-- What counted comes to. -/
def CountPost (L : List Pr) (w : World) (e : Ending) (w' : World) : Prop :=
  ∃ (v : Value) (C : List Pr), e = .returned v ∧ SamePr (keep L) C ∧ Upto C C.length ∧ w'.ownsRow w.heap.size 57 3 v C.length (pcells C) ∧ Below w.heap.size w w'

theorem ones_pair (p : Pr) : ∀ u ∈ Pr.cells p, u.oneCell' = true := by
  intro u hu; simp [Pr.cells] at hu; rcases hu with rfl | rfl | rfl <;> rfl

theorem pcells_snoc' {w : World} {B : Nat} {v : Value} {L : List Pr} {p : Pr} (h : w.ownsRow B 57 3 v (L.length + 1) (pcells L ++ Pr.cells p)) : w.ownsRow B 57 3 v (L ++ [p]).length (pcells (L ++ [p])) := by
  have e : pcells (L ++ [p]) = pcells L ++ Pr.cells p := by simp [pcells]
  rw [e, List.length_append]
  exact h

def bestVal : Option (Nat × Pr) → Value
  | some (j, _) => .int .i64 j
  | none => .int .i64 (-1)

set_option maxHeartbeats 4000000 in
set_option maxRecDepth 100000 in
theorem counted_any (L : List Pr) (v : Value) (w : World) (h : PairsAt w v L) (h4 : L.length ≤ 4) (h1 : ∀ p ∈ L, 1 ≤ p.k.size) :
    Calls Tryz.prog 101 #[v] w fun e w' => CountPost L w e w' := by
  obtain ⟨i0, hi, hz0, hz1, hz2⟩ := info_parts Tryz.info57
  obtain ⟨ao, cap, rfl, hl, hs, hc⟩ := h
  have HC : Hid _ := hc
  have H0 : Hid (CntInv L [] ⟨#[]⟩) := cnt_start h1
  clear hc hs h1 hl
  go_enter Tryz.func101, Tryz.ntmps101
  go_wp2
  go_loopg [3, 4, 5, 6, 7] L.length (fun kx s3 s4 s5 s6 s7 wr => ∃ (C : List Pr) (last : ByteArray), C.length ≤ L.length ∧ L.length - C.length ≤ kx ∧ s5 = .int .i64 C.length ∧ s4 = .string last ∧ Hid (CntInv L C last) ∧ Hid (wr.ownsRow w.heap.size 57 3 s3 C.length (pcells C)) ∧ Hid (Below w.heap.size w wr))
  case atStart => exact ⟨[], ⟨#[]⟩, Nat.zero_le _, Nat.le_refl _, rfl, rfl, H0.out, World.ownsRow_nil _ _ _ _, Below.refl _ _⟩
  case round =>
    clear H0
    obtain ⟨C, last, hCL, hCk, rfl, rfl, HI, HO, HB⟩ := hrel
    obtain ⟨aoC, capC, rfl⟩ := slice_form HO.out
    by_cases hlt : C.length < L.length
    · go_wp2
      go_loopg [6, 7] L.length (fun kx s6 s7 wx => ∃ (i : Nat) (o : Option (Nat × Pr)), i ≤ L.length ∧ L.length - i ≤ kx ∧ s7 = .int .i64 i ∧ s6 = bestVal o ∧ Hid (BestInv L last i o) ∧ Hid (wx.ownsRow w.heap.size 57 3 (.slice aoC C.length capC) C.length (pcells C)) ∧ Hid (Below w.heap.size w wx))
      case atStart => exact ⟨0, none, Nat.zero_le _, Nat.le_refl _, rfl, rfl, best_start _ _, HO.out, HB.out⟩
      case round =>
        clear HO HB
        obtain ⟨i, o, hil, hik, rfl, rfl, HBI, HO, HB⟩ := hrel
        by_cases hilt : i < L.length
        · obtain ⟨q, hq⟩ : ∃ q, L[i]? = some q := ⟨_, List.getElem?_eq_getElem hilt⟩
          obtain ⟨⟨g, off, spot⟩, rfl, hsp, c0, _, _⟩ := HC.out i q hq
          simp only at hsp c0
          subst hsp
          have c0 := cell_later HB.out c0
          have hgl : g < wr.heap.size := block_lt_of_cell c0
          have c0' := cell_regrown c0
          have e1 := str_lt q.k last
          have HQ : Hid (L[i]? = some q) := hq
          clear hq
          have hneg := kc_neg last q.k
          have hcase : (kc q.k last < 0 ∧ (q.k.toList == last.toList) = false ∧ ¬ kc last q.k < 0) ∨ (q.k = last ∧ ¬ kc last q.k < 0) ∨ (¬ kc q.k last < 0 ∧ (q.k.toList == last.toList) = false ∧ kc last q.k < 0) := by
            by_cases he : q.k = last
            · exact .inr (.inl ⟨he, by rw [he, kc_self]; omega⟩)
            · have h0 : kc last q.k ≠ 0 := fun h => he (kc_zero h).symm
              by_cases hl : kc q.k last < 0
              · exact .inl ⟨hl, str_ne he, by omega⟩
              · exact .inr (.inr ⟨hl, str_ne he, by omega⟩)
          clear hneg
          rcases hcase with ⟨h1, h2, h3⟩ | ⟨h1, h3⟩ | ⟨h1, h2, h3⟩
          · simp only [h1, decide_true] at e1
            have HS : Hid (BestInv L last (i + 1) o) := best_skip HBI.out HQ.out (.inl h3)
            clear h1 h3
            go_wp2
            refine wp_region_quiet_below (by kernel_rfl) (by kernel_rfl) ?_
            repeat (first | go_big_quiet_step (fail) | quiet_step (fail))
            refine wpQuiet_nil ?_
            intro w2 hw'
            have hb := below_of_regrown hw'
            clear hw'
            have HO2 : Hid (w2.ownsRow w.heap.size 57 3 (.slice aoC C.length capC) C.length (pcells C)) := (Kp.of_below (B := 0) (ts := []) hb).owns HO.out (by simp)
            have HB2 : Hid (Below w.heap.size w w2) := below_trans' HB.out hb
            clear hb
            go_wp2
            go_roundg (L.length - (i + 1))
            case measure => omega
            case rel => exact ⟨i + 1, o, by omega, Nat.le_refl _, by go_num, rfl, HS.out, HO2.out, HB2.out⟩
          · subst h1
            rw [kc_self] at e1
            simp only [Int.lt_irrefl, decide_false] at e1
            have h2 := str_same q.k
            have HS : Hid (BestInv L q.k (i + 1) o) := best_skip HBI.out HQ.out (.inl h3)
            clear h3
            go_wp2
            refine wp_region_quiet_below (by kernel_rfl) (by kernel_rfl) ?_
            repeat (first | go_big_quiet_step (fail) | quiet_step (fail))
            refine wpQuiet_nil ?_
            intro w2 hw'
            have hb := below_of_regrown hw'
            clear hw'
            have HO2 : Hid (w2.ownsRow w.heap.size 57 3 (.slice aoC C.length capC) C.length (pcells C)) := (Kp.of_below (B := 0) (ts := []) hb).owns HO.out (by simp)
            have HB2 : Hid (Below w.heap.size w w2) := below_trans' HB.out hb
            clear hb
            go_wp2
            go_roundg (L.length - (i + 1))
            case measure => omega
            case rel => exact ⟨i + 1, o, by omega, Nat.le_refl _, by go_num, rfl, HS.out, HO2.out, HB2.out⟩
          · simp only [h1, decide_false] at e1
            match o, HBI with
            | none, HBI =>
              have HS : Hid (BestInv L last (i + 1) (some (i, q))) := best_take HBI.out HQ.out h3 (fun j p h => by cases h)
              clear h1 h3
              simp only [bestVal]
              go_wp2
              refine wp_region_quiet_below (by kernel_rfl) (by kernel_rfl) ?_
              repeat (first | go_big_quiet_step (fail) | quiet_step (fail))
              refine wpQuiet_nil ?_
              intro w2 hw'
              have hb := below_of_regrown hw'
              clear hw'
              have HO2 : Hid (w2.ownsRow w.heap.size 57 3 (.slice aoC C.length capC) C.length (pcells C)) := (Kp.of_below (B := 0) (ts := []) hb).owns HO.out (by simp)
              have HB2 : Hid (Below w.heap.size w w2) := below_trans' HB.out hb
              clear hb
              go_wp2
              go_roundg (L.length - (i + 1))
              case measure => omega
              case rel => exact ⟨i + 1, some (i, q), by omega, Nat.le_refl _, by go_num, rfl, HS.out, HO2.out, HB2.out⟩
            | some (j, p), HBI =>
              have hjl : j < L.length := by have := HBI.out.1; omega
              obtain ⟨b, hbe, hsp, d0, _, _⟩ := HC.out j p HBI.out.2.1
              cases hbe
              simp only at d0
              have d0 := cell_later HB.out d0
              have d0' := cell_regrown d0
              have e2 := str_lt q.k p.k
              have hneg := kc_neg p.k q.k
              have hcase : (kc q.k p.k < 0 ∧ (q.k.toList == p.k.toList) = false ∧ ¬ kc p.k q.k < 0) ∨ (q.k = p.k ∧ ¬ kc p.k q.k < 0) ∨ (¬ kc q.k p.k < 0 ∧ (q.k.toList == p.k.toList) = false ∧ kc p.k q.k < 0) := by
                by_cases he : q.k = p.k
                · exact .inr (.inl ⟨he, by rw [he, kc_self]; omega⟩)
                · have h0 : kc p.k q.k ≠ 0 := fun h => he (kc_zero h).symm
                  by_cases hl : kc q.k p.k < 0
                  · exact .inl ⟨hl, str_ne he, by omega⟩
                  · exact .inr (.inr ⟨hl, str_ne he, by omega⟩)
              clear hneg hsp
              simp only [bestVal]
              rcases hcase with ⟨g1, g2, g3⟩ | ⟨g1, g3⟩ | ⟨g1, g2, g3⟩
              · simp only [g1, decide_true] at e2
                have HS : Hid (BestInv L last (i + 1) (some (i, q))) := best_take HBI.out HQ.out h3 (fun j p h => by cases h; exact g3)
                clear h1 h3 g1 g3
                go_wp2
                refine wp_region_quiet_below (by kernel_rfl) (by kernel_rfl) ?_
                repeat (first | go_big_quiet_step (fail) | quiet_step (fail))
                refine wpQuiet_nil ?_
                intro w2 hw'
                have hb := below_of_regrown hw'
                clear hw'
                have HO2 : Hid (w2.ownsRow w.heap.size 57 3 (.slice aoC C.length capC) C.length (pcells C)) := (Kp.of_below (B := 0) (ts := []) hb).owns HO.out (by simp)
                have HB2 : Hid (Below w.heap.size w w2) := below_trans' HB.out hb
                clear hb
                go_wp2
                go_roundg (L.length - (i + 1))
                case measure => omega
                case rel => exact ⟨i + 1, some (i, q), by omega, Nat.le_refl _, by go_num, rfl, HS.out, HO2.out, HB2.out⟩
              · have HS : Hid (BestInv L last (i + 1) (some (i, q))) := best_take HBI.out HQ.out h3 (fun j p h => by cases h; exact g3)
                rw [← g1, kc_self] at e2
                simp only [Int.lt_irrefl, decide_false] at e2
                have g2 := str_same q.k
                rw [← g1] at d0 d0'
                clear h1 h3 g1 g3
                go_wp2
                refine wp_region_quiet_below (by kernel_rfl) (by kernel_rfl) ?_
                repeat (first | go_big_quiet_step (fail) | quiet_step (fail))
                refine wpQuiet_nil ?_
                intro w2 hw'
                have hb := below_of_regrown hw'
                clear hw'
                have HO2 : Hid (w2.ownsRow w.heap.size 57 3 (.slice aoC C.length capC) C.length (pcells C)) := (Kp.of_below (B := 0) (ts := []) hb).owns HO.out (by simp)
                have HB2 : Hid (Below w.heap.size w w2) := below_trans' HB.out hb
                clear hb
                go_wp2
                go_roundg (L.length - (i + 1))
                case measure => omega
                case rel => exact ⟨i + 1, some (i, q), by omega, Nat.le_refl _, by go_num, rfl, HS.out, HO2.out, HB2.out⟩
              · simp only [g1, decide_false] at e2
                have HS : Hid (BestInv L last (i + 1) (some (j, p))) := best_skip HBI.out HQ.out (.inr ⟨j, p, rfl, g3⟩)
                clear h1 h3 g1 g3
                go_wp2
                refine wp_region_quiet_below (by kernel_rfl) (by kernel_rfl) ?_
                repeat (first | go_big_quiet_step (fail) | quiet_step (fail))
                refine wpQuiet_nil ?_
                intro w2 hw'
                have hb := below_of_regrown hw'
                clear hw'
                have HO2 : Hid (w2.ownsRow w.heap.size 57 3 (.slice aoC C.length capC) C.length (pcells C)) := (Kp.of_below (B := 0) (ts := []) hb).owns HO.out (by simp)
                have HB2 : Hid (Below w.heap.size w w2) := below_trans' HB.out hb
                clear hb
                go_wp2
                go_roundg (L.length - (i + 1))
                case measure => omega
                case rel => exact ⟨i + 1, some (j, p), by omega, Nat.le_refl _, by go_num, rfl, HS.out, HO2.out, HB2.out⟩
        · obtain rfl : i = L.length := by omega
          cases o with
          | none =>
            have HF : Hid (SamePr (keep L) C ∧ Upto C C.length) := cnt_none HI.out HBI.out
            unfold bestVal
            go_wp2
            go_ret
            exact ⟨_, C, rfl, HF.out.1, HF.out.2, HO.out, HB.out⟩
          | some jp =>
            obtain ⟨j, p⟩ := jp
            have hjl : j < L.length := HBI.out.1
            obtain ⟨⟨g, off, spot⟩, rfl, hsp, c0, c1, c2⟩ := HC.out j p HBI.out.2.1
            simp only at hsp c0 c1 c2
            subst hsp
            have C0 : Hid (w.cell? ⟨g, off + j * 3, none⟩ = some (.string p.k)) := c0
            have c0 := cell_later HB.out c0
            have c1 := cell_later HB.out c1
            have c2 := cell_later HB.out c2
            have hgl : g < wr.heap.size := block_lt_of_cell c0
            have HI2 : Hid (CntInv L (C ++ [p]) p.k) := cnt_step HI.out HBI.out
            have hsz := HB.out.size
            unfold bestVal
            go_wp2_with (at_builtin; refine wpList_append_own _ rfl _ _ 38 rfl w.heap.size 57 i0 _ 3 40 Tryz.underlying38 hi hz0 hz1 hz2 rfl (by decide) _ _ _ rfl (HO.out.alloc _) ⟨wr.heap.size, 0, none⟩ 1 1 (Pr.cells p) rfl rfl (one_pair _ _) (ones_pair p) ?c3 ?c4 ?c5 ?_)
            case c3 => unfold maxLen; omega
            case c4 => omega
            case c5 => simp; omega
            intro v9 w4 ho2 hg2 _
            have hb4 := app_below HB.out HO.out hg2
            have HB4 : Hid (Below w.heap.size w w4) := hb4
            have HO4 : Hid (w4.ownsRow w.heap.size 57 3 v9 (C ++ [p]).length (pcells (C ++ [p]))) := pcells_snoc' ho2
            have c0b := cell_later hb4 C0.out
            clear ho2 hg2 hb4 c0 c1 c2
            go_wp2
            go_roundg (L.length - (C.length + 1))
            case measure => omega
            case rel => exact ⟨C ++ [p], p.k, by simp; omega, by simp, by simp only [List.length_append, List.length_singleton]; go_num, rfl, HI2.out, HO4.out, HB4.out⟩
    · have HF : Hid (SamePr (keep L) C ∧ Upto C C.length) := cnt_full HI.out (by omega)
      go_wp2
      go_ret
      exact ⟨_, C, rfl, HF.out.1, HF.out.2, HO.out, HB.out⟩
end Go.Proofs.YtakipjofboipmaaGreatDoor

/- The walks of this proof: the document's store: snapshots. -/
namespace Go.Proofs.YtakipjofboipmaaGreatDoor
open Go.RowKit Go.Sort

theorem set_field6 {w : World} {sb : Nat} {a0 a1 a2 a3 a4 a5 : Value} {t : TypeId} (h : w.heap[sb]? = some (.cells #[a0, a1, a2, a3, a4, a5] t (0, 0))) (i : Nat) (v : Value) :
    (w.setCell ⟨sb, i, none⟩ v).heap[sb]? = some (.cells (#[a0, a1, a2, a3, a4, a5].setIfInBounds i v) t (0, 0)) := heap_setCell_same w sb i _ t v h

theorem Tryz.info138 : (Tryz.prog.info? 138).map (fun i => (i.zero, i.size, i.bytes)) = some (some (.agg #[.int .i64 0, .int .i64 0]), 2, 16) := by kernel_rfl

theorem sncells_snoc {w : World} {D : Nat → Prop} {v : Value} {S : List Sn} {s : Sn} (h : OwnsIn w D 138 2 v (S.length + 1) (scells S ++ Sn.cells s)) : OwnsIn w D 138 2 v (S ++ [s]).length (scells (S ++ [s])) := by
  have e : scells (S ++ [s]) = scells S ++ Sn.cells s := by simp [scells]
  rw [e, List.length_append]
  exact h

/-- The snapshots' row put into its field. -/
theorem rput_snaps {D : Nat → Prop} {rb : Nat} {y : Rf} {w : World} {vA vS vS' vT : Value} {la sy nm : Int} {S' : List Sn} (hs : w.heap[rb]? = some (.cells #[vA, .int .i64 la, .int .i64 sy, vS, .int .i64 nm, vT] 85 (0, 0))) (hB : D rb)
    (hA : RAll D w vA y.A) (hS : OwnsIn w D 138 2 vS' S'.length (scells S')) :
    RefAt D rb { y with S := S', num := nm } (w.setCell ⟨rb, 3, none⟩ vS') := by
  have k := Kd.field hB hs 3 vS'
  refine ⟨vA, vS', vT, la, sy, hB, ?_, hA.kept k (by simp) (by simp), k.ownsIn hS (by simp)⟩
  rw [set_field6 hs 3 vS']
  simp

set_option maxHeartbeats 2000000 in
theorem refSnap_any (D : Nat → Prop) (rb : Nat) (y : Rf) (w : World) (hy : RefAt D rb y w) (hD : Opn D w) (ok : RfOk y) (h0 : 0 ≤ y.num) (h1 : y.num < 1100000000000) :
    Calls Tryz.prog 27 #[.pointer (some ⟨rb, 0, none⟩)] w fun e w' =>
      (y.S.length = 4 ∧ e = .returned (.tuple #[.int .i64 0, .int .i64 7]) ∧ w' = w) ∨
      (y.S.length < 4 ∧ e = .returned (.tuple #[.int .i64 (y.num + 1), .int .i64 0]) ∧ RefAt D rb { y with S := y.S ++ [⟨y.num + 1, y.A.length⟩], num := y.num + 1 } w' ∧ Kd D [85, 138] w w') := by
  obtain ⟨vA, vS, vT, la, sy, hB, hs, hA, hS⟩ := hy
  obtain ⟨i0, hi, hz0, hz1, hz2⟩ := info_parts Tryz.info138
  have hl4 := ok.snaps
  obtain ⟨aoS, capS, rfl⟩ := slice_form hS.own
  by_cases h4 : y.S.length = 4
  · have c3 : w.cell? ⟨rb, 3, none⟩ = some (.slice aoS 4 capS) := by simp [World.cell?, hs, h4]
    clear hs hA hS ok
    go_enter Tryz.func27, Tryz.ntmps27
    go_wp2
    go_ret2
    exact .inl ⟨h4, rfl, rfl⟩
  · have c3 : w.cell? ⟨rb, 3, none⟩ = some (.slice aoS y.S.length capS) := by simp [World.cell?, hs]
    have hd4 : ((y.S.length : Int) == 4) = false := by rw [beq_eq_false_iff_ne]; omega
    obtain ⟨nm, hnm⟩ : ∃ nm, y.num = nm := ⟨_, rfl⟩
    rw [hnm] at hs h0 h1 ⊢
    have c4 : w.cell? ⟨rb, 4, none⟩ = some (.int .i64 nm) := by simp [World.cell?, hs]
    have f4 : w.frozen? ⟨rb, 4, none⟩ = false := by simp [World.frozen?, hs]
    have k1 := Kd.field hB hs 4 (.int .i64 (nm + 1))
    have s1 := set_field6 hs 4 (.int .i64 (nm + 1))
    have a1 := hA.kept k1 (by simp) (by simp)
    have o1 := k1.ownsIn hS (by simp)
    generalize hw1 : w.setCell ⟨rb, 4, none⟩ (.int .i64 (nm + 1)) = w1 at k1 s1 a1 o1
    simp only [List.setIfInBounds_toArray, List.set_cons_succ, List.set_cons_zero] at s1
    have HA1 : Hid (RAll D w1 vA y.A) := a1
    obtain ⟨Ws, hW, _⟩ := a1
    obtain ⟨aoA, capA, rfl⟩ := slice_form hW.own
    have H : Hid (Kd D [85] w w1 ∧ w1.heap[rb]? = some (.cells #[.slice aoA y.A.length capA, .int .i64 la, .int .i64 sy, .slice aoS y.S.length capS, .int .i64 (nm + 1), vT] 85 (0, 0)) ∧ D rb) := ⟨k1, s1, hB⟩
    have c0' : w1.cell? ⟨rb, 0, none⟩ = some (.slice aoA y.A.length capA) := by simp [World.cell?, s1]
    have c3' : w1.cell? ⟨rb, 3, none⟩ = some (.slice aoS y.S.length capS) := by simp [World.cell?, s1]
    have c4' : w1.cell? ⟨rb, 4, none⟩ = some (.int .i64 (nm + 1)) := by simp [World.cell?, s1]
    have HD1 : Hid (Opn D w1) := hD.later k1.size
    have hrb1 : rb < w1.heap.size := lt_of_block s1
    have HW : Hid (w.setCell ⟨rb, 4, none⟩ (.int .i64 (nm + 1)) = w1) := hw1
    have HO : Hid (OwnsIn w1 D 138 2 (.slice aoS y.S.length capS) y.S.length (scells y.S)) := o1
    clear hs hA hS ok k1 s1 o1 hw1 hW hD hnm
    go_enter Tryz.func27, Tryz.ntmps27
    go_wp2
    rw [HW.out]
    go_region_law (refine step_append_lies _ rfl _ _ 83 rfl 0 138 i0 _ 2 16 Tryz.underlying83 hi hz0 hz1 hz2 rfl (by decide) (.slice aoS y.S.length capS) y.S.length (scells y.S) rfl (by exact HO.out.own.alloc _) ⟨w1.heap.size, 0, none⟩ 1 1 (Sn.cells ⟨nm + 1, y.A.length⟩) rfl rfl (by intro j u hj; match j, hj with | 0, hj => (simp [Sn.cells] at hj; subst hj; simp [Addr.add]) | 1, hj => (simp [Sn.cells] at hj; subst hj; simp [Addr.add]) | j + 2, hj => (simp [Sn.cells] at hj)) (by intro u hu; simp [Sn.cells] at hu; rcases hu with rfl | rfl <;> rfl) (by omega) (by unfold maxLen; omega) (by omega) (Nat.zero_le _) _ rfl ?_; intro g cap w2 hown hgrow hat hlt; have K2 : Hid (Kd D [138] w1 w2) := Kd.grown ((Kd.refl _ _ _).alloc _).drew (by exact HO.out.alloc _) hgrow (by simp); have c3b : w2.cell? ⟨rb, 3, none⟩ = some (.slice aoS y.S.length capS) := (by simp [World.cell?, K2.out.keep H.out.2.1 (by simp)]); have f3b : w2.frozen? ⟨rb, 3, none⟩ = false := (by simp [World.frozen?, K2.out.keep H.out.2.1 (by simp)]); have c4b : w2.cell? ⟨rb, 4, none⟩ = some (.int .i64 (nm + 1)) := (by simp [World.cell?, K2.out.keep H.out.2.1 (by simp)]); have HN : Hid (OwnsIn w2 D 138 2 (.slice (some ⟨g, 0, none⟩) (y.S.length + 1) cap) (y.S.length + 1) (scells y.S ++ Sn.cells ⟨nm + 1, y.A.length⟩)) := HO.out.put HD1.out hown (hat.imp id fun e => by rw [e]; simp); clear hown hgrow hat hlt)
    all_goals go_wp2
    all_goals go_ret2
    all_goals exact .inr ⟨by omega, rfl, rput_snaps (K2.out.keep H.out.2.1 (by simp)) H.out.2.2 (HA1.out.kept K2.out (by simp) (by simp)) (sncells_snoc HN.out), ((H.out.1.mono (by simp)).trans (K2.out.mono (by simp))).trans ((Kd.field H.out.2.2 (K2.out.keep H.out.2.1 (by simp)) 3 _).mono (by simp))⟩

theorem take_filter {S : List Sn} {k : Nat} {s : Sn} (f : Sn → Bool) (h : S[k]? = some s) : (S.take (k + 1)).filter f = (S.take k).filter f ++ if f s then [s] else [] := by
  rw [List.take_add_one, h, List.filter_append]
  congr 1
  cases hf : f s <;> simp [hf]

def notN (n : Int) (s : Sn) : Bool := decide (s.n ≠ n)

set_option maxHeartbeats 2000000 in
set_option maxRecDepth 100000 in
theorem refDrop_any (D : Nat → Prop) (rb : Nat) (y : Rf) (n : Int) (w : World) (hy : RefAt D rb y w) (hD : Opn D w) (ok : RfOk y) :
    Calls Tryz.prog 29 #[.pointer (some ⟨rb, 0, none⟩), .int .i64 n] w fun e w' =>
      ((y.S.filter (notN n)).length = y.S.length ∧ e = .returned (.int .i64 5) ∧ Below w.heap.size w w') ∨
      ((y.S.filter (notN n)).length ≠ y.S.length ∧ e = .returned (.int .i64 0) ∧ RefAt D rb { y with S := y.S.filter (notN n) } w' ∧ Kd D [85] w w') := by
  obtain ⟨vA, vS, vT, la, sy, hB, hs, hA, hS⟩ := hy
  obtain ⟨i0, hi, hz0, hz1, hz2⟩ := info_parts Tryz.info138
  have hl4 := ok.snaps
  obtain ⟨aoS, capS, rfl⟩ := slice_form hS.own
  have c3 : w.cell? ⟨rb, 3, none⟩ = some (.slice aoS y.S.length capS) := by simp [World.cell?, hs]
  have H : Hid (w.heap[rb]? = some (.cells #[vA, .int .i64 la, .int .i64 sy, .slice aoS y.S.length capS, .int .i64 y.num, vT] 85 (0, 0)) ∧ RAll D w vA y.A ∧ OwnsIn w D 138 2 (.slice aoS y.S.length capS) y.S.length (scells y.S) ∧ Opn D w ∧ D rb) := ⟨hs, hA, hS, hD, hB⟩
  have hrb : rb < w.heap.size := lt_of_block hs
  clear hs hA hS ok hD
  go_enter Tryz.func29, Tryz.ntmps29
  go_wp2
  go_loopg [5, 6] y.S.length (fun kx s5 s6 wr => ∃ (k : Nat) (T : List Sn), k ≤ y.S.length ∧ y.S.length - k ≤ kx ∧ s6 = .int .i64 k ∧ T.length ≤ k ∧ Hid (T = (y.S.take k).filter (notN n)) ∧ Hid (wr.ownsRow w.heap.size 138 2 s5 T.length (scells T)) ∧ Hid (Below w.heap.size w wr))
  case atStart => exact ⟨0, [], Nat.zero_le _, Nat.le_refl _, rfl, Nat.le_refl _, rfl, World.ownsRow_nil _ _ _ _, Below.refl _ _⟩
  case round =>
    obtain ⟨k, T, hk, hkx, rfl, hTk, HT, HO, HB⟩ := hrel
    have c3r := cell_later HB.out c3
    obtain ⟨aoT, capT, rfl⟩ := slice_form HO.out
    by_cases hlt : k < y.S.length
    · obtain ⟨g, cap', hv', hbg, hgl, hcap, hcell⟩ := row_cell (fun a => by rfl) H.out.2.2.1.own (by omega)
      simp only [Value.slice.injEq, true_and] at hv'
      obtain ⟨rfl, rfl⟩ := hv'
      obtain ⟨s, hs⟩ : ∃ s, y.S[k]? = some s := ⟨_, List.getElem?_eq_getElem hlt⟩
      have d0 := cell_later HB.out (show w.cell? ⟨g, k * 2, none⟩ = some (Value.int .i64 s.n) from hcell k s 0 hs (by omega))
      have d1 := cell_later HB.out (show w.cell? ⟨g, k * 2 + 1, none⟩ = some (Value.int .i64 s.q) from hcell k s 1 hs (by omega))
      have hgr : g < wr.heap.size := Nat.lt_of_lt_of_le hgl HB.out.size
      have HT2 : Hid ((y.S.take (k + 1)).filter (notN n) = T ++ if notN n s then [s] else []) := by show _ = _; rw [take_filter _ hs, HT.out]
      clear hs hcell
      by_cases hsn : s.n = n
      · have hnb : (s.n == n) = true := by simp [hsn]
        have HT3 : Hid (T = (y.S.take (k + 1)).filter (notN n)) := by show _ = _; rw [HT2.out]; simp [notN, hsn]
        go_wp2
        go_roundg (y.S.length - (k + 1))
        case measure => omega
        case rel => exact ⟨k + 1, T, by omega, Nat.le_refl _, by go_num, by omega, HT3.out, HO.out, HB.out⟩
      · have hnb : (s.n == n) = false := by simp [hsn]
        have HT3 : Hid (T ++ [s] = (y.S.take (k + 1)).filter (notN n)) := by show _ = _; rw [HT2.out]; simp [notN, hsn]
        have hsz := HB.out.size
        go_wp2_with (at_builtin; refine wpList_append_own _ rfl _ _ 83 rfl w.heap.size 138 i0 _ 2 16 Tryz.underlying83 hi hz0 hz1 hz2 rfl (by decide) _ _ _ rfl (HO.out.alloc _) ⟨wr.heap.size, 0, none⟩ 1 1 (Sn.cells s) rfl rfl ?c1 ?c2 ?c3 ?c4 ?c5 ?_)
        case c1 =>
          intro j u hj
          match j, hj with
          | 0, hj => simp [Sn.cells] at hj; subst hj; simp [Addr.add]
          | 1, hj => simp [Sn.cells] at hj; subst hj; simp [Addr.add]
          | j + 2, hj => simp [Sn.cells] at hj
        case c2 => intro u hu; simp [Sn.cells] at hu; rcases hu with rfl | rfl <;> rfl
        case c3 => unfold maxLen; omega
        case c4 => omega
        case c5 => simp; omega
        intro v9 w4 ho2 hg2 _
        have HB4 : Hid (Below w.heap.size w w4) := app_below HB.out HO.out hg2
        have HO4 : Hid (w4.ownsRow w.heap.size 138 2 v9 (T ++ [s]).length (scells (T ++ [s]))) := by
          have : scells (T ++ [s]) = scells T ++ Sn.cells s := by simp [scells]
          rw [this, List.length_append]; exact ho2
        clear ho2 hg2
        go_wp2
        go_roundg (y.S.length - (k + 1))
        case measure => omega
        case rel => exact ⟨k + 1, T ++ [s], by omega, Nat.le_refl _, by go_num, by simp; omega, HT3.out, HO4.out, HB4.out⟩
    · obtain rfl : k = y.S.length := by omega
      have HT3 : Hid (y.S.filter (notN n) = T) := by show _ = _; rw [HT.out, List.take_of_length_le (Nat.le_refl _)]
      by_cases hTl : T.length = y.S.length
      · have hd : ((T.length : Int) == (y.S.length : Int)) = true := by rw [beq_iff_eq]; omega
        have HT4 : Hid ((y.S.filter (notN n)).length = y.S.length) := by show _ = _; rw [HT3.out, hTl]
        clear hTl
        go_wp2
        go_ret
        exact .inl ⟨HT4.out, rfl, HB.out⟩
      · have hd : ((T.length : Int) == (y.S.length : Int)) = false := by rw [beq_eq_false_iff_ne]; omega
        have HT4 : Hid ((y.S.filter (notN n)).length ≠ y.S.length) := by show _ ≠ _; rw [HT3.out]; exact hTl
        have hsr : Hid (wr.heap[rb]? = some (.cells #[vA, .int .i64 la, .int .i64 sy, .slice aoS y.S.length capS, .int .i64 y.num, vT] 85 (0, 0))) := (HB.out.block rb hrb).trans H.out.1
        have f3 : wr.frozen? ⟨rb, 3, none⟩ = false := by simp [World.frozen?, hsr.out]
        have HR : Hid (RefAt D rb { y with S := y.S.filter (notN n), num := y.num } (wr.setCell ⟨rb, 3, none⟩ (.slice aoT T.length capT)) ∧ Kd D [85] w (wr.setCell ⟨rb, 3, none⟩ (.slice aoT T.length capT))) :=
          ⟨rput_snaps hsr.out H.out.2.2.2.2 (H.out.2.1.below HB.out) (by rw [HT3.out]; exact OwnsIn.fresh HO.out H.out.2.2.2.1 (Nat.le_refl _)), (Kd.of_below HB.out).trans (Kd.field H.out.2.2.2.2 hsr.out 3 _)⟩
        clear hTl
        go_wp2
        go_ret
        exact .inr ⟨HT4.out, rfl, HR.out⟩
end Go.Proofs.YtakipjofboipmaaGreatDoor
