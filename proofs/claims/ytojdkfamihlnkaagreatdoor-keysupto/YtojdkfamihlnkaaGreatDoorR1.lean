/- The walks of this proof: the document's store: the number that is asked, what is seen of a key, Get. -/
import Derived.Test.YtojdkfamihlnkaaGreatDoorV
namespace Go.Proofs.YtojdkfamihlnkaaGreatDoor
open Go.RowKit Go.Sort

/-- What the document's store holds: batches, snapshots, the number of the last one. -/
structure Rf where
  A : List (List Pr)
  S : List Sn
  num : Int

/-- Batches, each a row of D. -/
def AllAt (D : Nat → Prop) (w : World) (vA : Value) (A : List (List Pr)) : Prop :=
  ∃ Ws : List Value, OwnsIn w D 38 1 vA A.length Ws ∧ ∀ (i : Nat) (b : List Pr), A[i]? = some b → ∃ vi, Ws[i]? = some vi ∧ OwnsIn w D 57 3 vi b.length (pcells b)

/-- The document's store that lies in block rb. -/
def RefAt (D : Nat → Prop) (rb : Nat) (y : Rf) (w : World) : Prop :=
  ∃ (vA vS vT : Value) (la sy : Int), D rb ∧ w.heap[rb]? = some (.cells #[vA, .int .i64 la, .int .i64 sy, vS, .int .i64 y.num, vT] 84 (0, 0)) ∧
    AllAt D w vA y.A ∧ OwnsIn w D 133 2 vS y.S.length (scells y.S)

theorem AllAt.kept {D D' : Nat → Prop} {ts : List Nat} {w w' : World} {vA : Value} {A : List (List Pr)} (h : AllAt D w vA A) (k : Kd D' ts w w') (h1 : 38 ∉ ts) (h2 : 57 ∉ ts) : AllAt D w' vA A := by
  obtain ⟨Ws, h3, h4⟩ := h
  exact ⟨Ws, k.ownsIn h3 h1, fun i b hb => by obtain ⟨vi, h5, h6⟩ := h4 i b hb; exact ⟨vi, h5, k.ownsIn h6 h2⟩⟩

theorem OwnsIn.apart {D D' : Nat → Prop} {ts : List Nat} {w w' : World} {e : TypeId} {size : Nat} {v : Value} {n : Nat} {xs : List Value} (h : OwnsIn w D e size v n xs) (k : Kd D' ts w w') (hd : ∀ b, D b → b < w.heap.size → ¬ D' b) : OwnsIn w' D e size v n xs :=
  ⟨k.ownsN h.own fun g hg => hd g (h.dom g hg) (h.own.lt g hg).2, h.dom⟩

theorem AllAt.apart {D D' : Nat → Prop} {ts : List Nat} {w w' : World} {vA : Value} {A : List (List Pr)} (h : AllAt D w vA A) (k : Kd D' ts w w') (hd : ∀ b, D b → b < w.heap.size → ¬ D' b) : AllAt D w' vA A := by
  obtain ⟨Ws, h3, h4⟩ := h
  exact ⟨Ws, h3.apart k hd, fun i b hb => by obtain ⟨vi, h5, h6⟩ := h4 i b hb; exact ⟨vi, h5, h6.apart k hd⟩⟩

theorem RefAt.kept {D D' : Nat → Prop} {rb : Nat} {ts : List Nat} {y : Rf} {w w' : World} (h : RefAt D rb y w) (k : Kd D' ts w w') (h1 : 84 ∉ ts) (h2 : 38 ∉ ts) (h3 : 57 ∉ ts) (h4 : 133 ∉ ts) : RefAt D rb y w' := by
  obtain ⟨vA, vS, vT, la, sy, hB, hs, hA, hS⟩ := h
  exact ⟨vA, vS, vT, la, sy, hB, k.keep hs h1, hA.kept k h2 h3, k.ownsIn hS h4⟩

theorem RefAt.apart {D D' : Nat → Prop} {rb : Nat} {ts : List Nat} {y : Rf} {w w' : World} (h : RefAt D rb y w) (k : Kd D' ts w w') (hd : ∀ b, D b → b < w.heap.size → ¬ D' b) : RefAt D rb y w' := by
  obtain ⟨vA, vS, vT, la, sy, hB, hs, hA, hS⟩ := h
  exact ⟨vA, vS, vT, la, sy, hB, k.keepN hs (hd rb hB (lt_of_block hs)), hA.apart k hd, hS.apart k hd⟩

theorem RefAt.below {D : Nat → Prop} {rb : Nat} {y : Rf} {w w' : World} (h : RefAt D rb y w) (hb : Below w.heap.size w w') : RefAt D rb y w' :=
  h.kept (Kd.of_below (D := D) (ts := []) hb) (by simp) (by simp) (by simp) (by simp)

theorem AllAt.below {D : Nat → Prop} {w w' : World} {vA : Value} {A : List (List Pr)} (h : AllAt D w vA A) (hb : Below w.heap.size w w') : AllAt D w' vA A :=
  h.kept (Kd.of_below (D := D) (ts := []) hb) (by simp) (by simp)

/-- The cells of a batch. -/
theorem all_cells {D : Nat → Prop} {w : World} {vA : Value} {A : List (List Pr)} (h : AllAt D w vA A) {i : Nat} {b : List Pr} (hb : A[i]? = some b) :
    ∃ g cap vi ci, vA = .slice (some ⟨g, 0, none⟩) A.length cap ∧ g < w.heap.size ∧ w.cell? ⟨g, i, none⟩ = some (.slice vi b.length ci) ∧
      (0 < b.length → ∃ gi, vi = some ⟨gi, 0, none⟩ ∧ gi < w.heap.size ∧ ∀ (k : Nat) p, b[k]? = some p → w.cell? ⟨gi, k * 3, none⟩ = some (.string p.k) ∧ w.cell? ⟨gi, k * 3 + 1, none⟩ = some (.string p.v) ∧ w.cell? ⟨gi, k * 3 + 2, none⟩ = some (.bool p.g)) := by
  obtain ⟨Ws, h3, h4⟩ := h
  obtain ⟨vi, h5, h6⟩ := h4 i b hb
  have hA : 0 < A.length := by have := (List.getElem?_eq_some_iff.1 hb).1; omega
  have hWl : Ws.length = A.length := by have := h3.own.1; omega
  have e : Ws.flatMap (fun v => [v]) = Ws := by induction Ws <;> simp_all
  obtain ⟨g, cap, rfl, _, hgl, _, hcell⟩ := row_cell (f := fun v => [v]) (size := 1) (l := Ws) (fun a => rfl) (by rw [hWl, e]; exact h3.own) (by omega)
  have hc := hcell i vi 0 h5 (by omega)
  rw [hWl]
  obtain ⟨ao, ci, rfl⟩ := slice_form h6.own
  refine ⟨g, cap, ao, ci, rfl, hgl, by simpa using hc, fun hl => ?_⟩
  obtain ⟨gi, ci', hv, _, hgi, _, hce⟩ := pr_cells h6.own (Below.refl _ _) hl
  simp only [Value.slice.injEq, true_and] at hv
  obtain ⟨rfl, rfl⟩ := hv
  exact ⟨gi, rfl, hgi, hce⟩

def atVal : Option Int → Value
  | some q => .int .i64 q
  | none => .int .i64 (-1)

theorem snq_hit {S : List Sn} {n : Int} {k : Nat} {s : Sn} (hs : S[k]? = some s) (hn : s.n = n) (hno : ∀ j s', j < k → S[j]? = some s' → s'.n ≠ n) : snq S n = some s.q := by
  rw [snq_idx, sidx_hit hs hn hno]
  simp [hs]

theorem snq_none {S : List Sn} {n : Int} (hno : ∀ j s', j < S.length → S[j]? = some s' → s'.n ≠ n) : snq S n = none := by
  rw [snq_idx, sidx_none hno]
  rfl

set_option maxHeartbeats 1000000 in
theorem refAt_any (D : Nat → Prop) (rb : Nat) (y : Rf) (n : Int) (w : World) (hy : RefAt D rb y w) (h4 : y.S.length ≤ 4) :
    Calls Tryz.prog 53 #[.pointer (some ⟨rb, 0, none⟩), .int .i64 n] w fun e w' => e = .returned (atVal (seqOf y.S y.A.length n)) ∧ w' = w := by
  obtain ⟨vA, vS, vT, la, sy, hB, hs, hA, hS⟩ := hy
  obtain ⟨Ws, hW, _⟩ := hA
  obtain ⟨aoA, capA, rfl⟩ := slice_form hW.own
  obtain ⟨aoS, capS, rfl⟩ := slice_form hS.own
  have c0 : w.cell? ⟨rb, 0, none⟩ = some (.slice aoA y.A.length capA) := by simp [World.cell?, hs]
  have c3 : w.cell? ⟨rb, 3, none⟩ = some (.slice aoS y.S.length capS) := by simp [World.cell?, hs]
  have HS : Hid (OwnsIn w D 133 2 (.slice aoS y.S.length capS) y.S.length (scells y.S)) := hS
  clear hs hW hS
  unfold seqOf
  by_cases hn : n = 0
  · subst hn
    rw [if_pos rfl]
    go_enter Tryz.func53, Tryz.ntmps53
    go_wp2
    go_ret
    exact ⟨rfl, rfl⟩
  · have hnb : (n == 0) = false := by simp [hn]
    rw [if_neg hn]
    go_enter Tryz.func53, Tryz.ntmps53
    go_wp2
    go_loopw [5] (fun i wr => ∃ k : Nat, k ≤ y.S.length ∧ i = .int .i64 k ∧ wr = w ∧ Hid (∀ j s', j < k → y.S[j]? = some s' → s'.n ≠ n)) (fun i _ => y.S.length - (intOf i).toNat)
    case atStart => exact ⟨0, Nat.zero_le _, rfl, rfl, fun j s' h => absurd h (Nat.not_lt_zero _)⟩
    case round =>
      obtain ⟨k, hk, rfl, rfl, HN⟩ := hrel
      by_cases hlt : k < y.S.length
      · obtain ⟨g, cap', hv', hbg, hgl, hcap, hcell⟩ := row_cell (fun a => by rfl) HS.out.own (by omega)
        simp only [Value.slice.injEq, true_and] at hv'
        obtain ⟨rfl, rfl⟩ := hv'
        obtain ⟨s, hs⟩ : ∃ s, y.S[k]? = some s := ⟨_, List.getElem?_eq_getElem hlt⟩
        have d0 := show wr.cell? ⟨g, k * 2, none⟩ = some (Value.int .i64 s.n) from hcell k s 0 hs (by omega)
        have d1 := show wr.cell? ⟨g, k * 2 + 1, none⟩ = some (Value.int .i64 s.q) from hcell k s 1 hs (by omega)
        have HE : Hid (y.S[k]? = some s) := hs
        clear hs hcell
        by_cases hsn : s.n = n
        · have hfin : Hid (snq y.S n = some s.q) := snq_hit HE.out hsn HN.out
          have hnb : (s.n == n) = true := by simp [hsn]
          go_wp2
          go_ret
          exact ⟨by rw [hfin.out]; rfl, rfl⟩
        · have hnb : (s.n == n) = false := by simp [hsn]
          go_wp2
          go_roundw
          case rel => exact ⟨k + 1, by omega, by go_num, by first | rfl | trivial, fun j s' hj hs' => by
            rcases Nat.lt_succ_iff_lt_or_eq.1 hj with h | rfl
            · exact HN.out j s' h hs'
            · rw [HE.out] at hs'; cases hs'; exact hsn⟩
          case measure => simp [intOf]; omega
      · obtain rfl : k = y.S.length := by omega
        have hfin : Hid (snq y.S n = none) := snq_none HN.out
        go_wp2
        go_ret
        exact ⟨by rw [hfin.out]; rfl, rfl⟩

/-- What seen answers. -/
def seenAns (A : List (List Pr)) (k : ByteArray) (n : Nat) : ByteArray × Bool :=
  match val A k n with
  | some p => (p.v, !p.g)
  | none => (⟨#[]⟩, false)

def accOf (o : Option Pr) : ByteArray × Bool :=
  match o with
  | some p => (p.v, !p.g)
  | none => (⟨#[]⟩, false)

/-- What the first i batches, and of the next one the first r pairs, make of a key. -/
def valUp (A : List (List Pr)) (k : ByteArray) (i : Nat) (b : List Pr) (r : Nat) : Option Pr :=
  match lastP (b.take r) k with
  | some p => some p
  | none => val A k i

set_option maxHeartbeats 1000000 in
set_option maxRecDepth 100000 in
theorem refSeen_any (D : Nat → Prop) (rb : Nat) (y : Rf) (k : ByteArray) (n : Nat) (w : World) (hy : RefAt D rb y w) (hn : n ≤ y.A.length) (hA : y.A.length < 100000000) (hb : ∀ b ∈ y.A, b.length ≤ 4) :
    Calls Tryz.prog 54 #[.pointer (some ⟨rb, 0, none⟩), .string k, .int .i64 n] w fun e w' => e = .returned (.tuple #[.string (seenAns y.A k n).1, .bool (seenAns y.A k n).2]) ∧ Below w.heap.size w w' := by
  obtain ⟨vA, vS, vT, la, sy, hB, hs, hall, _⟩ := hy
  have c0 : w.cell? ⟨rb, 0, none⟩ = some vA := by simp [World.cell?, hs]
  have hbl : rb < w.heap.size := lt_of_block hs
  have HALL : Hid (AllAt D w vA y.A) := hall
  have HB4 : Hid (∀ b ∈ y.A, b.length ≤ 4) := hb
  clear hall hs hb
  go_enter Tryz.func54, Tryz.ntmps54
  go_wp2
  go_loopg [8, 9, 10, 11, 12] n (fun kx s8 s9 s10 s11 s12 wr => ∃ i : Nat, i ≤ n ∧ n - i ≤ kx ∧ s10 = .int .i64 i ∧ s8 = .string (accOf (val y.A k i)).1 ∧ s9 = .bool (accOf (val y.A k i)).2 ∧ Hid (Below w.heap.size w wr))
  case atStart => exact ⟨0, Nat.zero_le _, Nat.le_refl _, rfl, rfl, rfl, Below.refl _ _⟩
  case round =>
    obtain ⟨i, hin, hik, rfl, rfl, rfl, HB⟩ := hrel
    by_cases hlt : i < n
    · obtain ⟨b, hbi⟩ : ∃ b, y.A[i]? = some b := ⟨_, List.getElem?_eq_getElem (by omega)⟩
      have hb4 := HB4.out b (List.mem_of_getElem? hbi)
      obtain ⟨g, cap, vi, ci, rfl, hgl, cg, hce⟩ := all_cells HALL.out hbi
      have HCE : Hid _ := hce
      have HBI : Hid (y.A[i]? = some b) := hbi
      have c0' := cell_later HB.out c0
      clear hce hbi
      go_wp2
      go_loopg [8, 9, 11, 12] b.length (fun kx s8 s9 s11 s12 wx => ∃ r : Nat, r ≤ b.length ∧ b.length - r ≤ kx ∧ s11 = .int .i64 r ∧ s8 = .string (accOf (valUp y.A k i b r)).1 ∧ s9 = .bool (accOf (valUp y.A k i b r)).2 ∧ Hid (Below w.heap.size w wx))
      case atStart => exact ⟨0, Nat.zero_le _, by omega, rfl, by simp [valUp, lastP], by simp [valUp, lastP], HB.out⟩
      case round =>
        obtain ⟨r, hrb, hrk, rfl, rfl, rfl, HBx⟩ := hrel
        have c0x := cell_later HBx.out c0
        have cgx := cell_later HBx.out cg
        by_cases hrlt : r < b.length
        · obtain ⟨gi, rfl, hgil, hce⟩ := HCE.out (by omega)
          obtain ⟨p, hp⟩ : ∃ p, b[r]? = some p := ⟨_, List.getElem?_eq_getElem hrlt⟩
          obtain ⟨d0, d1, d2⟩ := hce r p hp
          have d0 := cell_later HBx.out d0
          have d1 := cell_later HBx.out d1
          have d2 := cell_later HBx.out d2
          have HT : Hid (valUp y.A k i b (r + 1) = if p.k = k then some p else valUp y.A k i b r) := by
            show _ = _
            unfold valUp
            rw [lastP_take k hp]
            by_cases h : p.k = k <;> simp [h]
          have hgx : gi < wr.heap.size := Nat.lt_of_lt_of_le hgil HBx.out.size
          have HF : Hid (Below w.heap.size w (wr.alloc (.cells #[.string p.k, .string p.v, .bool p.g] 57))) := HBx.out.alloc HBx.out.size _
          clear hce hp
          by_cases hk : p.k = k
          · subst hk
            go_wp2
            go_region
            all_goals (
              go_wp2
              go_roundg (b.length - (r + 1))
              case measure => omega
              case rel => exact ⟨r + 1, by omega, Nat.le_refl _, by go_num, by rw [HT.out]; simp [accOf], by rw [HT.out]; simp [accOf], by exact HF.out.drew⟩)
          · have hnb := str_ne hk
            go_wp2
            go_roundg (b.length - (r + 1))
            case measure => omega
            case rel => exact ⟨r + 1, by omega, Nat.le_refl _, by go_num, by rw [HT.out, if_neg hk], by rw [HT.out, if_neg hk], HF.out⟩
        · obtain rfl : r = b.length := by omega
          have HE : Hid (valUp y.A k i b b.length = val y.A k (i + 1)) := by
            show _ = _
            unfold valUp
            rw [val_succ HBI.out, List.take_of_length_le (Nat.le_refl _)]
            rfl
          go_wp2
          go_roundg (n - (i + 1))
          case measure => omega
          case rel => exact ⟨i + 1, by omega, Nat.le_refl _, by go_num, by rw [HE.out], by rw [HE.out], HBx.out⟩
    · obtain rfl : i = n := by omega
      go_wp2
      go_ret2
      exact ⟨rfl, HB.out⟩

/-- What Get answers, by the document. -/
def rgetVal (y : Rf) (k : ByteArray) (n : Int) : Value :=
  if 1 ≤ k.size ∧ k.size ≤ 6 then
    match seqOf y.S y.A.length n with
    | none => .tuple #[.string ⟨#[]⟩, .int .i64 5]
    | some q => match vk y.A k q.toNat with
      | some v => .tuple #[.string v, .int .i64 0]
      | none => .tuple #[.string ⟨#[]⟩, .int .i64 6]
  else .tuple #[.string ⟨#[]⟩, .int .i64 1]

/-- What is true of the document's store. -/
structure RfOk (y : Rf) : Prop where
  snaps : y.S.length ≤ 4
  few : y.A.length < 100000000
  four : ∀ b ∈ y.A, b.length ≤ 4
  ats : ∀ s ∈ y.S, 0 ≤ s.q ∧ s.q ≤ y.A.length

theorem seqOf_le {y : Rf} (ok : RfOk y) {n q : Int} (h : seqOf y.S y.A.length n = some q) : 0 ≤ q ∧ q.toNat ≤ y.A.length := by
  unfold seqOf at h
  split at h
  · cases h; omega
  · unfold snq at h
    cases hf : y.S.find? fun s => decide (s.n = n) with
    | none => rw [hf] at h; cases h
    | some s =>
      rw [hf] at h
      simp only [Option.map_some, Option.some.injEq] at h
      have := ok.ats s (List.mem_of_find?_eq_some hf)
      omega

set_option maxHeartbeats 1000000 in
theorem refGet_any (D : Nat → Prop) (rb : Nat) (y : Rf) (k : ByteArray) (n : Int) (w : World) (hy : RefAt D rb y w) (ok : RfOk y) (hk : k.size ≤ maxLen) :
    Calls Tryz.prog 21 #[.pointer (some ⟨rb, 0, none⟩), .string k, .int .i64 n] w fun e w' => e = .returned (rgetVal y k n) ∧ Below w.heap.size w w' := by
  have hat := refAt_any D rb y n w hy ok.snaps
  have hq := @seqOf_le y ok n
  unfold maxLen at hk
  have HSN : Hid (∀ q, q ≤ y.A.length → Calls Tryz.prog 54 #[.pointer (some ⟨rb, 0, none⟩), .string k, .int .i64 q] w fun e w' => e = .returned (.tuple #[.string (seenAns y.A k q).1, .bool (seenAns y.A k q).2]) ∧ Below w.heap.size w w') := fun q hq => refSeen_any D rb y k q w hy hq ok.few ok.four
  unfold rgetVal
  generalize seqOf y.S y.A.length n = r at hat hq
  have HAT : Hid _ := hat
  clear hat hy ok
  by_cases hkk : 1 ≤ k.size ∧ k.size ≤ 6
  · obtain ⟨h1, h6⟩ := hkk
    rw [if_pos ⟨h1, h6⟩]
    cases r with
    | none =>
      go_enter Tryz.func21, Tryz.ntmps21
      go_wp2_with fail
      refine Calls.mono HAT.out ?_
      rintro e w1 ⟨rfl, rfl⟩
      unfold atVal
      go_wp2
      go_ret2
      exact ⟨rfl, Below.refl _ _⟩
    | some q =>
      obtain ⟨h0, hqn⟩ := hq rfl
      obtain ⟨m, rfl⟩ : ∃ m : Nat, q = m := ⟨q.toNat, by omega⟩
      have HS : Hid _ := HSN.out m (by omega)
      simp only [Int.toNat_natCast]
      have HV : Hid (vk y.A k m = if (seenAns y.A k m).2 then some (seenAns y.A k m).1 else none) := by
        show _ = _
        unfold vk seenAns
        cases val y.A k m with
        | none => rfl
        | some p => cases hg : p.g <;> simp [hg]
      generalize seenAns y.A k m = sa at HS HV
      obtain ⟨sv, sb⟩ := sa
      simp only at HS HV
      rw [HV.out]
      clear hq HSN
      cases sb with
      | true =>
        go_enter Tryz.func21, Tryz.ntmps21
        go_wp2_with fail
        refine Calls.mono HAT.out ?_
        rintro e w1 ⟨rfl, rfl⟩
        unfold atVal
        go_wp2_with fail
        refine Calls.mono HS.out ?_
        rintro e w2 ⟨rfl, hb⟩
        have HB : Hid (Below w1.heap.size w1 w2) := hb
        clear hb
        go_wp2
        go_ret2
        exact ⟨rfl, HB.out⟩
      | false =>
        go_enter Tryz.func21, Tryz.ntmps21
        go_wp2_with fail
        refine Calls.mono HAT.out ?_
        rintro e w1 ⟨rfl, rfl⟩
        unfold atVal
        go_wp2_with fail
        refine Calls.mono HS.out ?_
        rintro e w2 ⟨rfl, hb⟩
        have HB : Hid (Below w1.heap.size w1 w2) := hb
        clear hb
        go_wp2
        go_ret2
        exact ⟨rfl, HB.out⟩
  · rw [if_neg hkk]
    clear HSN hq
    obtain ⟨qv, hqv⟩ : ∃ qv : Int, atVal r = .int .i64 qv := by cases r <;> exact ⟨_, rfl⟩
    rw [hqv] at HAT
    by_cases h1 : k.size < 1
    · go_enter Tryz.func21, Tryz.ntmps21
      go_wp2_with fail
      refine Calls.mono HAT.out ?_
      rintro e w1 ⟨rfl, rfl⟩
      go_wp2
      go_ret2
      exact ⟨rfl, Below.refl _ _⟩
    · have h6 : 6 < k.size := by omega
      go_enter Tryz.func21, Tryz.ntmps21
      go_wp2_with fail
      refine Calls.mono HAT.out ?_
      rintro e w1 ⟨rfl, rfl⟩
      go_wp2
      go_ret2
      exact ⟨rfl, Below.refl _ _⟩
end Go.Proofs.YtojdkfamihlnkaaGreatDoor
