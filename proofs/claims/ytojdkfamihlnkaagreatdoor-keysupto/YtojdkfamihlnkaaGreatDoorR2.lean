/- The walks of this proof: the document's store: the next key, Scan. -/
import Derived.Test.YtojdkfamihlnkaaGreatDoorR1
namespace Go.Proofs.YtojdkfamihlnkaaGreatDoor
open Go.RowKit Go.Sort

theorem bytesLess_cb : ∀ x y : List UInt8, Op.bytesLess x y = decide (Lib.compareBytes x y < 0)
  | [], [] => by simp [Op.bytesLess, Lib.compareBytes]
  | [], _ :: _ => by simp [Op.bytesLess, Lib.compareBytes]
  | _ :: _, [] => by simp [Op.bytesLess, Lib.compareBytes]
  | a :: x, b :: y => by
    unfold Op.bytesLess Lib.compareBytes
    by_cases h1 : a < b
    · simp [h1]
    · by_cases h2 : b < a
      · have h3 : a ≠ b := fun e => by subst e; exact h1 h2
        simp [h1, h2, h3]
      · have h3 : a = b := UInt8.le_antisymm (UInt8.not_lt.1 h2) (UInt8.not_lt.1 h1)
        simp [h3, bytesLess_cb x y]

/-- Go's '<' on strings, as the walk writes it. -/
theorem str_lt (a b : ByteArray) : Op.bytesLess a.toList b.toList = decide (kc a b < 0) := by
  rw [bytesLess_cb, ByteArray.toList_eq, ByteArray.toList_eq]; rfl

theorem str_gt (a b : ByteArray) : (!(Op.bytesLess a.toList b.toList || a.toList == b.toList)) = decide (kc b a < 0) := by
  rw [str_lt]
  by_cases h : a = b
  · subst h
    simp [kc_self]
  · rw [str_ne h, kc_neg a b]
    have : kc a b ≠ 0 := fun e => h (kc_zero e)
    by_cases h2 : kc a b < 0
    · simp [h2]; omega
    · simp [h2]; omega

/-- A key that next may tell. -/
def Above (key : ByteArray) (it : Bool) (k : ByteArray) : Prop := kc key k < 0 ∨ (it = true ∧ k = key)

/-- The least of keys that next may tell. -/
def IsNext (ks : ByteArray → Prop) (key : ByteArray) (it : Bool) : Option ByteArray → Prop
  | none => ∀ k, ks k → ¬ Above key it k
  | some x => ks x ∧ Above key it x ∧ ∀ k, ks k → Above key it k → 0 ≤ kc k x

/-- The keys of the first i batches, and of the next one the first r pairs. -/
def KeysUp (A : List (List Pr)) (i : Nat) (b : List Pr) (r : Nat) (k : ByteArray) : Prop := (∃ (j : Nat) (c : List Pr) (p : Pr), j < i ∧ A[j]? = some c ∧ p ∈ c ∧ p.k = k) ∨ ∃ p ∈ b.take r, p.k = k

def KeysOf (A : List (List Pr)) (k : ByteArray) : Prop := ∃ b ∈ A, ∃ p ∈ b, p.k = k

theorem next_skip {ks ks' : ByteArray → Prop} {key : ByteArray} {it : Bool} {o : Option ByteArray} {x : ByteArray} (h : IsNext ks key it o) (hk : ∀ k, ks' k ↔ ks k ∨ k = x) (hn : ¬ (Above key it x ∧ ∀ y, o = some y → kc x y < 0)) : IsNext ks' key it o := by
  cases o with
  | none =>
    intro k hk' ha
    rcases (hk k).1 hk' with h1 | rfl
    · exact h k h1 ha
    · exact hn ⟨ha, fun y hy => by cases hy⟩
  | some y =>
    obtain ⟨h1, h2, h3⟩ := h
    refine ⟨(hk y).2 (.inl h1), h2, fun k hk' ha => ?_⟩
    rcases (hk k).1 hk' with h4 | rfl
    · exact h3 k h4 ha
    · exact Int.not_lt.1 fun hlt => hn ⟨ha, fun y' hy => by cases hy; exact hlt⟩

theorem next_take {ks ks' : ByteArray → Prop} {key : ByteArray} {it : Bool} {o : Option ByteArray} {x : ByteArray} (h : IsNext ks key it o) (hk : ∀ k, ks' k ↔ ks k ∨ k = x) (ha : Above key it x) (hn : ∀ y, o = some y → kc x y < 0) : IsNext ks' key it (some x) := by
  refine ⟨(hk x).2 (.inr rfl), ha, fun k hk' hak => ?_⟩
  rcases (hk k).1 hk' with h1 | rfl
  · cases o with
    | none => exact absurd hak (h k h1)
    | some y =>
      have h2 := h.2.2 k h1 hak
      have h3 := hn y rfl
      refine Int.not_lt.1 fun hlt => ?_
      have := kc_trans hlt h3
      omega
  · rw [kc_self]; omega

theorem next_congr {ks ks' : ByteArray → Prop} {key : ByteArray} {it : Bool} {o : Option ByteArray} (h : IsNext ks key it o) (hk : ∀ k, ks' k ↔ ks k) : IsNext ks' key it o := by
  have : ks' = ks := funext fun k => propext (hk k)
  rw [this]; exact h

theorem keysUp_succ {A : List (List Pr)} {i : Nat} {b : List Pr} {r : Nat} {p : Pr} (hp : b[r]? = some p) (k : ByteArray) : KeysUp A i b (r + 1) k ↔ KeysUp A i b r k ∨ k = p.k := by
  unfold KeysUp
  rw [List.take_add_one, hp]
  simp only [Option.toList_some, List.mem_append, List.mem_singleton]
  constructor
  · rintro (h | ⟨q, h | rfl, rfl⟩)
    · exact .inl (.inl h)
    · exact .inl (.inr ⟨q, h, rfl⟩)
    · exact .inr rfl
  · rintro ((h | ⟨q, h, rfl⟩) | rfl)
    · exact .inl h
    · exact .inr ⟨q, .inl h, rfl⟩
    · exact .inr ⟨p, .inr rfl, rfl⟩

theorem keysUp_next {A : List (List Pr)} {i : Nat} {b : List Pr} (hb : A[i]? = some b) (c : List Pr) (k : ByteArray) : KeysUp A (i + 1) c 0 k ↔ KeysUp A i b b.length k := by
  unfold KeysUp
  rw [List.take_of_length_le (Nat.le_refl _)]
  simp only [List.take_zero, List.not_mem_nil, false_and, exists_false, or_false]
  constructor
  · rintro ⟨j, c, p, h1, h2, h3, h4⟩
    rcases Nat.lt_succ_iff_lt_or_eq.1 h1 with h | rfl
    · exact .inl ⟨j, c, p, h, h2, h3, h4⟩
    · rw [hb] at h2; cases h2; exact .inr ⟨p, h3, h4⟩
  · rintro (⟨j, c, p, h1, h2, h3, h4⟩ | ⟨p, h3, h4⟩)
    · exact ⟨j, c, p, by omega, h2, h3, h4⟩
    · exact ⟨i, b, p, by omega, hb, h3, h4⟩

theorem keysUp_all {A : List (List Pr)} {n : Nat} (hn : n = A.length) (c : List Pr) (k : ByteArray) : KeysOf A k ↔ KeysUp A n c 0 k := by
  subst hn
  unfold KeysUp KeysOf
  simp only [List.take_zero, List.not_mem_nil, false_and, exists_false, or_false]
  constructor
  · rintro ⟨b, hb, p, hp, h⟩
    obtain ⟨j, hj, rfl⟩ := List.getElem_of_mem hb
    exact ⟨j, _, p, hj, List.getElem?_eq_getElem hj, hp, h⟩
  · rintro ⟨j, c, p, _, h2, h3, h4⟩
    exact ⟨c, List.mem_of_getElem? h2, p, h3, h4⟩

def oVal (o : Option ByteArray) : ByteArray := o.getD ⟨#[]⟩

set_option maxHeartbeats 1000000 in
set_option maxRecDepth 100000 in
theorem refNext_any (D : Nat → Prop) (rb : Nat) (y : Rf) (key : ByteArray) (it : Bool) (w : World) (hy : RefAt D rb y w) (hA : y.A.length < 100000000) (hb : ∀ b ∈ y.A, b.length ≤ 4) :
    Calls Tryz.prog 85 #[.pointer (some ⟨rb, 0, none⟩), .string key, .bool it] w fun e w' => ∃ o : Option ByteArray, e = .returned (.tuple #[.string (oVal o), .bool o.isSome]) ∧ IsNext (KeysOf y.A) key it o ∧ w' = w := by
  obtain ⟨vA, vS, vT, la, sy, hB, hs, hall, _⟩ := hy
  have c0 : w.cell? ⟨rb, 0, none⟩ = some vA := by simp [World.cell?, hs]
  have HALL : Hid (AllAt D w vA y.A) := hall
  obtain ⟨Ws, hW, _⟩ := hall
  obtain ⟨aoA, capA, rfl⟩ := slice_form hW.own
  have HB4 : Hid (∀ b ∈ y.A, b.length ≤ 4) := hb
  clear hs hb hW
  go_enter Tryz.func85, Tryz.ntmps85
  go_wp2
  go_loopg [8, 9, 10, 11, 12] y.A.length (fun kx s8 s9 s10 s11 s12 wr => ∃ (i : Nat) (o : Option ByteArray), i ≤ y.A.length ∧ y.A.length - i ≤ kx ∧ s10 = .int .i64 i ∧ s8 = .string (oVal o) ∧ s9 = .bool o.isSome ∧ wr = w ∧ Hid (IsNext (KeysUp y.A i [] 0) key it o))
  case atStart => exact ⟨0, none, Nat.zero_le _, Nat.le_refl _, rfl, rfl, rfl, rfl, fun k hk => by
    rcases hk with ⟨j, c, p, h, _⟩ | ⟨p, h, _⟩
    · exact absurd h (Nat.not_lt_zero _)
    · simp at h⟩
  case round =>
    obtain ⟨i, o, hin, hik, rfl, rfl, rfl, rfl, HI⟩ := hrel
    by_cases hlt : i < y.A.length
    · obtain ⟨b, hbi⟩ : ∃ b, y.A[i]? = some b := ⟨_, List.getElem?_eq_getElem (by omega)⟩
      have hb4 := HB4.out b (List.mem_of_getElem? hbi)
      obtain ⟨g, cap, vi, ci, hv, hgl, cg, hce⟩ := all_cells HALL.out hbi
      simp only [Value.slice.injEq, true_and] at hv
      obtain ⟨rfl, rfl⟩ := hv
      have HCE : Hid _ := hce
      have HBI : Hid (y.A[i]? = some b) := hbi
      have HI0 : Hid (IsNext (KeysUp y.A i b 0) key it o) := next_congr HI.out fun k => by unfold KeysUp; simp
      clear hce hbi
      go_wp2
      go_loopg [8, 9, 11, 12] b.length (fun kx s8 s9 s11 s12 wx => ∃ (r : Nat) (o : Option ByteArray), r ≤ b.length ∧ b.length - r ≤ kx ∧ s11 = .int .i64 r ∧ s8 = .string (oVal o) ∧ s9 = .bool o.isSome ∧ wx = wr ∧ Hid (IsNext (KeysUp y.A i b r) key it o))
      case atStart => exact ⟨0, o, Nat.zero_le _, by omega, rfl, rfl, rfl, rfl, HI0.out⟩
      case round =>
        clear HI HI0
        obtain ⟨r, o, hrb, hrk, rfl, rfl, rfl, rfl, HI⟩ := hrel
        by_cases hrlt : r < b.length
        · obtain ⟨gi, rfl, hgil, hce⟩ := HCE.out (by omega)
          obtain ⟨p, hp⟩ : ∃ p, b[r]? = some p := ⟨_, List.getElem?_eq_getElem hrlt⟩
          obtain ⟨d0, d1, d2⟩ := hce r p hp
          have HP : Hid (b[r]? = some p) := hp
          clear hce hp
          have e2 := str_lt p.k (oVal o)
          have e1 := str_lt p.k key
          have HA : Hid (Above key it p.k ↔ kc key p.k < 0 ∨ (it = true ∧ p.k = key)) := Iff.rfl
          have hcase : (kc p.k key < 0 ∧ (p.k.toList == key.toList) = false ∧ (Above key it p.k ↔ False)) ∨ (p.k = key ∧ (Above key it p.k ↔ it = true)) ∨ (¬ kc p.k key < 0 ∧ (p.k.toList == key.toList) = false ∧ (Above key it p.k ↔ True)) := by
            have hneg := kc_neg p.k key
            by_cases he : p.k = key
            · refine .inr (.inl ⟨he, ?_⟩)
              rw [HA.out, he, kc_self]
              simp
            · have h0 : kc p.k key ≠ 0 := fun h => he (kc_zero h)
              by_cases hl : kc p.k key < 0
              · exact .inl ⟨hl, str_ne he, by rw [HA.out]; simp [he]; omega⟩
              · exact .inr (.inr ⟨hl, str_ne he, by rw [HA.out]; simp [he]; omega⟩)
          have hless : (∃ x, o = some x ∧ ((kc p.k x < 0 ∧ ((∀ y, o = some y → kc p.k y < 0) ↔ True)) ∨ (¬ kc p.k x < 0 ∧ ((∀ y, o = some y → kc p.k y < 0) ↔ False)))) ∨ (o = none ∧ ((∀ y, o = some y → kc p.k y < 0) ↔ True)) := by
            cases o with
            | none => exact .inr ⟨rfl, by simp⟩
            | some x =>
              refine .inl ⟨x, rfl, ?_⟩
              by_cases h : kc p.k x < 0
              · exact .inl ⟨h, by simp [h]⟩
              · exact .inr ⟨h, by simp; omega⟩
          clear HA
          rcases hless with ⟨x, rfl, ⟨hx, hl⟩ | ⟨hx, hl⟩⟩ | ⟨rfl, hl⟩ <;> rcases hcase with ⟨hk, hke, ha⟩ | ⟨hk, ha⟩ | ⟨hk, hke, ha⟩
          all_goals (
            have HL : Hid _ := hl
            have HA : Hid _ := ha
            clear hl ha
            first | (subst hk; have hke := str_same p.k; rw [kc_self] at e1; simp only [Int.lt_irrefl, decide_false] at e1) | simp only [hk, decide_true, decide_false] at e1
            try replace e2 : Op.bytesLess p.k.toList (oVal (some x)).toList = decide (kc p.k x < 0) := e2
            try simp only [hx, decide_true, decide_false] at e2
            cases it <;> (
              go_wp2
              go_roundg (b.length - (r + 1))
              case measure => omega
              case rel => first
                | exact ⟨r + 1, some p.k, by omega, Nat.le_refl _, by go_num, rfl, rfl, rfl, next_take HI.out (keysUp_succ HP.out) (HA.out.2 (by trivial)) (HL.out.2 (by trivial))⟩
                | exact ⟨r + 1, _, by omega, Nat.le_refl _, by go_num, rfl, rfl, rfl, next_skip HI.out (keysUp_succ HP.out) (fun h => by have := HA.out.1 h.1; simp at this)⟩
                | exact ⟨r + 1, _, by omega, Nat.le_refl _, by go_num, rfl, rfl, rfl, next_skip HI.out (keysUp_succ HP.out) (fun h => by have := HL.out.1 h.2; simp at this)⟩))
        · obtain rfl : r = b.length := by omega
          have HI2 : Hid (IsNext (KeysUp y.A (i + 1) [] 0) key it o) := next_congr HI.out fun k => keysUp_next HBI.out [] k
          go_wp2
          go_roundg (y.A.length - (i + 1))
          case measure => omega
          case rel => exact ⟨i + 1, o, by omega, Nat.le_refl _, by go_num, rfl, rfl, rfl, HI2.out⟩
    · obtain rfl : i = y.A.length := by omega
      have HI2 : Hid (IsNext (KeysOf y.A) key it o) := next_congr HI.out fun k => keysUp_all rfl [] k
      go_wp2
      go_ret2
      exact ⟨o, rfl, HI2.out, rfl⟩
end Go.Proofs.YtojdkfamihlnkaaGreatDoor
