/- The walks of this proof, for later statements: the document's order of entries. -/
import Derived.Test.YtakipjofboipmaaGreatDoorJ19
import Derived.Test.YtakipjofboipmaaGreatDoorJ4
namespace Go.Proofs.YtakipjofboipmaaGreatDoor
open Go.RowKit Go.Sort

/-- Does an entry stand ahead of another one? -/
def eltB (a b : En) : Bool := decide (oc a.k a.s b.k b.s < 0)

theorem eltB_iff {a b : En} : eltB a b = true ↔ elt a b := by unfold eltB elt; exact decide_eq_true_iff

/-- In an ordered list the number of those ahead of an entry is its place. -/
theorem count_place : ∀ {O : List En} (_ : Sorted O) {j : Nat} {e : En}, O[j]? = some e → (O.countP fun x => eltB x e) = j
  | [], _, _, _, h => by simp at h
  | a :: O, hs, 0, e, h => by
    simp at h
    subst h
    obtain ⟨h1, _⟩ := List.pairwise_cons.1 hs
    rw [List.countP_cons, if_neg (fun h => elt_irrefl a (eltB_iff.1 h))]
    rw [List.countP_eq_zero.2]
    intro x hx hxa
    have := oc_trans (h1 x hx) (eltB_iff.1 hxa)
    exact elt_irrefl a this
  | a :: O, hs, j + 1, e, h => by
    simp at h
    obtain ⟨h1, h2⟩ := List.pairwise_cons.1 hs
    rw [List.countP_cons, count_place h2 h, if_pos (eltB_iff.2 (h1 e (List.mem_of_getElem? h)))]

set_option maxHeartbeats 1000000 in
theorem before_any (a b : En) (w : World) : Calls Tryz.prog 167 #[a.val, b.val] w fun e w' => e = .returned (.bool (eltB a b)) ∧ Below w.heap.size w w' := by
  obtain ⟨k1, s1, g1, v1⟩ := a
  obtain ⟨k2, s2, g2, v2⟩ := b
  have hB : Hid (Below w.heap.size w ((w.alloc (.cells #[.string k1, .int .i64 s1, .bool g1, .string v1] 61)).alloc (.cells #[.string k2, .int .i64 s2, .bool g2, .string v2] 61))) := ((Below.refl _ _).alloc (Nat.le_refl _) _).alloc (by simp) _
  have e1 := str_lt k1 k2
  unfold En.val
  simp only
  by_cases h : kc k1 k2 < 0
  · have he : eltB ⟨k1, s1, g1, v1⟩ ⟨k2, s2, g2, v2⟩ = true := eltB_iff.2 (oc_lt.2 (.inl h))
    rw [he]
    simp only [h, decide_true] at e1
    clear h he
    go_enter Tryz.func167, Tryz.ntmps167
    go_wp2
    go_ret
    exact ⟨rfl, hB.out⟩
  · simp only [h, decide_false] at e1
    by_cases hk : k1 = k2
    · have he : eltB ⟨k1, s1, g1, v1⟩ ⟨k2, s2, g2, v2⟩ = decide (s2 < s1) := by
        unfold eltB
        simp only [decide_eq_decide, oc_lt]
        exact ⟨fun h' => h'.elim (fun h2 => absurd h2 h) (fun h2 => h2.2), fun h' => .inr ⟨hk, h'⟩⟩
      rw [he]
      subst hk
      have e2 := str_same k1
      clear h he
      go_enter Tryz.func167, Tryz.ntmps167
      go_wp2
      go_ret
      exact ⟨rfl, hB.out⟩
    · have he : eltB ⟨k1, s1, g1, v1⟩ ⟨k2, s2, g2, v2⟩ = false := Bool.eq_false_iff.2 (fun h' => by
        have h' := eltB_iff.1 h'
        unfold elt at h'
        rcases oc_lt.1 h' with h1 | h1
        · exact h h1
        · exact hk h1.1)
      rw [he]
      have e2 := str_ne hk
      clear h hk he
      go_enter Tryz.func167, Tryz.ntmps167
      go_wp2
      go_ret
      exact ⟨rfl, hB.out⟩

theorem before_in (a b : En) (w : World) (d : Nat) (os : Array Obj) :
    Calls Tryz.prog 167 #[.agg #[.string a.k, .int .i64 a.s, .bool a.g, .string a.v], .agg #[.string b.k, .int .i64 b.s, .bool b.g, .string b.v]] (grow (redrawn w d) os) fun e w'' => e = .returned (.bool (eltB a b)) ∧ ∃ p : Regrown, w'' = grow (redrawn w p.d) p.os :=
  Calls.regrown_of (before_any a b _)

/-- How many stand ahead of an entry. -/
def posE (l : List En) (e : En) : Nat := l.countP fun x => eltB x e

def put4 (X : List Value) (p : Nat) (e : En) : List Value := (((X.set (p * 4) (.string e.k)).set (p * 4 + 1) (.int .i64 e.s)).set (p * 4 + 2) (.bool e.g)).set (p * 4 + 3) (.string e.v)

theorem put4_len (X : List Value) (p : Nat) (e : En) : (put4 X p e).length = X.length := by simp [put4]

theorem put4_same {X : List Value} {p : Nat} {e : En} (h : p * 4 + 3 < X.length) {f : Nat} (hf : f < 4) : (put4 X p e)[p * 4 + f]? = (En.cells e)[f]? := by
  unfold put4
  have hc : f = 0 ∨ f = 1 ∨ f = 2 ∨ f = 3 := by omega
  rcases hc with rfl | rfl | rfl | rfl
  · rw [List.getElem?_set_ne (by omega), List.getElem?_set_ne (by omega), List.getElem?_set_ne (by omega), Nat.add_zero, List.getElem?_set_self (by omega)]; rfl
  · rw [List.getElem?_set_ne (by omega), List.getElem?_set_ne (by omega), List.getElem?_set_self (by simp; omega)]; rfl
  · rw [List.getElem?_set_ne (by omega), List.getElem?_set_self (by simp; omega)]; rfl
  · rw [List.getElem?_set_self (by simp; omega)]; rfl

theorem put4_other {X : List Value} {p q : Nat} {e : En} (h : q ≠ p) {f : Nat} (hf : f < 4) : (put4 X p e)[q * 4 + f]? = X[q * 4 + f]? := by
  unfold put4
  rw [List.getElem?_set_ne (by omega), List.getElem?_set_ne (by omega), List.getElem?_set_ne (by omega), List.getElem?_set_ne (by omega)]

/-- What ordered has laid down of the first i entries. -/
def OrdInv (L : List En) (X : List Value) (i : Nat) : Prop := ∀ i' e, i' < i → L[i']? = some e → ∀ f, f < 4 → X[posE L e * 4 + f]? = (En.cells e)[f]?

theorem pos_of {L O : List En} (hs : Sorted O) (hp : O.Perm L) {j : Nat} {e : En} (h : O[j]? = some e) : posE L e = j := by
  unfold posE
  rw [← hp.countP_eq]
  exact count_place hs h

theorem pos_lt {L O : List En} (hs : Sorted O) (hp : O.Perm L) {e : En} (h : e ∈ L) : posE L e < L.length := by
  obtain ⟨j, hj, rfl⟩ := List.getElem_of_mem (hp.mem_iff.2 h)
  rw [pos_of hs hp (List.getElem?_eq_getElem hj), ← hp.length_eq]
  exact hj

theorem ord_step {L O : List En} (hs : Sorted O) (hp : O.Perm L) {X : List Value} {i : Nat} {e : En} (hX : X.length = L.length * 4) (h : OrdInv L X i) (he : L[i]? = some e) : OrdInv L (put4 X (posE L e) e) (i + 1) := by
  have hpl := pos_lt hs hp (List.mem_of_getElem? he)
  intro i' e' hi' he' f hf
  by_cases hpe : posE L e' = posE L e
  · have hee : e' = e := by
      obtain ⟨j, hj, hje⟩ := List.getElem_of_mem (hp.mem_iff.2 (List.mem_of_getElem? he))
      obtain ⟨j', hj', hje'⟩ := List.getElem_of_mem (hp.mem_iff.2 (List.mem_of_getElem? he'))
      have h1 := pos_of hs hp (e := e) (j := j) (by rw [List.getElem?_eq_getElem hj, hje])
      have h2 := pos_of hs hp (e := e') (j := j') (by rw [List.getElem?_eq_getElem hj', hje'])
      have : j = j' := by omega
      subst this
      rw [← hje, ← hje']
    subst hee
    exact put4_same (by omega) hf
  · rw [put4_other hpe hf]
    rcases Nat.lt_succ_iff_lt_or_eq.1 hi' with h1 | rfl
    · exact h i' e' h1 he' f hf
    · rw [he] at he'; cases he'; exact absurd rfl hpe

theorem ord_done {L O : List En} (hs : Sorted O) (hp : O.Perm L) {X : List Value} (hX : X.length = L.length * 4) (h : OrdInv L X L.length) : X = ecells O := by
  apply List.ext_getElem?
  intro n
  by_cases hn : n < L.length * 4
  · have hj : n / 4 < O.length := by rw [hp.length_eq]; omega
    obtain ⟨e, he⟩ : ∃ e, O[n / 4]? = some e := ⟨_, List.getElem?_eq_getElem hj⟩
    obtain ⟨i, hi, hie⟩ := List.getElem_of_mem (hp.mem_iff.1 (List.mem_of_getElem? he))
    have h1 := h i e hi (by rw [List.getElem?_eq_getElem hi, hie]) (n % 4) (by omega)
    rw [pos_of hs hp he, show n / 4 * 4 + n % 4 = n by omega] at h1
    have h2 := flat_get En.cells 4 (fun a => by rfl) O (n / 4) e (n % 4) he (by omega)
    rw [show n / 4 * 4 + n % 4 = n by omega] at h2
    rw [h1, show ecells O = O.flatMap En.cells from rfl, h2]
  · rw [List.getElem?_eq_none (by omega), List.getElem?_eq_none (by rw [ecells_len, hp.length_eq]; omega)]

def OrdPost (L : List En) (w : World) (e : Ending) (w' : World) : Prop :=
  ∃ (O : List En) (v : Value), e = .returned v ∧ Sorted O ∧ O.Perm L ∧ w'.ownsRow w.heap.size 61 4 v O.length (ecells O) ∧ Below w.heap.size w w'

theorem count_take {L : List En} {k : Nat} {x : En} (h : L[k]? = some x) (f : En → Bool) : (L.take (k + 1)).countP f = (L.take k).countP f + if f x then 1 else 0 := by
  rw [List.take_add_one, h, List.countP_append]
  simp [List.countP_cons]

set_option maxHeartbeats 2000000 in
set_option maxRecDepth 100000 in
theorem ordered_any (L : List En) (v : Value) (w : World) (h : EnRow w v L) (hd : DistE L) (hl : L.length < 100000000) : Calls Tryz.prog 114 #[v] w fun e w' => OrdPost L w e w' := by
  obtain ⟨i0, hi, hz0, hz1, hz2⟩ := info_parts Tryz.info61
  obtain ⟨O, hO, hperm⟩ := sorted_exists hd
  have HOP : Hid (Sorted O ∧ O.Perm L) := ⟨hO, hperm⟩
  obtain ⟨ao, cap, rfl⟩ : ∃ ao cap, v = .slice ao L.length cap := by
    rcases h with ⟨h1, h2⟩ | ⟨g, cap, h1, _⟩
    · exact ⟨none, 0, by rw [h1, h2]; rfl⟩
    · exact ⟨_, _, h1⟩
  have HC : Hid (EnRow w (.slice ao L.length cap) L) := h
  obtain ⟨M, hM⟩ : ∃ M, madeCells (Value.agg #[.string ⟨#[]⟩, .int .i64 0, .bool false, .string ⟨#[]⟩]).cells ((L.length : Int).toNat * i0.size) = M := ⟨_, rfl⟩
  have hMs : M.size = L.length * 4 := by rw [← hM, size_madeCells, hz1]; simp
  have mk1 : ∀ W : World, (Instr.makeSlice 59 (.int .i64 (L.length : Int)) (.int .i64 (L.length : Int))).run Tryz.prog W = .ok (.slice (some ⟨W.heap.size, 0, none⟩) L.length L.length) (W.alloc (.cells M 61)) := fun W => by
    have h := run_make (P := Tryz.prog) W 59 61 i0 (.agg #[.string ⟨#[]⟩, .int .i64 0, .bool false, .string ⟨#[]⟩]) Tryz.underlying59 hi hz0 .i64 .i64 (L.length : Int) (L.length : Int) (by omega) (by omega) (by rw [hz2]; omega) (by omega)
    rw [hM] at h
    simpa using h
  have OWN1 : Hid ((w.alloc (.cells M 61)).ownsRow w.heap.size 61 4 (.slice (some ⟨w.heap.size, 0, none⟩) L.length L.length) L.length M.toList) := by
    refine ⟨by rw [Array.length_toList, hMs], .inr ⟨w.heap.size, L.length, M, rfl, Nat.le_refl _, heap_alloc_new w _, Nat.le_refl _, by unfold maxLen; omega, hMs, ?_⟩⟩
    rw [List.take_of_length_le (by rw [Array.length_toList, hMs]; exact Nat.le_refl _)]
  have B1 : Hid (Below w.heap.size w (w.alloc (.cells M 61))) := (Below.refl _ _).alloc (Nat.le_refl _) _
  have hXl : M.toList.length = L.length * 4 := by rw [Array.length_toList, hMs]
  clear hM hMs h hd hO hperm
  go_enter Tryz.func114, Tryz.ntmps114
  go_wp2
  generalize M.toList = X0 at OWN1 hXl
  generalize w.alloc (.cells M 61) = w1 at OWN1 B1 ⊢
  clear mk1
  go_loopg [4, 5, 6, 7] L.length (fun kx s4 s5 s6 s7 wr => ∃ (i : Nat) (X : List Value), i ≤ L.length ∧ L.length - i ≤ kx ∧ s4 = .int .i64 i ∧ X.length = L.length * 4 ∧ Hid (OrdInv L X i) ∧ Hid (wr.ownsRow w.heap.size 61 4 (.slice (some ⟨w.heap.size, 0, none⟩) L.length L.length) L.length X) ∧ Hid (Below w.heap.size w wr))
  case atStart => exact ⟨0, X0, Nat.zero_le _, Nat.le_refl _, rfl, hXl, fun i' e h => absurd h (Nat.not_lt_zero _), OWN1.out, B1.out⟩
  case round =>
    clear OWN1 B1 hXl
    obtain ⟨i, X, hil, hik, rfl, hX, HI, HO, HB⟩ := hrel
    by_cases hlt : i < L.length
    · obtain ⟨e, he⟩ : ∃ e, L[i]? = some e := ⟨_, List.getElem?_eq_getElem hlt⟩
      have hpl : posE L e < L.length := pos_lt HOP.out.1 HOP.out.2 (List.mem_of_getElem? he)
      have HI2 : Hid (OrdInv L (put4 X (posE L e) e) (i + 1)) := ord_step HOP.out.1 HOP.out.2 hX HI.out he
      obtain ⟨g, hge, hcell⟩ : ∃ g, ao = some ⟨g, 0, none⟩ ∧ ∀ j x, L[j]? = some x → w.cell? ⟨g, j * 4, none⟩ = some (.string x.k) ∧ w.cell? ⟨g, j * 4 + 1, none⟩ = some (.int .i64 x.s) ∧ w.cell? ⟨g, j * 4 + 2, none⟩ = some (.bool x.g) ∧ w.cell? ⟨g, j * 4 + 3, none⟩ = some (.string x.v) := by
        rcases HC.out with ⟨h2, _⟩ | ⟨g, cap', h1, _, h3⟩
        · rw [h2] at hlt; simp at hlt
        · simp only [Value.slice.injEq] at h1
          exact ⟨g, h1.1, h3⟩
      subst hge
      have HCE : Hid _ := hcell
      have HE : Hid (L[i]? = some e) := he
      have hiL : (i : Int) < (L.length : Int) := by omega
      clear he hcell
      go_wp2
      go_loopg [5, 6, 7] L.length (fun kx s5 s6 s7 wx => ∃ (k : Nat), k ≤ L.length ∧ L.length - k ≤ kx ∧ s6 = .int .i64 k ∧ s5 = .int .i64 ((L.take k).countP fun x => eltB x e : Nat) ∧ Hid (wx.ownsRow w.heap.size 61 4 (.slice (some ⟨w.heap.size, 0, none⟩) L.length L.length) L.length X) ∧ Hid (Below w.heap.size w wx))
      case atStart => exact ⟨0, Nat.zero_le _, Nat.le_refl _, rfl, rfl, HO.out, HB.out⟩
      case round =>
        clear HO HB
        obtain ⟨k, hkl, hkk, rfl, rfl, HO, HB⟩ := hrel
        obtain ⟨d0, d1, d2, d3⟩ := HCE.out i e HE.out
        by_cases hklt : k < L.length
        · obtain ⟨x, hx⟩ : ∃ x, L[k]? = some x := ⟨_, List.getElem?_eq_getElem hklt⟩
          obtain ⟨c0, c1, c2, c3⟩ := HCE.out k x hx
          have c0 := cell_regrown (cell_later HB.out c0)
          have c1 := cell_regrown (cell_later HB.out c1)
          have c2 := cell_regrown (cell_later HB.out c2)
          have c3 := cell_regrown (cell_later HB.out c3)
          have d0 := cell_regrown (cell_later HB.out d0)
          have d1 := cell_regrown (cell_later HB.out d1)
          have d2 := cell_regrown (cell_later HB.out d2)
          have d3 := cell_regrown (cell_later HB.out d3)
          have hkL : (k : Int) < (L.length : Int) := by omega
          have hcb : (L.take k).countP (fun x => eltB x e) ≤ k := Nat.le_trans List.countP_le_length (by rw [List.length_take]; omega)
          have HCT : Hid ((L.take (k + 1)).countP (fun x => eltB x e) = (L.take k).countP (fun x => eltB x e) + if eltB x e then 1 else 0) := count_take hx _
          have HBF : Hid (∀ w d os, Calls Tryz.prog 167 #[.agg #[.string x.k, .int .i64 x.s, .bool x.g, .string x.v], .agg #[.string e.k, .int .i64 e.s, .bool e.g, .string e.v]] (grow (redrawn w d) os) fun e' w'' => e' = .returned (.bool (eltB x e)) ∧ ∃ p : Regrown, w'' = grow (redrawn w p.d) p.os) := before_in x e
          generalize (L.take k).countP (fun x => eltB x e) = cn at HCT hcb
          clear hx
          cases hdd : eltB x e
          · rw [hdd] at HBF HCT
            go_wp2
            refine wp_region_quiet_below (by kernel_rfl) (by kernel_rfl) ?_
            repeat (first | go_big_quiet_step (exact HBF.out _ _ _) | quiet_step (exact HBF.out _ _ _))
            refine wpQuiet_nil ?_
            intro w2 hw'
            have hb := below_of_regrown hw'
            have HO2 : Hid (w2.ownsRow w.heap.size 61 4 (.slice (some ⟨w.heap.size, 0, none⟩) L.length L.length) L.length X) := (Kp.of_below (B := 0) (ts := []) hb).owns HO.out (by simp)
            have HB2 : Hid (Below w.heap.size w w2) := below_trans' HB.out hb
            clear hb hw'
            go_wp2
            go_roundg (L.length - (k + 1))
            case measure => omega
            case rel => exact ⟨k + 1, by omega, Nat.le_refl _, by go_num, by rw [HCT.out]; simp, HO2.out, HB2.out⟩
          · rw [hdd] at HBF HCT
            go_wp2
            refine wp_region_quiet_below (by kernel_rfl) (by kernel_rfl) ?_
            repeat (first | go_big_quiet_step (exact HBF.out _ _ _) | quiet_step (exact HBF.out _ _ _))
            refine wpQuiet_nil ?_
            intro w2 hw'
            have hb := below_of_regrown hw'
            have HO2 : Hid (w2.ownsRow w.heap.size 61 4 (.slice (some ⟨w.heap.size, 0, none⟩) L.length L.length) L.length X) := (Kp.of_below (B := 0) (ts := []) hb).owns HO.out (by simp)
            have HB2 : Hid (Below w.heap.size w w2) := below_trans' HB.out hb
            clear hb hw'
            go_wp2
            go_roundg (L.length - (k + 1))
            case measure => omega
            case rel => exact ⟨k + 1, by omega, Nat.le_refl _, by go_num, by rw [HCT.out]; simp, HO2.out, HB2.out⟩
        · obtain rfl : k = L.length := by omega
          have HPO : Hid ((L.take L.length).countP (fun x => eltB x e) = posE L e) := by show _ = _; rw [List.take_of_length_le (Nat.le_refl _)]; rfl
          rw [HPO.out]
          have d0 := cell_later HB.out d0
          have d1 := cell_later HB.out d1
          have d2 := cell_later HB.out d2
          have d3 := cell_later HB.out d3
          obtain ⟨p, hp⟩ : ∃ p, posE L e = p := ⟨_, rfl⟩
          rw [hp] at hpl HI2 ⊢
          have hput := ((((HO.out.stored (p * 4) (.string e.k)).1.stored (p * 4 + 1) (.int .i64 e.s)).1.stored (p * 4 + 2) (.bool e.g)).1.stored (p * 4 + 3) (.string e.v)).1
          have hcur : ∃ cur, wr.heap[w.heap.size]? = some (.cells cur 61 (0, 0)) := by
            rcases HO.out.2 with ⟨h, _⟩ | ⟨g', cap', cur, hv, _, hg, _⟩
            · cases h
            · simp only [Value.slice.injEq, Option.some.injEq, Addr.mk.injEq, and_true] at hv
              obtain ⟨rfl, _⟩ := hv
              exact ⟨cur, hg⟩
          have hce : ∀ o, o < L.length * 4 → (wr.cell? ⟨w.heap.size, o, none⟩).isSome = true ∧ wr.frozen? ⟨w.heap.size, o, none⟩ = false := fun o ho => by
            obtain ⟨cur, hg⟩ := hcur
            refine ⟨?_, by simp [World.frozen?, hg]⟩
            rw [HO.out.cellAt o ho]
            rw [List.getElem?_eq_getElem (by rw [HO.out.1]; exact ho)]
            rfl
          have HF : Hid (((((wr.setCell ⟨w.heap.size, p * 4, none⟩ (.string e.k)).setCell ⟨w.heap.size, p * 4 + 1, none⟩ (.int .i64 e.s)).setCell ⟨w.heap.size, p * 4 + 2, none⟩ (.bool e.g)).setCell ⟨w.heap.size, p * 4 + 3, none⟩ (.string e.v)).ownsRow w.heap.size 61 4 (.slice (some ⟨w.heap.size, 0, none⟩) L.length L.length) L.length (put4 X p e) ∧ Below w.heap.size w ((((wr.setCell ⟨w.heap.size, p * 4, none⟩ (.string e.k)).setCell ⟨w.heap.size, p * 4 + 1, none⟩ (.int .i64 e.s)).setCell ⟨w.heap.size, p * 4 + 2, none⟩ (.bool e.g)).setCell ⟨w.heap.size, p * 4 + 3, none⟩ (.string e.v))) :=
            ⟨hput, (((HB.out.setCell (Nat.le_refl _) _).setCell (Nat.le_refl _) _).setCell (Nat.le_refl _) _).setCell (Nat.le_refl _) _⟩
          obtain ⟨x0, y0⟩ := hce (p * 4) (by omega)
          obtain ⟨x1, y1⟩ := hce (p * 4 + 1) (by omega)
          obtain ⟨x2, y2⟩ := hce (p * 4 + 2) (by omega)
          obtain ⟨x3, y3⟩ := hce (p * 4 + 3) (by omega)
          obtain ⟨u0, x0⟩ := Option.isSome_iff_exists.1 x0
          obtain ⟨u1, x1⟩ := Option.isSome_iff_exists.1 x1
          obtain ⟨u2, x2⟩ := Option.isSome_iff_exists.1 x2
          obtain ⟨u3, x3⟩ := Option.isSome_iff_exists.1 x3
          have HXL : Hid ((put4 X p e).length = L.length * 4) := by show _ = _; rw [put4_len, hX]
          clear hcur hput hce hp hX
          have hpL : (p : Int) < (L.length : Int) := by omega
          go_wp2
          go_roundg (L.length - (i + 1))
          case measure => omega
          case rel => exact ⟨i + 1, put4 X p e, by omega, Nat.le_refl _, by go_num, HXL.out, HI2.out, HF.out.1, HF.out.2⟩
    · obtain rfl : i = L.length := by omega
      have hXO := ord_done HOP.out.1 HOP.out.2 hX HI.out
      have HF : Hid (OrdPost L w (.returned (.slice (some ⟨w.heap.size, 0, none⟩) L.length L.length)) wr) := by
        refine ⟨O, _, rfl, HOP.out.1, HOP.out.2, ?_, HB.out⟩
        rw [← hXO, HOP.out.2.length_eq]
        exact HO.out
      clear hXO
      go_wp2
      go_ret
      exact HF.out
end Go.Proofs.YtakipjofboipmaaGreatDoor

/- The walks of this proof, for later statements: the document's levels: which entry is needed. -/
namespace Go.Proofs.YtakipjofboipmaaGreatDoor
open Go.RowKit Go.Sort

/-- Where the document's store finds its snapshots. -/
def SnAt (rb : Nat) (S : List Sn) (w : World) : Prop :=
  ∃ ao cap, w.cell? ⟨rb, 3, none⟩ = some (.slice ao S.length cap) ∧ (0 < S.length → ∃ g, ao = some ⟨g, 0, none⟩ ∧ S.length ≤ cap ∧ ∀ (k : Nat) s, S[k]? = some s → w.cell? ⟨g, k * 2 + 1, none⟩ = some (.int .i64 s.q))

theorem SnAt.below {rb : Nat} {S : List Sn} {w w' : World} (h : SnAt rb S w) (hb : Below w.heap.size w w') : SnAt rb S w' := by
  obtain ⟨ao, cap, h1, h2⟩ := h
  refine ⟨ao, cap, cell_later hb h1, fun h => ?_⟩
  obtain ⟨g, h3, h4, h5⟩ := h2 h
  exact ⟨g, h3, h4, fun k s hs => cell_later hb (h5 k s hs)⟩

/-- Is an entry needed that stands behind another one? -/
def ndd (S : List Sn) : Option En → En → Bool
  | none, _ => true
  | some p, e => decide (p.k ≠ e.k) || S.any fun s => decide (e.s ≤ s.q) && decide (s.q < p.s)

theorem below_drewN_ {B : Nat} {a w : World} (h : Below B a w) (n : Nat) : Below B a (w.drewN n) := ⟨h.os, h.tape, h.output, h.size, h.block⟩

theorem any_take_ {α : Type} {S : List α} {k : Nat} {s : α} (f : α → Bool) (h : S[k]? = some s) : (S.take (k + 1)).any f = ((S.take k).any f || f s) := by
  rw [List.take_add_one, h, List.any_append]
  simp

set_option maxHeartbeats 2000000 in
set_option maxRecDepth 100000 in
theorem needed_any (rb : Nat) (S : List Sn) (O : List En) (v : Value) (i : Nat) (e : En) (w : World) (hS : SnAt rb S w) (hO : EnRow w v O) (he : O[i]? = some e) (h4 : S.length ≤ 4) (hl : O.length < 100000000) :
    Calls Tryz.prog 115 #[.pointer (some ⟨rb, 0, none⟩), v, .int .i64 i] w fun e' w' => e' = .returned (.bool (ndd S (if i = 0 then none else O[i - 1]?) e)) ∧ Below w.heap.size w w' := by
  rcases hO with ⟨h1, _⟩ | ⟨b, cap, rfl, hcap, hE⟩
  · rw [h1] at he; simp at he
  have hil : i < O.length := (List.getElem?_eq_some_iff.1 he).1
  obtain ⟨d0, d1, d2, d3⟩ := hE i e he
  match i with
  | 0 =>
    clear hE he hS
    go_enter Tryz.func115, Tryz.ntmps115
    go_wp2
    go_quiet (fail)
    go_wp2
    go_ret
    exact ⟨rfl, below_drewN_ (Below.refl _ _) _⟩
  | j + 1 =>
    obtain ⟨p, hp⟩ : ∃ p, O[j]? = some p := ⟨_, List.getElem?_eq_getElem (by omega)⟩
    obtain ⟨p0, p1, p2, p3⟩ := hE j p hp
    have HN : Hid (ndd S (if j + 1 = 0 then none else O[j + 1 - 1]?) e = (decide (p.k ≠ e.k) || S.any fun s => decide (e.s ≤ s.q) && decide (s.q < p.s))) := by show _ = _; simp [hp, ndd]
    rw [HN.out]
    clear hE HN
    have hz : (((j + 1 : Nat) : Int) == 0) = false := by rw [beq_eq_false_iff_ne]; omega
    have hs1 : (j : Int) + 1 - 1 = (j : Int) := by omega
    have hj1 : (j : Int) + 1 < (O.length : Int) := by omega
    have hj0 : (j : Int) < (O.length : Int) := by omega
    rw [show ((j + 1 : Nat) : Int) = (j : Int) + 1 from rfl] at hz ⊢
    by_cases hk : p.k = e.k
    · have hkb : (p.k.toList == e.k.toList) = true := by simp [hk]
      have hd : decide (p.k ≠ e.k) = false := by simp [hk]
      rw [hd, Bool.false_or]
      obtain ⟨aoS, capS, c3, hSc⟩ := hS
      have HSC : Hid (0 < S.length → ∃ g, aoS = some ⟨g, 0, none⟩ ∧ S.length ≤ capS ∧ ∀ (k : Nat) s, S[k]? = some s → w.cell? ⟨g, k * 2 + 1, none⟩ = some (.int .i64 s.q)) := hSc
      have HD : Hid (w.cell? ⟨b, (j + 1) * 4, none⟩ = some (.string e.k) ∧ w.cell? ⟨b, (j + 1) * 4 + 1, none⟩ = some (.int .i64 e.s) ∧ w.cell? ⟨b, j * 4, none⟩ = some (.string p.k) ∧ w.cell? ⟨b, j * 4 + 1, none⟩ = some (.int .i64 p.s) ∧ w.cell? ⟨rb, 3, none⟩ = some (.slice aoS S.length capS)) := ⟨d0, d1, p0, p1, c3⟩
      clear hSc he hp hd hk
      go_enter Tryz.func115, Tryz.ntmps115
      go_wp2
      go_quiet (fail)
      go_wp2
      have HB0 : Hid (Below w.heap.size w (w.drewN nq)) := below_drewN_ (Below.refl _ _) _
      generalize w.drewN nq = w1 at HB0 ⊢
      clear d0 d1 d2 d3 p0 p1 p2 p3 c3
      go_loopg [7] S.length (fun kx s7 wr => ∃ k : Nat, k ≤ S.length ∧ S.length - k ≤ kx ∧ s7 = .int .i64 k ∧ Hid ((S.take k).any (fun s => decide (e.s ≤ s.q) && decide (s.q < p.s)) = false) ∧ Hid (Below w.heap.size w wr))
      case atStart => exact ⟨0, Nat.zero_le _, Nat.le_refl _, rfl, rfl, HB0.out⟩
      case round =>
        clear HB0
        obtain ⟨k, hkl, hkx, rfl, HN, HB⟩ := hrel
        obtain ⟨d0, d1, p0, p1, c3⟩ := HD.out
        have d0 := cell_later HB.out d0
        have d1 := cell_later HB.out d1
        have p0 := cell_later HB.out p0
        have p1 := cell_later HB.out p1
        have c3 := cell_later HB.out c3
        by_cases hlt : k < S.length
        · obtain ⟨g, rfl, hcp, hc⟩ := HSC.out (by omega)
          obtain ⟨s, hs⟩ : ∃ s, S[k]? = some s := ⟨_, List.getElem?_eq_getElem hlt⟩
          have s1 := cell_later HB.out (hc k s hs)
          have HT : Hid ((S.take (k + 1)).any (fun s => decide (e.s ≤ s.q) && decide (s.q < p.s)) = (decide (e.s ≤ s.q) && decide (s.q < p.s))) := by show _ = _; rw [any_take_ _ hs, HN.out, Bool.false_or]
          have HM : Hid (s ∈ S) := List.mem_of_getElem? hs
          have hkS : (k : Int) < (S.length : Int) := by omega
          clear hc hs
          by_cases h1 : e.s ≤ s.q
          · have e1 : decide (e.s ≤ s.q) = true := by simp [h1]
            by_cases h2 : s.q < p.s
            · have e2 : decide (s.q < p.s) = true := by simp [h2]
              have HF : Hid (S.any (fun s => decide (e.s ≤ s.q) && decide (s.q < p.s)) = true) := List.any_eq_true.2 ⟨s, HM.out, by simp [h1, h2]⟩
              clear h1 h2
              go_wp2
              go_quiet (fail)
              go_wp2
              go_ret
              exact ⟨by rw [HF.out]; rfl, below_drewN_ HB.out _⟩
            · have e2 : decide (s.q < p.s) = false := by simp [h2]
              have HF : Hid ((S.take (k + 1)).any (fun s => decide (e.s ≤ s.q) && decide (s.q < p.s)) = false) := by show _ = _; rw [HT.out, e2, Bool.and_false]
              clear h1 h2
              go_wp2
              go_quiet (fail)
              go_wp2
              go_roundg (S.length - (k + 1))
              case measure => omega
              case rel => exact ⟨k + 1, by omega, Nat.le_refl _, by go_num, HF.out, below_drewN_ HB.out _⟩
          · have e1 : decide (e.s ≤ s.q) = false := by simp [h1]
            have HF : Hid ((S.take (k + 1)).any (fun s => decide (e.s ≤ s.q) && decide (s.q < p.s)) = false) := by show _ = _; rw [HT.out, e1, Bool.false_and]
            clear h1
            go_wp2
            go_quiet (fail)
            go_wp2
            go_roundg (S.length - (k + 1))
            case measure => omega
            case rel => exact ⟨k + 1, by omega, Nat.le_refl _, by go_num, HF.out, below_drewN_ HB.out _⟩
        · obtain rfl : k = S.length := by omega
          have HF : Hid (S.any (fun s => decide (e.s ≤ s.q) && decide (s.q < p.s)) = false) := by show _ = _; rw [← HN.out, List.take_of_length_le (Nat.le_refl _)]
          clear hlt
          go_wp2
          go_ret
          exact ⟨by rw [HF.out]; rfl, HB.out⟩
    · have hkb : (p.k.toList == e.k.toList) = false := by simpa using str_ne hk
      have hd : decide (p.k ≠ e.k) = true := by simp [hk]
      rw [hd, Bool.true_or]
      go_enter Tryz.func115, Tryz.ntmps115
      go_wp2
      go_quiet (fail)
      go_wp2
      go_ret
      exact ⟨rfl, below_drewN_ (Below.refl _ _) _⟩
end Go.Proofs.YtakipjofboipmaaGreatDoor

/- The walks of this proof, for later statements: the document's levels: which entries are kept. -/
namespace Go.Proofs.YtakipjofboipmaaGreatDoor
open Go.RowKit Go.Sort

theorem Tryz.info4 : (Tryz.prog.info? 4).map (fun i => (i.zero, i.size, i.bytes)) = some (some (.bool false), 1, 1) := by kernel_rfl

/-- Is one of a key kept, from a place on? -/
def morK (F : List Bool) (O : List En) (i : Nat) (k : ByteArray) : Bool := ((F.zip O).drop i).any fun x => x.1 && (x.2.k.toList == k.toList)

/-- Which of ordered entries are kept. -/
def kfl (S : List Sn) (last : Bool) : Option En → List En → List Bool
  | _, [] => []
  | p, e :: r => (ndd S p e && (!last || morK (kfl S last (some e) r) r 0 e.k || !e.g)) :: kfl S last (some e) r

theorem kfl_len (S : List Sn) (last : Bool) : ∀ (O : List En) (p : Option En), (kfl S last p O).length = O.length
  | [], _ => rfl
  | e :: r, p => by simp [kfl, kfl_len S last r]

theorem kfl_get (S : List Sn) (last : Bool) : ∀ (O : List En) (p : Option En) (i : Nat) (e : En), O[i]? = some e →
    (kfl S last p O)[i]? = some (ndd S (if i = 0 then p else O[i - 1]?) e && (!last || morK (kfl S last p O) O (i + 1) e.k || !e.g))
  | [], _, _, _, h => by simp at h
  | a :: r, p, 0, e, h => by
    simp at h
    subst h
    simp [kfl, morK]
  | a :: r, p, i + 1, e, h => by
    simp at h
    have := kfl_get S last r (some a) i e h
    rw [kfl, List.getElem?_cons_succ, this]
    congr 2
    · cases i <;> simp

/-- The entries whose flag is set. -/
def keepBy (F : List Bool) (O : List En) : List En := ((F.zip O).filter (·.1)).map (·.2)

/-- What is kept of ordered entries. -/
def kpt (S : List Sn) (last : Bool) (O : List En) : List En := keepBy (kfl S last none O) O

theorem keepBy_len (F : List Bool) (O : List En) : (keepBy F O).length ≤ O.length := by
  unfold keepBy
  rw [List.length_map]
  refine Nat.le_trans (List.length_filter_le _ _) ?_
  rw [List.length_zip]
  omega

theorem keepBy_take {F : List Bool} {O : List En} {k : Nat} {f : Bool} {e : En} (hf : F[k]? = some f) (he : O[k]? = some e) : keepBy (F.take (k + 1)) (O.take (k + 1)) = keepBy (F.take k) (O.take k) ++ if f then [e] else [] := by
  have hF : k < F.length := (List.getElem?_eq_some_iff.1 hf).1
  have hO : k < O.length := (List.getElem?_eq_some_iff.1 he).1
  unfold keepBy
  rw [List.take_add_one, List.take_add_one, hf, he]
  simp only [Option.toList_some]
  rw [List.zip_append (by rw [List.length_take, List.length_take]; omega)]
  cases f <;> simp

def KeptPost (S : List Sn) (last : Bool) (L : List En) (w : World) (e : Ending) (w' : World) : Prop :=
  ∃ (O : List En) (v : Value), e = .returned v ∧ Sorted O ∧ O.Perm L ∧ w'.ownsRow w.heap.size 61 4 v (kpt S last O).length (ecells (kpt S last O)) ∧ Below w.heap.size w w'

theorem mor_take {F : List Bool} {O : List En} {i k : Nat} {f : Bool} {e : En} {key : ByteArray} (hik : i ≤ k) (hf : F[k]? = some f) (he : O[k]? = some e) :
    (((F.zip O).take (k + 1)).drop i).any (fun x => x.1 && (x.2.k.toList == key.toList)) = ((((F.zip O).take k).drop i).any (fun x => x.1 && (x.2.k.toList == key.toList)) || (f && (e.k.toList == key.toList))) := by
  have hF : k < F.length := (List.getElem?_eq_some_iff.1 hf).1
  have hO : k < O.length := (List.getElem?_eq_some_iff.1 he).1
  have hz : (F.zip O)[k]? = some (f, e) := by rw [List.getElem?_zip_eq_some]; exact ⟨hf, he⟩
  rw [List.take_add_one, hz, List.drop_append_of_le_length (by rw [List.length_take, List.length_zip]; omega), List.any_append]
  simp

/-- The flags that are laid down from a place on. -/
def FlInv (F : List Bool) (X : List Value) (i : Nat) : Prop := X.length = F.length ∧ ∀ (j : Nat) f, i ≤ j → F[j]? = some f → X[j]? = some (.bool f)

theorem fl_step {F : List Bool} {X : List Value} {i : Nat} {f : Bool} (h : FlInv F X (i + 1)) (hf : F[i]? = some f) : FlInv F (X.set i (.bool f)) i := by
  have hF : i < F.length := (List.getElem?_eq_some_iff.1 hf).1
  refine ⟨by rw [List.length_set, h.1], fun j f' hj hf' => ?_⟩
  by_cases hij : j = i
  · subst hij
    rw [hf] at hf'
    cases hf'
    rw [List.getElem?_set_self (by rw [h.1]; exact hF)]
  · rw [List.getElem?_set_ne (by omega)]
    exact h.2 j f' (by omega) hf'

theorem block_of_cell {w : World} {b o : Nat} {v : Value} (h : w.cell? ⟨b, o, none⟩ = some v) : b < w.heap.size := by
  rcases Nat.lt_or_ge b w.heap.size with h1 | h1
  · exact h1
  · simp [World.cell?, Array.getElem?_eq_none h1] at h

theorem needed_in {rb : Nat} {S : List Sn} {O : List En} {v : Value} {w wr : World} {n : Nat} (hn : n = w.heap.size) (hb : Below n w wr) (hS : SnAt rb S w) (hO : EnRow w v O) (h4 : S.length ≤ 4) (hl : O.length < 100000000) {i : Nat} {e : En} (he : O[i]? = some e) :
    Calls Tryz.prog 115 #[.pointer (some ⟨rb, 0, none⟩), v, .int .i64 i] wr fun e' w' => e' = .returned (.bool (ndd S (if i = 0 then none else O[i - 1]?) e)) ∧ Below wr.heap.size wr w' := by
  subst hn
  exact needed_any rb S O v i e wr (hS.below hb) (hO.below hb) he h4 hl

set_option maxHeartbeats 4000000 in
set_option maxRecDepth 100000 in
theorem rkept_any (rb : Nat) (S : List Sn) (last : Bool) (L : List En) (v : Value) (w : World) (hS : SnAt rb S w) (hv : EnRow w v L) (hd : DistE L) (h4 : S.length ≤ 4) (hl : L.length < 100000000) :
    Calls Tryz.prog 72 #[.pointer (some ⟨rb, 0, none⟩), v, .bool last] w fun e w' => KeptPost S last L w e w' := by
  obtain ⟨i0, hi, hz0, hz1, hz2⟩ := info_parts Tryz.info61
  obtain ⟨i4, hi4, hy0, hy1, hy2⟩ := info_parts Tryz.info4
  have HORD := ordered_any L v w hv hd hl
  go_enter Tryz.func72, Tryz.ntmps72
  go_wp2_with fail
  refine HORD.mono ?_
  rintro e1 w1 ⟨O, vO, rfl, hsO, hpO, hown, hbel⟩
  have hOl : O.length < 100000000 := by rw [hpO.length_eq]; exact hl
  obtain ⟨ao, capO, rfl⟩ := slice_form hown
  have H : Hid (Sorted O ∧ O.Perm L ∧ Below w.heap.size w w1 ∧ SnAt rb S w1) := ⟨hsO, hpO, hbel, hS.below hbel⟩
  have HR : Hid (EnRow w1 (.slice ao O.length capO) O) := by
    by_cases h0 : 0 < O.length
    · obtain ⟨g, cap', hv', _, _, hcap, hcell⟩ := row_cell (f := En.cells) (fun a => by rfl) hown h0
      simp only [Value.slice.injEq, true_and] at hv'
      obtain ⟨rfl, rfl⟩ := hv'
      exact .inr ⟨g, capO, rfl, hcap, fun j e he => ⟨hcell j e 0 he (by omega), hcell j e 1 he (by omega), hcell j e 2 he (by omega), hcell j e 3 he (by omega)⟩⟩
    · have hnil : O = [] := List.length_eq_zero_iff.1 (by omega)
      rcases hown.2 with ⟨h1, _⟩ | ⟨g, cap', cur, h1, _, _, h3, _⟩
      · refine .inl ⟨hnil, h1⟩
      · exact .inr ⟨g, cap', h1, h3, fun j e he => by rw [hnil] at he; simp at he⟩
  clear hv hd HORD hS hsO hpO hbel hown
  obtain ⟨F, hF⟩ : ∃ F, kfl S last none O = F := ⟨_, rfl⟩
  have HF : Hid (kfl S last none O = F) := hF
  have hFl : F.length = O.length := by rw [← hF]; exact kfl_len _ _ _ _
  have HG : Hid (∀ i e, O[i]? = some e → F[i]? = some (ndd S (if i = 0 then none else O[i - 1]?) e && (!last || morK F O (i + 1) e.k || !e.g))) := by
    show ∀ i e, _
    rw [← hF]
    exact kfl_get S last O none
  have HNE : Hid (∀ wr, Below w1.heap.size w1 wr → ∀ (i : Nat) (e : En), O[i]? = some e → Calls Tryz.prog 115 #[.pointer (some ⟨rb, 0, none⟩), .slice ao O.length capO, .int .i64 i] wr fun e' w' => e' = .returned (.bool (ndd S (if i = 0 then none else O[i - 1]?) e)) ∧ Below wr.heap.size wr w') :=
    fun wr hb i e he => needed_in rfl hb H.out.2.2.2 HR.out h4 hOl he
  obtain ⟨M, hM⟩ : ∃ M, madeCells (Value.bool false).cells ((O.length : Int).toNat * i4.size) = M := ⟨_, rfl⟩
  have hMs : M.size = O.length := by rw [← hM, size_madeCells, hy1]; simp
  have mk1 : ∀ W : World, (Instr.makeSlice 212 (.int .i64 (O.length : Int)) (.int .i64 (O.length : Int))).run Tryz.prog W = .ok (.slice (some ⟨W.heap.size, 0, none⟩) O.length O.length) (W.alloc (.cells M 4)) := fun W => by
    have h := run_make (P := Tryz.prog) W 212 4 i4 (.bool false) Tryz.underlying212 hi4 hy0 .i64 .i64 (O.length : Int) (O.length : Int) (by omega) (by omega) (by rw [hy2]; omega) (by omega)
    rw [hM] at h
    simpa using h
  have OWN1 : Hid ((w1.alloc (.cells M 4)).ownsRow w1.heap.size 4 1 (.slice (some ⟨w1.heap.size, 0, none⟩) O.length O.length) O.length M.toList) := by
    refine ⟨by rw [Array.length_toList, hMs]; omega, .inr ⟨w1.heap.size, O.length, M, rfl, Nat.le_refl _, heap_alloc_new w1 _, Nat.le_refl _, by unfold maxLen; omega, by omega, ?_⟩⟩
    rw [List.take_of_length_le (by rw [Array.length_toList, hMs]; omega)]
  have B1 : Hid (Below w1.heap.size w1 (w1.alloc (.cells M 4))) := (Below.refl _ _).alloc (Nat.le_refl _) _
  have FI : Hid (FlInv F M.toList O.length) := ⟨by rw [Array.length_toList, hMs, hFl], fun j f hj hf => absurd (List.getElem?_eq_some_iff.1 hf).1 (by omega)⟩
  clear hM hMs hF
  go_wp2
  clear mk1
  generalize M.toList = X0 at OWN1 FI
  generalize w1.alloc (.cells M 4) = w2 at OWN1 B1 ⊢
  go_loopg [8, 9, 10, 11] O.length (fun kx s8 s9 s10 s11 wr => ∃ (i : Nat) (z : Int) (X : List Value), i ≤ O.length ∧ i ≤ kx ∧ s8 = .int .i64 z ∧ z = (i : Int) - 1 ∧ Hid (FlInv F X i) ∧ Hid (wr.ownsRow w1.heap.size 4 1 (.slice (some ⟨w1.heap.size, 0, none⟩) O.length O.length) O.length X) ∧ Hid (Below w1.heap.size w1 wr))
  case atStart => exact ⟨O.length, _, X0, Nat.le_refl _, Nat.le_refl _, rfl, by omega, FI.out, OWN1.out, B1.out⟩
  case round =>
    clear FI OWN1 B1
    obtain ⟨i, z, X, hil, hix, rfl, hz, HI, HO, HB⟩ := hrel
    match i with
    | 0 =>
      obtain rfl : z = -1 := by omega
      clear hil hix hz
      have HK : Hid (kpt S last O = keepBy F O) := by show _ = _; unfold kpt; rw [HF.out]
      obtain ⟨w4, hw4⟩ : ∃ w4, w4 = wr := ⟨_, rfl⟩
      subst hw4
      have hw1 := HB.out.size
      have HC : Hid (∀ (k : Nat) f, F[k]? = some f → w4.cell? ⟨w1.heap.size, k, none⟩ = some (.bool f)) := fun k f hf => by
        rw [HO.out.cellAt k (by have := (List.getElem?_eq_some_iff.1 hf).1; omega)]
        exact HI.out.2 k f (Nat.zero_le _) hf
      have HR4 : Hid (EnRow w4 (.slice ao O.length capO) O) := HR.out.below HB.out
      have HB4 : Hid (Below w.heap.size w w4) := below_trans' H.out.2.2.1 HB.out
      have HP : Hid (Sorted O ∧ O.Perm L) := ⟨H.out.1, H.out.2.1⟩
      clear HO HI HB HR HNE HG H HF
      go_wp2
      go_loopg [12, 13] O.length (fun kx s12 s13 wx => ∃ (k : Nat) (T : List En), k ≤ O.length ∧ O.length - k ≤ kx ∧ s13 = .int .i64 k ∧ T.length ≤ k ∧ Hid (T = keepBy (F.take k) (O.take k)) ∧ Hid (wx.ownsRow w4.heap.size 61 4 s12 T.length (ecells T)) ∧ Hid (Below w4.heap.size w4 wx))
      case atStart => exact ⟨0, [], Nat.zero_le _, Nat.le_refl _, rfl, Nat.le_refl _, rfl, World.ownsRow_nil _ _ _ _, Below.refl _ _⟩
      case round =>
        obtain ⟨k, T, hk, hkx, rfl, hTk, HT, HO, HB⟩ := hrel
        obtain ⟨aoT, capT, rfl⟩ := slice_form HO.out
        by_cases hlt : k < O.length
        · obtain ⟨b, hao, hcap, hEA⟩ : ∃ b, ao = some ⟨b, 0, none⟩ ∧ O.length ≤ capO ∧ EnAt w4 b O := by
            rcases HR4.out with ⟨h1, _⟩ | ⟨b, cap', h1, h2, h3⟩
            · rw [h1] at hlt; simp at hlt
            · simp only [Value.slice.injEq, true_and] at h1
              exact ⟨b, h1.1, h1.2 ▸ h2, h3⟩
          subst hao
          obtain ⟨x, hx⟩ : ∃ x, O[k]? = some x := ⟨_, List.getElem?_eq_getElem hlt⟩
          obtain ⟨f, hf⟩ : ∃ f, F[k]? = some f := ⟨_, List.getElem?_eq_getElem (by omega)⟩
          obtain ⟨c0, c1, c2, c3⟩ := hEA k x hx
          have hbr : b < wr.heap.size := Nat.lt_of_lt_of_le (block_of_cell c0) HB.out.size
          have c0 := cell_later HB.out c0
          have c1 := cell_later HB.out c1
          have c2 := cell_later HB.out c2
          have c3 := cell_later HB.out c3
          have ck := cell_later HB.out (HC.out k f hf)
          have hkO : (k : Int) < (O.length : Int) := by omega
          have HT2 : Hid (keepBy (F.take (k + 1)) (O.take (k + 1)) = T ++ if f then [x] else []) := by show _ = _; rw [keepBy_take hf hx, HT.out]
          clear hf hx hEA
          have hsz := HB.out.size
          cases f with
          | false =>
            have HT3 : Hid (T = keepBy (F.take (k + 1)) (O.take (k + 1))) := by show _ = _; rw [HT2.out]; simp
            go_wp2
            go_roundg (O.length - (k + 1))
            case measure => omega
            case rel => exact ⟨k + 1, T, by omega, Nat.le_refl _, by go_num, by omega, HT3.out, HO.out, HB.out⟩
          | true =>
            have HT3 : Hid (T ++ [x] = keepBy (F.take (k + 1)) (O.take (k + 1))) := by show _ = _; rw [HT2.out]; simp
            go_wp2_with (at_builtin; refine wpList_append_own _ rfl _ _ 59 rfl w4.heap.size 61 i0 _ 4 48 Tryz.underlying59 hi hz0 hz1 hz2 rfl (by decide) _ _ _ rfl (by exact HO.out.alloc _) ⟨wr.heap.size, 0, none⟩ 1 1 (En.cells x) rfl rfl (by exact one_entry wr x _ rfl) (entry_one _) (by unfold maxLen; omega) (by omega) (by simp; omega) ?_)
            intro v9 w5 ho2 hg2 _
            have HB5 : Hid (Below w4.heap.size w4 w5) := app_below HB.out HO.out hg2
            have HO5 : Hid (w5.ownsRow w4.heap.size 61 4 v9 (T ++ [x]).length (ecells (T ++ [x]))) := by
              have : ecells (T ++ [x]) = ecells T ++ En.cells x := by simp [ecells]
              rw [this, List.length_append]; exact ho2
            clear ho2 hg2
            go_wp2
            go_roundg (O.length - (k + 1))
            case measure => omega
            case rel => exact ⟨k + 1, T ++ [x], by omega, Nat.le_refl _, by go_num, by simp; omega, HT3.out, HO5.out, HB5.out⟩
        · obtain rfl : k = O.length := by omega
          have HT3 : Hid (kpt S last O = T) := by show _ = _; rw [HK.out, HT.out, List.take_of_length_le (by omega), List.take_of_length_le (Nat.le_refl _)]
          go_wp2
          go_ret
          exact ⟨O, _, rfl, HP.out.1, HP.out.2, by rw [HT3.out]; exact owns_base HO.out HB4.out.size, below_trans' HB4.out HB.out⟩
    | j + 1 =>
      obtain rfl : z = (j : Int) := by omega
      clear hz
      obtain ⟨e, he⟩ : ∃ e, O[j]? = some e := ⟨_, List.getElem?_eq_getElem (by omega)⟩
      have HGJ := HG.out j e he
      obtain ⟨nb, hnb⟩ : ∃ nb, ndd S (if j = 0 then none else O[j - 1]?) e = nb := ⟨_, rfl⟩
      have HCL := HNE.out wr HB.out j e he
      rw [hnb] at HCL HGJ
      have HGJ : Hid (F[j]? = some (nb && (!last || morK F O (j + 1) e.k || !e.g))) := HGJ
      have HE : Hid (O[j]? = some e) := he
      clear hnb he
      go_wp2_with fail
      refine HCL.mono ?_
      rintro e2 w3 ⟨rfl, hb3⟩
      have HB3 : Hid (Below w1.heap.size w1 w3) := below_trans' HB.out hb3
      have HO3 : Hid (w3.ownsRow w1.heap.size 4 1 (.slice (some ⟨w1.heap.size, 0, none⟩) O.length O.length) O.length X) := (Kp.of_below (B := 0) (ts := []) hb3).owns HO.out (by simp)
      clear HCL HO HB hb3
      go_wp2
      go_loopg [10, 11] O.length (fun kx s10 s11 wx => ∃ (k : Nat) (m : Bool), j + 1 ≤ k ∧ k ≤ O.length ∧ O.length - k ≤ kx ∧ s11 = .int .i64 k ∧ s10 = .bool m ∧ Hid ((((F.zip O).take k).drop (j + 1)).any (fun x => x.1 && (x.2.k.toList == e.k.toList)) = m) ∧ Hid (wx.ownsRow w1.heap.size 4 1 (.slice (some ⟨w1.heap.size, 0, none⟩) O.length O.length) O.length X) ∧ Hid (Below w1.heap.size w1 wx))
      case atStart => exact ⟨j + 1, false, Nat.le_refl _, hil, by omega, by go_num, rfl, by show _ = _; rw [List.drop_eq_nil_of_le (by rw [List.length_take]; omega)]; rfl, HO3.out, HB3.out⟩
      case round =>
        clear HO3 HB3
        obtain ⟨k, m, hjk, hkl, hkx, rfl, rfl, HM, HO, HB⟩ := hrel
        obtain ⟨b, hao, hcap, hEA⟩ : ∃ b, ao = some ⟨b, 0, none⟩ ∧ O.length ≤ capO ∧ EnAt w1 b O := by
          rcases HR.out with ⟨h1, _⟩ | ⟨b, cap', h1, h2, h3⟩
          · rw [h1] at hil; simp at hil
          · simp only [Value.slice.injEq, true_and] at h1
            exact ⟨b, h1.1, h1.2 ▸ h2, h3⟩
        subst hao
        obtain ⟨d0, d1, d2, d3⟩ := hEA j e HE.out
        have d0 := cell_later HB.out d0
        have d2 := cell_later HB.out d2
        clear d1 d3
        have hjO : (j : Int) < (O.length : Int) := by omega
        by_cases hlt : k < O.length
        · obtain ⟨x, hx⟩ : ∃ x, O[k]? = some x := ⟨_, List.getElem?_eq_getElem hlt⟩
          obtain ⟨f, hf⟩ : ∃ f, F[k]? = some f := ⟨_, List.getElem?_eq_getElem (by omega)⟩
          obtain ⟨c0, _, _, _⟩ := hEA k x hx
          have c0 := cell_later HB.out c0
          have ck : wr.cell? ⟨w1.heap.size, k, none⟩ = some (.bool f) := by rw [HO.out.cellAt k (by omega)]; exact HI.out.2 k f hjk hf
          have hkO : (k : Int) < (O.length : Int) := by omega
          have HT := mor_take (key := e.k) hjk hf hx
          rw [HM.out] at HT
          have HT : Hid _ := HT
          clear hf hx hEA
          have fin : ∀ (m' : Bool) (n : Nat), (m || (f && (x.k.toList == e.k.toList))) = m' → ∃ (k' : Nat) (m'' : Bool), j + 1 ≤ k' ∧ k' ≤ O.length ∧ O.length - k' ≤ O.length - (k + 1) ∧ (Value.int IntKind.i64 ((k : Int) + 1)) = .int .i64 k' ∧ (Value.bool m') = .bool m'' ∧ Hid ((((F.zip O).take k').drop (j + 1)).any (fun x => x.1 && (x.2.k.toList == e.k.toList)) = m'') ∧ Hid ((wr.drewN n).ownsRow w1.heap.size 4 1 (.slice (some ⟨w1.heap.size, 0, none⟩) O.length O.length) O.length X) ∧ Hid (Below w1.heap.size w1 (wr.drewN n)) :=
            fun m' n hm => ⟨k + 1, m', by omega, by omega, Nat.le_refl _, by go_num, rfl, by rw [← hm]; exact HT.out, HO.out, below_drewN_ HB.out _⟩
          cases m with
          | true =>
            have fin := fun n => fin true n rfl
            go_wp2
            go_quiet (fail)
            go_wp2
            go_roundg (O.length - (k + 1))
            case measure => omega
            case rel => exact fin _
          | false =>
            cases f with
            | false =>
              have fin := fun n => fin false n rfl
              go_wp2
              go_quiet (fail)
              go_wp2
              go_roundg (O.length - (k + 1))
              case measure => omega
              case rel => exact fin _
            | true =>
              obtain ⟨q, hq⟩ : ∃ q, (x.k.toList == e.k.toList) = q := ⟨_, rfl⟩
              have fin := fun n => fin q n (by rw [hq]; cases q <;> rfl)
              clear HT
              cases q
              · go_wp2
                go_quiet (fail)
                go_wp2
                go_roundg (O.length - (k + 1))
                case measure => omega
                case rel => exact fin _
              · go_wp2
                go_quiet (fail)
                go_wp2
                go_roundg (O.length - (k + 1))
                case measure => omega
                case rel => exact fin _
        · obtain rfl : k = O.length := by omega
          have HGJ2 : Hid (F[j]? = some (nb && (!last || m || !e.g))) := by
            have h1 := HGJ.out
            rw [show morK F O (j + 1) e.k = m by rw [← HM.out]; unfold morK; rw [List.take_of_length_le (by rw [List.length_zip]; omega)]] at h1
            exact h1
          clear HGJ HM hlt hjk hkx hkl hEA
          obtain ⟨u0, cj⟩ : ∃ u0, wr.cell? ⟨w1.heap.size, j, none⟩ = some u0 := by
            rw [HO.out.cellAt j (by omega)]
            exact ⟨_, List.getElem?_eq_getElem (by rw [HO.out.1]; omega)⟩
          have fj := HO.out.frozenAt j
          have fin : ∀ (f : Bool), (nb && (!last || m || !e.g)) = f → ∃ (i' : Nat) (z : Int) (X' : List Value), i' ≤ O.length ∧ i' ≤ j ∧ (Value.int IntKind.i64 ((j : Int) - 1)) = .int .i64 z ∧ z = (i' : Int) - 1 ∧ Hid (FlInv F X' i') ∧ Hid ((wr.setCell ⟨w1.heap.size, j, none⟩ (.bool f)).ownsRow w1.heap.size 4 1 (.slice (some ⟨w1.heap.size, 0, none⟩) O.length O.length) O.length X') ∧ Hid (Below w1.heap.size w1 (wr.setCell ⟨w1.heap.size, j, none⟩ (.bool f))) :=
            fun f hf => ⟨j, _, X.set j (.bool f), by omega, Nat.le_refl _, rfl, rfl, fl_step HI.out (hf ▸ HGJ2.out), (HO.out.stored j _).1, HB.out.setCell (Nat.le_refl _) _⟩
          clear HGJ2
          cases nb with
          | false =>
            have fin := fin false rfl
            go_wp2
            go_roundg j
            case measure => omega
            case rel => exact fin
          | true =>
            cases last with
            | false =>
              have fin := fin true rfl
              go_wp2
              go_roundg j
              case measure => omega
              case rel => exact fin
            | true =>
              cases m with
              | true =>
                have fin := fin true rfl
                go_wp2
                go_roundg j
                case measure => omega
                case rel => exact fin
              | false =>
                obtain ⟨gb, hgb⟩ : ∃ gb, e.g = gb := ⟨_, rfl⟩
                rw [hgb] at d2 fin
                clear hgb
                have fin := fin (!gb) (by cases gb <;> rfl)
                cases gb
                · go_wp2
                  go_roundg j
                  case measure => omega
                  case rel => exact fin
                · go_wp2
                  go_roundg j
                  case measure => omega
                  case rel => exact fin
end Go.Proofs.YtakipjofboipmaaGreatDoor
