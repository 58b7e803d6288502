/- The walks of this proof: (*run).Lay. -/
import Derived.Test.YtakipjofboipmaaGreatJ6
import Derived.Deep.RegionHeld
namespace Go.Proofs.YtakipjofboipmaaGreat
open Go.RowKit Go.Sort

theorem place_unique {E : List En} {k : ByteArray} {s : Int} {i j : Nat} (hi : IsPlace E k s i) (hj : IsPlace E k s j) : i = j := by
  rcases Nat.lt_trichotomy i j with h | h | h
  · have hl : i < E.length := by have := hj.1; omega
    have h1 := (hj.2 i _ (List.getElem?_eq_getElem hl)).1 h
    have h2 := (hi.2 i _ (List.getElem?_eq_getElem hl)).2 (Nat.le_refl _)
    omega
  · exact h
  · have hl : j < E.length := by have := hi.1; omega
    have h1 := (hi.2 j _ (List.getElem?_eq_getElem hl)).1 h
    have h2 := (hj.2 j _ (List.getElem?_eq_getElem hl)).2 (Nat.le_refl _)
    omega

theorem place_exists (k : ByteArray) (s : Int) : ∀ {E : List En}, Sorted E → ∃ i, IsPlace E k s i
  | [], _ => ⟨0, Nat.le_refl _, fun j e h => by simp at h⟩
  | x :: r, hs => by
    have hr : Sorted r := (List.pairwise_cons.1 hs).2
    by_cases h : oc x.k x.s k s < 0
    · obtain ⟨i, h1, h2⟩ := place_exists k s hr
      refine ⟨i + 1, by simpa using h1, fun j e he => ?_⟩
      cases j with
      | zero => simp at he; subst he; exact ⟨fun _ => h, fun g => by omega⟩
      | succ j =>
        simp at he
        exact ⟨fun g => (h2 j e he).1 (by omega), fun g => (h2 j e he).2 (by omega)⟩
    · refine ⟨0, Nat.zero_le _, fun j e he => ⟨fun g => absurd g (Nat.not_lt_zero _), fun _ => ?_⟩⟩
      cases j with
      | zero => simp at he; subst he; omega
      | succ j =>
        simp at he
        have := (List.pairwise_cons.1 hs).1 e (List.mem_of_getElem? he)
        exact Int.not_lt.1 fun g => h (oc_trans this g)

theorem place_in {E : List En} {k : ByteArray} {s : Int} {p : Nat} (hp : IsPlace E k s p) (v : Value) (w : World) (hn : E.length < 1000000000) (hs : Sorted E) (hc : EnRow w v E) (d : Nat) (os : Array Obj) :
    Calls Tryz.prog 133 #[v, .string k, .int .i64 s] (grow (redrawn w d) os) fun e w'' => e = .returned (.int .i64 p) ∧ ∃ q : Regrown, w'' = grow (redrawn w q.d) q.os := by
  refine Calls.regrown_of ((place_any E v k s _ hn hs (hc.below (below_regrown w d os))).mono ?_)
  rintro e w' ⟨i, rfl, hi, hb⟩
  rw [place_unique hp hi]
  exact ⟨rfl, hb⟩

/-- What is true of memory while entries are laid together. -/
structure LayAt (D : Nat → Prop) (t : TypeId) (sb g gN n : Nat) (V : Value) (f : List Value) (curN : Array Value) (w0 : World) (row : List En) (w : World) : Prop where
  own : w.ownsRow 0 58 4 V row.length (ecells row)
  sto : w.heap[sb]? = some (.cells (V :: f).toArray t (0, 0))
  new : w.heap[gN]? = some (.cells curN 58 (0, 0))
  kp : Kd D [t, 58] w0 w
  ne : t ≠ 58
  len : row.length = n

theorem LayAt.below {D : Nat → Prop} {t : TypeId} {sb g gN n : Nat} {V : Value} {f : List Value} {curN : Array Value} {w0 w w' : World} {row : List En} (h : LayAt D t sb g gN n V f curN w0 row w) (hb : Below w.heap.size w w') : LayAt D t sb g gN n V f curN w0 row w' :=
  ⟨(Kp.of_below (B := 0) (ts := []) hb).owns h.own (by simp), (hb.block sb (lt_of_block h.sto)).trans h.sto, (hb.block gN (lt_of_block h.new)).trans h.new, h.kp.trans (Kd.of_below hb), h.ne, h.len⟩

/-- A row that turns in place. -/
theorem LayAt.turn {D : Nat → Prop} {t : TypeId} {sb g gN n cap : Nat} {f : List Value} {curN : Array Value} {w0 w w' : World} {row row' : List En} (h : LayAt D t sb g gN n (.slice (some ⟨g, 0, none⟩) n cap) f curN w0 row w) (hgN : g ≠ gN) (hB : D g)
    (hw : ∀ k, k ≠ g → w'.heap[k]? = w.heap[k]?) (hos : w'.os = w.os ∧ w'.tape = w.tape ∧ w'.output = w.output ∧ w'.heap.size = w.heap.size) (ho : w'.ownsRow 0 58 4 (.slice (some ⟨g, 0, none⟩) n cap) row'.length (ecells row')) (hl : row'.length = n) : LayAt D t sb g gN n (.slice (some ⟨g, 0, none⟩) n cap) f curN w0 row' w' := by
  obtain ⟨cur, hg⟩ : ∃ cur, w.heap[g]? = some (.cells cur 58 (0, 0)) := by
    rcases h.own.2 with ⟨h', _⟩ | ⟨g', cap', cur, hv, _, hg, _⟩
    · cases h'
    · simp only [Value.slice.injEq, Option.some.injEq, Addr.mk.injEq, and_true] at hv
      obtain ⟨rfl, _⟩ := hv
      exact ⟨cur, hg⟩
  have hsg : sb ≠ g := fun e => by
    have h1 := h.sto
    rw [e, hg] at h1
    simp only [Option.some.injEq, Obj.cells.injEq] at h1
    exact h.ne h1.2.1.symm
  refine ⟨ho, (hw sb hsg).trans h.sto, (hw gN (Ne.symm hgN)).trans h.new, h.kp.trans ⟨hos.1, hos.2.1, hos.2.2.1, by rw [hos.2.2.2]; exact Nat.le_refl _, fun k _ hor => hw k (fun e => ?_)⟩, h.ne, hl⟩
  subst e
  rcases hor with h1 | h1
  · exact h1 hB
  · exact h1 _ _ _ hg (by simp)

/-- What Lay comes to. -/
def LayPost (E N : List En) (D : Nat → Prop) (t : TypeId) (sb : Nat) (f : List Value) (w : World) (e : Ending) (w' : World) : Prop :=
  e = .returned (.tuple #[]) ∧ ∃ (V : Value) (F : List En), w'.heap[sb]? = some (.cells (V :: f).toArray t (0, 0)) ∧ OwnsIn w' D 58 4 V F.length (ecells F) ∧ Sorted F ∧ (∀ x, x ∈ F ↔ x ∈ E ∨ x ∈ N) ∧ F.length = E.length + N.length ∧ Kd D [t, 58] w w'

set_option maxHeartbeats 2000000 in
set_option maxRecDepth 100000 in
theorem lay_any (E N : List En) (D : Nat → Prop) (sb gN capN : Nat) (vE : Value) (t : TypeId) (fl : List Value) (curN : Array Value) (w : World) (ht : t ≠ 58)
    (hs : w.heap[sb]? = some (.cells (vE :: fl).toArray t (0, 0))) (hB : D sb) (hD : Opn D w) (hE : OwnsIn w D 58 4 vE E.length (ecells E))
    (hg : w.heap[gN]? = some (.cells curN 58 (0, 0))) (hN : w.ownsRow 0 58 4 (.slice (some ⟨gN, 0, none⟩) N.length capN) N.length (ecells N)) (hne : vE.ownBlock ≠ some gN)
    (sE : Sorted E) (sN : Sorted N) (hdis : ∀ y ∈ E, ∀ x ∈ N, ¬ (y.k = x.k ∧ y.s = x.s)) (hle : E.length + N.length < 1000000000) (h1 : 1 ≤ N.length) :
    Calls Tryz.prog 87 #[.pointer (some ⟨sb, 0, none⟩), .slice (some ⟨gN, 0, none⟩) N.length capN] w fun e w' => LayPost E N D t sb fl w e w' := by
  obtain ⟨i0, hi, hz0, hz1, hz2⟩ := info_parts Tryz.info58
  obtain ⟨aoE, capE, rfl⟩ := slice_form hE.own
  have hnews : Hid (∀ j u, (ecells N)[j]? = some u → w.cell? ((⟨gN, 0, none⟩ : Addr).add j) = some u) := hN.cells (g := gN) rfl
  have hone : Hid (∀ u ∈ ecells N, u.oneCell' = true) := fun u hu => by
    obtain ⟨x, _, hx⟩ := List.mem_flatMap.1 hu
    exact entry_one x u hx
  have c0 : w.cell? ⟨sb, 0, none⟩ = some (.slice aoE E.length capE) := by simp [World.cell?, hs]
  have HE : Hid (OwnsIn w D 58 4 (.slice aoE E.length capE) E.length (ecells E)) := hE
  have HN : Hid (w.heap[sb]? = some (.cells (.slice aoE E.length capE :: fl).toArray t (0, 0)) ∧ w.heap[gN]? = some (.cells curN 58 (0, 0)) ∧ w.ownsRow 0 58 4 (.slice (some ⟨gN, 0, none⟩) N.length capN) N.length (ecells N) ∧ (Value.slice aoE E.length capE).ownBlock ≠ some gN ∧ Sorted E ∧ Sorted N ∧ ∀ y ∈ E, ∀ x ∈ N, ¬ (y.k = x.k ∧ y.s = x.s)) := ⟨hs, hg, hN, hne, sE, sN, hdis⟩
  have HD : Hid (Opn D w) := hD
  clear hs hE hg hN hne sE sN hdis hD
  go_enter Tryz.func87, Tryz.ntmps87
  go_wp2_with (at_builtin; refine wpList_append_lies _ rfl (.tmp 16) (.tmp 17) 54 rfl 0 58 i0 _ 4 48 Tryz.underlying54 hi hz0 hz1 hz2 rfl (by decide) _ _ _ rfl HE.out.own ⟨gN, 0, none⟩ N.length capN (ecells N) rfl (ecells_len N) hnews.out hone.out (by omega) (by unfold maxLen; omega) (by omega) (Nat.zero_le _) _ rfl ?_)
  intro g cap w1 ho1 hg1 hat hlt
  have K1 : Kd D [58] w w1 := (Kd.refl D [58] w).grown HE.out hg1 (by simp)
  have hgN : g ≠ gN := fun e => by
    subst e
    rcases hat with h | h
    · exact HN.out.2.2.2.1 h
    · have := lt_of_block HN.out.2.1; omega
  have ht2 : ¬ 58 = t := fun e => ht e.symm
  have hs1 := K1.keep HN.out.1 (by simp [ht])
  have hcap : E.length + N.length ≤ cap := by
    rcases ho1.2 with ⟨h, _⟩ | ⟨g', cap', cur, hv, _, _, hnc, _⟩
    · cases h
    · simp only [Value.slice.injEq, true_and] at hv; rw [hv.2]; exact hnc
  have hBg : D g := (HE.out.lies HD.out ho1 hat).dom g rfl
  have L1 : Hid (LayAt D t sb g gN (E.length + N.length) (.slice (some ⟨g, 0, none⟩) (E.length + N.length) cap) fl curN w (E ++ N) (w1.setCell ⟨sb, 0, none⟩ (.slice (some ⟨g, 0, none⟩) (E.length + N.length) cap))) := by
    have kf := Kd.field hB hs1 0 (.slice (some ⟨g, 0, none⟩) (E.length + N.length) cap)
    refine ⟨?_, ?_, ?_, (K1.mono (by simp)).trans (kf.mono (by simp)), ht, by rw [List.length_append]⟩
    · have e : ecells (E ++ N) = ecells E ++ ecells N := by simp [ecells]
      rw [e, List.length_append]
      exact kf.owns ho1 (by simp [ht2])
    · rw [heap_setCell_same _ _ _ _ _ _ hs1]; simp
    · have e1 : w1.heap[gN]? = some (.cells curN 58 (0, 0)) := (hg1.block gN (lt_of_block HN.out.2.1) (fun e => HN.out.2.2.2.1 e.symm)).trans HN.out.2.1
      exact kf.keep e1 (by simp [ht2])
  have c0' : w1.cell? ⟨sb, 0, none⟩ = some (.slice aoE E.length capE) := by simp [World.cell?, hs1]
  have f0' : w1.frozen? ⟨sb, 0, none⟩ = false := by simp [World.frozen?, hs1]
  have HGN : Hid (g ≠ gN) := hgN
  clear ho1 hg1 hat hlt hs1 K1 hgN
  go_wp2
  go_loopg [4, 5] N.length (fun kx s4 s5 wr => ∃ (e i1 : Nat) (J T : List En), s4 = .int .i64 e ∧ ((i1 = 0 ∧ s5 = .int .i64 (-1)) ∨ ∃ i : Nat, i1 = i + 1 ∧ s5 = .int .i64 i) ∧ i1 ≤ kx ∧ J.length = i1 ∧ Hid (LayInv E N e i1 T) ∧ Hid (LayAt D t sb g gN (E.length + N.length) (.slice (some ⟨g, 0, none⟩) (E.length + N.length) cap) fl curN w (E.take e ++ J ++ T) wr))
  case atStart => exact ⟨E.length, N.length, N, [], rfl, .inr ⟨N.length - 1, by omega, by congr 1; omega⟩, by omega, rfl, lay_start E N, by rw [List.append_nil, List.take_of_length_le (Nat.le_refl _)]; exact L1.out⟩
  case round =>
    clear L1 c0 c0' f0'
    obtain ⟨e, i1, J, T, rfl, hi1, hkx, hJ, HI, HL⟩ := hrel
    rcases hi1 with ⟨rfl, rfl⟩ | ⟨i, rfl, rfl⟩
    · obtain rfl : J = [] := List.eq_nil_of_length_eq_zero hJ
      go_wp2
      go_end0
      have hf := lay_end HN.out.2.2.2.2.1 HI.out
      have hr := HL.out
      rw [List.append_nil] at hr
      refine ⟨rfl, _, E.take e ++ T, hr.sto, ⟨by simpa using hr.own, fun g2 hg2 => by simp only [Value.ownBlock, Option.some.injEq] at hg2; subst hg2; exact hBg⟩, hf.1, hf.2.1, hf.2.2, hr.kp⟩
    · have hil : i < N.length := by have := HI.out.li; omega
      have hel : e ≤ E.length := HI.out.le
      obtain ⟨x, hx⟩ : ∃ x, N[i]? = some x := ⟨_, List.getElem?_eq_getElem hil⟩
      have hte : (E.take e).length = e := by rw [List.length_take, Nat.min_eq_left hel]
      obtain ⟨p, hp⟩ := place_exists x.k x.s (E := E.take e) (List.Pairwise.sublist (List.take_sublist _ _) HN.out.2.2.2.2.1)
      have hpe : p ≤ e := by have := hp.1; omega
      have HI2 : Hid (LayInv E N p i (x :: ((E.take e).drop p ++ T))) := lay_step HN.out.2.2.2.2.1 HN.out.2.2.2.2.2.1 HI.out hx hp (fun y hy => HN.out.2.2.2.2.2.2 y hy x (List.mem_of_getElem? hx))
      have nc : ∀ f, f < 4 → wr.cell? ⟨gN, i * 4 + f, none⟩ = (En.cells x)[f]? := fun f hf => by
        rw [World.cell?_of_block (w := w) (a := ⟨gN, i * 4 + f, none⟩) (HL.out.new.trans HN.out.2.1.symm), HN.out.2.2.1.cellAt _ (by omega)]
        exact flat_get _ 4 (fun a => by rfl) N i x f hx hf
      have n0 : wr.cell? ⟨gN, i * 4, none⟩ = some (.string x.k) := nc 0 (by omega)
      have n1 : wr.cell? ⟨gN, i * 4 + 1, none⟩ = some (.int .i64 x.s) := nc 1 (by omega)
      have n2 : wr.cell? ⟨gN, i * 4 + 2, none⟩ = some (.bool x.g) := nc 2 (by omega)
      have n3 : wr.cell? ⟨gN, i * 4 + 3, none⟩ = some (.string x.v) := nc 3 (by omega)
      have s0 : wr.cell? ⟨sb, 0, none⟩ = some (.slice (some ⟨g, 0, none⟩) (E.length + N.length) cap) := by simp [World.cell?, HL.out.sto]
      have n0' := cell_regrown n0
      have n1' := cell_regrown n1
      have s0' := cell_regrown s0
      have ER : Hid (EnRow wr (.slice (some ⟨g, 0, none⟩) e cap) (E.take e)) := by
        refine .inr ⟨g, cap, by rw [hte], by omega, fun j y hy => ?_⟩
        have hy2 : (E.take e ++ J ++ T)[j]? = some y := by
          have hj : j < (E.take e).length := (List.getElem?_eq_some_iff.1 hy).1
          rw [List.append_assoc, List.getElem?_append_left hj]; exact hy
        have hown := HL.out.own
        obtain ⟨g', cap', hv, _, _, _, hcell⟩ := row_cell (fun a => by rfl) hown (by have := (List.getElem?_eq_some_iff.1 hy2).1; omega)
        simp only [Value.slice.injEq, Option.some.injEq, Addr.mk.injEq, and_true] at hv
        obtain ⟨rfl, _, rfl⟩ := hv
        exact ⟨hcell j y 0 hy2 (by omega), hcell j y 1 hy2 (by omega), hcell j y 2 hy2 (by omega), hcell j y 3 hy2 (by omega)⟩
      have HSE : Hid (Sorted (E.take e)) := List.Pairwise.sublist (List.take_sublist _ _) HN.out.2.2.2.2.1
      have HP : Hid (IsPlace (E.take e) x.k x.s p) := hp
      have HX : Hid (N[i]? = some x) := hx
      have hen : (E.take e).length < 1000000000 := by omega
      have hec : (e : Int) ≤ (cap : Int) := by omega
      have hecn : e ≤ cap := by omega
      have hiN : (i : Int) < (N.length : Int) := by omega
      clear nc hp hx
      go_wp2
      refine wp_region_quiet_below (by kernel_rfl) (by kernel_rfl) ?_
      repeat (first | go_big_quiet_step (exact place_in HP.out _ _ hen HSE.out ER.out _ _) | quiet_step (exact place_in HP.out _ _ hen HSE.out ER.out _ _))
      refine wpQuiet_nil ?_
      intro w2 hw'
      have hb := below_of_regrown hw'
      have HL2 : Hid (LayAt D t sb g gN (E.length + N.length) (.slice (some ⟨g, 0, none⟩) (E.length + N.length) cap) fl curN w (E.take e ++ J ++ T) w2) := HL.out.below hb
      have n0 := cell_later hb n0
      have n1 := cell_later hb n1
      have n2 := cell_later hb n2
      have n3 := cell_later hb n3
      have s0 := cell_later hb s0
      have hTl : e + (i + 1) + T.length = E.length + N.length := HI.out.len
      clear hb hw' n0' n1' s0' ER HL HSE HP HI
      have s0' := cell_regrown s0
      have hrow : (E.take e ++ J ++ T).length = E.length + N.length := HL2.out.len
      have hce1 : ¬ cap = p := by omega
      go_wp2
      refine wp_region_quiet_tail 16 (by kernel_rfl) (by kernel_rfl) ?_
      simp only [List.take_succ_cons, List.take_zero, List.drop_succ_cons, List.drop_zero]
      have HCP : Hid (∀ w3, Below w2.heap.size w2 w3 → ∃ arr : Array Value, (∀ (ty dCap sCap : Nat) (dp : Option Addr), (p < e → dp = some ⟨g, (p + i + 1) * 4, none⟩) → (Builtin.copy_ #[54, 54] ty #[.slice dp (E.length + N.length - (p + i + 1)) dCap, .slice (some ⟨g, p * 4, none⟩) (e - p) sCap]).run Tryz.prog w3 = .ok (goInt ((e - p : Nat) : Int)) (w3.setRow g arr)) ∧
          LayAt D t sb g gN (E.length + N.length) (.slice (some ⟨g, 0, none⟩) (E.length + N.length) cap) fl curN w ((E.take e ++ J ++ T).take (p + i + 1) ++ ((E.take e ++ J ++ T).drop p).take (e - p) ++ (E.take e ++ J ++ T).drop (p + i + 1 + (e - p))) (w3.setRow g arr)) := fun w3 hb3 => by
        have hl3 := HL2.out.below hb3
        have hown := hl3.own
        rw [← hrow] at hown
        obtain ⟨cur, hg3, _, hfit, hsrc, hnew⟩ := copy_entries hown (p + i + 1) p (e - p) (by rw [hrow]; omega) (by rw [hrow]; omega)
        refine ⟨_, fun ty dCap sCap dp hdp => run_copy_rows w3 54 54 ty 58 i0 g ((p + i + 1) * 4) _ dCap _ sCap (e - p) dp _ ⟨g, p * 4, none⟩ cur 58 (ecells (((E.take e ++ J ++ T).drop p).take (e - p))) Tryz.underlying54 hi hg3 (Nat.min_eq_left (by omega)) (by rw [ecells_len, List.length_take, List.length_drop, hrow, hz1]; congr 1; omega) (fun h => ⟨hdp (by omega), rfl⟩) hsrc hfit (fun u hu => by
          obtain ⟨y, _, hy⟩ := List.mem_flatMap.1 hu
          exact entry_one y u hy), ?_⟩
        refine hl3.turn HGN.out hBg (fun k hk => setRow_other _ _ _ _ hk) ⟨rfl, rfl, rfl, by simp⟩ ?_ ?_
        · have hl' : ((E.take e ++ J ++ T).take (p + i + 1) ++ ((E.take e ++ J ++ T).drop p).take (e - p) ++ (E.take e ++ J ++ T).drop (p + i + 1 + (e - p))).length = (E.take e ++ J ++ T).length := by
            simp only [List.length_append, List.length_take, List.length_drop] at hrow ⊢; omega
          rw [hl']
          rw [hrow] at hnew ⊢
          exact hnew
        · simp only [List.length_append, List.length_take, List.length_drop] at hrow ⊢; omega
      rcases Decidable.em (cap = p + i + 1) with hce | hce
      · subst hce
        repeat (first | go_big_quiet_step (fail) | quiet_step (fail))
        refine wpQuiet_nil ?_
        intro w3 hw'
        have hb := below_of_regrown hw'
        obtain ⟨arr, hcp0, hl4⟩ := HCP.out w3 hb
        have hcp := fun ty dCap sCap => hcp0 ty dCap sCap (some ⟨g, 0, none⟩) (fun h => absurd h (by omega))
        clear hcp0 hb hw' HCP HL2 s0 s0' n0 n1 n2 n3
        have HL4 : Hid _ := hl4
        clear hl4
        have hz : E.length + N.length - (p + i + 1) = 0 := by omega
        simp only [hz] at hcp
        clear hz
        go_wp2_with fail
        clear hcp
        generalize w3.setRow g arr = w4 at HL4 ⊢
        obtain ⟨row1, hrow1⟩ : ∃ row1, (E.take e ++ J ++ T).take (p + i + 1) ++ ((E.take e ++ J ++ T).drop p).take (e - p) ++ (E.take e ++ J ++ T).drop (p + i + 1 + (e - p)) = row1 := ⟨_, rfl⟩
        obtain ⟨J2, hJ2, hset⟩ := lay_row (T := T) (x := x) hel hpe hJ
        rw [hrow1] at HL4 hset
        have HSET : Hid _ := hset
        clear hset hrow1
        have hr1 : row1.length = E.length + N.length := HL4.out.len
        obtain ⟨y, hy⟩ : ∃ y, row1[p + i]? = some y := ⟨_, List.getElem?_eq_getElem (by omega)⟩
        obtain ⟨g', cap', hv, _, _, _, hcell⟩ := row_cell (fun a => by rfl) HL4.out.own (by omega)
        simp only [Value.slice.injEq, Option.some.injEq, Addr.mk.injEq, and_true] at hv
        obtain ⟨rfl, hjk, rfl⟩ := hv
        clear hjk
        have r0 : w4.cell? ⟨g, (p + i) * 4, none⟩ = some (.string y.k) := hcell (p + i) y 0 hy (by omega)
        have r1 : w4.cell? ⟨g, (p + i) * 4 + 1, none⟩ = some (.int .i64 y.s) := hcell (p + i) y 1 hy (by omega)
        have r2 : w4.cell? ⟨g, (p + i) * 4 + 2, none⟩ = some (.bool y.g) := hcell (p + i) y 2 hy (by omega)
        have r3 : w4.cell? ⟨g, (p + i) * 4 + 3, none⟩ = some (.string y.v) := hcell (p + i) y 3 hy (by omega)
        have s0 : w4.cell? ⟨sb, 0, none⟩ = some (.slice (some ⟨g, 0, none⟩) (E.length + N.length) (p + i + 1)) := by simp [World.cell?, HL4.out.sto]
        have nc : ∀ f, f < 4 → w4.cell? ⟨gN, i * 4 + f, none⟩ = (En.cells x)[f]? := fun f hf => by
          rw [World.cell?_of_block (w := w) (a := ⟨gN, i * 4 + f, none⟩) (HL4.out.new.trans HN.out.2.1.symm), HN.out.2.2.1.cellAt _ (by omega)]
          exact flat_get _ 4 (fun a => by rfl) N i x f HX.out hf
        have n0 := cell_regrown (show w4.cell? ⟨gN, i * 4, none⟩ = some (.string x.k) from nc 0 (by omega))
        have n1 := cell_regrown (show w4.cell? ⟨gN, i * 4 + 1, none⟩ = some (.int .i64 x.s) from nc 1 (by omega))
        have n2 := cell_regrown (show w4.cell? ⟨gN, i * 4 + 2, none⟩ = some (.bool x.g) from nc 2 (by omega))
        have n3 := cell_regrown (show w4.cell? ⟨gN, i * 4 + 3, none⟩ = some (.string x.v) from nc 3 (by omega))
        have s0' := cell_regrown s0
        have HR1 : Hid (row1.length = E.length + N.length) := hr1
        clear nc hcell hy s0 hr1
        have hpi : (p : Int) + (i : Int) < (E.length : Int) + (N.length : Int) := by omega
        have hpi0 : (0 : Int) ≤ (p : Int) + (i : Int) := by omega
        have hpin : ((p : Int) + (i : Int)).toNat = p + i := by omega
        refine wp_region_quiet_tail 12 (by kernel_rfl) (by kernel_rfl) ?_
        simp only [List.take_succ_cons, List.take_zero, List.drop_succ_cons, List.drop_zero]
        repeat (first | go_big_quiet_step (fail) | quiet_step (fail))
        refine wpQuiet_nil ?_
        intro w5 hw'
        have hb := below_of_regrown hw'
        have r0 := cell_later hb r0
        have r1 := cell_later hb r1
        have r2 := cell_later hb r2
        have r3 := cell_later hb r3
        have HL5 : Hid (LayAt D t sb g gN (E.length + N.length) (.slice (some ⟨g, 0, none⟩) (E.length + N.length) (p + i + 1)) fl curN w row1 w5) := HL4.out.below hb
        have hfz : ∀ o, w5.frozen? ⟨g, o, none⟩ = false := fun o => by
          rcases HL5.out.own.2 with ⟨h, _⟩ | ⟨g2, cap2, cur, hv, _, hg, _⟩
          · cases h
          · simp only [Value.slice.injEq, Option.some.injEq, Addr.mk.injEq, and_true] at hv
            obtain ⟨rfl, _⟩ := hv
            simp [World.frozen?, hg]
        have HF : Hid (LayAt D t sb g gN (E.length + N.length) (.slice (some ⟨g, 0, none⟩) (E.length + N.length) (p + i + 1)) fl curN w (row1.set (p + i) x) ((((w5.setCell ⟨g, (p + i) * 4, none⟩ (.string x.k)).setCell ⟨g, (p + i) * 4 + 1, none⟩ (.int .i64 x.s)).setCell ⟨g, (p + i) * 4 + 2, none⟩ (.bool x.g)).setCell ⟨g, (p + i) * 4 + 3, none⟩ (.string x.v))) := by
          have hown := HL5.out.own
          rw [← HR1.out] at hown
          have hput := put_entry hown (p + i) x (by have := HR1.out; omega)
          have hl' : (row1.set (p + i) x).length = E.length + N.length := by rw [List.length_set, HR1.out]
          refine HL5.out.turn HGN.out hBg (fun k hk => ?_) ⟨rfl, rfl, rfl, by simp [World.setCell]⟩ ?_ hl'
          · rw [Below.heap_setCell _ _ _ _ hk, Below.heap_setCell _ _ _ _ hk, Below.heap_setCell _ _ _ _ hk, Below.heap_setCell _ _ _ _ hk]
          · rw [hl'] at hput ⊢
            exact hput
        clear hb hw' n0 n1 n2 n3 s0' HL4 HL5
        go_wp2
        go_roundg i
        case measure => omega
        case rel =>
          refine ⟨p, i, J2, x :: ((E.take e).drop p ++ T), rfl, ?_, Nat.le_refl _, hJ2, HI2.out, ?_⟩
          · cases i with
            | zero => exact .inl ⟨rfl, rfl⟩
            | succ i => exact .inr ⟨i, rfl, by congr 1; omega⟩
          · rw [← HSET.out]
            exact HF.out
      ·
        repeat (first | go_big_quiet_step (fail) | quiet_step (fail))
        refine wpQuiet_nil ?_
        intro w3 hw'
        have hb := below_of_regrown hw'
        obtain ⟨arr, hcp0, hl4⟩ := HCP.out w3 hb
        have hcp := fun ty dCap sCap => hcp0 ty dCap sCap (some ⟨g, (p + i + 1) * 4, none⟩) (fun _ => rfl)
        clear hcp0 hb hw' HCP HL2 s0 s0' n0 n1 n2 n3
        have HL4 : Hid _ := hl4
        clear hl4
        go_wp2_with fail
        clear hcp
        generalize w3.setRow g arr = w4 at HL4 ⊢
        obtain ⟨row1, hrow1⟩ : ∃ row1, (E.take e ++ J ++ T).take (p + i + 1) ++ ((E.take e ++ J ++ T).drop p).take (e - p) ++ (E.take e ++ J ++ T).drop (p + i + 1 + (e - p)) = row1 := ⟨_, rfl⟩
        obtain ⟨J2, hJ2, hset⟩ := lay_row (T := T) (x := x) hel hpe hJ
        rw [hrow1] at HL4 hset
        have HSET : Hid _ := hset
        clear hset hrow1
        have hr1 : row1.length = E.length + N.length := HL4.out.len
        obtain ⟨y, hy⟩ : ∃ y, row1[p + i]? = some y := ⟨_, List.getElem?_eq_getElem (by omega)⟩
        obtain ⟨g', cap', hv, _, _, _, hcell⟩ := row_cell (fun a => by rfl) HL4.out.own (by omega)
        simp only [Value.slice.injEq, Option.some.injEq, Addr.mk.injEq, and_true] at hv
        obtain ⟨rfl, hjk, rfl⟩ := hv
        clear hjk
        have r0 : w4.cell? ⟨g, (p + i) * 4, none⟩ = some (.string y.k) := hcell (p + i) y 0 hy (by omega)
        have r1 : w4.cell? ⟨g, (p + i) * 4 + 1, none⟩ = some (.int .i64 y.s) := hcell (p + i) y 1 hy (by omega)
        have r2 : w4.cell? ⟨g, (p + i) * 4 + 2, none⟩ = some (.bool y.g) := hcell (p + i) y 2 hy (by omega)
        have r3 : w4.cell? ⟨g, (p + i) * 4 + 3, none⟩ = some (.string y.v) := hcell (p + i) y 3 hy (by omega)
        have s0 : w4.cell? ⟨sb, 0, none⟩ = some (.slice (some ⟨g, 0, none⟩) (E.length + N.length) cap) := by simp [World.cell?, HL4.out.sto]
        have nc : ∀ f, f < 4 → w4.cell? ⟨gN, i * 4 + f, none⟩ = (En.cells x)[f]? := fun f hf => by
          rw [World.cell?_of_block (w := w) (a := ⟨gN, i * 4 + f, none⟩) (HL4.out.new.trans HN.out.2.1.symm), HN.out.2.2.1.cellAt _ (by omega)]
          exact flat_get _ 4 (fun a => by rfl) N i x f HX.out hf
        have n0 := cell_regrown (show w4.cell? ⟨gN, i * 4, none⟩ = some (.string x.k) from nc 0 (by omega))
        have n1 := cell_regrown (show w4.cell? ⟨gN, i * 4 + 1, none⟩ = some (.int .i64 x.s) from nc 1 (by omega))
        have n2 := cell_regrown (show w4.cell? ⟨gN, i * 4 + 2, none⟩ = some (.bool x.g) from nc 2 (by omega))
        have n3 := cell_regrown (show w4.cell? ⟨gN, i * 4 + 3, none⟩ = some (.string x.v) from nc 3 (by omega))
        have s0' := cell_regrown s0
        have HR1 : Hid (row1.length = E.length + N.length) := hr1
        clear nc hcell hy s0 hr1
        have hpi : (p : Int) + (i : Int) < (E.length : Int) + (N.length : Int) := by omega
        have hpi0 : (0 : Int) ≤ (p : Int) + (i : Int) := by omega
        have hpin : ((p : Int) + (i : Int)).toNat = p + i := by omega
        refine wp_region_quiet_tail 12 (by kernel_rfl) (by kernel_rfl) ?_
        simp only [List.take_succ_cons, List.take_zero, List.drop_succ_cons, List.drop_zero]
        repeat (first | go_big_quiet_step (fail) | quiet_step (fail))
        refine wpQuiet_nil ?_
        intro w5 hw'
        have hb := below_of_regrown hw'
        have r0 := cell_later hb r0
        have r1 := cell_later hb r1
        have r2 := cell_later hb r2
        have r3 := cell_later hb r3
        have HL5 : Hid (LayAt D t sb g gN (E.length + N.length) (.slice (some ⟨g, 0, none⟩) (E.length + N.length) cap) fl curN w row1 w5) := HL4.out.below hb
        have hfz : ∀ o, w5.frozen? ⟨g, o, none⟩ = false := fun o => by
          rcases HL5.out.own.2 with ⟨h, _⟩ | ⟨g2, cap2, cur, hv, _, hg, _⟩
          · cases h
          · simp only [Value.slice.injEq, Option.some.injEq, Addr.mk.injEq, and_true] at hv
            obtain ⟨rfl, _⟩ := hv
            simp [World.frozen?, hg]
        have HF : Hid (LayAt D t sb g gN (E.length + N.length) (.slice (some ⟨g, 0, none⟩) (E.length + N.length) cap) fl curN w (row1.set (p + i) x) ((((w5.setCell ⟨g, (p + i) * 4, none⟩ (.string x.k)).setCell ⟨g, (p + i) * 4 + 1, none⟩ (.int .i64 x.s)).setCell ⟨g, (p + i) * 4 + 2, none⟩ (.bool x.g)).setCell ⟨g, (p + i) * 4 + 3, none⟩ (.string x.v))) := by
          have hown := HL5.out.own
          rw [← HR1.out] at hown
          have hput := put_entry hown (p + i) x (by have := HR1.out; omega)
          have hl' : (row1.set (p + i) x).length = E.length + N.length := by rw [List.length_set, HR1.out]
          refine HL5.out.turn HGN.out hBg (fun k hk => ?_) ⟨rfl, rfl, rfl, by simp [World.setCell]⟩ ?_ hl'
          · rw [Below.heap_setCell _ _ _ _ hk, Below.heap_setCell _ _ _ _ hk, Below.heap_setCell _ _ _ _ hk, Below.heap_setCell _ _ _ _ hk]
          · rw [hl'] at hput ⊢
            exact hput
        clear hb hw' n0 n1 n2 n3 s0' HL4 HL5
        go_wp2
        go_roundg i
        case measure => omega
        case rel =>
          refine ⟨p, i, J2, x :: ((E.take e).drop p ++ T), rfl, ?_, Nat.le_refl _, hJ2, HI2.out, ?_⟩
          · cases i with
            | zero => exact .inl ⟨rfl, rfl⟩
            | succ i => exact .inr ⟨i, rfl, by congr 1; omega⟩
          · rw [← HSET.out]
            exact HF.out
end Go.Proofs.YtakipjofboipmaaGreat

/- The walks of this proof: writing a batch. -/
namespace Go.Proofs.YtakipjofboipmaaGreat
open Go.RowKit Go.Sort

/-- What addRecord comes to. -/
def AddPost (D : Nat → Prop) (sb : Nat) (vE vL a2 a3 a4 a5 a6 : Value) (l : List UInt8) (w : World) (e : Ending) (w' : World) : Prop :=
  e = .returned (.tuple #[]) ∧ ∃ v : Value, w'.heap[sb]? = some (.cells #[vE, vL, v, a2, a3, a4, a5, a6] 118 (0, 0)) ∧ OwnsJ w' D v l ∧ Kd D [118, 5] w w'

set_option maxHeartbeats 1000000 in
set_option maxRecDepth 100000 in
theorem addRecord_any (D : Nat → Prop) (B sb : Nat) (vE vL vR a2 a3 a4 a5 a6 v : Value) (l r : List UInt8) (w : World) (hs : w.heap[sb]? = some (.cells #[vE, vL, vR, a2, a3, a4, a5, a6] 118 (0, 0))) (hB : D sb) (hD : Opn D w) (hR : OwnsJ w D vR l) (hv : BR B v r w) (hm : 1 ≤ r.length) (hl : l.length + r.length ≤ 140737488355328) :
    Calls Tryz.prog 85 #[.pointer (some ⟨sb, 2, none⟩), v] w fun e w' => AddPost D sb vE vL a2 a3 a4 a5 a6 (l ++ r) w e w' := by
  obtain ⟨i0, hi, hz0, hz1, hz2⟩ := info_parts Tryz.info5
  have ho2 : w.ownsRow B 5 1 v r.length (bcells r) := hv
  clear hv
  obtain ⟨g2, cap2, rfl, hB2, hg2⟩ := ho2.form (by omega)
  have hnews : Hid (∀ j u, (bcells r)[j]? = some u → w.cell? ((⟨g2, 0, none⟩ : Addr).add j) = some u) := ho2.cells (g := g2) rfl
  obtain ⟨aoR, capR, rfl⟩ := hR.form
  have c1 : w.cell? ⟨sb, 2, none⟩ = some (.slice aoR l.length capR) := by simp [World.cell?, hs]
  have HD : Hid (Opn D w) := hD
  have HS : Hid (w.heap[sb]? = some (.cells #[vE, vL, .slice aoR l.length capR, a2, a3, a4, a5, a6] 118 (0, 0))) := hs
  have HO : Hid (OwnsJ w D (.slice aoR l.length capR) l) := hR
  obtain ⟨g1, cap1, w1, hrun, ho1, hg1, hat⟩ := run_append_mark Tryz.prog w 71 71 i0 Tryz.underlying71 hi hz0 hz1 hz2 (.slice aoR l.length capR) l r hR.1 ⟨g2, 0, none⟩ cap2 hnews.out (by omega) (by omega)
  have HRUN : Hid ((Builtin.append_ #[71, 71] 71 #[.slice aoR l.length capR, .slice (some ⟨g2, 0, none⟩) r.length cap2]).run Tryz.prog w = .ok (.slice (some ⟨g1, 0, none⟩) (l.length + r.length) cap1) w1) := hrun
  have K1 : Kd D [5] w w1 := Kd.grownJ HO.out hg1
  have hs1 := K1.keep HS.out (by simp)
  have HF : Hid (AddPost D sb vE vL a2 a3 a4 a5 a6 (l ++ r) w (.returned (.tuple #[])) (w1.setCell ⟨sb, 2, none⟩ (.slice (some ⟨g1, 0, none⟩) (l.length + r.length) cap1))) := by
    have kf := Kd.field hB hs1 2 (.slice (some ⟨g1, 0, none⟩) (l.length + r.length) cap1)
    refine ⟨rfl, .slice (some ⟨g1, 0, none⟩) (l.length + r.length) cap1, by rw [set_field hs1 2 _]; simp, ?_, (K1.mono (by simp)).trans (kf.mono (by simp))⟩
    exact kf.ownsJ (HO.out.lies HD.out ho1 hat) (by simp)
  have c1' : w1.cell? ⟨sb, 2, none⟩ = some (.slice aoR l.length capR) := by simp [World.cell?, hs1]
  have f1' : w1.frozen? ⟨sb, 2, none⟩ = false := by simp [World.frozen?, hs1]
  clear ho2 hs hR hD ho1 hg1 hs1 K1 hat hrun
  go_enter Tryz.func85, Tryz.ntmps85
  go_wp2_with (at_builtin; refine wpList_appB _ rfl (.tmp 8) (.tmp 9) 71 71 rfl (.slice aoR l.length capR) (.slice (some ⟨g2, 0, none⟩) r.length cap2) rfl rfl HRUN.out ?_)
  go_wp2
  go_end0
  exact HF.out

theorem below_from_drewN {B d : Nat} {w w' : World} (h : Below B (w.drewN d) w') : Below B w w' := ⟨h.os, h.tape, h.output, h.size, h.block⟩

theorem br_base {B base : Nat} {v : Value} {l : List UInt8} {w : World} (h : BR base v l w) (hb : B ≤ base) : BR B v l w := owns_base h hb

/-- A store in which a batch more was written. -/
def St.wr (x : St) (b : List Pr) : St := { x with E := srt (x.E ++ b.map (toEn (x.last + 1))), B := x.B ++ [b], M := srt (x.M ++ b.map (toEn (x.last + 1))), last := x.last + 1 }
/-- The whole journal is synced. -/
def St.syn (x : St) : St := { x with sy := x.B.length }

/-- What writing a batch comes to. -/
def WritePost (D F : Nat → Prop) (sb : Nat) (x : St) (w : World) (e : Ending) (w' : World) : Prop :=
  e = .returned (.tuple #[]) ∧ StoreAt D F sb x w' ∧ Kd D [118, 5, 58] w w'

theorem sorted_new {M : List Pr} {s : Int} (h : Upto M M.length) : Sorted (M.map (toEn s)) := by
  refine List.pairwise_iff_getElem.2 fun i j hi hj hij => ?_
  simp only [List.length_map] at hi hj
  have := h i j _ _ hij hj (List.getElem?_eq_getElem hi) (List.getElem?_eq_getElem hj)
  unfold elt
  rw [oc_lt]
  left
  simpa [toEn] using this

theorem srt_new {E : List En} {M : List Pr} {la : Int} (hE : Sorted E) (hup : Upto M M.length) (hlt : ∀ e ∈ E, e.s ≤ la) : Sorted (srt (E ++ M.map (toEn (la + 1)))) := by
  refine srt_sorted (List.pairwise_append.2 ⟨sorted_dist hE, sorted_dist (sorted_new hup), fun a ha b hb hh => ?_⟩)
  obtain ⟨p, _, rfl⟩ := List.mem_map.1 hb
  have h1 := hlt a ha
  have h2 : a.s = la + 1 := hh.2
  omega

/-- All that Lay asks, behind Entries. -/
theorem lay_ready {D : Nat → Prop} {sb : Nat} {vE : Value} {fl : List Value} {E : List En} {M : List Pr} {la : Int} {w3 w4 : World} {vN : Value}
    (hs : w3.heap[sb]? = some (.cells (vE :: fl).toArray 118 (0, 0))) (hB : D sb) (hD : Opn D w3) (hE : OwnsIn w3 D 58 4 vE E.length (ecells E)) (sE : Sorted E) (hup : Upto M M.length) (hb : Below w3.heap.size w3 w4)
    (hN : w4.ownsRow w3.heap.size 58 4 vN (M.map (toEn (la + 1))).length (ecells (M.map (toEn (la + 1))))) (h1 : 1 ≤ M.length) (h4 : M.length ≤ 4) (hlt : ∀ e ∈ E, e.s ≤ la) (hfew : E.length + 4 < 1000000000) :
    ∃ gN capN, vN = .slice (some ⟨gN, 0, none⟩) M.length capN ∧ Calls Tryz.prog 87 #[.pointer (some ⟨sb, 0, none⟩), .slice (some ⟨gN, 0, none⟩) M.length capN] w4 fun e w' => LayPost E (M.map (toEn (la + 1))) D 118 sb fl w4 e w' := by
  have hl : (M.map (toEn (la + 1))).length = M.length := List.length_map _
  rcases hN.2 with ⟨_, h0⟩ | ⟨gN, capN, curN, rfl, hbg, hg, _⟩
  · omega
  refine ⟨gN, capN, by rw [hl], ?_⟩
  have hne : vE.ownBlock ≠ some gN := fun e => by have := (hE.own.lt gN e).2; omega
  have h := lay_any E (M.map (toEn (la + 1))) D sb gN capN vE 118 fl curN w4 (by decide) ((Kp.of_below (B := 0) (ts := []) hb).keep hs (by simp)) hB (hD.later hb.size) (hE.below hb) hg (owns_base hN (Nat.zero_le _)) hne sE (sorted_new hup)
    (fun y hy z hz => by
      obtain ⟨q, _, rfl⟩ := List.mem_map.1 hz
      intro hh
      have := hlt y hy
      have h2 : y.s = la + 1 := hh.2
      omega) (by omega) (by omega)
  rw [hl] at h
  exact h

set_option maxHeartbeats 2000000 in
set_option maxRecDepth 100000 in
theorem write_any (D F : Nat → Prop) (sb : Nat) (x : St) (M : List Pr) (vs : Value) (base : Nat) (w : World) (hx : StoreAt D F sb x w) (hD : Opn D w) (hF : ∀ b, b < w.heap.size → F b → ¬ D b) (ok : StOk x) (hM : w.ownsRow base 48 3 vs M.length (pcells M)) (bt : Bt M) (hl1 : x.last < 1000000000) (hfew : x.E.length + 4 < 1000000000) :
    Calls Tryz.prog 53 #[.pointer (some ⟨sb, 0, none⟩), vs] w fun e w' => WritePost D F sb (x.wr M) w e w' := by
  have h1 := bt.lo
  have h4 := bt.hi
  have okM := bt.ok
  have hup := bt.up
  have hlt := ok.slast
  have hl0 : 0 ≤ x.last := by have := ok.lv.la0; have := ok.lv.la1; omega
  have hjl := ok.lv.jl hl1
  obtain ⟨vE, vL, vR, vS, hB, hs, hE, hT, hR, hS⟩ := hx
  obtain ⟨la, hla⟩ : ∃ la, x.last = la := ⟨_, rfl⟩
  rw [hla] at hs hl0 hl1 hlt
  have c5 : w.cell? ⟨sb, 7, none⟩ = some (.int .i64 la) := by simp [World.cell?, hs]
  have f5 : w.frozen? ⟨sb, 7, none⟩ = false := by simp [World.frozen?, hs]
  have k1 := Kd.field hB hs 7 (.int .i64 (la + 1))
  have s1 := set_field hs 7 (.int .i64 (la + 1))
  simp only [List.setIfInBounds_toArray, List.set_cons_succ, List.set_cons_zero] at s1
  have e1 := k1.ownsIn hE (by simp)
  have r1 := k1.ownsJ hR (by simp)
  have o1 := k1.ownsIn hS (by simp)
  have m1 := k1.owns hM (by simp)
  generalize hw1 : w.setCell ⟨sb, 7, none⟩ (.int .i64 (la + 1)) = w1 at k1 s1 e1 r1 o1 m1
  have HW : Hid (w.setCell ⟨sb, 7, none⟩ (.int .i64 (la + 1)) = w1) := hw1
  have HD1 : Hid (Opn D w1) := hD.later k1.size
  have HREC : Hid (∀ d, Calls Tryz.prog 86 #[vs] (w1.drewN d) fun e w' => RecPost M (w1.drewN d) e w') := fun d => record_any M vs base (w1.drewN d) m1 h4 okM
  have HALL : Hid (Kd D [118] w w1 ∧ w1.heap[sb]? = some (.cells #[vE, vL, vR, .int .i64 (rl (x.B.take x.sy)), .int .i64 x.la, vS, .int .i64 x.lastSnap, .int .i64 (la + 1)] 118 (0, 0)) ∧ OwnsIn w1 D 58 4 vE x.M.length (ecells x.M) ∧ OwnsJ w1 D vR x.J ∧ OwnsIn w1 D 174 2 vS x.S.length (scells x.S) ∧ w1.ownsRow base 48 3 vs M.length (pcells M) ∧ x.J.length + 1000 ≤ 140737488355328) := ⟨k1, s1, e1, r1, o1, m1, hjl⟩
  have HTB : Hid (TabsIn w D F vL x.T ∧ (∀ b, b < w.heap.size → F b → ¬ D b)) := ⟨hT, hF⟩
  have HBT : Hid (Bt M ∧ (recB M).length ≤ 73 ∧ 1 ≤ (recB M).length) := ⟨bt, by have := recB_len bt; omega, by have := recB_len bt; omega⟩
  have OKX : Hid (StOk x) := ok
  have OKM : Hid (∀ p ∈ M, PrOk p) := okM
  have HUP : Hid (Upto M M.length) := hup
  have HLT : Hid (∀ e ∈ x.M, e.s ≤ la) := fun e he => hlt e ((ok.lv.mem e).1 he).1
  have hmf : x.M.length + 4 < 1000000000 := by have := sub_len ok.lv.msorted ok.sorted fun e he => ((ok.lv.mem e).1 he).1; omega
  have HLA : Hid (x.last = la) := hla
  clear hD hs hE hT hF hR hS hM ok okM hup hlt bt hjl k1 s1 e1 r1 o1 m1 hw1 hla
  go_enter Tryz.func53, Tryz.ntmps53
  go_wp2
  rw [HW.out]
  go_region_with (first
    | (go_at_call 86; refine Calls.mono (HREC.out 1) ?_; rintro e w2 ⟨vr, rfl, hbr, hbel⟩; have B2 : Hid (Below w1.heap.size w1 w2) := below_from_drewN hbel; have V2 : Hid (BR 0 vr (recB M) w2) := br_base hbr (Nat.zero_le _); have D2 : Hid (Opn D w2) := HD1.out.later B2.out.size; clear hbr hbel)
    | (go_at_call 85; refine (addRecord_any D 0 sb vE vL vR _ _ vS _ _ _ x.J (recB M) _ (by exact (Kp.of_below (B := 0) (ts := []) B2.out).keep HALL.out.2.1 (by simp)) hB D2.out (by exact (Kd.of_below (D := D) (ts := []) B2.out).ownsJ HALL.out.2.2.2.1 (by simp)) V2.out HBT.out.2.2 (by have := HALL.out.2.2.2.2.2.2; have := HBT.out.2.1; omega)).mono ?_; rintro e w3 ⟨rfl, vR3, h3s, h3o, h3k⟩; have A3 : Hid (w3.heap[sb]? = some (.cells #[vE, vL, vR3, .int .i64 (rl (x.B.take x.sy)), .int .i64 x.la, vS, .int .i64 x.lastSnap, .int .i64 (la + 1)] 118 (0, 0)) ∧ OwnsJ w3 D vR3 (x.J ++ recB M) ∧ Kd D [118, 5] w1 w3) := ⟨h3s, h3o, (Kd.of_below B2.out).trans h3k⟩; clear h3s h3o h3k))
  go_wp2
  have c5b : w3.cell? ⟨sb, 7, none⟩ = some (.int .i64 (la + 1)) := by simp [World.cell?, A3.out.1]
  have K3 : Hid (Kd D [118, 5] w1 w3) := A3.out.2.2
  have HENT : Hid (∀ d, Calls Tryz.prog 88 #[vs, .int .i64 (la + 1)] (w3.drewN d) fun e w' => EntPost M (la + 1) (w3.drewN d) e w') := fun d => entries_any M vs base (la + 1) (w3.drewN d) (K3.out.owns HALL.out.2.2.2.2.2.1 (by simp)) h4
  have HD3 : Hid (Opn D w3) := HD1.out.later K3.out.size
  have E3 : Hid (OwnsIn w3 D 58 4 vE x.M.length (ecells x.M)) := K3.out.ownsIn HALL.out.2.2.1 (by simp)
  go_region_with (first
    | (go_at_call 88; refine Calls.mono (HENT.out 1) ?_; rintro e w4 ⟨vN, rfl, hoN, hbN⟩; obtain ⟨gN, capN, hLAY⟩ := lay_ready A3.out.1 hB HD3.out E3.out OKX.out.lv.msorted HUP.out (below_from_drewN hbN) hoN h1 h4 HLT.out (by omega); obtain ⟨rfl, hLAY⟩ := hLAY; have HLAY : Hid _ := hLAY; have B4 : Hid (Below w3.heap.size w3 w4) := below_from_drewN hbN; clear hLAY hoN hbN)
    | (go_at_call 87; refine Calls.mono HLAY.out ?_; rintro e w5 ⟨rfl, V5, F5, h5s, h5o, h5r, h5m, h5l, h5k⟩; have A5 : Hid (w5.heap[sb]? = some (.cells #[V5, vL, vR3, .int .i64 (rl (x.B.take x.sy)), .int .i64 x.la, vS, .int .i64 x.lastSnap, .int .i64 (la + 1)] 118 (0, 0)) ∧ OwnsIn w5 D 58 4 V5 F5.length (ecells F5) ∧ Sorted F5 ∧ (∀ y, y ∈ F5 ↔ y ∈ x.M ∨ y ∈ M.map (toEn (la + 1))) ∧ F5.length = x.M.length + (M.map (toEn (la + 1))).length ∧ Kd D [118, 58] w4 w5) := ⟨h5s, h5o, h5r, h5m, h5l, h5k⟩; clear h5s h5o h5r h5m h5l h5k))
  go_wp2
  go_end0
  have K35 : Kd D [118, 5, 58] w3 w5 := (Kd.of_below B4.out).trans (A5.out.2.2.2.2.2.mono (by simp))
  have KALL : Kd D [118, 5, 58] w w5 := ((HALL.out.1.mono (by simp)).trans (K3.out.mono (by simp))).trans K35
  have hF5 : F5 = (x.wr M).M := sorted_ext A5.out.2.2.1 (srt_new OKX.out.lv.msorted HUP.out fun e he => by rw [HLA.out]; exact HLT.out e he) fun e => by
    rw [A5.out.2.2.2.1]
    show _ ↔ e ∈ srt _
    rw [srt_mem, List.mem_append, HLA.out]
  have hJ : (x.wr M).J = x.J ++ recB M := by simp [St.J, St.wr]
  have hsy : (x.wr M).B.take (x.wr M).sy = x.B.take x.sy := List.take_append_of_le_length OKX.out.lv.bsy
  refine ⟨rfl, ⟨V5, vL, vR3, vS, hB, ?_, by rw [← hF5]; exact A5.out.2.1, HTB.out.1.kept KALL (by simp) HTB.out.2, ?_, ?_⟩, KALL⟩
  · rw [hsy]
    show _ = some (Obj.cells #[V5, vL, vR3, .int .i64 (rl (x.B.take x.sy)), .int .i64 x.la, vS, .int .i64 x.lastSnap, .int .i64 (x.last + 1)] 118 (0, 0))
    rw [HLA.out]; exact A5.out.1
  · rw [hJ]
    exact ((Kd.of_below (D := D) (ts := [118, 58]) B4.out).trans A5.out.2.2.2.2.2).ownsJ A3.out.2.1 (by simp)
  · exact (((K3.out.mono (by simp) : Kd D [118, 5, 58] w1 w3)).trans K35).ownsIn HALL.out.2.2.2.2.1 (by simp)

theorem St.syn_rl (x : St) : x.J.length = rl (x.syn.B.take x.syn.sy) := by
  show _ = rl (x.B.take x.B.length)
  rw [List.take_length]
  rfl

set_option maxHeartbeats 400000 in
theorem syncAll_any (D F : Nat → Prop) (sb : Nat) (x : St) (w : World) (hx : StoreAt D F sb x w) :
    Calls Tryz.prog 55 #[.pointer (some ⟨sb, 2, none⟩)] w fun e w' => e = .returned (.tuple #[]) ∧ StoreAt D F sb x.syn w' ∧ Kd D [118] w w' := by
  have hrl := x.syn_rl
  obtain ⟨vE, vL, vR, vS, hB, hs, hE, hT, hR, hS⟩ := hx
  obtain ⟨aoR, capR, rfl⟩ := hR.form
  have c1 : w.cell? ⟨sb, 2, none⟩ = some (.slice aoR x.J.length capR) := by simp [World.cell?, hs]
  have c2 : w.cell? ⟨sb, 3, none⟩ = some (.int .i64 (rl (x.B.take x.sy))) := by simp [World.cell?, hs]
  have f2 : w.frozen? ⟨sb, 3, none⟩ = false := by simp [World.frozen?, hs]
  have HF : Hid (StoreAt D F sb x.syn (w.setCell ⟨sb, 3, none⟩ (.int .i64 (x.J.length : Int))) ∧ Kd D [118] w (w.setCell ⟨sb, 3, none⟩ (.int .i64 (x.J.length : Int)))) := by
    have kf := Kd.field hB hs 3 (.int .i64 (x.J.length : Int))
    refine ⟨⟨vE, vL, .slice aoR x.J.length capR, vS, hB, ?_, kf.ownsIn hE (by simp), hT.kd kf (by simp) (by simp), kf.ownsJ hR (by simp), kf.ownsIn hS (by simp)⟩, kf⟩
    rw [set_field hs 3 _, ← hrl]; rfl
  clear hs hE hT hR hS hrl
  go_enter Tryz.func55, Tryz.ntmps55
  go_wp2
  go_end0
  exact ⟨rfl, HF.out⟩

/-- The batch that pairs come to. -/
def Settles (Lp M : List Pr) : Prop := SamePr (keep Lp) M ∧ Upto M M.length

theorem Settles.bt {Lp M : List Pr} (h : Settles Lp M) (h1 : 1 ≤ Lp.length) (h4 : Lp.length ≤ 4) (okL : ∀ p ∈ Lp, PrOk p) : Bt M := by
  have hk1 := keep_pos h1
  have hk2 := keep_len Lp
  have hml := h.1.1
  exact ⟨by omega, by omega, fun p hp => okL p (keep_sub ((h.1.2 p).1 hp)), h.2⟩

/-- A store behind a Write. -/
def St.wrs (x : St) (b : List Pr) (sync : Bool) : St := if sync then (x.wr b).syn else x.wr b

/-- What Write comes to, of a batch. -/
def BatchPost (D F : Nat → Prop) (sb : Nat) (x : St) (Lp : List Pr) (sync : Bool) (w : World) (e : Ending) (w' : World) : Prop :=
  e = .returned (.tuple #[.int .i64 (x.last + 1), .int .i64 0]) ∧ ∃ M : List Pr, Settles Lp M ∧ StoreAt D F sb (x.wrs M sync) w' ∧ Kd D [118, 5, 58] w w'

set_option maxHeartbeats 2000000 in
set_option maxRecDepth 100000 in
theorem writeCall_any (D F : Nat → Prop) (sb : Nat) (x : St) (Lp : List Pr) (v : Value) (base : Nat) (sync : Bool) (w : World) (hx : StoreAt D F sb x w) (hD : Opn D w) (hF : ∀ b, F b → ¬ D b) (ok : StOk x) (hL : w.ownsRow base 48 3 v Lp.length (pcells Lp)) (h1 : 1 ≤ Lp.length) (h4 : Lp.length ≤ 4) (okL : ∀ p ∈ Lp, PrOk p)
    (hl1 : x.last < 1000000000) (hfew : x.E.length + 4 < 1000000000) :
    Calls Tryz.prog 18 #[.pointer (some ⟨sb, 0, none⟩), v, .bool sync] w fun e w' => BatchPost D F sb x Lp sync w e w' := by
  have HC : Hid (Calls Tryz.prog 52 #[v] w fun e w' => e = .returned (.int .i64 0) ∧ Below w.heap.size w w') := check_any Lp v base w hL h1 h4 okL
  have HS : Hid (∀ w1, Below w.heap.size w w1 → Calls Tryz.prog 54 #[v] w1 fun e w' => SettlePost Lp w1 e w') := fun w1 hb => settle_any Lp v base w1 ((Kp.of_below (B := 0) (ts := []) hb).owns hL (by simp)) h1 h4 okL
  have HWR : Hid (∀ (M : List Pr) (vs : Value) (b : Nat) (w1 : World), Below w.heap.size w w1 → Settles Lp M → w1.ownsRow b 48 3 vs M.length (pcells M) → Calls Tryz.prog 53 #[.pointer (some ⟨sb, 0, none⟩), vs] w1 fun e w' => WritePost D F sb (x.wr M) w1 e w') := fun M vs b w1 hb hse ho =>
    write_any D F sb x M vs b w1 (hx.below hb) (hD.later hb.size) (fun b _ hfb => hF b hfb) ok ho (hse.bt h1 h4 okL) hl1 hfew
  clear hx hD hF ok hL okL
  go_enter Tryz.func18, Tryz.ntmps18
  go_wp2_with fail
  refine Calls.mono HC.out ?_
  rintro e w1 ⟨rfl, hb1⟩
  have B1 : Hid (Below w.heap.size w w1) := hb1
  clear hb1
  go_wp2_with fail
  refine Calls.mono (HS.out _ B1.out) ?_
  rintro e w2 ⟨vs, M, rfl, hsm, hup, hown, hb2⟩
  have B2 : Hid (Below w.heap.size w w2) := below_trans' B1.out hb2
  have A2 : Hid (Settles Lp M ∧ w2.ownsRow w1.heap.size 48 3 vs M.length (pcells M)) := ⟨⟨hsm, hup⟩, hown⟩
  clear hsm hup hown hb2
  go_wp2_with fail
  refine Calls.mono (HWR.out M vs w1.heap.size _ B2.out A2.out.1 A2.out.2) ?_
  rintro e w3 ⟨rfl, hF4, hF5⟩
  have A3 : Hid (StoreAt D F sb (x.wr M) w3 ∧ Kd D [118, 5, 58] w w3) := ⟨hF4, (Kd.of_below B2.out).trans hF5⟩
  clear hF4 hF5
  cases sync with
  | false =>
    have c5 : w3.cell? ⟨sb, 7, none⟩ = some (.int .i64 (x.last + 1)) := by
      obtain ⟨vE, vL, vR, vS, hB, hs, _⟩ := A3.out.1
      simp [World.cell?, hs, St.wr]
    go_wp2
    go_ret2
    exact ⟨rfl, M, A2.out.1, A3.out.1, A3.out.2⟩
  | true =>
    have HSY : Hid _ := syncAll_any D F sb _ w3 A3.out.1
    go_wp2_with fail
    refine Calls.mono HSY.out ?_
    rintro e w4 ⟨rfl, hst, hkp⟩
    have A4 : Hid (StoreAt D F sb (x.wr M).syn w4 ∧ Kd D [118, 5, 58] w w4) := ⟨hst, A3.out.2.trans (hkp.mono (by simp))⟩
    have c5 : w4.cell? ⟨sb, 7, none⟩ = some (.int .i64 (x.last + 1)) := by
      obtain ⟨vE, vL, vR, vS, hB, hs, _⟩ := A4.out.1
      simp [World.cell?, hs, St.wr, St.syn]
    clear hst hkp HSY
    go_wp2
    go_ret2
    exact ⟨rfl, M, A2.out.1, A4.out.1, A4.out.2⟩
end Go.Proofs.YtakipjofboipmaaGreat

/- The walks of this proof: pairs and batches out of raw numbers. -/
namespace Go.Proofs.YtakipjofboipmaaGreat
open Go.RowKit Go.Sort

/-- Which of n things a raw number speaks of. -/
def pk (c n : Int) : Int := (if c < 0 then -(c + 1) else c) % n

theorem pk_lt {c n : Int} (h : 0 < n) : 0 ≤ pk c n ∧ pk c n < n := ⟨Int.emod_nonneg _ (by omega), Int.emod_lt_of_pos _ h⟩

set_option maxHeartbeats 400000 in
theorem pick_any (c n : Int) (w : World) (h0 : -9223372036854775808 ≤ c) (h1 : c ≤ 9223372036854775807) (h2 : 0 < n) (h3 : n ≤ 1000000000) :
    Calls Tryz.prog 30 #[.int .i64 c, .int .i64 n] w fun e w' => e = .returned (.int .i64 (pk c n)) ∧ w' = w := by
  unfold pk
  by_cases hc : c < 0
  · rw [if_pos hc]
    have h4 : 0 ≤ -(c + 1) := by omega
    have h5 : -(c + 1) ≤ 9223372036854775807 := by omega
    go_enter Tryz.func30, Tryz.ntmps30
    go_wp2
    go_ret
    exact ⟨congrArg (fun z => Ending.returned (.int .i64 z)) (show -(c + 1).tmod n = -(c + 1) % n by rw [← Int.neg_tmod, Int.tmod_eq_emod_of_nonneg h4]), rfl⟩
  · rw [if_neg hc]
    go_enter Tryz.func30, Tryz.ntmps30
    go_wp2
    go_ret
    exact ⟨rfl, rfl⟩

/-- The ten keys. -/
def tk : List ByteArray := [⟨#[97]⟩, ⟨#[97, 98]⟩, ⟨#[98]⟩, ⟨#[0]⟩, ⟨#[255, 255]⟩, ⟨#[97, 98, 99, 100, 101, 102]⟩, ⟨#[98, 0]⟩, ⟨#[98, 97]⟩, ⟨#[126]⟩, ⟨#[97, 0]⟩]

def kof (c : Int) : ByteArray := tk.getD (pk c 10).toNat ⟨#[]⟩

set_option maxHeartbeats 1000000 in
theorem key_any (c : Int) (w : World) (h0 : -9223372036854775808 ≤ c) (h1 : c ≤ 9223372036854775807) :
    Calls Tryz.prog 22 #[.int .i64 c] w fun e w' => e = .returned (.string (kof c)) ∧ Below w.heap.size w w' := by
  have hp := pick_any c 10
  have HP : Hid (∀ w, Calls Tryz.prog 30 #[.int .i64 c, .int .i64 10] w fun e w' => e = .returned (.int .i64 (pk c 10)) ∧ w' = w) := fun w => hp w h0 h1 (by omega) (by omega)
  have hb := pk_lt (c := c) (n := 10) (by omega)
  unfold kof
  generalize pk c 10 = p at HP hb
  clear hp
  obtain ⟨hb0, hb1⟩ := hb
  obtain rfl | rfl | rfl | rfl | rfl | rfl | rfl | rfl | rfl | rfl : p = 0 ∨ p = 1 ∨ p = 2 ∨ p = 3 ∨ p = 4 ∨ p = 5 ∨ p = 6 ∨ p = 7 ∨ p = 8 ∨ p = 9 := by omega
  all_goals
    go_enter Tryz.func22, Tryz.ntmps22
    go_wp2_with fail
    refine Calls.mono (HP.out _) ?_
    rintro e w1 ⟨rfl, rfl⟩
    go_wp2
    go_ret
    exact ⟨rfl, (Below.refl _ _).alloc (Nat.le_refl _) _⟩

set_option maxHeartbeats 1000000 in
set_option maxRecDepth 100000 in
theorem digits_any (n : Int) (w : World) (h0 : 0 ≤ n) (h1 : n < 100) :
    Calls Tryz.prog 125 #[.int .i64 n] w fun e w' => ∃ s : ByteArray, e = .returned (.string s) ∧ s.size ≤ 8 ∧ Below w.heap.size w w' := by
  have hconv : (convert 71 9 (.slice (some ⟨w.heap.size, 0, none⟩) 2 2)).run Tryz.prog (w.alloc (.cells #[.int .u8 (48 + n / 10), .int .u8 (48 + n % 10)] 5)) = .ok (.string ([48 + n / 10, 48 + n % 10].foldl (fun r n => r.push (UInt8.ofNat n.toNat)) ByteArray.empty)) (w.alloc (.cells #[.int .u8 (48 + n / 10), .int .u8 (48 + n % 10)] 5)) := by
    rw [run_convert_bytes_string _ 71 9 5 _ _ _ Tryz.underlying71 Tryz.underlying5 Tryz.underlying9]
    refine run_bytesToString _ _ _ _ [48 + n / 10, 48 + n % 10] ?_
    have := run_loadCells_list (P := Tryz.prog) (w.alloc (.cells #[.int .u8 (48 + n / 10), .int .u8 (48 + n % 10)] 5)) ⟨w.heap.size, 0, none⟩ [.int .u8 (48 + n / 10), .int .u8 (48 + n % 10)] (cell_two_new w _ _ 5)
    exact this
  obtain ⟨s, hs⟩ : ∃ s, [48 + n / 10, 48 + n % 10].foldl (fun r n => r.push (UInt8.ofNat n.toNat)) ByteArray.empty = s := ⟨_, rfl⟩
  have hsz : s.size ≤ 8 := by rw [← hs]; simp [ByteArray.size_push]
  rw [hs] at hconv
  clear hs
  go_enter Tryz.func125, Tryz.ntmps125
  go_wp2
  go_ret
  exact ⟨s, rfl, hsz, (Below.refl _ _).alloc (Nat.le_refl _) _⟩

theorem key_in (c : Int) (w : World) (h0 : -9223372036854775808 ≤ c) (h1 : c ≤ 9223372036854775807) (d : Nat) (os : Array Obj) :
    Calls Tryz.prog 22 #[.int .i64 c] (grow (redrawn w d) os) fun e w'' => e = .returned (.string (kof c)) ∧ ∃ p : Regrown, w'' = grow (redrawn w p.d) p.os :=
  Calls.regrown_of (key_any c _ h0 h1)

end Go.Proofs.YtakipjofboipmaaGreat
