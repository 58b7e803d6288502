/- The walks of this proof: an entry that a batch made; an entry ahead of another; one that is newer. -/
import Derived.Test.YtakipjofboipmaaGreatJ13
import Derived.Test.YtakipjofboipmaaGreatJ9
import Derived.Deep.DeepCutAuto
namespace Go.Proofs.YtakipjofboipmaaGreat
open Go.RowKit Go.Sort

set_option maxHeartbeats 1000000 in
set_option maxRecDepth 100000 in
theorem less_any (a b : En) (w : World) (h : elt a b) :
    Calls Tryz.prog 48 #[a.val, b.val] w fun e w' => e = .returned (.bool true) ∧ Below w.heap.size w w' := by
  obtain ⟨k1, s1, g1, v1⟩ := a
  obtain ⟨k2, s2, g2, v2⟩ := b
  unfold En.val
  unfold elt at h
  rw [oc_lt] at h
  simp only at h
  have hle := bytesLess_kc k1 k2
  rcases h with h | ⟨h, hs⟩
  · have e : Op.bytesLess k1.toList k2.toList = true := by rw [hle]; simp [h]
    clear hle h
    go_enter Tryz.func48, Tryz.ntmps48
    go_wp2
    go_ret
    exact ⟨rfl, ((Below.refl _ _).alloc (Nat.le_refl _) _).alloc (by simp) _⟩
  · obtain rfl := h
    have e : Op.bytesLess k1.toList k1.toList = false := by rw [hle]; simp [kc_self]
    have hs2 : decide (s2 < s1) = true := by simp; omega
    clear hle
    go_enter Tryz.func48, Tryz.ntmps48
    go_wp2
    go_ret
    exact ⟨rfl, ((Below.refl _ _).alloc (Nat.le_refl _) _).alloc (by simp) _⟩

set_option maxHeartbeats 1000000 in
set_option maxRecDepth 100000 in
/-- None of a list that stands ahead is older, where all of the key are newer. -/
theorem newer_any (E : List En) (v : Value) (a : En) (w : World) (hc : EnRow w v E) (hn : E.length < 1000000000) (h : ∀ e ∈ E, e.k = a.k → a.s < e.s) :
    Calls Tryz.prog 49 #[v, a.val] w fun e w' => e = .returned (.bool false) ∧ Below w.heap.size w w' := by
  obtain ⟨ao, cap, rfl, hrow⟩ := hc.form
  obtain ⟨k2, s2, g2, v2⟩ := a
  unfold En.val
  have HH : Hid (∀ e ∈ E, e.k = k2 → s2 < e.s) := h
  have HR : Hid (0 < E.length → ∃ b, ao = some ⟨b, 0, none⟩ ∧ EnAt w b E) := hrow
  obtain ⟨W, hW⟩ : ∃ W, w.alloc (.cells #[.string k2, .int .i64 s2, .bool g2, .string v2] 58) = W := ⟨_, rfl⟩
  have HBW : Hid (Below w.heap.size w W) := by show Below _ _ _; rw [← hW]; exact (Below.refl _ _).alloc (Nat.le_refl _) _
  have b0 : W.cell? ⟨w.heap.size, 0, none⟩ = some (.string k2) := by rw [← hW]; simp
  have b1 : W.cell? ⟨w.heap.size, 1, none⟩ = some (.int .i64 s2) := by rw [← hW]; simp
  have HW : Hid (w.alloc (.cells #[.string k2, .int .i64 s2, .bool g2, .string v2] 58) = W) := hW
  clear h hrow hc hW
  go_enter Tryz.func49, Tryz.ntmps49
  go_wp2
  rw [HW.out]
  go_loopw [5] (fun i wr => ∃ k : Nat, k ≤ E.length ∧ i = .int .i64 k ∧ Hid (Below W.heap.size W wr)) (fun i _ => E.length - (intOf i).toNat)
  case atStart => exact ⟨0, Nat.zero_le _, rfl, Below.refl _ _⟩
  case round =>
    obtain ⟨k, hk, rfl, HB⟩ := hrel
    by_cases hlt : k < E.length
    · obtain ⟨b, rfl, hE⟩ := HR.out (by omega)
      obtain ⟨e, he⟩ : ∃ e, E[k]? = some e := ⟨_, List.getElem?_eq_getElem hlt⟩
      obtain ⟨c0, c1, _, _⟩ := ((hE.below HBW.out).below HB.out) k e he
      have hbl : b < wr.heap.size := block_lt_of_cell c0
      have d0 := cell_later HB.out b0
      have d1 := cell_later HB.out b1
      have hwl : w.heap.size < wr.heap.size := block_lt_of_cell d0
      have HX := HH.out e (List.mem_of_getElem? he)
      clear hE he
      have c0' := cell_regrown c0
      have c1' := cell_regrown c1
      have d0' := cell_regrown d0
      have d1' := cell_regrown d1
      by_cases hk2 : e.k = k2
      · have hd : decide (e.s ≤ s2) = false := by have := HX hk2; simp; omega
        subst hk2
        clear HX
        go_wp2_with fail
        refine wp_region_quiet_below (by kernel_rfl) (by kernel_rfl) ?_
        repeat (first | go_big_quiet_step (fail) | quiet_step (fail))
        refine wpQuiet_nil ?_
        intro w5 hw'
        have HB5 : Hid (Below W.heap.size W w5) := below_trans' HB.out (below_of_regrown hw')
        clear hw' c0' c1' d0' d1' HB c0 c1 d0 d1
        go_wp2
        go_roundw
        case rel => exact ⟨k + 1, by omega, by go_num, HB5⟩
        case measure => simp [intOf]; omega
      · have hnb := str_ne hk2
        clear HX
        go_wp2_with fail
        refine wp_region_quiet_below (by kernel_rfl) (by kernel_rfl) ?_
        repeat (first | go_big_quiet_step (fail) | quiet_step (fail))
        refine wpQuiet_nil ?_
        intro w5 hw'
        have HB5 : Hid (Below W.heap.size W w5) := below_trans' HB.out (below_of_regrown hw')
        clear hw' c0' c1' d0' d1' HB c0 c1 d0 d1
        go_wp2
        go_roundw
        case rel => exact ⟨k + 1, by omega, by go_num, HB5⟩
        case measure => simp [intOf]; omega
    · obtain rfl : k = E.length := by omega
      go_wp2
      go_ret
      exact ⟨rfl, below_trans' HBW.out HB.out⟩

set_option maxHeartbeats 2000000 in
set_option maxRecDepth 100000 in
theorem made_any (B hb : Nat) (x : St) (A : List (List Pr)) (a : En) (w : World) (hx : DeskAt B hb x A w) (ok : ∀ b ∈ A, BOk b) (hA : A.length < 100000000) (hr : Rel x.E A) (ha : a ∈ x.E) :
    Calls Tryz.prog 47 #[.pointer (some ⟨hb, 0, none⟩), a.val] w fun e w' => e = .returned (.bool true) ∧ Below w.heap.size w w' := by
  obtain ⟨i, c, p, hci, hp, rfl⟩ := (hr a).1 ha
  rw [keep_mem] at hp
  have hiA : i < A.length := (List.getElem?_eq_some_iff.1 hci).1
  have hco := ok c (List.mem_of_getElem? hci)
  have hc1 := hco.lo
  have hc4 := hco.hi
  obtain ⟨sb, vA, a2, a3, a4, a5, a6, hB, hs, _, hall⟩ := hx
  have s1 : w.cell? ⟨hb, 1, none⟩ = some vA := by simp [World.cell?, hs]
  obtain ⟨g, cap, gi, ci, rfl, hgl, cg, hgil, hce⟩ := all_cells hall hci (by omega)
  have hbl : hb < w.heap.size := lt_of_block hs
  obtain ⟨pk', pv, pg⟩ := p
  unfold En.val
  simp only [toEn]
  simp only at hp
  obtain ⟨W, hW⟩ : ∃ W, w.alloc (.cells #[.string pk', .int .i64 ((i : Int) + 1), .bool pg, .string pv] 58) = W := ⟨_, rfl⟩
  have hbW : Below w.heap.size w W := by rw [← hW]; exact (Below.refl _ _).alloc (Nat.le_refl _) _
  have HBW : Hid (Below w.heap.size w W) := hbW
  have b0 : W.cell? ⟨w.heap.size, 0, none⟩ = some (.string pk') := by rw [← hW]; simp
  have b1 : W.cell? ⟨w.heap.size, 1, none⟩ = some (.int .i64 ((i : Int) + 1)) := by rw [← hW]; simp
  have b2 : W.cell? ⟨w.heap.size, 2, none⟩ = some (.bool pg) := by rw [← hW]; simp
  have b3 : W.cell? ⟨w.heap.size, 3, none⟩ = some (.string pv) := by rw [← hW]; simp
  have s1 := cell_later hbW s1
  have cg := cell_later hbW cg
  have HCE : Hid (∀ (k : Nat) p, c[k]? = some p → W.cell? ⟨gi, k * 3, none⟩ = some (.string p.k) ∧ W.cell? ⟨gi, k * 3 + 1, none⟩ = some (.string p.v) ∧ W.cell? ⟨gi, k * 3 + 2, none⟩ = some (.bool p.g)) := fun k p h => ⟨cell_later hbW (hce k p h).1, cell_later hbW (hce k p h).2.1, cell_later hbW (hce k p h).2.2⟩
  have HW : Hid (w.alloc (.cells #[.string pk', .int .i64 ((i : Int) + 1), .bool pg, .string pv] 58) = W) := hW
  have HP : Hid (lastP c pk' = some ⟨pk', pv, pg⟩) := hp
  have hgW : g < W.heap.size := block_lt_of_cell cg
  have hbW2 : hb < W.heap.size := block_lt_of_cell s1
  have hwW : w.heap.size < W.heap.size := block_lt_of_cell b0
  have hd1 : decide ((i : Int) + 1 < 1) = false := by simp; omega
  have hd2 : decide ((A.length : Int) < (i : Int) + 1) = false := by simp; omega
  have hgiW : gi < W.heap.size := Nat.lt_of_lt_of_le hgil hbW.size
  clear hs hall hce hp hbW hW ha hr ok hco hci
  have s1' := cell_regrown s1
  have cg' := cell_regrown cg
  have b1' := cell_regrown b1
  go_enter Tryz.func47, Tryz.ntmps47
  go_wp2_with fail
  rw [HW.out]
  refine wp_region_quiet_below (by kernel_rfl) (by kernel_rfl) ?_
  repeat (first | go_big_quiet_step (fail) | quiet_step (fail))
  refine wpQuiet_nil ?_
  intro w5 hw'
  have hb5 := below_of_regrown hw'
  have HB5 : Hid (Below W.heap.size W w5) := hb5
  have s1' := cell_regrown (cell_later hb5 s1)
  have cg' := cell_regrown (cell_later hb5 cg)
  have b1' := cell_regrown (cell_later hb5 b1)
  clear hw' hb5
  go_wp2_with fail
  refine wp_region_quiet_below (by kernel_rfl) (by kernel_rfl) ?_
  repeat (first | go_big_quiet_step (fail) | quiet_step (fail))
  refine wpQuiet_nil ?_
  intro w6 hw'
  have HB6 : Hid (Below W.heap.size W w6) := below_trans' HB5.out (below_of_regrown hw')
  clear hw' HB5 s1' cg' b1'
  go_wp2
  go_loopg [6] c.length (fun kx s6 wx => ∃ r : Nat, s6 = .int .i64 ((r : Int) - 1) ∧ r ≤ kx ∧ r ≤ c.length ∧ Hid (Below W.heap.size W wx) ∧ Hid (lastP c pk' = lastP (c.take r) pk'))
  case atStart => exact ⟨c.length, rfl, Nat.le_refl _, Nat.le_refl _, HB6.out, by show _ = _; rw [List.take_of_length_le (Nat.le_refl _)]⟩
  case round =>
    clear HB6
    obtain ⟨r, rfl, hrk, hrb, HB, HL⟩ := hrel
    obtain _ | j := r
    · have := HL.out
      rw [HP.out] at this
      simp [lastP] at this
    · have e1 : (((j + 1 : Nat) : Int) - 1) = j := by omega
      rw [e1]
      clear e1
      obtain ⟨q, hq⟩ : ∃ q, c[j]? = some q := ⟨_, List.getElem?_eq_getElem (by omega)⟩
      obtain ⟨d0, d1, d2⟩ := HCE.out j q hq
      have HT : Hid (lastP c pk' = if q.k = pk' then some q else lastP (c.take j) pk') := by
        show _ = _
        rw [HL.out, lastP_take pk' hq]
      have d0 := cell_later HB.out d0
      have d1 := cell_later HB.out d1
      have d2 := cell_later HB.out d2
      have e0 := cell_later HB.out b0
      have e2 := cell_later HB.out b2
      have e3 := cell_later HB.out b3
      have d0' := cell_regrown d0
      have e0' := cell_regrown e0
      have hgr : gi < wr.heap.size := block_lt_of_cell d0
      have hwr : w.heap.size < wr.heap.size := block_lt_of_cell e0
      clear hq HL
      by_cases hk : q.k = pk'
      · have hqq : q = ⟨pk', pv, pg⟩ := by
          have := HT.out
          rw [HP.out, if_pos hk] at this
          exact (Option.some.inj this).symm
        subst hqq
        simp only at d0 d1 d2 d0'
        go_wp2_with fail
        refine wp_region_quiet_below (by kernel_rfl) (by kernel_rfl) ?_
        repeat (first | go_big_quiet_step (fail) | quiet_step (fail))
        refine wpQuiet_nil ?_
        intro w7 hw'
        have hb7 := below_of_regrown hw'
        have HB7 : Hid (Below W.heap.size W w7) := below_trans' HB.out hb7
        have d1' := cell_regrown (cell_later hb7 d1)
        have d2' := cell_regrown (cell_later hb7 d2)
        have e2' := cell_regrown (cell_later hb7 e2)
        have e3' := cell_regrown (cell_later hb7 e3)
        clear hw' hb7 d0' e0'
        go_wp2_with fail
        refine wp_region_quiet_below (by kernel_rfl) (by kernel_rfl) ?_
        repeat (first | go_big_quiet_step (fail) | quiet_step (fail))
        refine wpQuiet_nil ?_
        intro w8 hw'
        have HB8 : Hid (Below W.heap.size W w8) := below_trans' HB7.out (below_of_regrown hw')
        clear hw' HB7
        go_wp2
        go_ret
        exact ⟨rfl, below_trans' HBW.out HB8.out⟩
      · have hnb := str_ne hk
        go_wp2_with fail
        refine wp_region_quiet_below (by kernel_rfl) (by kernel_rfl) ?_
        repeat (first | go_big_quiet_step (fail) | quiet_step (fail))
        refine wpQuiet_nil ?_
        intro w7 hw'
        have HB7 : Hid (Below W.heap.size W w7) := below_trans' HB.out (below_of_regrown hw')
        clear hw' d0' e0'
        go_wp2
        go_roundg j
        case measure => omega
        case rel => exact ⟨j, rfl, Nat.le_refl _, by omega, HB7.out, by show _ = _; rw [HT.out, if_neg hk]⟩
end Go.Proofs.YtakipjofboipmaaGreat

/- The walks of this proof: tables that stand as they should. -/
namespace Go.Proofs.YtakipjofboipmaaGreat
open Go.RowKit Go.Sort

/-- Tables that stand as they should, of entries of E. -/
structure Shape (E : List En) (T : List Lb) : Prop where
  few : T.length < 1000000000
  lev2 : ∀ t ∈ T, 0 ≤ t.1 ∧ t.1 ≤ 2
  ne : ∀ t ∈ T, t.2 ≠ []
  lev : T.Pairwise fun a b => a.1 < b.1 ∨ (a.1 = 0 ∧ b.1 = 0)
  sorted : ∀ t ∈ T, Sorted t.2
  sub : ∀ t ∈ T, ∀ e ∈ t.2, e ∈ E
  lens : ∀ t ∈ T, t.2.length < 1000000000
  lay : LayX (T.map (·.2))

theorem StOk.shape {x : St} (ok : StOk x) : Shape x.E x.T where
  few := ok.lv.tfew
  lev2 := ok.lv.lev2
  ne := ok.lv.tne
  lev := ok.lv.lev
  sorted := ok.lv.tsorted
  sub t ht e he := (ok.lv.tsub t ht e he).1
  lens t ht := Nat.lt_of_le_of_lt (sub_len (ok.lv.tsorted t ht) ok.sorted fun e he => (ok.lv.tsub t ht e he).1) ok.few
  lay := ok.lv.lay

theorem Shape.newer {E : List En} {T : List Lb} (h : Shape E T) {i j : Nat} {t u : Lb} (hu : T[j]? = some u) (ht : T[i]? = some t) (hji : j < i) {a : En} (ha : a ∈ t.2) : ∀ e ∈ u.2, e.k = a.k → a.s < e.s := by
  intro e he hk
  have hl := h.lay
  unfold LayX at hl
  rw [List.pairwise_map, List.pairwise_iff_getElem] at hl
  obtain ⟨h1, rfl⟩ := List.getElem?_eq_some_iff.1 hu
  obtain ⟨h2, rfl⟩ := List.getElem?_eq_some_iff.1 ht
  exact hl j i h1 h2 hji e he a ha hk

theorem Shape.levs {E : List En} {T : List Lb} (h : Shape E T) {i j : Nat} {t u : Lb} (hu : T[j]? = some u) (ht : T[i]? = some t) (hji : j < i) : u.1 < t.1 ∨ (u.1 = 0 ∧ t.1 = 0) := by
  have hl := h.lev
  rw [List.pairwise_iff_getElem] at hl
  obtain ⟨h1, rfl⟩ := List.getElem?_eq_some_iff.1 hu
  obtain ⟨h2, rfl⟩ := List.getElem?_eq_some_iff.1 ht
  exact hl j i h1 h2 hji

/-- The cells of tables that were told. -/
theorem TabsAt.cells {w : World} {base : Nat} {v : Value} {T : List Lb} (h : TabsAt w base v T) (hl : 0 < T.length) (hne : ∀ t ∈ T, t.2 ≠ []) :
    ∃ g cap, v = .slice (some ⟨g, 0, none⟩) T.length cap ∧ T.length ≤ cap ∧ g < w.heap.size ∧ ∀ (k : Nat) t, T[k]? = some t → ∃ gk ck, w.cell? ⟨g, k * 2, none⟩ = some (.int .i64 t.1) ∧ w.cell? ⟨g, k * 2 + 1, none⟩ = some (.slice (some ⟨gk, 0, none⟩) t.2.length ck) ∧ t.2.length ≤ ck ∧ gk < w.heap.size ∧ EnAt w gk t.2 := by
  obtain ⟨Vs, hV, ho, hr⟩ := h
  rcases ho.2 with ⟨_, h0⟩ | ⟨g, cap, cur, rfl, _, hg, hnc, _⟩
  · omega
  · refine ⟨g, cap, rfl, hnc, lt_of_block hg, fun k t ht => ?_⟩
    have hk : k < T.length := (List.getElem?_eq_some_iff.1 ht).1
    obtain ⟨u, hu⟩ : ∃ u, Vs[k]? = some u := ⟨_, List.getElem?_eq_getElem (by omega)⟩
    obtain ⟨q1, q2⟩ := tcells_get ht hu
    have hlen := tcells_len hV
    have htm : t ∈ T := List.mem_of_getElem? ht
    have hn0 : 0 < t.2.length := by have := hne t htm; cases h : t.2 with | nil => exact absurd h this | cons _ _ => simp
    obtain ⟨gk, ck, rfl, _, hgk, hck, hcell⟩ := row_cell (fun a => by rfl) (hr k t u ht hu) hn0
    refine ⟨gk, ck, ?_, ?_, hck, hgk, fun j e he => ⟨hcell j e 0 he (by omega), hcell j e 1 he (by omega), hcell j e 2 he (by omega), hcell j e 3 he (by omega)⟩⟩
    · rw [ho.cellAt _ (by omega)]; exact q1
    · rw [ho.cellAt _ (by omega)]; exact q2

theorem TabsAt.kept {w w' : World} {base N : Nat} {ts : List Nat} {v : Value} {T : List Lb} (h : TabsAt w base v T) (k : Kp N ts w w') (h1 : 56 ∉ ts) (h2 : 58 ∉ ts) : TabsAt w' base v T := by
  obtain ⟨Vs, hV, ho, hr⟩ := h
  exact ⟨Vs, hV, k.owns ho h1, fun i t u a b => k.owns (hr i t u a b) h2⟩

theorem TabsAt.below {w w' : World} {base : Nat} {v : Value} {T : List Lb} (h : TabsAt w base v T) (hb : Below w.heap.size w w') : TabsAt w' base v T := h.kept (Kp.of_below (B := 0) (ts := []) hb) (by simp) (by simp)

theorem less_in (a b : En) (h : elt a b) (w : World) (d : Nat) (os : Array Obj) :
    Calls Tryz.prog 48 #[a.val, b.val] (grow (redrawn w d) os) fun e w'' => e = .returned (.bool true) ∧ ∃ p : Regrown, w'' = grow (redrawn w p.d) p.os :=
  Calls.regrown_of (less_any a b _ h)

theorem newer_in (E : List En) (v : Value) (a : En) (w : World) (hc : EnRow w v E) (hn : E.length < 1000000000) (h : ∀ e ∈ E, e.k = a.k → a.s < e.s) (d : Nat) (os : Array Obj) :
    Calls Tryz.prog 49 #[v, a.val] (grow (redrawn w d) os) fun e w'' => e = .returned (.bool false) ∧ ∃ p : Regrown, w'' = grow (redrawn w p.d) p.os :=
  Calls.regrown_of (newer_any E v a _ (hc.below (below_of_regrown ⟨⟨d, os⟩, rfl⟩)) hn h)

set_option maxHeartbeats 4000000 in
set_option maxRecDepth 100000 in
theorem shaped_any (B hb : Nat) (x : St) (A : List (List Pr)) (T : List Lb) (base : Nat) (v : Value) (w : World) (hx : DeskAt B hb x A w) (ok : ShOk x A) (hT : TabsAt w base v T) (sh : Shape x.E T) :
    Calls Tryz.prog 15 #[.pointer (some ⟨hb, 0, none⟩), v] w fun e w' => e = .returned (.bool true) ∧ Below w.heap.size w w' := by
  have SH : Hid (Shape x.E T) := sh
  have HT : Hid (TabsAt w base v T) := hT
  have hTf := sh.few
  have HM : Hid (∀ (a : En) (w' : World), a ∈ x.E → Below w.heap.size w w' → Calls Tryz.prog 47 #[.pointer (some ⟨hb, 0, none⟩), a.val] w' fun e w'' => e = .returned (.bool true) ∧ Below w'.heap.size w' w'') := fun a w' ha hbw => made_any B hb x A a w' (hx.below hbw) ok.ok ok.few ok.rel ha
  obtain ⟨aoV, capV, rfl⟩ : ∃ ao cap, v = .slice ao T.length cap := by obtain ⟨Vs, _, ho, _⟩ := hT; exact slice_form ho
  clear hx ok hT sh
  go_enter Tryz.func15, Tryz.ntmps15
  go_wp2
  go_loopg [5, 6, 7, 8, 9] T.length (fun kx i _ _ _ _ wr => ∃ k : Nat, k ≤ T.length ∧ i = .int .i64 k ∧ T.length - k ≤ kx ∧ Hid (Below w.heap.size w wr))
  case atStart => exact ⟨0, Nat.zero_le _, rfl, Nat.le_refl _, Below.refl _ _⟩
  case round =>
    obtain ⟨i, hi, rfl, hkx, HB⟩ := hrel
    by_cases hlt : i < T.length
    · obtain ⟨g, cap, hv, hcap, hgl, hcell⟩ := (HT.out.below HB.out).cells (by omega) SH.out.ne
      simp only [Value.slice.injEq, true_and] at hv
      obtain ⟨rfl, rfl⟩ := hv
      obtain ⟨t, ht⟩ : ∃ t, T[i]? = some t := ⟨_, List.getElem?_eq_getElem hlt⟩
      have htm : t ∈ T := List.mem_of_getElem? ht
      obtain ⟨gi, ci, c0, c1, hci, hgi, hEn⟩ := hcell i t ht
      obtain ⟨W, hW⟩ : ∃ W, wr.alloc (.cells #[.int .i64 t.1, .slice (some ⟨gi, 0, none⟩) t.2.length ci] 56) = W := ⟨_, rfl⟩
      have hbW : Below wr.heap.size wr W := by rw [← hW]; exact (Below.refl _ _).alloc (Nat.le_refl _) _
      have HBW : Hid (Below w.heap.size w W) := below_trans' HB.out hbW
      have b0 : W.cell? ⟨wr.heap.size, 0, none⟩ = some (.int .i64 t.1) := by rw [← hW]; simp
      have b1 : W.cell? ⟨wr.heap.size, 1, none⟩ = some (.slice (some ⟨gi, 0, none⟩) t.2.length ci) := by rw [← hW]; simp
      have HW : Hid (wr.alloc (.cells #[.int .i64 t.1, .slice (some ⟨gi, 0, none⟩) t.2.length ci] 56) = W) := hW
      have HEN : Hid (EnAt W gi t.2) := hEn.below hbW
      have HCE : Hid (∀ (k : Nat) t, T[k]? = some t → ∃ gk ck, W.cell? ⟨g, k * 2, none⟩ = some (.int .i64 t.1) ∧ W.cell? ⟨g, k * 2 + 1, none⟩ = some (.slice (some ⟨gk, 0, none⟩) t.2.length ck) ∧ t.2.length ≤ ck ∧ gk < W.heap.size ∧ EnAt W gk t.2) := fun k u hu => by
        obtain ⟨gk, ck, q0, q1, q2, q3, q4⟩ := hcell k u hu
        exact ⟨gk, ck, cell_later hbW q0, cell_later hbW q1, q2, Nat.lt_of_lt_of_le q3 hbW.size, q4.below hbW⟩
      have hl2 := SH.out.lev2 t htm
      have hlen := SH.out.lens t htm
      have hl0 : 0 < t.2.length := by have := SH.out.ne t htm; cases h : t.2 with | nil => exact absurd h this | cons _ _ => simp
      have hgW : g < W.heap.size := Nat.lt_of_lt_of_le hgl hbW.size
      have hgiW : gi < W.heap.size := Nat.lt_of_lt_of_le hgi hbW.size
      have hwW : wr.heap.size < W.heap.size := block_lt_of_cell b0
      have HTT : Hid (T[i]? = some t ∧ t ∈ T) := ⟨ht, htm⟩
      have hz : (((t.2.length : Nat) : Int) == 0) = false := beq_eq_false_iff_ne.2 (by omega)
      have hd0 : decide (t.1 < 0) = false := by simp; omega
      have hd2 : decide (2 < t.1) = false := by simp; omega
      have b0' := cell_regrown b0
      have b1' := cell_regrown b1
      -- what stands ahead
      have AHEAD : Hid (i = 0 ∨ ∃ (j : Nat) (u : Lb), i = j + 1 ∧ W.cell? ⟨g, j * 2, none⟩ = some (.int .i64 u.1) ∧ (u.1 < t.1 ∨ (u.1 = 0 ∧ t.1 = 0))) := by
        obtain _ | j := i
        · exact .inl rfl
        · have hjl : j < T.length := by omega
          obtain ⟨u, hu⟩ : ∃ u, T[j]? = some u := ⟨_, List.getElem?_eq_getElem hjl⟩
          obtain ⟨gk, ck, q0, _⟩ := HCE.out j u hu
          exact .inr ⟨j, u, rfl, q0, SH.out.levs hu ht (by omega)⟩
      clear hcell hEn ht htm hW hbW HB
      go_upto_region 5 with fail
      rw [HW.out]
      go_cut [64] (fun s64 wx => s64 = .bool false ∧ Hid (Below W.heap.size W wx))
      case first =>
        rcases AHEAD.out with h0 | ⟨j, u, hij, q0, hlev⟩
        · subst h0
          refine wp_region_quiet_below (by kernel_rfl) (by kernel_rfl) ?_
          repeat (first | go_big_quiet_step (fail) | quiet_step (fail))
          refine wpQuiet_nil ?_
          intro w5 hw'
          have HB5 : Hid (Below W.heap.size W w5) := below_of_regrown hw'
          go_wp2_with fail
          go_meet
          exact ⟨rfl, HB5⟩
        · subst hij
          have q0' := cell_regrown q0
          have hdp : decide ((0 : Int) < ((j + 1 : Nat) : Int)) = true := decide_eq_true (by omega)
          have hw1 : IntKind.i64.wrap (((j + 1 : Nat) : Int) - 1) = (j : Int) := by rw [IntKind.wrap_i64]; omega
          rcases hlev with hlev | ⟨hu0, ht0⟩
          · have hd5 : decide (t.1 < u.1) = false := by simp; omega
            have hd6 : (u.1 == t.1) = false := by simp; omega
            refine wp_region_quiet_below (by kernel_rfl) (by kernel_rfl) ?_
            repeat (first | go_big_quiet_step (fail) | quiet_step (fail))
            refine wpQuiet_nil ?_
            intro w5 hw'
            have HB5 : Hid (Below W.heap.size W w5) := below_of_regrown hw'
            go_wp2_with fail
            go_meet
            exact ⟨rfl, HB5⟩
          · have hd5 : decide (t.1 < u.1) = false := by simp; omega
            have hd6 : (u.1 == t.1) = true := by simp; omega
            have hd7 : decide (0 < t.1) = false := by simp; omega
            refine wp_region_quiet_below (by kernel_rfl) (by kernel_rfl) ?_
            repeat (first | go_big_quiet_step (fail) | quiet_step (fail))
            refine wpQuiet_nil ?_
            intro w5 hw'
            have HB5 : Hid (Below W.heap.size W w5) := below_of_regrown hw'
            go_wp2_with fail
            go_meet
            exact ⟨rfl, HB5⟩
      case rest =>
        obtain ⟨rfl, HBC⟩ := hcut
        clear AHEAD b0' b1' hz hd0 hd2
        go_wp2
        go_loopg [7, 8, 9] t.2.length (fun kx i7 _ _ wq => ∃ k : Nat, k ≤ t.2.length ∧ i7 = .int .i64 k ∧ t.2.length - k ≤ kx ∧ Hid (Below W.heap.size W wq))
        case atStart => exact ⟨0, Nat.zero_le _, rfl, Nat.le_refl _, HBC⟩
        case round =>
          clear HBC
          obtain ⟨k, hk, rfl, hkx2, HB2⟩ := hrel
          have b1q := cell_later HB2.out b1
          have hwq := block_lt_of_cell b1q
          by_cases hkl : k < t.2.length
          · obtain ⟨a, ha⟩ : ∃ a, t.2[k]? = some a := ⟨_, List.getElem?_eq_getElem hkl⟩
            obtain ⟨c0, c1, c2, c3⟩ := (HEN.out.below HB2.out) k a ha
            have hgq : gi < wr.heap.size := block_lt_of_cell c0
            have HAM : Hid (a ∈ t.2) := List.mem_of_getElem? ha
            have HMC : Hid (Calls Tryz.prog 47 #[.pointer (some ⟨hb, 0, none⟩), .agg #[.string a.k, .int .i64 a.s, .bool a.g, .string a.v]] wr fun e w'' => e = .returned (.bool true) ∧ Below wr.heap.size wr w'') := HM.out a wr (SH.out.sub t HTT.out.2 a HAM.out) (below_trans' HBW.out HB2.out)
            have PREV : Hid (k = 0 ∨ ∃ (m : Nat) (p : En), k = m + 1 ∧ elt p a ∧ wr.cell? ⟨gi, m * 4, none⟩ = some (.string p.k) ∧ wr.cell? ⟨gi, m * 4 + 1, none⟩ = some (.int .i64 p.s) ∧ wr.cell? ⟨gi, m * 4 + 2, none⟩ = some (.bool p.g) ∧ wr.cell? ⟨gi, m * 4 + 3, none⟩ = some (.string p.v)) := by
              obtain _ | m := k
              · exact .inl rfl
              · have hml : m < t.2.length := by omega
                obtain ⟨p, hp⟩ : ∃ p, t.2[m]? = some p := ⟨_, List.getElem?_eq_getElem hml⟩
                obtain ⟨d0, d1, d2, d3⟩ := (HEN.out.below HB2.out) m p hp
                refine .inr ⟨m, p, rfl, ?_, d0, d1, d2, d3⟩
                have hso := SH.out.sorted t HTT.out.2
                unfold Sorted at hso
                rw [List.pairwise_iff_getElem] at hso
                obtain ⟨e1, rfl⟩ := List.getElem?_eq_some_iff.1 ha
                obtain ⟨e2, rfl⟩ := List.getElem?_eq_some_iff.1 hp
                exact hso m (m + 1) e2 e1 (by omega)
            have HAK : Hid (t.2[k]? = some a) := ha
            clear ha
            go_wp2_with fail
            refine Calls.mono HMC.out ?_
            rintro e w3 ⟨rfl, hb3⟩
            have HB3 : Hid (Below W.heap.size W w3) := below_trans' HB2.out hb3
            have c0 := cell_later hb3 c0
            have c1 := cell_later hb3 c1
            have c2 := cell_later hb3 c2
            have c3 := cell_later hb3 c3
            have b1r := cell_later hb3 b1q
            have hwr3 := block_lt_of_cell b1r
            have hgr3 : gi < w3.heap.size := block_lt_of_cell c0
            have c0' := cell_regrown c0
            have c1' := cell_regrown c1
            have c2' := cell_regrown c2
            have c3' := cell_regrown c3
            have b1' := cell_regrown b1r
            have PREV3 : Hid (k = 0 ∨ ∃ (m : Nat) (p : En), k = m + 1 ∧ elt p a ∧ w3.cell? ⟨gi, m * 4, none⟩ = some (.string p.k) ∧ w3.cell? ⟨gi, m * 4 + 1, none⟩ = some (.int .i64 p.s) ∧ w3.cell? ⟨gi, m * 4 + 2, none⟩ = some (.bool p.g) ∧ w3.cell? ⟨gi, m * 4 + 3, none⟩ = some (.string p.v)) := by
              rcases PREV.out with h | ⟨m, p, h1, h2, d0, d1, d2, d3⟩
              · exact .inl h
              · exact .inr ⟨m, p, h1, h2, cell_later hb3 d0, cell_later hb3 d1, cell_later hb3 d2, cell_later hb3 d3⟩
            clear hb3 HMC PREV HB2
            go_upto_region 11 with fail
            go_cut [99] (fun s99 wx => s99 = .bool false ∧ Hid (Below W.heap.size W wx))
            case first =>
              rcases PREV3.out with h0 | ⟨m, p, hkm, hpa, d0, d1, d2, d3⟩
              · subst h0
                refine wp_region_quiet_below (by kernel_rfl) (by kernel_rfl) ?_
                repeat (first | go_big_quiet_step (fail) | quiet_step (fail))
                refine wpQuiet_nil ?_
                intro w5 hw'
                have HB5 : Hid (Below W.heap.size W w5) := below_trans' HB3.out (below_of_regrown hw')
                clear hw'
                go_wp2_with fail
                go_meet
                exact ⟨rfl, HB5⟩
              · subst hkm
                have d0' := cell_regrown d0
                have d1' := cell_regrown d1
                have d2' := cell_regrown d2
                have d3' := cell_regrown d3
                have hdp : decide ((0 : Int) < ((m + 1 : Nat) : Int)) = true := decide_eq_true (by omega)
                have hw1 : IntKind.i64.wrap (((m + 1 : Nat) : Int) - 1) = (m : Int) := by rw [IntKind.wrap_i64]; omega
                have HLI : Hid (∀ d os, Calls Tryz.prog 48 #[.agg #[.string p.k, .int .i64 p.s, .bool p.g, .string p.v], .agg #[.string a.k, .int .i64 a.s, .bool a.g, .string a.v]] (grow (redrawn w3 d) os) fun e w'' => e = .returned (.bool true) ∧ ∃ p : Regrown, w'' = grow (redrawn w3 p.d) p.os) := fun d os => less_in p a hpa w3 d os
                refine wp_region_quiet_below (by kernel_rfl) (by kernel_rfl) ?_
                repeat (first | go_big_quiet_step (exact HLI.out _ _) | quiet_step (exact HLI.out _ _))
                refine wpQuiet_nil ?_
                intro w5 hw'
                have HB5 : Hid (Below W.heap.size W w5) := below_trans' HB3.out (below_of_regrown hw')
                clear hw'
                go_wp2_with fail
                go_meet
                exact ⟨rfl, HB5⟩
            case rest =>
              obtain ⟨rfl, HBD⟩ := hcut
              clear PREV3 HB3 c0' c1' c2' c3' b1' b1r c0 c1 c2 c3 hwr3 hgr3
              go_wp2
              go_loopg [9] i (fun kx i9 wx => ∃ j : Nat, j ≤ i ∧ i9 = .int .i64 j ∧ i - j ≤ kx ∧ Hid (Below W.heap.size W wx))
              case atStart => exact ⟨0, Nat.zero_le _, rfl, Nat.le_refl _, HBD⟩
              case round =>
                clear HBD
                obtain ⟨j, hj, rfl, hkx3, HB4⟩ := hrel
                have b1s := cell_later HB4.out b1
                have hws := block_lt_of_cell b1s
                by_cases hji : j < i
                · have hjT : j < T.length := by omega
                  obtain ⟨u, hu⟩ : ∃ u, T[j]? = some u := ⟨_, List.getElem?_eq_getElem hjT⟩
                  obtain ⟨gj, cj, q0, q1, q2, q3, q4⟩ := HCE.out j u hu
                  have hum : u ∈ T := List.mem_of_getElem? hu
                  have HNI : Hid (∀ d os, Calls Tryz.prog 49 #[.slice (some ⟨gj, 0, none⟩) u.2.length cj, .agg #[.string a.k, .int .i64 a.s, .bool a.g, .string a.v]] (grow (redrawn wr d) os) fun e w'' => e = .returned (.bool false) ∧ ∃ p : Regrown, w'' = grow (redrawn wr p.d) p.os) := fun d os => newer_in u.2 _ a wr (.inr ⟨gj, cj, rfl, q2, q4.below HB4.out⟩) (SH.out.lens u hum) (SH.out.newer hu HTT.out.1 hji HAM.out) d os
                  have q1' := cell_regrown (cell_later HB4.out q1)
                  have b1' := cell_regrown b1s
                  have hgs : g < wr.heap.size := block_lt_of_cell (cell_later HB4.out q1)
                  obtain ⟨c0, c1, c2, c3⟩ := (HEN.out.below HB4.out) k a HAK.out
                  have c0' := cell_regrown c0
                  have c1' := cell_regrown c1
                  have c2' := cell_regrown c2
                  have c3' := cell_regrown c3
                  clear q4 hu hum
                  go_wp2_with fail
                  refine wp_region_quiet_below (by kernel_rfl) (by kernel_rfl) ?_
                  repeat (first | go_big_quiet_step (exact HNI.out _ _) | quiet_step (exact HNI.out _ _))
                  refine wpQuiet_nil ?_
                  intro w5 hw'
                  have HB5 : Hid (Below W.heap.size W w5) := below_trans' HB4.out (below_of_regrown hw')
                  clear hw' c0' c1' c2' c3' b1' q1' c0 c1 c2 c3
                  go_wp2
                  go_roundg (i - (j + 1))
                  case measure => omega
                  case rel => exact ⟨j + 1, by omega, by go_num, Nat.le_refl _, HB5⟩
                · obtain rfl : j = i := by omega
                  go_wp2
                  go_roundg (t.2.length - (k + 1))
                  case measure => omega
                  case rel => exact ⟨k + 1, by omega, by go_num, Nat.le_refl _, HB4⟩
          · obtain rfl : k = t.2.length := by omega
            have HBE : Hid (Below w.heap.size w wr) := below_trans' HBW.out HB2.out
            go_wp2
            go_roundg (T.length - (i + 1))
            case measure => omega
            case rel => exact ⟨i + 1, by omega, by go_num, Nat.le_refl _, HBE⟩
    · obtain rfl : i = T.length := by omega
      go_wp2
      go_ret
      exact ⟨rfl, HB.out⟩
end Go.Proofs.YtakipjofboipmaaGreat

/- The walks of this proof: Kept. -/
namespace Go.Proofs.YtakipjofboipmaaGreat
open Go.RowKit Go.Sort

theorem btQ : Bt [pQ] := ⟨by decide, by decide, okQ, by intro a b p q; intros; simp_all⟩

set_option maxHeartbeats 8000000 in
set_option maxRecDepth 100000 in
theorem kept_any (v : Value) (n : Nat) (keep : Int) (w : World) (h : ScriptAt w v n) (hn : n ≤ 1100000) (kp0 : -9223372036854775808 ≤ keep) (kp1 : keep ≤ 9223372036854775807) :
    Calls Tryz.prog 7 #[v, .int .i64 keep] w fun e w' => e = .returned (.bool true) ∧ Below w.heap.size w w' := by
  obtain ⟨ao, cap, rfl, hc⟩ := h
  have HC : Hid _ := hc
  clear hc
  go_enter Tryz.func7, Tryz.ntmps7
  go_wp2_with fail
  refine (shop_any w).mono ?_
  rintro e w1 ⟨hb, rfl, hx, hb1⟩
  have HX : Hid (ShopAt w.heap.size hb st0 [] w1) := hx
  have HB1 : Hid (Below w.heap.size w w1) := hb1
  clear hx hb1
  go_wp2
  go_loopw [6, 7] (fun i _ wr => ∃ (j : Nat) (x : St) (A : List (List Pr)), j ≤ n ∧ i = .int .i64 j ∧ Hid (ShopAt w.heap.size hb x A wr) ∧ Hid (Sound x A j) ∧ Hid (Below w.heap.size w wr)) (fun i _ _ => n - (intOf i).toNat)
  case atStart => exact ⟨0, st0, [], Nat.zero_le _, rfl, HX, sound0, HB1⟩
  case round =>
    clear HX HB1
    obtain ⟨j, x, A, hj, rfl, HX, HS, HB⟩ := hrel
    by_cases hlt : j < n
    · obtain ⟨⟨g, off, spot⟩, k, a, al, nl, cl, f, rfl, hsp, c0, c1, c2, c3, hraw, ha0, ha1⟩ := HC.out j hlt
      simp only at hsp c0 c1 c2 c3
      subst hsp
      have hgw : g < w.heap.size := block_lt_of_cell c0
      have HD : Hid _ := does_any w.heap.size hb x A k a al nl cl f true j wr HX.out HS.out (by omega) (hraw.below HB.out) HB.out.size ha0 ha1
      have C0 : Hid (w.cell? ⟨g, off + j * 4, none⟩ = some (.int .i64 k)) := c0
      have C1 : Hid (w.cell? ⟨g, off + j * 4 + 1, none⟩ = some (.int .i64 a)) := c1
      have c0 := cell_later HB.out c0
      have c1 := cell_later HB.out c1
      have c2 := cell_later HB.out c2
      have c3 := cell_later HB.out c3
      have hgr : g < wr.heap.size := block_lt_of_cell c0
      clear hraw
      go_wp2_with fail
      refine Calls.mono HD.out ?_
      rintro e w2 ⟨rfl, x', A', hx2, hs2, hk2⟩
      have hb2 : Below w.heap.size w w2 := HB.out.trans (hk2.belowB HB.out.size)
      have c0 := cell_later hb2 C0.out
      have c1 := cell_later hb2 C1.out
      have hgr2 : g < w2.heap.size := block_lt_of_cell c0
      have HX2 : Hid (ShopAt w.heap.size hb x' A' w2) := hx2
      have HS2 : Hid (Sound x' A' (j + 1)) := hs2
      have HB2 : Hid (Below w.heap.size w w2) := hb2
      clear hx2 hs2 hb2 hk2 HD HX HS HB c2 c3
      go_wp2
      go_roundw
      case rel => exact ⟨j + 1, x', A', hlt, by go_num, HX2, HS2, HB2⟩
      case measure => simp [intOf]; omega
    · obtain rfl : j = n := by omega
      clear HC
      obtain ⟨sb, vA, vS, su, la, o0, o1, hBh, hs, hst, hall, hsn, hsu, hla, ho0, ho1⟩ := id HX.out
      have hbl : hb < wr.heap.size := lt_of_block hs
      have c0 : wr.cell? ⟨hb, 0, none⟩ = some (.pointer (some ⟨sb, 0, none⟩)) := by simp [World.cell?, hs]
      have b1 := HS.out.b1
      have b2 := HS.out.b2
      have hlast := HS.out.sh.last
      have la0 := HS.out.sh.st.lv.la0
      have la1 := HS.out.sh.st.lv.la1
      have bsy := HS.out.sh.st.lv.bsy
      have hJ := small_j HS.out.sh.st (t := j) (by omega) (by omega)
      have HJO : Hid (Calls Tryz.prog 24 #[.pointer (some ⟨sb, 0, none⟩)] wr fun e w' => e = .returned (.string (bs x.J)) ∧ w' = wr) := journal_sin x w.heap.size sb wr hst
      have HTA : Hid (Calls Tryz.prog 16 #[.pointer (some ⟨sb, 0, none⟩)] wr fun e w' => TabPost x.T wr e w') := tables_sin w.heap.size sb x wr hst HS.out.sh.st
      have HSTX : Hid (SIn w.heap.size sb x wr) := hst
      have HDESK : Hid (w.heap.size ≤ hb ∧ wr.heap[hb]? = some (.cells #[.pointer (some ⟨sb, 0, none⟩), vA, vS, .int .i64 su, .int .i64 la, .bool o0, .bool o1] 36 (0, 0)) ∧ AllAt w.heap.size wr vA A) := ⟨hBh, hs, hall⟩
      obtain ⟨m, hm⟩ : ∃ m : Nat, su = m := ⟨su.toNat, by omega⟩
      subst hm
      have HSU : Hid ((m : Int) = x.la + x.sy) := hsu
      have SOC := HS.out.cr (by omega) bsy
      rw [show (x.la + x.sy).toNat = m by omega] at SOC
      have HSC : Hid (Sound (x.cr x.sy) (A.take m) j) := SOC
      have hmA : m ≤ A.length := by omega
      have HJS : Hid (x.J = x.B.flatMap recB) := rfl
      clear hs hst hall hsn hla ho0 ho1 hsu SOC HX
      go_wp2_with fail
      refine Calls.mono HJO.out ?_
      rintro e wr' ⟨rfl, rfl⟩
      go_wp2_with fail
      refine Calls.mono HTA.out ?_
      rintro e w2 ⟨v9, rfl, ht2, hb2⟩
      have c02 := cell_later hb2 c0
      have hbl2 : hb < w2.heap.size := Nat.lt_of_lt_of_le hbl hb2.size
      obtain ⟨ao9, c9, rfl⟩ : ∃ ao c, v9 = .slice ao x.T.length c := by obtain ⟨Vs, _, ho, _⟩ := ht2; exact slice_form ho
      have HLD : Hid (Calls Tryz.prog 25 #[.string (bs x.J)] w2 fun e w' => ∃ sb2, e = .returned (.tuple #[.pointer (some ⟨sb2, 0, none⟩), .int .i64 (x.J.length : Nat), .int .i64 0]) ∧ SIn w2.heap.size sb2 (stN.rs x.B) w' ∧ StOk (stN.rs x.B) ∧ Below w2.heap.size w2 w') := by
        refine (load_sin x.J w2 hJ).mono ?_
        rintro e w' ⟨sb2, Bs, h1, rfl, h2, h3, h4⟩
        obtain rfl := h1.unique (reads_whole HS.out.sh.st.lv.bok)
        have e1 : rl x.B = x.J.length := rfl
        exact ⟨sb2, by rw [e1, if_neg (by omega)], h2, h3, h4⟩
      have HT2 : Hid (TabsAt w2 wr'.heap.size (.slice ao9 x.T.length c9) x.T ∧ Below wr'.heap.size wr' w2) := ⟨ht2, hb2⟩
      clear ht2 hb2 HTA HJO c0
      generalize hJS : x.J = JS at HLD HJS hJ
      have HJS2 : Hid (x.J = JS) := hJS
      clear hJS
      have hbsz : (bs JS).size = JS.length := bs_size JS
      go_wp2_with fail
      refine Calls.mono HLD.out ?_
      rintro e w3 ⟨sb2, rfl, hy3, hok3, hb3⟩
      have HCR : Hid (Calls Tryz.prog 26 #[.pointer (some ⟨sb, 0, none⟩), .int .i64 0] w3 fun e w' => e = .returned (.tuple #[]) ∧ SIn w.heap.size sb (x.cr x.sy) w' ∧ SIn w2.heap.size sb2 (stN.rs x.B) w' ∧ Kp w.heap.size [118] w3 w') := by
        refine (crash_two x (stN.rs x.B) w.heap.size w2.heap.size sb sb2 0 w2 w3 (HSTX.out.below HT2.out.2) hb3 hy3 (Nat.le_refl _) HS.out.sh.st (by omega) (by rw [HJS2.out]; omega) (by omega) (by omega)).mono ?_
        rintro e w' ⟨rfl, j1, h1, h2, h3, h4⟩
        obtain rfl := h1.zero HS.out.sh.st
        exact ⟨rfl, h2, h3, h4⟩
      have HB3 : Hid (Below w2.heap.size w2 w3 ∧ StOk (stN.rs x.B)) := ⟨hb3, hok3⟩
      have c03 := cell_later hb3 c02
      have hbl3 : hb < w3.heap.size := Nat.lt_of_lt_of_le hbl2 hb3.size
      clear hy3 hok3 hb3 HLD
      go_wp2_with fail
      refine Calls.mono HCR.out ?_
      rintro e w4 ⟨rfl, hx4, hy4, hk4⟩
      have hs4 := hk4.keep ((Kp.of_below (B := 0) (ts := []) HB3.out.1).keep ((Kp.of_below (B := 0) (ts := []) HT2.out.2).keep HDESK.out.2.1 (by simp)) (by simp)) (by simp)
      have all4 := ((HDESK.out.2.2.kept (Kp.of_below (B := 0) (ts := []) HT2.out.2) (by simp) (by simp)).kept (Kp.of_below (B := 0) (ts := []) HB3.out.1) (by simp) (by simp)).kept hk4 (by simp) (by simp)
      have t4 := (HT2.out.1.below HB3.out.1).kept hk4 (by simp) (by simp)
      have c04 : w4.cell? ⟨hb, 0, none⟩ = some (.pointer (some ⟨sb, 0, none⟩)) := by simp [World.cell?, hs4]
      have c34 : w4.cell? ⟨hb, 3, none⟩ = some (.int .i64 (m : Int)) := by simp [World.cell?, hs4]
      have hbl4 : hb < w4.heap.size := lt_of_block hs4
      have hwz2 : w.heap.size ≤ w2.heap.size := Nat.le_trans HB.out.size HT2.out.2.size
      have hbB4 : Below w.heap.size w w4 := ((HB.out.trans (HT2.out.2.mono HB.out.size)).trans (HB3.out.1.mono hwz2)).trans (hk4.belowB (Nat.le_trans hwz2 HB3.out.1.size))
      have HGE : Hid (Calls Tryz.prog 27 #[.pointer (some ⟨sb, 0, none⟩), .string ⟨#[97]⟩, .int .i64 1] w4 fun e w' => e = .returned (.tuple #[.string ⟨#[]⟩, .int .i64 5]) ∧ Below w4.heap.size w4 w') := by
        refine (get_sin (x.cr x.sy) w.heap.size sb ⟨#[97]⟩ 1 w4 hx4 HSC.out.sh.st (by unfold maxLen; decide)).mono ?_
        rintro e w' ⟨rfl, h⟩
        exact ⟨rfl, h⟩
      have HTE : Hid (∀ w5, Below w4.heap.size w4 w5 → Calls Tryz.prog 14 #[.pointer (some ⟨hb, 0, none⟩), .int .i64 0, .int .i64 m] w5 fun e w' => e = .returned (.bool true) ∧ Below w5.heap.size w5 w') := fun w5 h5 => by
        have hl5 : (A.take m).length = m := by rw [List.length_take]; omega
        exact tells_desk w.heap.size hb (x.cr x.sy) (A.take m) A 0 m w5 ⟨sb, vA, vS, .int .i64 m, .int .i64 la, .bool o0, .bool o1, HDESK.out.1, (Kp.of_below (B := 0) (ts := []) h5).keep hs4 (by simp), hx4.below h5, all4.kept (Kp.of_below (B := 0) (ts := []) h5) (by simp) (by simp)⟩ (List.take_prefix _ _) HS.out.sh.ok HS.out.sh.few HSC.out.sh (by unfold seqOf; rw [if_pos rfl, HSC.out.sh.last, hl5]) (by omega)
      have HT4 : Hid (∀ w6, Below w4.heap.size w4 w6 → Calls Tryz.prog 16 #[.pointer (some ⟨sb, 0, none⟩)] w6 fun e w' => TabPost x.T w6 e w') := fun w6 h6 => tables_sin w.heap.size sb (x.cr x.sy) w6 (hx4.below h6) HSC.out.sh.st
      have Y4 : Hid (YAt w2.heap.size sb2 x.B j w4) := by
        refine ⟨stN.rs x.B, hy4, HB3.out.2, rfl, rfl, ?_, ?_, by omega⟩
        · show (0 : Int) + x.B.length ≤ j
          omega
        · show (srt ([].filter _ ++ entsFrom 1 x.B)).length ≤ _
          rw [srt_len]
          have := ents_len HS.out.sh.st.lv.bok 1
          simp
          omega
      have A4 : Hid (TabsAt w4 wr'.heap.size (.slice ao9 x.T.length c9) x.T ∧ Below w.heap.size w w4 ∧ (∀ t ∈ x.T, t.2 ≠ []) ∧ w2.heap.size ≤ w4.heap.size ∧ w.heap.size ≤ w2.heap.size) := ⟨t4, hbB4, HS.out.sh.st.lv.tne, Nat.le_trans HB3.out.1.size hk4.size, hwz2⟩
      have HTF : Hid (x.T.length < 1000000000) := HS.out.sh.st.lv.tfew
      clear hx4 hy4 hk4 hs4 all4 t4 hbB4 HCR HT2 HB3 HDESK HSTX c02 c03 HB
      go_wp2_with fail
      refine Calls.mono HGE.out ?_
      rintro e w5 ⟨rfl, hb5⟩
      have c35 := cell_later hb5 c34
      have c05 := cell_later hb5 c04
      have hbl5 : hb < w5.heap.size := Nat.lt_of_lt_of_le hbl4 hb5.size
      have HB5 : Hid (Below w4.heap.size w4 w5) := hb5
      clear hb5 HGE
      go_wp2_with fail
      refine Calls.mono (HTE.out _ HB5.out) ?_
      rintro e w6 ⟨rfl, hb6⟩
      have c06 := cell_later hb6 c05
      have hbl6 : hb < w6.heap.size := Nat.lt_of_lt_of_le hbl5 hb6.size
      have HB6 : Hid (Below w4.heap.size w4 w6) := below_trans' HB5.out hb6
      clear hb6 HTE HB5
      go_wp2_with fail
      refine Calls.mono (HT4.out _ HB6.out) ?_
      rintro e w7 ⟨v16, rfl, ht7, hb7⟩
      obtain ⟨ao16, c16, rfl⟩ : ∃ ao c, v16 = .slice ao x.T.length c := by obtain ⟨Vs, _, ho, _⟩ := ht7; exact slice_form ho
      have hb47 : Below w4.heap.size w4 w7 := below_trans' HB6.out hb7
      have A7 : Hid (TabsAt w7 wr'.heap.size (.slice ao9 x.T.length c9) x.T ∧ TabsAt w7 w6.heap.size (.slice ao16 x.T.length c16) x.T ∧ YAt w2.heap.size sb2 x.B j w7 ∧ Below w.heap.size w w7 ∧ w2.heap.size ≤ w7.heap.size) := ⟨A4.out.1.below hb47, ht7, Y4.out.below hb47, A4.out.2.1.trans (hb47.mono (Nat.le_trans A4.out.2.2.2.2 A4.out.2.2.2.1)), Nat.le_trans A4.out.2.2.2.1 hb47.size⟩
      have HNE : Hid ((∀ t ∈ x.T, t.2 ≠ []) ∧ w.heap.size ≤ w2.heap.size) := ⟨A4.out.2.2.1, A4.out.2.2.2.2⟩
      clear ht7 hb7 hb47 HT4 HB6 A4 Y4 c06 c05 c04 c34 c35
      obtain ⟨nT, hnT⟩ : ∃ nT, x.T.length = nT := ⟨_, rfl⟩
      have HNT : Hid (x.T.length = nT) := hnT
      rw [hnT] at A7 HTF ⊢
      clear hnT
      go_wp2
      go_loopw [17, 18] (fun s17 s18 wx => ∃ i : Nat, i ≤ nT ∧ s17 = .bool true ∧ s18 = .int .i64 i ∧ Hid (Below w7.heap.size w7 wx)) (fun _ s18 _ => nT - (intOf s18).toNat)
      case atStart => exact ⟨0, Nat.zero_le _, by simp, rfl, Below.refl _ _⟩
      case round =>
        obtain ⟨i, hi, rfl, rfl, HBX⟩ := hrel
        by_cases hlt : i < nT
        · obtain ⟨tb, htb⟩ : ∃ tb, x.T[i]? = some tb := ⟨_, List.getElem?_eq_getElem (by rw [HNT.out]; exact hlt)⟩
          obtain ⟨gT, cT, hv, hcap, hgT, hcT⟩ := (A7.out.1.below HBX.out).cells (by rw [HNT.out]; omega) HNE.out.1
          simp only [Value.slice.injEq] at hv
          obtain ⟨rfl, hq, rfl⟩ := hv
          clear hq
          obtain ⟨gU, cU, hv, hcap2, hgU, hcU⟩ := (A7.out.2.1.below HBX.out).cells (by rw [HNT.out]; omega) HNE.out.1
          simp only [Value.slice.injEq] at hv
          obtain ⟨rfl, hq, rfl⟩ := hv
          clear hq
          have hTF := HTF.out
          obtain ⟨g1, k1, e0, e1, _⟩ := hcT i tb htb
          obtain ⟨g2, k2, e2, e3, _⟩ := hcU i tb htb
          have e0' := cell_regrown e0
          have e1' := cell_regrown e1
          have e2' := cell_regrown e2
          have e3' := cell_regrown e3
          clear hcT hcU htb hcap hcap2
          go_wp2_with fail
          refine wp_region_quiet_below (by kernel_rfl) (by kernel_rfl) ?_
          repeat (first | go_big_quiet_step (fail) | quiet_step (fail))
          refine wpQuiet_nil ?_
          intro w8 hw'
          have hb8 : Below wr.heap.size wr w8 := below_of_regrown hw'
          have HB8 : Hid (Below w7.heap.size w7 w8) := below_trans' HBX.out hb8
          clear hw' hb8 e0' e1' e2' e3' e0 e1 e2 e3 HBX
          go_wp2
          go_roundw
          case rel => exact ⟨i + 1, hlt, by simp, by go_num, HB8⟩
          case measure => simp [intOf]; omega
        · obtain rfl : i = nT := by omega
          have HJB : Hid (JS = x.B.flatMap recB) := HJS.out
          have HY : Hid (YAt w2.heap.size sb2 x.B j wr ∧ Below w.heap.size w wr ∧ w2.heap.size ≤ wr.heap.size ∧ w.heap.size ≤ w2.heap.size) := ⟨A7.out.2.2.1.below HBX.out, A7.out.2.2.2.1.trans (HBX.out.mono (Nat.le_trans HNE.out.2 A7.out.2.2.2.2)), Nat.le_trans A7.out.2.2.2.2 HBX.out.size, HNE.out.2⟩
          clear A7 HBX HNE HNT HTF HJS
          have HRQ : Hid (8 ≤ (recB [pQ]).length ∧ (recB [pQ]).length ≤ 73) := recB_len btQ
          have fr : ∀ {ts : List Nat} {wa wb : World}, Kp w2.heap.size ts wa wb → Below w.heap.size w wa ∧ w2.heap.size ≤ wa.heap.size → Below w.heap.size w wb ∧ w2.heap.size ≤ wb.heap.size := fun k h => ⟨h.1.trans ((k.belowB h.2).mono HY.out.2.2.2), Nat.le_trans h.2 k.size⟩
          have FR : Hid _ := @fr
          clear fr
          -- the first Crash of what was loaded
          go_wp2_with fail
          refine Calls.mono (y_crash w2.heap.size sb2 j x.B keep wr HY.out.1 (by omega) kp0 kp1) ?_
          rintro e w8 ⟨rfl, y8, k8⟩
          have Y8 : Hid (YAt w2.heap.size sb2 x.B j w8 ∧ Below w.heap.size w w8 ∧ w2.heap.size ≤ w8.heap.size) := ⟨y8, FR.out k8 ⟨HY.out.2.1, HY.out.2.2.1⟩⟩
          clear y8 k8 HY
          go_wp2_with fail
          obtain ⟨RQ, hRQ⟩ : ∃ RQ, recB [pQ] = RQ := ⟨_, rfl⟩
          obtain ⟨L1, hL1⟩ : ∃ L1, x.B ++ [[pQ]] = L1 := ⟨_, rfl⟩
          have hq8 := HRQ.out
          rw [hRQ] at hq8
          have HJ1 : Hid (∀ w', YAt w2.heap.size sb2 x.B j w' → Calls Tryz.prog 24 #[.pointer (some ⟨sb2, 0, none⟩)] w' fun e w'' => e = .returned (.string (bs JS)) ∧ w'' = w') := fun w' h => by
            have := y_journal _ _ _ _ w' h
            rwa [← HJB.out] at this
          have HJ2 : Hid (∀ n' w', YOne w2.heap.size sb2 x.B [pQ] n' w' → Calls Tryz.prog 24 #[.pointer (some ⟨sb2, 0, none⟩)] w' fun e w'' => e = .returned (.string (bs (JS ++ RQ))) ∧ w'' = w') := fun n' w' h => by
            have := one_journal _ _ _ _ _ w' h
            rwa [← HJB.out, hRQ] at this
          have eL1 : L1.flatMap recB = JS ++ RQ := by rw [← hL1, HJB.out, ← hRQ]; simp
          have HJ3 : Hid (∀ n' w', YAt w2.heap.size sb2 L1 n' w' → Calls Tryz.prog 24 #[.pointer (some ⟨sb2, 0, none⟩)] w' fun e w'' => e = .returned (.string (bs (JS ++ RQ))) ∧ w'' = w') := fun n' w' h => by
            have := y_journal _ _ _ _ w' h
            rwa [eL1] at this
          have HJ5 : Hid (∀ n' w', YAt w2.heap.size sb2 (L1 ++ [[pQ]]) n' w' → Calls Tryz.prog 24 #[.pointer (some ⟨sb2, 0, none⟩)] w' fun e w'' => e = .returned (.string (bs (JS ++ RQ ++ RQ))) ∧ w'' = w') := fun n' w' h => by
            have := y_journal _ _ _ _ w' h
            rwa [List.flatMap_append, eL1, show [[pQ]].flatMap recB = RQ by rw [← hRQ]; simp] at this
          have HC2 : Hid (∀ w', YOne w2.heap.size sb2 x.B [pQ] (j + 1) w' → Calls Tryz.prog 26 #[.pointer (some ⟨sb2, 0, none⟩), .int .i64 (RQ.length : Nat)] w' fun e w'' => e = .returned (.tuple #[]) ∧ YAt w2.heap.size sb2 L1 (j + 1) w'' ∧ Kp w2.heap.size [118] w' w'') := fun w' h => by
            have := one_crash _ _ _ _ _ w' h (by omega)
            rwa [hRQ, hL1] at this
          have HC3 : Hid (∀ w', YOne w2.heap.size sb2 L1 [pQ] (j + 2) w' → Calls Tryz.prog 26 #[.pointer (some ⟨sb2, 0, none⟩), .int .i64 ((RQ.length : Int) - 1)] w' fun e w'' => e = .returned (.tuple #[]) ∧ YAt w2.heap.size sb2 L1 (j + 2) w'' ∧ Kp w2.heap.size [118] w' w'') := fun w' h => by
            have := one_lost _ _ _ _ _ w' h (by omega)
            rwa [hRQ] at this
          have hz2 : (bs (JS ++ RQ)).size = JS.length + RQ.length := by rw [bs_size, List.length_append]
          have hz3 : (bs (JS ++ RQ ++ RQ)).size = JS.length + RQ.length + RQ.length := by rw [bs_size, List.length_append, List.length_append]
          generalize hS3 : bs (JS ++ RQ ++ RQ) = S3 at HJ5 hz3
          clear hS3
          generalize hj0 : JS.length = jl at hJ hbsz hz2 hz3
          have hjlH : Hid (JS.length = jl) := hj0
          generalize hr0 : RQ.length = rq at hq8 hz2 hz3 HC2 HC3
          clear hj0 hr0 eL1 hL1 hRQ HRQ
          refine Calls.mono (HJ1.out _ Y8.out.1) ?_
          rintro e w8' ⟨rfl, rfl⟩
          go_wp2_with fail
          refine Calls.mono (y_write _ _ _ _ false w8' Y8.out.1 (by omega)) ?_
          rintro e w9 ⟨⟨v9, rfl⟩, y9, k9⟩
          have Y9 : Hid (YOne w2.heap.size sb2 x.B [pQ] (j + 1) w9 ∧ Below w.heap.size w w9 ∧ w2.heap.size ≤ w9.heap.size) := ⟨y9, FR.out k9 Y8.out.2⟩
          clear y9 k9 Y8
          go_wp2_with fail
          refine Calls.mono (HJ2.out _ _ Y9.out.1) ?_
          rintro e w9' ⟨rfl, rfl⟩
          go_wp2_with fail
          rw [show ((jl : Int) + (rq : Int) - (jl : Int)) = ((rq : Nat) : Int) by omega]
          refine Calls.mono (HC2.out _ Y9.out.1) ?_
          rintro e w10 ⟨rfl, y10, k10⟩
          have Y10 : Hid (YAt w2.heap.size sb2 L1 (j + 1) w10 ∧ Below w.heap.size w w10 ∧ w2.heap.size ≤ w10.heap.size) := ⟨y10, FR.out k10 Y9.out.2⟩
          clear y10 k10 Y9
          go_wp2_with fail
          refine Calls.mono (HJ3.out _ _ Y10.out.1) ?_
          rintro e w10' ⟨rfl, rfl⟩
          go_wp2_with fail
          refine Calls.mono (y_write _ _ _ _ false w10' Y10.out.1 (by omega)) ?_
          rintro e w11 ⟨⟨v11, rfl⟩, y11, k11⟩
          have Y11 : Hid (YOne w2.heap.size sb2 L1 [pQ] (j + 2) w11 ∧ Below w.heap.size w w11 ∧ w2.heap.size ≤ w11.heap.size) := ⟨y11, FR.out k11 Y10.out.2⟩
          clear y11 k11 Y10
          go_wp2_with fail
          refine Calls.mono (HC3.out _ Y11.out.1) ?_
          rintro e w12 ⟨rfl, y12, k12⟩
          have Y12 : Hid (YAt w2.heap.size sb2 L1 (j + 2) w12 ∧ Below w.heap.size w w12 ∧ w2.heap.size ≤ w12.heap.size) := ⟨y12, FR.out k12 Y11.out.2⟩
          clear y12 k12 Y11
          go_wp2_with fail
          refine Calls.mono (HJ3.out _ _ Y12.out.1) ?_
          rintro e w12' ⟨rfl, rfl⟩
          go_wp2_with fail
          refine Calls.mono (y_write _ _ _ _ true w12' Y12.out.1 (by omega)) ?_
          rintro e w13 ⟨⟨v13, rfl⟩, y13, k13⟩
          have Y13 : Hid (YAt w2.heap.size sb2 (L1 ++ [[pQ]]) (j + 3) w13 ∧ Below w.heap.size w w13 ∧ w2.heap.size ≤ w13.heap.size) := ⟨y13, FR.out k13 Y12.out.2⟩
          clear y13 k13 Y12
          go_wp2_with fail
          refine Calls.mono (y_crash _ _ _ _ keep w13 Y13.out.1 (by omega) kp0 kp1) ?_
          rintro e w14 ⟨rfl, y14, k14⟩
          have Y14 : Hid (YAt w2.heap.size sb2 (L1 ++ [[pQ]]) (j + 3) w14 ∧ Below w.heap.size w w14 ∧ w2.heap.size ≤ w14.heap.size) := ⟨y14, FR.out k14 Y13.out.2⟩
          clear y14 k14 Y13
          go_wp2_with fail
          refine Calls.mono (HJ5.out _ _ Y14.out.1) ?_
          rintro e w14' ⟨rfl, rfl⟩
          have hgt : decide ((0 : Int) < (rq : Int)) = true := decide_eq_true (by omega)
          go_wp2
          go_ret
          exact ⟨rfl, Y14.out.2.1⟩

end Go.Proofs.YtakipjofboipmaaGreat
