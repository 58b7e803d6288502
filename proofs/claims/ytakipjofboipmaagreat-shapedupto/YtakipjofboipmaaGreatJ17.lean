/- Plain mathematics of this proof: what is left when all is merged and no snapshot is there. -/
import Derived.Test.YtakipjofboipmaaGreatJ14
import Derived.Test.YtakipjofboipmaaGreatJ16
namespace Go.Proofs.YtakipjofboipmaaGreat
open Go.Sort

theorem sbsT_nil : ∀ (r : List En) (p : En), sbsT [] p r = []
  | [], _ => rfl
  | e :: r, p => by simp [sbsT, inGap, sbsT_nil r e]

/-- With no snapshot, and deletions not needed: of each key the newest, if it is there. -/
theorem nd0 {O : List En} (hs : Sorted O) : (∀ e ∈ ndAll [] true O, e.g = false) ∧ (ndAll [] true O).Pairwise (fun a b => kc a.k b.k < 0) := by
  induction O using ndAll_ind with
  | case1 => simp [ndAll_nil]
  | case2 e r ih =>
    obtain ⟨h1, h2, h3, h4⟩ := sorted_split hs
    obtain ⟨i1, i2⟩ := ih h4
    have e1 : ndOf [] true (e :: r.takeWhile fun x => decide (x.k = e.k)) = if e.g then [] else [e] := by
      simp [ndOf, sbs, sbsT_nil, dtg]
    rw [ndAll_cons, e1]
    have hsub := ndAll_sub [] true (r.dropWhile fun x => decide (x.k = e.k))
    cases hg : e.g with
    | true => simpa [hg] using ⟨i1, i2⟩
    | false =>
      simp only [Bool.false_eq_true, if_false, List.cons_append, List.nil_append]
      refine ⟨fun y hy => ?_, List.pairwise_cons.2 ⟨fun y hy => ?_, i2⟩⟩
      · rcases List.mem_cons.1 hy with rfl | hy
        · exact hg
        · exact i1 y hy
      · have hy' := hsub.subset hy
        have hel := (List.pairwise_cons.1 hs).1 y ((List.dropWhile_sublist _).subset hy')
        unfold elt at hel
        rw [oc_lt] at hel
        rcases hel with g | g
        · exact g
        · exact absurd g.1.symm (h2 y hy')

/-- How many keys the last table has, where all is merged and no snapshot is there. -/
theorem last_count {x : St} {A : List (List Pr)} (sh : ShOk x A) (hB : x.B = []) {R : List En} (hT : x.T = [(2, R)]) (h1 : ∀ e ∈ R, e.g = false) (h2 : R.Pairwise fun a b => kc a.k b.k < 0) :
    R.length = tk.countP fun k => (vk A k A.length).isSome := by
  have ok := sh.st
  have lv := ok.lv
  have hla : x.la = A.length := by have := lv.la1; rw [hB] at this; rw [← sh.last, this]; simp
  have hmem : (2, R) ∈ x.T := by rw [hT]; exact List.mem_singleton.2 rfl
  have hRs : ∀ e ∈ R, e ∈ x.E ∧ e.s ≤ x.la := lv.tsub _ hmem
  have hsee : ∀ k, skO (fnd R k x.la) = sk x.E k x.la := fun k => by
    have hv := lv.view x.la (.inl (Int.le_refl _)) k
    rw [hT] at hv
    simp only [List.map_cons, List.map_nil, fndL_one] at hv
    rw [hv, sk_eq]
    congr 1
    unfold fnd
    rw [List.find?_filter]
    refine find_congr fun e he => ?_
    by_cases g : e.s ≤ x.la <;> simp [g]
  have hfnd : ∀ e ∈ R, fnd R e.k x.la = some e := fun e he => by
    cases hf : fnd R e.k x.la with
    | none =>
      unfold fnd at hf
      rw [List.find?_eq_none] at hf
      exact absurd (hf e he) (by simp [(hRs e he).2])
    | some y =>
      obtain ⟨g1, g2, _⟩ := fnd_some hf
      congr 1
      by_cases hye : y = e
      · exact hye
      · exfalso
        obtain ⟨i, hi, rfl⟩ := List.getElem_of_mem g1
        obtain ⟨j, hj, rfl⟩ := List.getElem_of_mem he
        rw [List.pairwise_iff_getElem] at h2
        rcases Nat.lt_trichotomy i j with h | h | h
        · have := h2 i j hi hj h
          rw [g2, kc_self] at this
          omega
        · subst h; exact hye rfl
        · have := h2 j i hj hi h
          rw [g2, kc_self] at this
          omega
  have inv : ScanInv x.E ⟨#[]⟩ ((A.length : Nat) : Int) (R.map fun e => ⟨e.k, e.v, false⟩) none := by
    rw [← hla]
    refine ⟨?_, ?_, ?_, (fun c hc => by cases hc), ?_⟩
    · rw [List.pairwise_map]; exact h2
    · intro p hp
      obtain ⟨e, he, rfl⟩ := List.mem_map.1 hp
      refine ⟨rfl, ?_, kc_empty _, (fun c hc => by cases hc)⟩
      rw [← hsee, hfnd e he]
      simp [skO, h1 e he]
    · intro e he _ _ y hy
      rw [← hsee] at hy
      cases hf : fnd R e.k x.la with
      | none => rw [hf] at hy; simp [skO] at hy
      | some e' =>
        obtain ⟨g1, g2, _⟩ := fnd_some hf
        rw [hf] at hy
        simp [skO, h1 e' g1] at hy
        refine List.mem_map.2 ⟨e', g1, ?_⟩
        rw [g2, hy]
    · rw [List.length_map]
      simp only [cnt]
      exact sub_len (lv.tsorted _ hmem) ok.sorted fun e he => (hRs e he).1
  have := scan_count ok.sorted sh.rel (fun b hb => (sh.ok b hb).ten) (Nat.le_refl A.length) inv (.inl rfl)
  rw [List.length_map] at this
  exact this

/-- What is left at the end of Shaped. -/
structure EndOk (x : St) (A : List (List Pr)) : Prop where
  f : hasT x.fl.T 0
  g : hasT (x.fl.mg 0).T 1
  two : ∃ t r, (x.fl.mg 0).T = t :: r ∧ 0 < t.1
  three : ∃ R, ((x.fl.mg 0).mg 1).T = [(2, R)] ∧ R.length = (tk.countP fun k => (vk A k A.length).isSome) ∧ ∀ e ∈ R, e.g = false

theorem endOk {x : St} {A : List (List Pr)} (sh : ShOk x A) (hS : x.S = []) (hB : x.B ≠ []) (hT : x.T.length + 1 < 1000000000) {k v : ByteArray} (hv : vk A k A.length = some v) : EndOk x A := by
  have ok3 := sh.st.fl hB hT
  have ok4 := ok3.mg (l := 0) (by decide) (by decide)
  have ok5 := ok4.mg (l := 1) (by decide) (by decide)
  have f := of_decide_eq_true (fl_has0 ok3)
  have g := of_decide_eq_true (mg_has01 ok3 f ok4)
  have g0 := of_decide_eq_false (mg_has ok3 ok4)
  have noz : ∀ t ∈ (x.fl.mg 0).T, 0 < t.1 := fun t ht => by
    have := (ok4.lv.lev2 t ht).1
    by_cases h0 : t.1 = 0
    · exact absurd ((hasT_iff ok4.lv.lev 0).2 ⟨t, ht, h0⟩) g0
    · omega
  refine ⟨f, g, ?_, ?_⟩
  · obtain ⟨t, ht, _⟩ := (hasT_iff ok4.lv.lev 1).1 g
    cases hl : (x.fl.mg 0).T with
    | nil => rw [hl] at ht; cases ht
    | cons u r => exact ⟨u, r, rfl, noz u (by rw [hl]; exact List.mem_cons_self)⟩
  · have hx5 : ((x.fl.mg 0).mg 1).T = (x.fl.mg 0).T.take (stIdx (x.fl.mg 0).T 1) ++ oneT 2 (ndAll (x.fl.mg 0).Q true ((x.fl.mg 0).mixed 1)) ++ (x.fl.mg 0).T.drop (stIdx (x.fl.mg 0).T 3) := rfl
    have e1 : (x.fl.mg 0).T.take (stIdx (x.fl.mg 0).T 1) = [] := by
      refine List.eq_nil_iff_forall_not_mem.2 fun t ht => ?_
      have := st_below ht
      have := noz t (List.mem_of_mem_take ht)
      omega
    have e2 : (x.fl.mg 0).T.drop (stIdx (x.fl.mg 0).T 3) = [] := by
      refine List.eq_nil_iff_forall_not_mem.2 fun t ht => ?_
      have := st_above ok4.lv.lev ht
      have := (ok4.lv.lev2 t (List.mem_of_mem_drop ht)).2
      omega
    have hQ : (x.fl.mg 0).Q = [] := by
      show x.S.map (·.q) = []
      rw [hS]; rfl
    rw [e1, e2, hQ, List.nil_append, List.append_nil] at hx5
    obtain ⟨n1, n2⟩ := nd0 (mixed_sorted ok4 1)
    generalize hR : ndAll [] true ((x.fl.mg 0).mixed 1) = R at hx5 n1 n2
    have sh5 : ShOk ((x.fl.mg 0).mg 1) A := ⟨ok5, sh.last, sh.rel, sh.ok, sh.few⟩
    have hRne : R ≠ [] := by
      rintro rfl
      have hv5 := ok5.lv.view x.last (.inl (Int.le_refl _)) k
      rw [hx5] at hv5
      simp only [oneT, List.map_nil, fndL_nil] at hv5
      have e3 : sk x.E k x.last = vk A k A.length := by rw [sh.last]; exact sk_vk sh.st.sorted sh.rel k _ (Nat.le_refl _)
      rw [hv, sk_eq] at e3
      have e4 : fnd (x.E.filter fun e => decide (e.s ≤ x.last)) k x.last = fnd x.E k x.last := by
        congr 1
        exact List.filter_eq_self.2 fun e he => decide_eq_true (sh.st.slast e he)
      have e5 : skO (fnd (x.E.filter fun e => decide (e.s ≤ x.last)) k x.last) = none := hv5.symm
      rw [e4, e3] at e5
      cases e5
    obtain ⟨a, r, rfl⟩ : ∃ a r, R = a :: r := by cases R with | nil => exact absurd rfl hRne | cons a r => exact ⟨a, r, rfl⟩
    exact ⟨a :: r, hx5, last_count sh5 rfl hx5 n1 n2, n1⟩
end Go.Proofs.YtakipjofboipmaaGreat

/- The walks of this proof: Shaped. -/
namespace Go.Proofs.YtakipjofboipmaaGreat
open Go.RowKit Go.Sort

def kA : ByteArray := ⟨#[97]⟩
def v11 : ByteArray := ⟨#[49, 49]⟩
def pA : Pr := ⟨kA, v11, false⟩

theorem bokA : BOk [pA] := by
  refine ⟨by decide, by decide, ?_, ?_⟩
  · intro p hp
    rw [List.mem_singleton] at hp
    subst hp
    exact ⟨by decide, by decide, by decide, fun h => by cases h⟩
  · intro p hp
    rw [List.mem_singleton] at hp
    subst hp
    exact List.mem_cons_self

theorem vkA (A : List (List Pr)) : vk (A ++ [[pA]]) kA (A ++ [[pA]]).length = some v11 := by
  have e : (A ++ [[pA]]).length = A.length + 1 := by simp
  unfold vk
  rw [e]
  unfold val
  have e2 : (A ++ [[pA]]).getD A.length [] = [pA] := by simp [List.getD_eq_getElem?_getD]
  rw [e2]
  have e3 : lastP [pA] kA = some pA := by simp [lastP, pA]
  rw [e3]
  rfl

theorem Sound.nosnap {x : St} {A : List (List Pr)} {t : Nat} (h : Sound x A t) : Sound { x with S := [] } A t :=
  ⟨⟨h.sh.st.snapsTo [] x.lastSnap (by simp) (by simp), h.sh.last, h.sh.rel, h.sh.ok, h.sh.few⟩, List.Pairwise.nil, by simp, h.ls0, h.b1, h.b2, h.b3, h.b4⟩

theorem StOk.dropN {x : St} (ok : StOk x) (m : Nat) : StOk { x with S := x.S.drop m } :=
  ok.snapsTo (x.S.drop m) x.lastSnap (by have := ok.snaps; simp; omega) fun s hs => .inr (List.mem_of_mem_drop hs)

theorem sidx_head {S : List Sn} {m : Nat} {s : Sn} (h : S[m]? = some s) : sidx (S.drop m) s.n = some 0 := by
  obtain ⟨hl, rfl⟩ := List.getElem?_eq_some_iff.1 h
  rw [List.drop_eq_getElem_cons hl]
  unfold sidx
  rw [List.findIdx?_cons]
  simp

theorem one_pr (w : World) (a b c : Value) (e : TypeId) : (w.alloc (.cells #[a, b, c] e)).ownsRow w.heap.size e 3 (.slice (some ⟨w.heap.size, 0, none⟩) 1 1) 1 [a, b, c] :=
  ⟨by simp, .inr ⟨w.heap.size, 1, #[a, b, c], rfl, Nat.le_refl _, heap_alloc_new w _, Nat.le_refl _, by unfold maxLen; omega, by simp, by simp⟩⟩

/-- The shop behind its snapshots are let go. -/
def Bare (B hb sb : Nat) (x : St) (A : List (List Pr)) (w : World) : Prop :=
  ∃ (vA a2 a3 a4 a5 a6 : Value), B ≤ hb ∧ w.heap[hb]? = some (.cells #[.pointer (some ⟨sb, 0, none⟩), vA, a2, a3, a4, a5, a6] 36 (0, 0)) ∧ SIn B sb x w ∧ AllAt B w vA A

theorem Bare.desk {B hb sb : Nat} {x : St} {A : List (List Pr)} {w : World} (h : Bare B hb sb x A w) : DeskAt B hb x A w := by
  obtain ⟨vA, a2, a3, a4, a5, a6, h⟩ := h
  exact ⟨sb, vA, a2, a3, a4, a5, a6, h⟩

theorem Bare.cell {B hb sb : Nat} {x : St} {A : List (List Pr)} {w : World} (h : Bare B hb sb x A w) : w.cell? ⟨hb, 0, none⟩ = some (.pointer (some ⟨sb, 0, none⟩)) := by
  obtain ⟨vA, a2, a3, a4, a5, a6, h1, h2, h3⟩ := h
  simp [World.cell?, h2]

/-- Behind a call upon the store. -/
theorem Bare.to {B hb sb : Nat} {x y : St} {A : List (List Pr)} {w w' : World} (h : Bare B hb sb x A w) {ts : List Nat} (k : Kp B ts w w') (h1 : 36 ∉ ts) (h2 : 49 ∉ ts) (h3 : 48 ∉ ts) (hy : SIn B sb y w') : Bare B hb sb y A w' := by
  obtain ⟨vA, a2, a3, a4, a5, a6, g1, g2, g3, g4⟩ := h
  exact ⟨vA, a2, a3, a4, a5, a6, g1, k.keep g2 h1, hy, g4.kept k h2 h3⟩

theorem Bare.below {B hb sb : Nat} {x : St} {A : List (List Pr)} {w w' : World} (h : Bare B hb sb x A w) (hb' : Below w.heap.size w w') : Bare B hb sb x A w' := by
  have g := h
  obtain ⟨vA, a2, a3, a4, a5, a6, g1, g2, g3, g4⟩ := g
  exact h.to (Kp.of_below (B := B) (ts := []) hb') (by simp) (by simp) (by simp) (g3.below hb')

/-- Another list of batches. -/
theorem Bare.book {B hb sb : Nat} {x : St} {A A' : List (List Pr)} {w0 w : World} {v : Value} (h : Bare B hb sb x A w0) (k0 : Kp B [49] w0 w) (ha : AllAt B w v A') : Bare B hb sb x A' (w.setCell ⟨hb, 1, none⟩ v) ∧ w.frozen? ⟨hb, 1, none⟩ = false ∧ (∀ u, w0.cell? ⟨hb, 1, none⟩ = some u → w.cell? ⟨hb, 1, none⟩ = some u) ∧ Kp B [36] w (w.setCell ⟨hb, 1, none⟩ v) := by
  obtain ⟨vA, a2, a3, a4, a5, a6, g1, g2, g3, g4⟩ := h
  have g5 := k0.keep g2 (by simp)
  have k := Kp.field g1 g5 1 v
  have s := heap_setCell_same w hb 1 _ 36 v g5
  simp only [List.setIfInBounds_toArray, List.set_cons_succ, List.set_cons_zero] at s
  refine ⟨⟨v, a2, a3, a4, a5, a6, g1, s, (g3.kept k0 (by decide)).kept k (by decide), ha.kept k (by simp) (by simp)⟩, by simp [World.frozen?, g5], fun u hu => ?_, k⟩
  simp [World.cell?, g2] at hu
  simp [World.cell?, g5, hu]

theorem Bare.all {B hb sb : Nat} {x : St} {A : List (List Pr)} {w : World} (h : Bare B hb sb x A w) : ∃ vA, w.cell? ⟨hb, 1, none⟩ = some vA ∧ AllAt B w vA A := by
  obtain ⟨vA, a2, a3, a4, a5, a6, g1, g2, g3, g4⟩ := h
  exact ⟨vA, by simp [World.cell?, g2], g4⟩

theorem Bare.st {B hb sb : Nat} {x : St} {A : List (List Pr)} {w : World} (h : Bare B hb sb x A w) : SIn B sb x w := by
  obtain ⟨vA, a2, a3, a4, a5, a6, g1, g2, g3, g4⟩ := h
  exact g3

set_option maxHeartbeats 8000000 in
set_option maxRecDepth 100000 in
theorem shaped5_any (v : Value) (n : Nat) (w : World) (h : ScriptAt w v n) (hn : n ≤ 1900000) :
    Calls Tryz.prog 5 #[v] w fun e w' => e = .returned (.bool true) ∧ Below w.heap.size w w' := by
  obtain ⟨ao, cap, rfl, hc⟩ := h
  obtain ⟨i0, hi, hz0, hz1, hz2⟩ := info_parts Tryz.info49
  have HI0 : Hid (Tryz.prog.info? 49 = some i0 ∧ i0.zero = some (.slice none 0 0) ∧ i0.size = 1 ∧ i0.bytes = 24) := ⟨hi, hz0, hz1, hz2⟩
  have HC : Hid _ := hc
  clear hc hi hz0 hz1 hz2
  go_enter Tryz.func5, Tryz.ntmps5
  go_wp2_with fail
  refine (shop_any w).mono ?_
  rintro e w1 ⟨hb, rfl, hx, hb1⟩
  have HX : Hid (ShopAt w.heap.size hb st0 [] w1) := hx
  have HB1 : Hid (Below w.heap.size w w1) := hb1
  clear hx hb1
  go_wp2
  go_loopw [4, 5] (fun i _ wr => ∃ (j : Nat) (x : St) (A : List (List Pr)), j ≤ n ∧ i = .int .i64 j ∧ Hid (ShopAt w.heap.size hb x A wr) ∧ Hid (Sound x A j) ∧ Hid (Below w.heap.size w wr)) (fun i _ _ => n - (intOf i).toNat)
  case atStart => exact ⟨0, st0, [], Nat.zero_le _, rfl, HX, sound0, HB1⟩
  case round =>
    clear HX HB1
    obtain ⟨j, x, A, hj, rfl, HX, HS, HB⟩ := hrel
    by_cases hlt : j < n
    · obtain ⟨⟨g, off, spot⟩, k, a, al, nl, cl, f, rfl, hsp, c0, c1, c2, c3, hraw, ha0, ha1⟩ := HC.out j hlt
      simp only at hsp c0 c1 c2 c3
      subst hsp
      have hgw : g < w.heap.size := block_lt_of_cell c0
      have HD : Hid _ := does_any w.heap.size hb x A k a al nl cl f true j wr HX.out HS.out (by omega) (hraw.below HB.out) HB.out.size ha0 ha1
      have C0 : Hid (w.cell? ⟨g, off + j * 4, none⟩ = some (.int .i64 k)) := c0
      have c0 := cell_later HB.out c0
      have c1 := cell_later HB.out c1
      have c2 := cell_later HB.out c2
      have c3 := cell_later HB.out c3
      have hgr : g < wr.heap.size := block_lt_of_cell c0
      clear hraw
      go_wp2_with fail
      refine Calls.mono HD.out ?_
      rintro e w2 ⟨rfl, x', A', hx2, hs2, hk2⟩
      have hb2 : Below w.heap.size w w2 := HB.out.trans (hk2.belowB HB.out.size)
      have c0 := cell_later hb2 C0.out
      have hgr2 : g < w2.heap.size := block_lt_of_cell c0
      have HX2 : Hid (ShopAt w.heap.size hb x' A' w2) := hx2
      have HS2 : Hid (Sound x' A' (j + 1)) := hs2
      have HB2 : Hid (Below w.heap.size w w2) := hb2
      clear hx2 hs2 hb2 hk2 HD HX HS HB c1 c2 c3
      by_cases hk6 : k = 6
      · subst hk6
        obtain ⟨sb, vA, vS, su, la, o0, o1, hBh, hs, hst, hall, hsn, _⟩ := id HX2.out
        have d0 : w2.cell? ⟨hb, 0, none⟩ = some (.pointer (some ⟨sb, 0, none⟩)) := by simp [World.cell?, hs]
        have hbl : hb < w2.heap.size := lt_of_block hs
        have HTB : Hid (Calls Tryz.prog 16 #[.pointer (some ⟨sb, 0, none⟩)] w2 fun e w' => TabPost x'.T w2 e w') := tables_sin w.heap.size sb x' w2 hst HS2.out.sh.st
        clear hs hst hall hsn
        go_wp2_with fail
        refine Calls.mono HTB.out ?_
        rintro e w3 ⟨vt, rfl, ht3, hb3⟩
        have HX3 : Hid (ShopAt w.heap.size hb x' A' w3) := HX2.out.below hb3
        have HB3 : Hid (Below w.heap.size w w3) := below_trans' HB2.out hb3
        have HSH : Hid (Calls Tryz.prog 15 #[.pointer (some ⟨hb, 0, none⟩), vt] w3 fun e w' => e = .returned (.bool true) ∧ Below w3.heap.size w3 w') := shaped_any w.heap.size hb x' A' x'.T w2.heap.size vt w3 HX3.out.desk HS2.out.sh ht3 HS2.out.sh.st.shape
        obtain ⟨aov, capv, rfl⟩ : ∃ ao cap, vt = .slice ao x'.T.length cap := by obtain ⟨Vs, _, ho, _⟩ := ht3; exact slice_form ho
        clear hb3 HX2 HB2 HTB ht3
        go_wp2_with fail
        refine Calls.mono HSH.out ?_
        rintro e w4 ⟨rfl, hb4⟩
        have HX4 : Hid (ShopAt w.heap.size hb x' A' w4) := HX3.out.below hb4
        have HB4 : Hid (Below w.heap.size w w4) := below_trans' HB3.out hb4
        clear hb4 HX3 HB3 HSH
        go_wp2
        go_roundw
        case rel => exact ⟨j + 1, x', A', hlt, by go_num, HX4, HS2, HB4⟩
        case measure => simp [intOf]; omega
      · have b6 : (k == 6) = false := beq_eq_false_iff_ne.2 hk6
        go_wp2
        go_roundw
        case rel => exact ⟨j + 1, x', A', hlt, by go_num, HX2, HS2, HB2⟩
        case measure => simp [intOf]; omega
    · obtain rfl : j = n := by omega
      clear HC
      obtain ⟨sb, vA, vS, su, la, o0, o1, hBh, hs, hst, hall, hsn, _⟩ := id HX.out
      have hbl : hb < wr.heap.size := lt_of_block hs
      have hS4 := HS.out.sh.st.snaps
      obtain ⟨w9, hw9⟩ : ∃ w9, w9 = wr := ⟨wr, rfl⟩
      subst hw9
      have HBW : Hid (Below w.heap.size w w9) := HB.out
      obtain ⟨aoS, capS, rfl⟩ := slice_form hsn
      have d0 : w9.cell? ⟨hb, 0, none⟩ = some (.pointer (some ⟨sb, 0, none⟩)) := by simp [World.cell?, hs]
      have d2 : w9.cell? ⟨hb, 2, none⟩ = some (.slice aoS x.S.length capS) := by simp [World.cell?, hs]
      have HSN : Hid (w9.ownsRow w.heap.size 44 2 (.slice aoS x.S.length capS) x.S.length (scells x.S)) := hsn
      have HSH9 : Hid (w9.heap[hb]? = some (.cells #[.pointer (some ⟨sb, 0, none⟩), vA, .slice aoS x.S.length capS, .int .i64 su, .int .i64 la, .bool o0, .bool o1] 36 (0, 0)) ∧ w.heap.size ≤ hb ∧ AllAt w.heap.size w9 vA A) := ⟨hs, hBh, hall⟩
      have ST0 : Hid (SIn w.heap.size sb { x with S := x.S.drop 0 } w9 ∧ Kp w.heap.size [118, 174] w9 w9) := ⟨by simpa using hst, Kp.refl _ _ _⟩
      clear hs hst hall hsn HX HB
      go_wp2
      go_loopw [6] (fun i wx => ∃ m : Nat, m ≤ x.S.length ∧ i = .int .i64 m ∧ Hid (SIn w.heap.size sb { x with S := x.S.drop m } wx ∧ Kp w.heap.size [118, 174] w9 wx)) (fun i _ => x.S.length - (intOf i).toNat)
      case atStart => exact ⟨0, Nat.zero_le _, rfl, ST0⟩
      case round =>
        clear ST0
        obtain ⟨m, hm, rfl, HI⟩ := hrel
        have hsr := HI.out.2.keep HSH9.out.1 (by simp)
        have e0 : wr.cell? ⟨hb, 0, none⟩ = some (.pointer (some ⟨sb, 0, none⟩)) := by simp [World.cell?, hsr]
        have e2 : wr.cell? ⟨hb, 2, none⟩ = some (.slice aoS x.S.length capS) := by simp [World.cell?, hsr]
        have hbr : hb < wr.heap.size := lt_of_block hsr
        clear hsr
        by_cases hms : m < x.S.length
        · have hsnr := HI.out.2.owns HSN.out (by simp)
          obtain ⟨gS, cS, hvS, hgS0, hgS, hcS, hcell⟩ := row_cell (fun a => by rfl) hsnr (by omega)
          simp only [Value.slice.injEq, true_and] at hvS
          obtain ⟨rfl, rfl⟩ := hvS
          obtain ⟨s, hsm⟩ : ∃ s, x.S[m]? = some s := ⟨_, List.getElem?_eq_getElem hms⟩
          have e4 : wr.cell? ⟨gS, m * 2, none⟩ = some (.int .i64 s.n) := hcell m s 0 hsm (by omega)
          have HDR : Hid (∀ w2, Below wr.heap.size wr w2 → Calls Tryz.prog 17 #[.pointer (some ⟨sb, 0, none⟩), .int .i64 s.n] w2 fun e w' => ∃ u, e = .returned (.int .i64 u) ∧ SIn w.heap.size sb { x with S := x.S.drop (m + 1) } w' ∧ Kp w.heap.size [118, 174] w2 w') := fun w2 hb2 => by
            refine (drop_sin { x with S := x.S.drop m } w.heap.size sb s.n w2 (HI.out.1.below hb2) (HS.out.sh.st.dropN m)).mono ?_
            rintro e w' (⟨h, _⟩ | ⟨i, h, rfl, h2, h3⟩)
            · exact absurd h (by rw [sidx_head hsm]; simp)
            · rw [sidx_head hsm] at h
              obtain rfl := Option.some.inj h
              refine ⟨0, rfl, ?_, h3⟩
              have e : (x.S.drop m).eraseIdx 0 = x.S.drop (m + 1) := by
                obtain ⟨hl, _⟩ := List.getElem?_eq_some_iff.1 hsm
                rw [List.drop_eq_getElem_cons hl]; rfl
              simpa only [e] using h2
          have e0' := cell_regrown e0
          have e2' := cell_regrown e2
          have e4' := cell_regrown e4
          clear hsnr hcell hsm
          go_wp2_with fail
          refine wp_region_quiet_tail 12 (by kernel_rfl) (by kernel_rfl) ?_
          simp only [List.take_succ_cons, List.take_zero, List.drop_succ_cons, List.drop_zero]
          repeat (first | go_big_quiet_step (fail) | quiet_step (fail))
          refine wpQuiet_nil ?_
          intro w2 hw'
          have hb2 := below_of_regrown hw'
          have HD := HDR.out w2 hb2
          have HDH : Hid _ := HD
          have HB2 : Hid (Below wr.heap.size wr w2) := hb2
          clear hw' e0' e2' e4' HD hb2
          go_wp2_with fail
          refine Calls.mono HDH.out ?_
          rintro e w3 ⟨u, rfl, h3, k3⟩
          have HI3 : Hid (SIn w.heap.size sb { x with S := x.S.drop (m + 1) } w3 ∧ Kp w.heap.size [118, 174] w9 w3) := ⟨h3, (HI.out.2.trans (Kp.of_below HB2.out)).trans k3⟩
          clear h3 k3 HDH HB2 HI HDR
          go_wp2
          go_roundw
          case rel => exact ⟨m + 1, hms, by go_num, HI3⟩
          case measure => simp [intOf]; omega
        · obtain rfl : m = x.S.length := by omega
          have BARE0 : Hid (Bare w.heap.size hb sb { x with S := [] } A wr) := by
            have h1 := HI.out.1
            rw [List.drop_length] at h1
            exact ⟨vA, _, _, _, _, _, HSH9.out.2.1, HI.out.2.keep HSH9.out.1 (by simp), h1, HSH9.out.2.2.kept HI.out.2 (by simp) (by simp)⟩
          have HBR : Hid (Below w.heap.size w wr) := HBW.out.trans (HI.out.2.belowB HBW.out.size)
          have SO1 : Hid (Sound { x with S := [] } A j) := HS.out.nosnap
          have b1 := SO1.out.b1
          have b2 : x.E.length ≤ 4 * j := SO1.out.b2
          have b3 : x.T.length ≤ j := SO1.out.b3
          have hl1 : x.last = A.length := SO1.out.sh.last
          have HWR : Hid (Calls Tryz.prog 18 #[.pointer (some ⟨sb, 0, none⟩), .slice (some ⟨wr.heap.size, 0, none⟩) 1 1, .bool false] (wr.alloc (.cells #[.string ⟨#[97]⟩, .string ⟨#[49, 49]⟩, .bool false] 48)) fun e w' => WrPost w.heap.size sb { x with S := [] } [pA] false (wr.alloc (.cells #[.string ⟨#[97]⟩, .string ⟨#[49, 49]⟩, .bool false] 48)) e w') :=
            write_sin w.heap.size sb { x with S := [] } [pA] _ wr.heap.size false _ (BARE0.out.st.below ((Below.refl _ _).alloc (Nat.le_refl _) _)) SO1.out.sh.st (one_pr wr _ _ _ 48) bokA.lo bokA.hi bokA.ok (by show x.last < _; omega) (by show x.E.length + 4 < _; omega)
          have BW : Hid (Below wr.heap.size wr (wr.alloc (.cells #[.string ⟨#[97]⟩, .string ⟨#[49, 49]⟩, .bool false] 48))) := (Below.refl _ _).alloc (Nat.le_refl _) _
          clear HI HSH9 HSN d0 d2 hbl
          go_wp2_with fail
          refine Calls.mono HWR.out ?_
          rintro e w2 ⟨rfl, M, hse, hst2, hok2, hk2⟩
          have hk2' : Kp w.heap.size [118, 5, 58] wr w2 := (Kp.of_below BW.out).trans hk2
          have BARE2 : Hid (Bare w.heap.size hb sb ({ x with S := [] : St }.wrs M false) A w2) := BARE0.out.to hk2' (by simp) (by simp) (by simp) hst2
          have SO2 : Hid (Sound ({ x with S := [] : St }.wrs M false) (A ++ [[pA]]) (j + 1)) := SO1.out.batch (by omega) bokA hse false hok2
          have HB2 : Hid (Below w.heap.size w w2) := HBR.out.trans (hk2'.belowB HBR.out.size)
          have X2 : Hid (({ x with S := [] : St }.wrs M false).S = [] ∧ ({ x with S := [] : St }.wrs M false).B ≠ []) := ⟨by rw [wrs_S], by show x.B ++ [M] ≠ []; simp⟩
          generalize hx2 : ({ x with S := [] : St }.wrs M false) = x2 at BARE2 SO2 X2 hst2 hok2
          clear hx2 hse hst2 hok2 hk2 hk2' HWR BW BARE0 HBR SO1 HS e0 e2
          obtain ⟨vA2, cA, hall2⟩ := BARE2.out.all
          have e0 := BARE2.out.cell
          have hb2 : hb < w2.heap.size := block_lt_of_cell e0
          obtain ⟨Ws, hWo, hWr⟩ := hall2
          have hWl : Ws.length = A.length := by have := hWo.1; omega
          have HWO : Hid (w2.ownsRow w.heap.size 49 1 vA2 A.length Ws) := hWo
          have HWR : Hid (∀ (i : Nat) (b : List Pr), A[i]? = some b → ∃ vi, Ws[i]? = some vi ∧ w2.ownsRow w.heap.size 48 3 vi b.length (pcells b)) := hWr
          obtain ⟨aoA, capA, rfl⟩ := slice_form hWo
          clear hWo hWr
          obtain ⟨W3, hW3⟩ : ∃ W3, w2.alloc (.cells #[.string ⟨#[97]⟩, .string ⟨#[49, 49]⟩, .bool false] 48) = W3 := ⟨_, rfl⟩
          have HB3 : Hid (Below w2.heap.size w2 W3) := by show Below _ _ _; rw [← hW3]; exact (Below.refl _ _).alloc (Nat.le_refl _) _
          have HP3 : Hid (W3.ownsRow w.heap.size 48 3 (.slice (some ⟨w2.heap.size, 0, none⟩) 1 1) 1 (pcells [pA])) := by
            show World.ownsRow _ _ _ _ _ _ _
            rw [← hW3]
            exact owns_base (one_pr w2 _ _ _ 48) HB2.out.size
          have HW3 : Hid (w2.alloc (.cells #[.string ⟨#[97]⟩, .string ⟨#[49, 49]⟩, .bool false] 48) = W3) := hW3
          have HSZ3 : Hid (W3.heap.size = w2.heap.size + 1) := by show _ = _; rw [← hW3]; simp
          have HWO3 : Hid (W3.ownsRow w.heap.size 49 1 (.slice aoA A.length capA) A.length Ws) := (Kp.of_below (B := 0) (ts := []) HB3.out).owns HWO.out (by simp)
          have hwsz := HB2.out.size
          clear hW3
          go_wp2_with (first | rw [HW3.out] | (at_builtin; refine wpList_append_own _ rfl (.tmp 89) (.tmp 92) 32 rfl w.heap.size 49 i0 _ 1 24 Tryz.underlying32 HI0.out.1 HI0.out.2.1 HI0.out.2.2.1 HI0.out.2.2.2 rfl (by decide) _ _ _ rfl (by exact HWO3.out.alloc _) ⟨W3.heap.size, 0, none⟩ 1 1 [.slice (some ⟨w2.heap.size, 0, none⟩) 1 1] rfl rfl (by exact one_cell W3 _ 49) (by simp [Value.oneCell']) (by unfold maxLen; omega) (by omega) (by have := HSZ3.out; simp; omega) ?_))
          intro v9 w4 ho4 hg4 _
          have k4 : Kp w.heap.size [49] w2 w4 := ((Kp.of_below HB3.out).trans ((Kp.refl _ _ W3).alloc _)).trans (Kp.grown (Kp.refl _ _ _) (HWO3.out.alloc _) hg4 (Nat.le_refl _) (by simp))
          have hall4 : AllAt w.heap.size w4 v9 (A ++ [[pA]]) := AllAt.snoc ho4 hWl (fun i c h => by obtain ⟨vi, h1, h2⟩ := HWR.out i c h; exact ⟨vi, h1, k4.owns h2 (by simp)⟩) ((Kp.grown ((Kp.refl w.heap.size [49] W3).alloc _) (HWO3.out.alloc _) hg4 (Nat.le_refl _) (by simp)).owns HP3.out (by simp))
          obtain ⟨bare5, f1, hcell4, k5⟩ := BARE2.out.book k4 hall4
          have cA4 := hcell4 _ cA
          have BARE5 : Hid (Bare w.heap.size hb sb x2 (A ++ [[pA]]) (w4.setCell ⟨hb, 1, none⟩ v9)) := bare5
          have hb4 : hb < w4.heap.size := block_lt_of_cell cA4
          have HB5 : Hid (Below w.heap.size w (w4.setCell ⟨hb, 1, none⟩ v9)) := (HB2.out.trans (k4.belowB HB2.out.size)).trans (k5.belowB (Nat.le_trans HB2.out.size k4.size))
          have hlA : ∃ a c, v9 = .slice a (A.length + 1) c := slice_form ho4
          obtain ⟨ao9, cap9, rfl⟩ := hlA
          generalize hw5 : w4.setCell ⟨hb, 1, none⟩ (.slice ao9 (A.length + 1) cap9) = w5 at BARE5 HB5
          have HW5 : Hid (w4.setCell ⟨hb, 1, none⟩ (.slice ao9 (A.length + 1) cap9) = w5) := hw5
          have e0 := BARE5.out.cell
          have hb5 : hb < w5.heap.size := block_lt_of_cell e0
          have HTB : Hid (Calls Tryz.prog 16 #[.pointer (some ⟨sb, 0, none⟩)] w5 fun e w' => TabPost x2.T w5 e w') := tables_sin w.heap.size sb x2 w5 BARE5.out.st SO2.out.sh.st
          have hx2B := X2.out.2
          have HEND : Hid (EndOk x2 (A ++ [[pA]])) := endOk SO2.out.sh X2.out.1 hx2B (by have := SO2.out.b3; omega) (vkA A)
          clear ho4 hg4 k4 hall4 hcell4 k5 bare5 hw5 HWO3 HP3 HW3 HWO HWR BARE2 HB3 HB2 HSZ3 hWl cA HI0
          go_wp2_with (first | rw [HW5.out] | fail)
          refine Calls.mono HTB.out ?_
          rintro e w6 ⟨v6, rfl, ht6, hb6⟩
          have T6 : Hid (TabsAt w6 w5.heap.size v6 x2.T) := ht6
          have BARE6 : Hid (Bare w.heap.size hb sb x2 (A ++ [[pA]]) w6) := BARE5.out.below hb6
          have HB6 : Hid (Below w.heap.size w w6) := below_trans' HB5.out hb6
          obtain ⟨a6, c6, rfl⟩ : ∃ ao cap, v6 = .slice ao x2.T.length cap := by obtain ⟨Vs, _, ho, _⟩ := ht6; exact slice_form ho
          clear ht6 hb6 BARE5 HB5 HTB e0 cA4 f1 HW5
          have b23 := SO2.out.b3
          have b22 := SO2.out.b2
          have e0 := BARE6.out.cell
          have hbx : hb < w6.heap.size := block_lt_of_cell e0
          have HFL : Hid (Calls Tryz.prog 19 #[.pointer (some ⟨sb, 0, none⟩)] w6 fun e w' => FlPost w.heap.size sb x2 w6 e w') := flush_sin w.heap.size sb x2 w6 BARE6.out.st SO2.out.sh.st (by omega) (by omega)
          go_wp2_with fail
          refine Calls.mono HFL.out ?_
          rintro e w7 (⟨h, _⟩ | ⟨_, rfl, hst7, hok7, hk7⟩)
          · exact absurd h hx2B
          have BARE7 : Hid (Bare w.heap.size hb sb (x2.fl) (A ++ [[pA]]) w7) := BARE6.out.to hk7 (by simp) (by simp) (by simp) hst7
          have HB7 : Hid (Below w.heap.size w w7) := HB6.out.trans (hk7.belowB HB6.out.size)
          have SO3 : Hid (Sound x2.fl (A ++ [[pA]]) (j + 2)) := SO2.out.fl hok7
          clear hst7 hok7 hk7 HFL e0 hbx BARE6 HB6 T6
          have e0 := BARE7.out.cell
          have hbx : hb < w7.heap.size := block_lt_of_cell e0
          have HTB : Hid (Calls Tryz.prog 16 #[.pointer (some ⟨sb, 0, none⟩)] w7 fun e w' => TabPost (x2.fl).T w7 e w') := tables_sin w.heap.size sb (x2.fl) w7 BARE7.out.st SO3.out.sh.st
          go_wp2_with fail
          refine Calls.mono HTB.out ?_
          rintro e w8 ⟨v8, rfl, ht8, hbb⟩
          have T8 : Hid (TabsAt w8 w7.heap.size v8 (x2.fl).T) := ht8
          have BARE8 : Hid (Bare w.heap.size hb sb (x2.fl) (A ++ [[pA]]) w8) := BARE7.out.below hbb
          have HB8 : Hid (Below w.heap.size w w8) := below_trans' HB7.out hbb
          obtain ⟨a8, c8, rfl⟩ : ∃ ao cap, v8 = .slice ao (x2.fl).T.length cap := by obtain ⟨Vs, _, ho, _⟩ := ht8; exact slice_form ho
          clear hbb HTB ht8 e0 hbx BARE7 HB7
          have b32 := SO3.out.b2
          have e0 := BARE8.out.cell
          have hbx : hb < w8.heap.size := block_lt_of_cell e0
          have HMG : Hid (Calls Tryz.prog 20 #[.pointer (some ⟨sb, 0, none⟩), .int .i64 0] w8 fun e w' => MePost w.heap.size sb x2.fl 0 w8 e w') := merge_sin w.heap.size sb x2.fl 0 w8 BARE8.out.st SO3.out.sh.st HB8.out.size (by omega)
          go_wp2_with fail
          refine Calls.mono HMG.out ?_
          rintro e w9 (⟨h, _⟩ | ⟨_, h, _⟩ | ⟨_, _, rfl, hst9, hok9, hk9⟩)
          · exact absurd (by decide) h
          · exact absurd HEND.out.f h
          have BARE9 : Hid (Bare w.heap.size hb sb (x2.fl.mg 0) (A ++ [[pA]]) w9) := BARE8.out.to hk9 (by simp) (by simp) (by simp) hst9
          have HB9 : Hid (Below w.heap.size w w9) := HB8.out.trans (hk9.belowB HB8.out.size)
          have SO4 : Hid (Sound (x2.fl.mg 0) (A ++ [[pA]]) (j + 3)) := SO3.out.mg hok9
          have T8 : Hid (TabsAt w9 w7.heap.size (.slice a8 (x2.fl).T.length c8) (x2.fl).T) := T8.out.kept hk9 (by simp) (by simp)
          clear hst9 hok9 hk9 HMG e0 hbx BARE8 HB8
          have e0 := BARE9.out.cell
          have hbx : hb < w9.heap.size := block_lt_of_cell e0
          have HTB : Hid (Calls Tryz.prog 16 #[.pointer (some ⟨sb, 0, none⟩)] w9 fun e w' => TabPost (x2.fl.mg 0).T w9 e w') := tables_sin w.heap.size sb (x2.fl.mg 0) w9 BARE9.out.st SO4.out.sh.st
          go_wp2_with fail
          refine Calls.mono HTB.out ?_
          rintro e w10 ⟨v10, rfl, ht10, hbb⟩
          have T10 : Hid (TabsAt w10 w9.heap.size v10 (x2.fl.mg 0).T) := ht10
          have BARE10 : Hid (Bare w.heap.size hb sb (x2.fl.mg 0) (A ++ [[pA]]) w10) := BARE9.out.below hbb
          have HB10 : Hid (Below w.heap.size w w10) := below_trans' HB9.out hbb
          obtain ⟨a10, c10, rfl⟩ : ∃ ao cap, v10 = .slice ao (x2.fl.mg 0).T.length cap := by obtain ⟨Vs, _, ho, _⟩ := ht10; exact slice_form ho
          have T8 : Hid (TabsAt w10 w7.heap.size (.slice a8 (x2.fl).T.length c8) (x2.fl).T) := T8.out.below hbb
          clear hbb HTB ht10 e0 hbx BARE9 HB9
          have b42 := SO4.out.b2
          have e0 := BARE10.out.cell
          have hbx : hb < w10.heap.size := block_lt_of_cell e0
          have HMG : Hid (Calls Tryz.prog 20 #[.pointer (some ⟨sb, 0, none⟩), .int .i64 1] w10 fun e w' => MePost w.heap.size sb (x2.fl.mg 0) 1 w10 e w') := merge_sin w.heap.size sb (x2.fl.mg 0) 1 w10 BARE10.out.st SO4.out.sh.st HB10.out.size (by omega)
          go_wp2_with fail
          refine Calls.mono HMG.out ?_
          rintro e w11 (⟨h, _⟩ | ⟨_, h, _⟩ | ⟨_, _, rfl, hst11, hok11, hk11⟩)
          · exact absurd (by decide) h
          · exact absurd HEND.out.g h
          have BARE11 : Hid (Bare w.heap.size hb sb ((x2.fl.mg 0).mg 1) (A ++ [[pA]]) w11) := BARE10.out.to hk11 (by simp) (by simp) (by simp) hst11
          have HB11 : Hid (Below w.heap.size w w11) := HB10.out.trans (hk11.belowB HB10.out.size)
          have SO5 : Hid (Sound ((x2.fl.mg 0).mg 1) (A ++ [[pA]]) (j + 4)) := SO4.out.mg hok11
          have T8 : Hid (TabsAt w11 w7.heap.size (.slice a8 (x2.fl).T.length c8) (x2.fl).T) := T8.out.kept hk11 (by simp) (by simp)
          have T10 : Hid (TabsAt w11 w9.heap.size (.slice a10 (x2.fl.mg 0).T.length c10) (x2.fl.mg 0).T) := T10.out.kept hk11 (by simp) (by simp)
          clear hst11 hok11 hk11 HMG e0 hbx BARE10 HB10
          have e0 := BARE11.out.cell
          have hbx : hb < w11.heap.size := block_lt_of_cell e0
          have HTB : Hid (Calls Tryz.prog 16 #[.pointer (some ⟨sb, 0, none⟩)] w11 fun e w' => TabPost ((x2.fl.mg 0).mg 1).T w11 e w') := tables_sin w.heap.size sb ((x2.fl.mg 0).mg 1) w11 BARE11.out.st SO5.out.sh.st
          go_wp2_with fail
          refine Calls.mono HTB.out ?_
          rintro e w12 ⟨v12, rfl, ht12, hbb⟩
          have T12 : Hid (TabsAt w12 w11.heap.size v12 ((x2.fl.mg 0).mg 1).T) := ht12
          have BARE12 : Hid (Bare w.heap.size hb sb ((x2.fl.mg 0).mg 1) (A ++ [[pA]]) w12) := BARE11.out.below hbb
          have HB12 : Hid (Below w.heap.size w w12) := below_trans' HB11.out hbb
          obtain ⟨a12, c12, rfl⟩ : ∃ ao cap, v12 = .slice ao ((x2.fl.mg 0).mg 1).T.length cap := by obtain ⟨Vs, _, ho, _⟩ := ht12; exact slice_form ho
          have T8 : Hid (TabsAt w12 w7.heap.size (.slice a8 (x2.fl).T.length c8) (x2.fl).T) := T8.out.below hbb
          have T10 : Hid (TabsAt w12 w9.heap.size (.slice a10 (x2.fl.mg 0).T.length c10) (x2.fl.mg 0).T) := T10.out.below hbb
          clear hbb HTB ht12 e0 hbx BARE11 HB11
          have b52 := SO5.out.b2
          have b53 := SO5.out.b3
          have e0 := BARE12.out.cell
          have hbx : hb < w12.heap.size := block_lt_of_cell e0
          have HFL : Hid (Calls Tryz.prog 19 #[.pointer (some ⟨sb, 0, none⟩)] w12 fun e w' => FlPost w.heap.size sb ((x2.fl.mg 0).mg 1) w12 e w') := flush_sin w.heap.size sb ((x2.fl.mg 0).mg 1) w12 BARE12.out.st SO5.out.sh.st (by omega) (by omega)
          go_wp2_with fail
          refine Calls.mono HFL.out ?_
          rintro e w13 (⟨_, rfl, hw13⟩ | ⟨h, _⟩)
          · rw [hw13]
            clear hw13
            have HSH : Hid (∀ (T : List Lb) (base : Nat) (v : Value) (w' : World), Below w12.heap.size w12 w' → TabsAt w12 base v T → Shape ((x2.fl.mg 0).mg 1).E T → Calls Tryz.prog 15 #[.pointer (some ⟨hb, 0, none⟩), v] w' fun e w'' => e = .returned (.bool true) ∧ Below w'.heap.size w' w'') := fun T base v w' hbw hT hsh => shaped_any w.heap.size hb ((x2.fl.mg 0).mg 1) (A ++ [[pA]]) T base v w' (BARE12.out.below hbw).desk SO5.out.sh (hT.below hbw) hsh
            have S1 : Hid (Calls Tryz.prog 15 #[.pointer (some ⟨hb, 0, none⟩), .slice a8 (x2.fl).T.length c8] w12 fun e w'' => e = .returned (.bool true) ∧ Below w12.heap.size w12 w'') := HSH.out _ _ _ w12 (Below.refl _ _) T8.out SO3.out.sh.st.shape
            have S2 : Hid (∀ w', Below w12.heap.size w12 w' → Calls Tryz.prog 15 #[.pointer (some ⟨hb, 0, none⟩), .slice a10 (x2.fl.mg 0).T.length c10] w' fun e w'' => e = .returned (.bool true) ∧ Below w'.heap.size w' w'') := fun w' hbw => HSH.out _ _ _ w' hbw T10.out SO4.out.sh.st.shape
            have S3 : Hid (∀ w', Below w12.heap.size w12 w' → Calls Tryz.prog 15 #[.pointer (some ⟨hb, 0, none⟩), .slice a12 ((x2.fl.mg 0).mg 1).T.length c12] w' fun e w'' => e = .returned (.bool true) ∧ Below w'.heap.size w' w'') := fun w' hbw => HSH.out _ _ _ w' hbw T12.out SO5.out.sh.st.shape
            obtain ⟨t2, r2, hT2, hpos⟩ := HEND.out.two
            obtain ⟨R, hT5, hRl, hRg⟩ := HEND.out.three
            have HRG : Hid (∀ e ∈ R, e.g = false) := hRg
            have HRL : Hid (R.length = tk.countP fun k => (vk (A ++ [[pA]]) k (A ++ [[pA]]).length).isSome) := hRl
            have HNE2 : Hid (∀ t ∈ (x2.fl.mg 0).T, t.2 ≠ []) := SO4.out.sh.st.lv.tne
            have HNE5 : Hid (∀ t ∈ ((x2.fl.mg 0).mg 1).T, t.2 ≠ []) := SO5.out.sh.st.lv.tne
            obtain ⟨g2, cap2, hv2, hc2, hg2, hcell2⟩ := T10.out.cells (by rw [hT2]; simp) HNE2.out
            obtain ⟨g5, cap5, hv5, hc5, hg5, hcell5⟩ := T12.out.cells (by rw [hT5]; simp) HNE5.out
            obtain ⟨_, _, m2, _⟩ := hcell2 0 t2 (by rw [hT2]; rfl)
            obtain ⟨gR, cR, m50, m51, hcR, hgR, hEnR⟩ := hcell5 0 (2, R) (by rw [hT5]; rfl)
            simp only [Nat.zero_mul, Nat.zero_add] at m2 m50 m51
            have HENR : Hid (EnAt w12 gR R) := hEnR
            simp only [Value.slice.injEq, true_and] at hv2 hv5
            obtain ⟨rfl, rfl⟩ := hv2
            obtain ⟨rfl, rfl⟩ := hv5
            have hl8 : (x2.fl).T.length = x2.T.length + 1 := rfl
            have hl10 : (x2.fl.mg 0).T.length = r2.length + 1 := by rw [hT2]; rfl
            have hl12 : ((x2.fl.mg 0).mg 1).T.length = 1 := by rw [hT5]; rfl
            have hRs : R.length < 1000000000 := by
              have := HRL.out
              have h2 : (tk.countP fun k => (vk (A ++ [[pA]]) k (A ++ [[pA]]).length).isSome) ≤ tk.length := List.countP_le_length
              have h3 : tk.length = 10 := rfl
              omega
            rw [hl8] at S1
            rw [hl10] at S2
            rw [hl12] at S3
            rw [hl8, hl10, hl12]
            have HVA : Hid (∀ (k : ByteArray) (w' : World), Below w12.heap.size w12 w' → Calls Tryz.prog 21 #[.pointer (some ⟨hb, 0, none⟩), .string k, .int .i64 ((A.length : Int) + 1)] w' fun e w'' => e = .returned (valAns (A ++ [[pA]]) k (A ++ [[pA]]).length) ∧ Below w'.heap.size w' w'') := fun k w' hbw => by
              have h := value_desk w.heap.size hb ((x2.fl.mg 0).mg 1) (A ++ [[pA]]) k (A ++ [[pA]]).length w' (BARE12.out.below hbw).desk SO5.out.sh.ok (Nat.le_refl _) SO5.out.sh.few
              have e : (((A ++ [[pA]]).length : Nat) : Int) = (A.length : Int) + 1 := by simp
              rw [e] at h
              exact h
            obtain ⟨vA5, q1, hall5⟩ := BARE12.out.all
            obtain ⟨aA5, cA5, rfl⟩ : ∃ a c, vA5 = .slice a (A.length + 1) c := by
              obtain ⟨Ws, ho, _⟩ := hall5
              have := slice_form ho
              simpa using this
            have HB12' : Hid (Below w.heap.size w w12) := HB12.out
            clear hl8 hl10 hl12 hT2 hT5 hRg hRl hcell2 hcell5 HNE2 HNE5 hEnR HFL HSH T8 T10 T12 BARE12 HB12 HEND X2 hall5 SO2 SO3 SO4 SO5
            go_wp2_with fail
            refine Calls.mono S1.out ?_
            rintro e w14 ⟨rfl, hb14⟩
            have B14 : Hid (Below w12.heap.size w12 w14) := hb14
            clear hb14 S1
            go_wp2_with fail
            refine Calls.mono (S2.out w14 B14.out) ?_
            rintro e w15 ⟨rfl, hb15⟩
            have B15 : Hid (Below w12.heap.size w12 w15) := below_trans' B14.out hb15
            clear hb15 S2 B14
            go_wp2_with fail
            refine Calls.mono (S3.out w15 B15.out) ?_
            rintro e w16 ⟨rfl, hb16⟩
            have B16 : Hid (Below w12.heap.size w12 w16) := below_trans' B15.out hb16
            clear hb16 S3 B15
            go_wp2
            obtain ⟨F, hF⟩ : ∃ F : ByteArray → Bool, F = fun y => (vk (A ++ [[pA]]) y (A ++ [[pA]]).length).isSome := ⟨_, rfl⟩
            have HFF : Hid (∀ y, F y = (vk (A ++ [[pA]]) y (A ++ [[pA]]).length).isSome) := fun y => by rw [hF]
            have HRF : Hid (R.length = tk.countP F) := by rw [hF]; exact HRL.out
            clear hF HRL
            go_loopw [18, 19, 20, 21] (fun s18 i _ _ wx => ∃ k : Nat, k ≤ 10 ∧ i = .int .i64 k ∧ s18 = .int .i64 (((tk.take k).countP F : Nat) : Int) ∧ Hid (Below w12.heap.size w12 wx)) (fun _ i _ _ _ => 10 - (intOf i).toNat)
            case atStart => exact ⟨0, Nat.zero_le _, rfl, rfl, B16⟩
            case round =>
              clear B16
              obtain ⟨k, hk, rfl, rfl, HBK⟩ := hrel
              by_cases hlt : k < 10
              · have hck : ((tk.take k).countP F) ≤ 10 := Nat.le_trans (List.countP_le_length) (by simp; omega)
                have HCS : Hid (((tk.take (k + 1)).countP F) = ((tk.take k).countP F) + if F (kof k) = true then 1 else 0) := count_step hlt F
                have HKI : Hid (∀ d os, Calls Tryz.prog 22 #[.int .i64 k] (grow (redrawn wr d) os) fun e w'' => e = .returned (.string (kof k)) ∧ ∃ p : Regrown, w'' = grow (redrawn wr p.d) p.os) := fun d os => key_in k wr (by omega) (by omega) d os
                have q1k := cell_later HBK.out q1
                have hbk : hb < wr.heap.size := block_lt_of_cell q1k
                have q1' := cell_regrown q1k
                cases hvk : vk (A ++ [[pA]]) (kof k) (A ++ [[pA]]).length with
                | some v =>
                  have HVI : Hid (∀ d os, Calls Tryz.prog 21 #[.pointer (some ⟨hb, 0, none⟩), .string (kof k), .int .i64 ((A.length : Int) + 1)] (grow (redrawn wr d) os) fun e w'' => e = .returned (.tuple #[.string v, .bool true]) ∧ ∃ p : Regrown, w'' = grow (redrawn wr p.d) p.os) := fun d os => by
                    have h := HVA.out (kof k) (grow (redrawn wr d) os) (below_trans' HBK.out (below_of_regrown ⟨⟨d, os⟩, rfl⟩))
                    unfold valAns at h
                    rw [hvk] at h
                    exact Calls.regrown_of h
                  go_wp2_with fail
                  refine wp_region_quiet_below (by kernel_rfl) (by kernel_rfl) ?_
                  repeat (first | go_big_quiet_step (first | exact HKI.out _ _ | exact HVI.out _ _) | quiet_step (first | exact HKI.out _ _ | exact HVI.out _ _))
                  refine wpQuiet_nil ?_
                  intro w17 hw'
                  have HB17 : Hid (Below w12.heap.size w12 w17) := below_trans' HBK.out (below_of_regrown hw')
                  have HC1 : Hid (((tk.take (k + 1)).countP F) = ((tk.take k).countP F) + 1) := by have h := HCS.out; rw [HFF.out (kof k), hvk] at h; exact h
                  clear hw' hvk q1' HCS
                  go_wp2
                  go_roundw
                  case rel => exact ⟨k + 1, by omega, by go_num, by congr 1; rw [HC1.out]; simp, HB17⟩
                  case measure => simp [intOf]; omega

                | none =>
                  have HVI : Hid (∀ d os, Calls Tryz.prog 21 #[.pointer (some ⟨hb, 0, none⟩), .string (kof k), .int .i64 ((A.length : Int) + 1)] (grow (redrawn wr d) os) fun e w'' => e = .returned (.tuple #[.string ⟨#[]⟩, .bool false]) ∧ ∃ p : Regrown, w'' = grow (redrawn wr p.d) p.os) := fun d os => by
                    have h := HVA.out (kof k) (grow (redrawn wr d) os) (below_trans' HBK.out (below_of_regrown ⟨⟨d, os⟩, rfl⟩))
                    unfold valAns at h
                    rw [hvk] at h
                    exact Calls.regrown_of h
                  go_wp2_with fail
                  refine wp_region_quiet_below (by kernel_rfl) (by kernel_rfl) ?_
                  repeat (first | go_big_quiet_step (first | exact HKI.out _ _ | exact HVI.out _ _) | quiet_step (first | exact HKI.out _ _ | exact HVI.out _ _))
                  refine wpQuiet_nil ?_
                  intro w17 hw'
                  have HB17 : Hid (Below w12.heap.size w12 w17) := below_trans' HBK.out (below_of_regrown hw')
                  have HC1 : Hid (((tk.take (k + 1)).countP F) = ((tk.take k).countP F) + 0) := by have h := HCS.out; rw [HFF.out (kof k), hvk] at h; exact h
                  clear hw' hvk q1' HCS
                  go_wp2
                  go_roundw
                  case rel => exact ⟨k + 1, by omega, by go_num, by congr 1; rw [HC1.out]; simp, HB17⟩
                  case measure => simp [intOf]; omega

              · obtain rfl : k = 10 := by omega
                have hcnt : ((tk.take 10).countP F) = R.length := by rw [HRF.out]; rfl
                rw [hcnt]
                clear hcnt HVA HRF q1
                have m50k := cell_later HBK.out m50
                have m51k := cell_later HBK.out m51
                have hg5k : g5 < wr.heap.size := block_lt_of_cell m50k
                go_wp2
                go_loopw [22] (fun i wx => ∃ r : Nat, r ≤ R.length ∧ i = .int .i64 r ∧ Hid (Below w12.heap.size w12 wx)) (fun i _ => R.length - (intOf i).toNat)
                case atStart => exact ⟨0, Nat.zero_le _, rfl, HBK⟩
                case round =>
                  clear HBK m50k m51k hg5k
                  obtain ⟨r, hr, rfl, HBR⟩ := hrel
                  have m50k := cell_later HBR.out m50
                  have m51k := cell_later HBR.out m51
                  have m2k := cell_later HBR.out m2
                  have hg5k : g5 < wr.heap.size := block_lt_of_cell m50k
                  have hg2k : g2 < wr.heap.size := block_lt_of_cell m2k
                  by_cases hrl : r < R.length
                  · obtain ⟨e, he⟩ : ∃ e, R[r]? = some e := ⟨_, List.getElem?_eq_getElem hrl⟩
                    obtain ⟨_, _, c2, _⟩ := (HENR.out.below HBR.out) r e he
                    have hge := HRG.out e (List.mem_of_getElem? he)
                    rw [hge] at c2
                    have hgRk : gR < wr.heap.size := block_lt_of_cell c2
                    clear he hge
                    go_wp2
                    go_roundw
                    case rel => exact ⟨r + 1, by omega, by go_num, HBR⟩
                    case measure => simp [intOf]; omega
                  · obtain rfl : r = R.length := by omega
                    have hp2 : decide (0 < t2.1) = true := decide_eq_true hpos
                    have HFIN : Hid (Below w.heap.size w wr) := below_trans' HB12'.out HBR.out
                    go_wp2
                    go_ret
                    exact ⟨rfl, HFIN.out⟩
          · exact absurd rfl h
end Go.Proofs.YtakipjofboipmaaGreat
