/- The walks of this proof: a batch is written. -/
import Derived.Test.YtojdkfamihlnkaaW27
namespace Go.Proofs.Ytojdkfamihlnkaa
open Go.RowKit Go.Sort

theorem Try.info53 : (Try.prog.info? 53).map (fun i => (i.zero, i.size, i.bytes)) = some (some (.slice none 0 0), 1, 24) := by kernel_rfl

/-- The types whose blocks a step may turn. -/
def turned : List Nat := [36, 53, 69, 105, 5, 123, 128]

/-- What a step comes to. -/
def StepPost (B hb t : Nat) (w : World) (e : Ending) (w' : World) : Prop :=
  e = .returned (.bool true) ∧ ∃ (x' : St) (A' : List (List Pr)), ShopAt B hb x' A' w' ∧ Sound x' A' (t + 1) ∧ Kp B turned w w'

theorem Sound.mono {x : St} {A : List (List Pr)} {t t' : Nat} (h : Sound x A t) (ht : t ≤ t') : Sound x A t' :=
  ⟨h.sh, h.snp, h.snr, h.ls0, by have := h.b1; omega, by have := h.b2; omega, by have := h.b3; omega, by have := h.b4; omega⟩

theorem Sound.batch {x : St} {A : List (List Pr)} {t : Nat} (h : Sound x A t) (ht : t < 2000000) {b M : List Pr} {F : List En} {n : Int} (hb : BOk b) (hm : SamePr (keep b) M) (hs : Sorted F) (hf : ∀ y, y ∈ F ↔ y ∈ x.E ∨ y ∈ M.map (toEn (x.last + 1))) (hl : F.length = x.E.length + M.length) :
    Sound { x with E := F, last := x.last + 1, jl := x.jl + 1000, synced := n } (A ++ [b]) (t + 1) := by
  have hlast := h.sh.last
  have hrel : Rel F (A ++ [b]) := rel_snoc h.sh.rel hm (by rw [← hlast]; exact hf)
  have hml : M.length ≤ 4 := by have := hm.1; have := keep_len b; have := hb.hi; omega
  have b1 := h.b1
  have b2 := h.b2
  have b3 := h.b3
  have b4 := h.b4
  have hok : ∀ c ∈ A ++ [b], BOk c := by
    intro c hc
    rcases List.mem_append.1 hc with h1 | h1
    · exact h.sh.ok c h1
    · obtain rfl := List.mem_singleton.1 h1; exact hb
  refine ⟨⟨⟨hs, by simp only [hl]; omega, ?_, ?_, h.sh.st.snaps⟩, by simp [hlast], hrel, hok, by simp; omega⟩, h.snp, ?_, h.ls0, by simp; omega, by simp only [hl]; omega, by simp only; omega, by simp only; omega⟩
  · intro e he
    obtain ⟨i, c, p, h1, _, rfl⟩ := (hrel e).1 he
    have := (List.getElem?_eq_some_iff.1 h1).1
    simp only [List.length_append, List.length_cons, List.length_nil] at this
    simp only [toEn]
    omega
  · intro e he
    obtain ⟨i, c, p, h1, h2, rfl⟩ := (hrel e).1 he
    have := (tk_ok ((hok c (List.mem_of_getElem? h1)).ten p (keep_sub h2))).2
    simp only [toEn]
    omega
  · intro s hs'
    have := h.snr s hs'
    simp only [List.length_append, List.length_cons, List.length_nil]
    omega

theorem Sound.seqs {x : St} {A : List (List Pr)} {t : Nat} (h : Sound x A t) : ∀ e ∈ x.E, e.s ≤ x.last := by
  intro e he
  obtain ⟨i, c, p, h1, _, rfl⟩ := (h.sh.rel e).1 he
  have := (List.getElem?_eq_some_iff.1 h1).1
  rw [h.sh.last]
  simp only [toEn]
  omega

theorem AllAt.snoc {B : Nat} {w' : World} {vA' vb : Value} {A : List (List Pr)} {b : List Pr} {Ws : List Value} (ho : w'.ownsRow B 53 1 vA' (A.length + 1) (Ws ++ [vb])) (hl : Ws.length = A.length)
    (hr : ∀ (i : Nat) (c : List Pr), A[i]? = some c → ∃ vi, Ws[i]? = some vi ∧ w'.ownsRow B 78 3 vi c.length (pcells c)) (hb : w'.ownsRow B 78 3 vb b.length (pcells b)) : AllAt B w' vA' (A ++ [b]) := by
  refine ⟨Ws ++ [vb], by simpa using ho, fun i c hc => ?_⟩
  by_cases hi : i < A.length
  · rw [List.getElem?_append_left hi] at hc
    obtain ⟨vi, h1, h2⟩ := hr i c hc
    exact ⟨vi, by rw [List.getElem?_append_left (by omega)]; exact h1, h2⟩
  · rw [List.getElem?_append_right (by omega)] at hc
    have h0 : i - A.length = 0 := by
      rcases Nat.eq_zero_or_pos (i - A.length) with h | h
      · exact h
      · rw [List.getElem?_eq_none (by simp; omega)] at hc; cases hc
    rw [h0] at hc
    simp only [List.getElem?_cons_zero, Option.some.injEq] at hc
    subst hc
    exact ⟨vb, by rw [List.getElem?_append_right (by omega), hl, h0]; rfl, hb⟩

theorem one_cell (w : World) (v : Value) (e : TypeId) : ∀ j u, [v][j]? = some u → (w.alloc (.cells #[v] e)).cell? ((⟨w.heap.size, 0, none⟩ : Addr).add j) = some u := by
  intro j u hj
  match j, hj with
  | 0, hj => simp at hj; subst hj; simp [Addr.add]
  | j + 1, hj => simp at hj

set_option maxHeartbeats 2000000 in
set_option maxRecDepth 100000 in
theorem write19_any (B hb : Nat) (x : St) (A : List (List Pr)) (v : Value) (sync : Bool) (t : Nat) (w : World) (hx : ShopAt B hb x A w) (ok : Sound x A t) (ht : t < 2000000) (hv : RawAt w v) (hBw : B ≤ w.heap.size) :
    Calls Try.prog 19 #[.pointer (some ⟨hb, 0, none⟩), v, .bool sync] w fun e w' => StepPost B hb t w e w' := by
  obtain ⟨i0, hi, hz0, hz1, hz2⟩ := info_parts Try.info53
  obtain ⟨sb, vA, vS, su, la, o0, o1, hB, hs, hst, ⟨Ws, hWo, hWr⟩, hsn⟩ := id hx
  have hWl : Ws.length = A.length := by have := hWo.1; omega
  have c0 : w.cell? ⟨hb, 0, none⟩ = some (.pointer (some ⟨sb, 0, none⟩)) := by simp [World.cell?, hs]
  have HBA : Hid (Calls Try.prog 37 #[v] w fun e w' => BatchMade w e w') := batch_any v w hv
  have hbl : hb < w.heap.size := lt_of_block hs
  have b1 := ok.b1
  have b2 := ok.b2
  have b3 := ok.b3
  have HW : Hid (∀ (w1 : World) (vb : Value) (b : List Pr), Below w.heap.size w w1 → w1.ownsRow w.heap.size 78 3 vb b.length (pcells b) → BOk b → Calls Try.prog 32 #[.pointer (some ⟨sb, 0, none⟩), vb, .bool sync] w1 fun e w' => BatchPost B sb x b w1 e w') := fun w1 vb b h1 h2 h3 =>
    writeCall_any B sb x b vb w.heap.size sync w1 (hst.below h1) ok.sh.st h2 h3.lo h3.hi h3.ok (by rw [ok.sh.last]; omega) (by rw [ok.sh.last]; omega) ok.seqs (by omega) (by omega)
  have HF : Hid (Sound x A t ∧ B ≤ hb ∧ w.heap[hb]? = some (.cells #[.pointer (some ⟨sb, 0, none⟩), vA, vS, .int .i64 su, .int .i64 la, .bool o0, .bool o1] 36 (0, 0)) ∧ w.ownsRow B 53 1 vA A.length Ws ∧ (∀ (i : Nat) (b : List Pr), A[i]? = some b → ∃ vi, Ws[i]? = some vi ∧ w.ownsRow B 78 3 vi b.length (pcells b)) ∧ w.ownsRow B 69 2 vS x.S.length (scells x.S)) := ⟨ok, hB, hs, hWo, hWr, hsn⟩
  have hlast := ok.sh.last
  clear hx ok hst hWo hWr hsn hs hv
  go_enter Try.func19, Try.ntmps19
  go_wp2_with fail
  refine Calls.mono HBA.out ?_
  rintro e w1 ⟨vb, b, rfl, hob, hbok, hb1⟩
  have c0 := cell_later hb1 c0
  have H2 := HW.out w1 vb b hb1 hob hbok
  have HB1 : Hid (Below w.heap.size w w1) := hb1
  have HOB : Hid (w1.ownsRow w.heap.size 78 3 vb b.length (pcells b)) := hob
  have HBO : Hid (BOk b) := hbok
  have H2' : Hid _ := H2
  have hbl1 : hb < w1.heap.size := Nat.lt_of_lt_of_le hbl hb1.size
  clear hb1 hob hbok H2 HW HBA
  obtain ⟨aob, capb, rfl⟩ := slice_form HOB.out
  go_wp2_with fail
  refine Calls.mono H2'.out ?_
  clear H2'
  rintro e w2 ⟨he, M, F, n, hsm, hsf, hmem, hlen, hst2, hk2⟩
  rw [hlast] at he
  subst he
  have K2 : Hid (Kp B turned w w2) := (Kp.of_below HB1.out).trans (hk2.mono (by simp [turned]))
  have K2' : Hid (Kp B [105, 5, 123] w w2) := (Kp.of_below HB1.out).trans hk2
  have HOB2 : Hid (w2.ownsRow B 78 3 (.slice aob b.length capb) b.length (pcells b)) := owns_base (hk2.owns HOB.out (by simp)) hBw
  have HS : Hid (StoreAt B sb { x with E := F, last := x.last + 1, jl := x.jl + 1000, synced := n } w2) := hst2
  have HSO : Hid (Sound { x with E := F, last := x.last + 1, jl := x.jl + 1000, synced := n } (A ++ [b]) (t + 1)) := HF.out.1.batch ht HBO.out hsm hsf hmem hlen
  have hs2 : Hid (w2.heap[hb]? = some (.cells #[.pointer (some ⟨sb, 0, none⟩), vA, vS, .int .i64 su, .int .i64 la, .bool o0, .bool o1] 36 (0, 0))) := K2'.out.keep HF.out.2.2.1 (by simp)
  have HWo2 : Hid (w2.ownsRow B 53 1 vA A.length Ws) := K2'.out.owns HF.out.2.2.2.1 (by simp)
  have HWr2 : Hid (∀ (i : Nat) (b : List Pr), A[i]? = some b → ∃ vi, Ws[i]? = some vi ∧ w2.ownsRow B 78 3 vi b.length (pcells b)) := fun i b h => by obtain ⟨vi, h1, h2⟩ := HF.out.2.2.2.2.1 i b h; exact ⟨vi, h1, K2'.out.owns h2 (by simp)⟩
  have Hsn2 : Hid (w2.ownsRow B 69 2 vS x.S.length (scells x.S)) := K2'.out.owns HF.out.2.2.2.2.2 (by simp)
  have hBw2 : B ≤ w2.heap.size := Nat.le_trans hBw K2.out.size
  have c1 : w2.cell? ⟨hb, 1, none⟩ = some vA := by simp [World.cell?, hs2.out]
  have hbl2 : hb < w2.heap.size := lt_of_block hs2.out
  clear c0 hsm hsf hmem hlen hst2 hk2 K2' HB1 HOB HBO
  obtain ⟨aoA, capA, rfl⟩ := slice_form HWo2.out
  go_wp2_with (at_builtin; refine wpList_append_own _ rfl _ _ 32 rfl B 53 i0 _ 1 24 Try.underlying32 hi hz0 hz1 hz2 rfl (by decide) _ _ _ rfl (HWo2.out.alloc _) ⟨w2.heap.size, 0, none⟩ 1 1 [.slice aob b.length capb] rfl rfl (by exact one_cell w2 _ 53) (by simp [Value.oneCell']) (by unfold maxLen; omega) (by omega) (by simp; omega) ?_)
  intro v9 w3 ho3 hg3 _
  have k3 : Kp B [53] w2 w3 := Kp.grown ((Kp.refl _ _ _).alloc _) (HWo2.out.alloc _) hg3 (Nat.le_refl _) (by simp)
  have hs3 := k3.keep hs2.out (by simp)
  have hfin : AllAt B w3 v9 (A ++ [b]) := AllAt.snoc ho3 hWl (fun i c h => by obtain ⟨vi, h1, h2⟩ := HWr2.out i c h; exact ⟨vi, h1, k3.owns h2 (by simp)⟩) (k3.owns HOB2.out (by simp))
  have HST3 : StoreAt B sb { x with E := F, last := x.last + 1, jl := x.jl + 1000, synced := n } w3 := HS.out.kept k3 (by simp) (by simp) (by simp) (by simp)
  have hsn3 := k3.owns Hsn2.out (by simp)
  have c1 : w3.cell? ⟨hb, 1, none⟩ = some (.slice aoA A.length capA) := by simp [World.cell?, hs3]
  have f1 : w3.frozen? ⟨hb, 1, none⟩ = false := by simp [World.frozen?, hs3]
  have k4 := Kp.field HF.out.2.1 hs3 1 v9
  have hs4 := heap_setCell_same w3 hb 1 _ 36 v9 hs3
  simp only [List.setIfInBounds_toArray, List.set_cons_succ, List.set_cons_zero] at hs4
  generalize hw4 : w3.setCell ⟨hb, 1, none⟩ v9 = w4 at k4 hs4
  have HW4 : Hid (w3.setCell ⟨hb, 1, none⟩ v9 = w4) := hw4
  have c1' : w4.cell? ⟨hb, 1, none⟩ = some v9 := by simp [World.cell?, hs4]
  have c3' : w4.cell? ⟨hb, 3, none⟩ = some (.int .i64 su) := by simp [World.cell?, hs4]
  have f3' : w4.frozen? ⟨hb, 3, none⟩ = false := by simp [World.frozen?, hs4]
  have hbl4 : hb < w4.heap.size := lt_of_block hs4
  have HK4 : Hid (Kp B turned w w4) := (K2.out.trans (k3.mono (by simp [turned]))).trans (k4.mono (by simp [turned]))
  have HALL4 : Hid (AllAt B w4 v9 (A ++ [b])) := hfin.kept k4 (by simp) (by simp)
  have HST4 : Hid (StoreAt B sb { x with E := F, last := x.last + 1, jl := x.jl + 1000, synced := n } w4) := HST3.kept k4 (by simp) (by simp) (by simp) (by simp)
  have HSN4 : Hid (w4.ownsRow B 69 2 vS x.S.length (scells x.S)) := k4.owns hsn3 (by simp)
  have HS4 : Hid (w4.heap[hb]? = some (.cells #[.pointer (some ⟨sb, 0, none⟩), v9, vS, .int .i64 su, .int .i64 la, .bool o0, .bool o1] 36 (0, 0))) := hs4
  obtain ⟨ao9, cap9, rfl⟩ := slice_form ho3
  clear k3 hs3 hfin HST3 hsn3 k4 hs4 hw4 ho3 hg3 HWr2 Hsn2 HS hs2 HWo2 K2 HOB2
  cases sync with
  | false =>
    go_wp2_with (rw [HW4.out])
    go_ret
    exact ⟨rfl, _, A ++ [b], ⟨sb, _, _, _, _, _, _, HF.out.2.1, HS4.out, HST4.out, HALL4.out, HSN4.out⟩, HSO.out, HK4.out⟩
  | true =>
    have k5 := Kp.field HF.out.2.1 HS4.out 3 (.int .i64 ((A.length : Int) + 1))
    have hs5 := heap_setCell_same w4 hb 3 _ 36 (.int .i64 ((A.length : Int) + 1)) HS4.out
    simp only [List.setIfInBounds_toArray, List.set_cons_succ, List.set_cons_zero] at hs5
    generalize hw5 : w4.setCell ⟨hb, 3, none⟩ (.int .i64 ((A.length : Int) + 1)) = w5 at k5 hs5
    have HW5 : Hid (w4.setCell ⟨hb, 3, none⟩ (.int .i64 ((A.length : Int) + 1)) = w5) := hw5
    have c1'' : w5.cell? ⟨hb, 1, none⟩ = some (.slice ao9 (A.length + 1) cap9) := by simp [World.cell?, hs5]
    have hbl5 : hb < w5.heap.size := lt_of_block hs5
    have HFIN : Hid (StepPost B hb t w (.returned (.bool true)) w5) := ⟨rfl, _, A ++ [b], ⟨sb, _, _, _, _, _, _, HF.out.2.1, hs5, HST4.out.kept k5 (by simp) (by simp) (by simp) (by simp), HALL4.out.kept k5 (by simp) (by simp), k5.owns HSN4.out (by simp)⟩, HSO.out, HK4.out.trans (k5.mono (by simp [turned]))⟩
    clear k5 hs5 hw5
    go_wp2_with (first | rw [HW4.out] | rw [HW5.out])
    go_ret
    exact HFIN.out
end Go.Proofs.Ytojdkfamihlnkaa
