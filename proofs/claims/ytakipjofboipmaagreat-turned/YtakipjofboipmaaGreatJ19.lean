/- The walks of this proof: entries gathered out of an iterator. -/
import Derived.Test.YtakipjofboipmaaGreatJ10
import Derived.Test.YtakipjofboipmaaGreatJ7
import Derived.RangeFuncNested
namespace Go.Proofs.YtakipjofboipmaaGreat
open Go.RowKit Go.Shelf

attribute [local go_sem] Oper.semAt_some

set_option maxRecDepth 100000 in
set_option maxHeartbeats 2000000 in
theorem values1_in (n : Nat) (hn : 1 ≤ n) (l Bn n₀ cap : Nat) (ao : Option Addr) (L : List En) (_hcap : L.length ≤ cap) (hfew : L.length < 1000000000) (J Jx : List En → World → Prop) (B : Nat) (hJ : AbidesFrom B J)
    (hY : ∀ pre x W, J pre W → pre.length < L.length → YieldAt Fence.wide (n - 1) Tryz.prog l #[.agg #[.string x.k, .int .i64 x.s, .bool x.g, .string x.v]] W fun e W' =>
      (e = .returned (.bool true) ∧ J (pre ++ [x]) W' ∧ Below n₀ W W') ∨ (e = .returned (.bool false) ∧ Jx (pre ++ [x]) W'))
    (W : World) (hn₀ : n₀ ≤ W.heap.size) (hBn : W.cell? ⟨Bn, 0, none⟩ = some (.slice ao L.length cap)) (hO : 0 < L.length → ∃ g, ao = some ⟨g, 0, none⟩ ∧ g < n₀ ∧ EnAt W g L) (h0 : J [] W) :
    CallsIn Fence.wide n Tryz.prog 188 #[.func (.yield l) #[] #[], .pointer (some ⟨Bn, 0, none⟩)] W fun e W' => (∃ v, e = .returned v) ∧
      ((∃ ys : List En, ys = L ∧ J ys W') ∨ (∃ pre : List En, True ∧ Jx pre W')) := by
  have HO : Hid (0 < L.length → ∃ g, ao = some ⟨g, 0, none⟩ ∧ g < n₀ ∧ EnAt W g L) := hO
  have HY : Hid _ := hY
  have HJ : Hid (AbidesFrom B J) := hJ
  clear hO hY hJ
  refine callsIn_of_wp Tryz.func188 rfl trivial ?_ rfl
  simp only [Tryz.ntmps188, List.size_toArray, List.length_cons, List.length_nil, Nat.reduceAdd, Nat.reduceSub, Array.replicate_succ, Array.replicate_zero, List.push_toArray, List.append_toArray, List.nil_append, List.cons_append]
  gi_wp2
  gi_loopg [4, 7] L.length (fun kx _ s7 wr => ∃ i : Nat, i ≤ L.length ∧ L.length - i ≤ kx ∧ s7 = .int .i64 i ∧ Hid (J (L.take i) wr) ∧ Hid (Below n₀ W wr))
  case atStart => exact ⟨0, Nat.zero_le _, by omega, rfl, h0, Below.refl _ _⟩
  case round =>
    obtain ⟨i, hi, hkx, rfl, HJs, HB⟩ := hrel
    by_cases hlt : i < L.length
    · obtain ⟨g, rfl, hg, hEn⟩ := HO.out (by omega)
      obtain ⟨a, ha⟩ : ∃ a, L[i]? = some a := ⟨_, List.getElem?_eq_getElem hlt⟩
      obtain ⟨p0, p1, p2, p3⟩ := hEn i a ha
      have c0 : wr.cell? ⟨g, i * 4, none⟩ = some (.string a.k) := (HB.out.cell (p := ⟨g, i * 4, none⟩) hg).trans p0
      have c1 : wr.cell? ⟨g, i * 4 + 1, none⟩ = some (.int .i64 a.s) := (HB.out.cell (p := ⟨g, i * 4 + 1, none⟩) hg).trans p1
      have c2 : wr.cell? ⟨g, i * 4 + 2, none⟩ = some (.bool a.g) := (HB.out.cell (p := ⟨g, i * 4 + 2, none⟩) hg).trans p2
      have c3 : wr.cell? ⟨g, i * 4 + 3, none⟩ = some (.string a.v) := (HB.out.cell (p := ⟨g, i * 4 + 3, none⟩) hg).trans p3
      have hgr : g < wr.heap.size := block_lt_of_cell c0
      have HT : Hid (L.take (i + 1) = L.take i ++ [a]) := by show _ = _; rw [List.take_add_one, ha]; rfl
      have HJq : J (L.take i) (wr.alloc (.cells #[.string a.k, .int .i64 a.s, .bool a.g, .string a.v] 58)) := HJ.out _ _ _ none HJs.out (World.grownBy_alloc wr _ none) (fun _ h => by cases h)
      have HBq : Hid (Below n₀ W (wr.alloc (.cells #[.string a.k, .int .i64 a.s, .bool a.g, .string a.v] 58))) := HB.out.alloc (Nat.le_trans hn₀ HB.out.size) _
      obtain ⟨fn, tmps, assign, body, hy, hR⟩ := HY.out (L.take i) a _ HJq (by rw [List.length_take]; omega)
      clear ha p0 p1 p2 p3 hEn HJq
      gi_wp2
      refine hR.mono ?_
      rintro e W3 (⟨rfl, hJ3, hk3⟩ | ⟨rfl, hJx3⟩)
      · have HJ3 : Hid (J (L.take (i + 1)) W3) := by rw [HT.out]; exact hJ3
        have HB3 : Hid (Below n₀ W W3) := HBq.out.trans hk3
        clear hJ3 hk3 hR hy HBq
        gi_wp2
        gi_roundg (L.length - (i + 1))
        case measure => omega
        case rel => exact ⟨i + 1, by omega, Nat.le_refl _, by go_num, HJ3, HB3⟩
      · gi_wp2
        refine bodyPost_ret (results_none rfl _ _ _) rfl ?_
        exact ⟨⟨_, rfl⟩, .inr ⟨_, trivial, hJx3⟩⟩
    · obtain rfl : i = L.length := by omega
      rw [List.take_of_length_le (Nat.le_refl _)] at HJs
      gi_wp2
      go_end0
      exact ⟨⟨_, rfl⟩, .inl ⟨L, rfl, HJs.out⟩⟩

theorem values_stops (n : Nat) (hn : 1 ≤ n) (Bn n₀ cap : Nat) (ao : Option Addr) (L : List En) (w : World) (hn₀ : n₀ ≤ w.heap.size) (hcap : L.length ≤ cap) (hfew : L.length < 1000000000) (hBn : Bn < w.heap.size) (hc : w.cell? ⟨Bn, 0, none⟩ = some (.slice ao L.length cap)) (hO : 0 < L.length → ∃ g, ao = some ⟨g, 0, none⟩ ∧ g < n₀ ∧ EnAt w g L) :
    SeqStopsK Fence.wide n Tryz.prog 188 #[.pointer (some ⟨Bn, 0, none⟩)] (fun x : En => #[Value.agg #[.string x.k, .int .i64 x.s, .bool x.g, .string x.v]]) (Below n₀) (fun ys => ys = L) (fun _ => True) L.length w := fun l J Jx W hW hJ _ hY h0 =>
  values1_in n hn l Bn n₀ cap ao L hcap hfew J Jx W.heap.size hJ hY W (Nat.le_trans hn₀ hW.size) ((hW.cell (p := ⟨Bn, 0, none⟩) hBn).trans hc) (fun h => by obtain ⟨g, h1, h2, h3⟩ := hO h; exact ⟨g, h1, h2, h3.below hW⟩) h0

theorem one_en (w : World) (x : En) (N : Nat) (hN : N = w.heap.size) : ∀ j u, (En.cells x)[j]? = some u → (w.alloc (.cells #[.string x.k, .int .i64 x.s, .bool x.g, .string x.v] 58)).cell? ((⟨N, 0, none⟩ : Addr).add j) = some u := by
  subst hN
  intro j u hj
  match j, hj with
  | 0, hj => simp [En.cells] at hj; subst hj; simp [Addr.add]
  | 1, hj => simp [En.cells] at hj; subst hj; simp [Addr.add]
  | 2, hj => simp [En.cells] at hj; subst hj; simp [Addr.add]
  | 3, hj => simp [En.cells] at hj; subst hj; simp [Addr.add]
  | j + 4, hj => simp [En.cells] at hj

/-- What gathering comes to. -/
def GatPost (L : List En) (w : World) (e : Ending) (w' : World) : Prop :=
  ∃ v, e = .returned v ∧ w'.ownsRow w.heap.size 58 4 v L.length (ecells L) ∧ Below w.heap.size w w'

set_option maxRecDepth 100000 in
set_option maxHeartbeats 4000000 in
theorem appendSeq_any (L : List En) (Bn cap : Nat) (ao : Option Addr) (w : World) (hcap : L.length ≤ cap) (hfew : L.length < 1000000000) (hBn : Bn < w.heap.size) (hc : w.cell? ⟨Bn, 0, none⟩ = some (.slice ao L.length cap)) (hO : 0 < L.length → ∃ g, ao = some ⟨g, 0, none⟩ ∧ g < w.heap.size ∧ EnAt w g L) :
    Calls Tryz.prog 211 #[.slice none 0 0, .func (.func 188) #[] #[.pointer (some ⟨Bn, 0, none⟩)]] w fun e w' => GatPost L w e w' := by
  obtain ⟨i0, hi, hz0, hz1, hz2⟩ := info_parts Tryz.info58
  refine (callsIn_wide (n := 5)).1 ?_
  refine callsIn_of_wp_marks Tryz.func211 rfl trivial ?_ rfl
  simp only [Tryz.ntmps211, List.size_toArray, List.length_cons, List.length_nil, Nat.reduceAdd, Nat.reduceSub, Array.replicate_succ, Array.replicate_zero, List.push_toArray, List.append_toArray, List.nil_append, List.cons_append]
  gi_wp2
  obtain ⟨W1, hW1⟩ : ∃ W1, w.alloc (.cells #[.slice none 0 0] 54) = W1 := ⟨_, rfl⟩
  have bO : Boxed W1 w.heap.size 54 (.slice none 0 0) := by rw [← hW1]; exact Boxed.new w 54 _
  have hB0 : Below w.heap.size w W1 := by rw [← hW1]; exact (Below.refl _ _).alloc (Nat.le_refl _) _
  have hz : W1.heap.size = w.heap.size + 1 := by rw [← hW1]; simp
  rw [hW1]
  clear hW1
  have SEQ := values_stops 4 (by omega) Bn w.heap.size cap ao L W1 (by omega) hcap hfew (by omega) (cell_later hB0 hc) (fun h => by obtain ⟨g, h1, h2, h3⟩ := hO h; exact ⟨g, h1, h2, h3.below hB0⟩)
  refine wpIn_rangeFunc_ownH rfl (by omega) (gf := 188) (lb := #[.pointer (some ⟨Bn, 0, none⟩)]) rfl trivial (enters_of Tryz.func188 (by kernel_rfl) rfl)
    SEQ belowK_t (belowK_b (by omega)) (Below.refl _ _) (fun _ => rfl)
    (fun pre W => (∃ v, Boxed W w.heap.size 54 v ∧ W.ownsRow w.heap.size 58 4 v pre.length (ecells pre) ∧ True) ∧ Below w.heap.size w W)
    (fun _ _ _ => False)
    (OwnFrom.and (Own.from (holdsRow_own w.heap.size w.heap.size 54 58 4 (fun pre : List En => pre.length) (fun pre => ecells pre) (fun _ _ => True)) _) (ownFrom_below (Nat.le_refl _) (by omega)))
    (fun _ _ _ _ _ hs _ _ => hs)
    ⟨⟨_, bO, World.ownsRow_nil _ _ _ _, trivial⟩, hB0⟩
    (fun x a' W => ∃ vb, a' = { tmps := #[.slice none 0 0, .func (.func 188) #[] #[.pointer (some ⟨Bn, 0, none⟩)], .pointer (some ⟨w.heap.size, 0, none⟩), undef, .slice none 0 0, .pointer (some ⟨vb, 0, none⟩), .func (.func 188) #[] #[.pointer (some ⟨Bn, 0, none⟩)], .agg #[.string x.k, .int .i64 x.s, .bool x.g, .string x.v], undef, undef, undef, undef, undef], defers := [] } ∧ W.heap[vb]? = some (.cells #[.string x.k, .int .i64 x.s, .bool x.g, .string x.v] 58 (0, 0)) ∧ vb ≠ w.heap.size) ?hAx ?assign ?body ?done ?stop
  case hAx =>
    rintro x a' _ X Y row ⟨vb, h1, h2, h3⟩ hg hr
    refine ⟨vb, h1, ?_, h3⟩
    rw [hg.block vb (Array.getElem?_eq_some_iff.1 h2).1 (fun e => ?_)]
    · exact h2
    · obtain ⟨_, o, ho, hoc⟩ := hr vb e.symm
      rw [h2] at ho
      cases ho
      cases hoc
  case assign =>
    rintro l pre x W K ⟨⟨v, hv, hrow, _⟩, hB⟩ hK
    have hK' := hK { tmps := #[.slice none 0 0, .func (.func 188) #[] #[.pointer (some ⟨Bn, 0, none⟩)], .pointer (some ⟨w.heap.size, 0, none⟩), undef, .slice none 0 0, .pointer (some ⟨W.heap.size, 0, none⟩), .func (.func 188) #[] #[.pointer (some ⟨Bn, 0, none⟩)], .agg #[.string x.k, .int .i64 x.s, .bool x.g, .string x.v], undef, undef, undef, undef, undef], defers := [] } (W.alloc (.cells #[.string x.k, .int .i64 x.s, .bool x.g, .string x.v] 58)) ((KeepsOthers.alloc W _).from _) ((Below.refl _ _).alloc hB.size _) ⟨⟨v, hv.alloc _, hrow.alloc _, trivial⟩, hB.alloc hB.size _⟩ ⟨W.heap.size, rfl, heap_alloc_new W _, by have := hv.lt; omega⟩
    have HK : Hid _ := hK'
    clear hK hK' hv hrow hB
    gi_wp2
    exact HK.out
  case body =>
    rintro l pre x a' W hl _ ⟨⟨v, hv, hrow, _⟩, hB⟩ ⟨vb, rfl, hvb, hne⟩ hlt
    have hsz : w.heap.size ≤ W.heap.size := hB.size
    obtain ⟨aoK, capK, rfl⟩ := slice_form hrow
    have hbx : W.cell? ⟨w.heap.size, 0, none⟩ = some (.slice aoK pre.length capK) := hv.cell
    have d0 : W.cell? ⟨vb, 0, none⟩ = some (.string x.k) := by simp [World.cell?, hvb]
    have d1 : W.cell? ⟨vb, 1, none⟩ = some (.int .i64 x.s) := by simp [World.cell?, hvb]
    have d2 : W.cell? ⟨vb, 2, none⟩ = some (.bool x.g) := by simp [World.cell?, hvb]
    have d3 : W.cell? ⟨vb, 3, none⟩ = some (.string x.v) := by simp [World.cell?, hvb]
    have hvl : vb < W.heap.size := lt_of_block hvb
    have hbl : w.heap.size < W.heap.size := hv.lt
    have HHB : Hid (Below w.heap.size w W) := hB
    have HHV : Hid (Boxed W w.heap.size 54 (.slice aoK pre.length capK) ∧ W.ownsRow w.heap.size 58 4 (.slice aoK pre.length capK) pre.length (ecells pre)) := ⟨hv, hrow⟩
    clear hB hv hrow hvb
    gi_wp2_with (gi_at_builtin; refine wpListIn_append_own _ rfl (.tmp 8) (.tmp 10) 54 rfl w.heap.size 58 i0 _ 4 48 Tryz.underlying54 hi hz0 hz1 hz2 rfl (by decide) _ _ _ rfl (by exact HHV.out.2.alloc _) ⟨W.heap.size, 0, none⟩ 1 1 (En.cells x) rfl rfl (by exact one_en W x _ rfl) (entry_one x) (by unfold maxLen; omega) (by omega) (by simp; omega) ?_)
    intro v' w3 hown' hgrow _
    obtain ⟨ao3, cap3, rfl⟩ := slice_form hown'
    have hv1 : Boxed (W.alloc (.cells #[.string x.k, .int .i64 x.s, .bool x.g, .string x.v] 58)) w.heap.size 54 (.slice aoK pre.length capK) := HHV.out.1.alloc _
    obtain ⟨hv3, hv4, hr4, hk4, hb4⟩ := boxed_app hv1 (by decide) (HHV.out.2.alloc _) (by simp; omega) (Nat.le_refl _) hown' hgrow
    have hc3 : w3.cell? ⟨w.heap.size, 0, none⟩ = some (.slice aoK pre.length capK) := hv3.cell
    have hf3 : w3.frozen? ⟨w.heap.size, 0, none⟩ = false := hv3.frozen
    have FIN : Hid _ := And.intro hv4 (And.intro hr4 (And.intro hk4 hb4))
    clear hown' hgrow hv3 hv4 hr4 hk4 hb4 hv1
    gi_wp2
    refine ⟨((KeepsOthers.alloc W _).trans FIN.out.2.2.1).from _, ((Below.refl _ _).alloc hsz _).trans FIN.out.2.2.2, ⟨_, FIN.out.1, ?_, trivial⟩, (HHB.out.trans ((Below.refl _ _).alloc hsz _)).trans FIN.out.2.2.2⟩
    have e : ecells (pre ++ [x]) = ecells pre ++ En.cells x := by simp [ecells]
    rw [e, List.length_append]
    exact FIN.out.2.1
  case done =>
    rintro D ys W hD rfl ⟨⟨v, hv, hrow, _⟩, hB⟩ hK
    obtain ⟨aoK, capK, rfl⟩ := slice_form hrow
    have hbx : W.cell? ⟨w.heap.size, 0, none⟩ = some (.slice aoK ys.length capK) := hv.cell
    have FIN : Hid (GatPost ys w (.returned (.slice aoK ys.length capK)) (W.putObj D (.deferred none))) := by
      refine ⟨_, rfl, ownsRow_putObj hrow _ hK rfl, ?_⟩
      exact hB.trans ((Below.refl _ W).grown (grownBy_putObj' W D _) hB.size (fun k e => by cases e; omega))
    clear hrow hv hB
    gi_wp2
    refine ⟨by simp, .inl ⟨_, _, rfl, run_takeDeferred hK, ?_⟩⟩
    refine ⟨.slice aoK ys.length capK, ?_, FIN.out⟩
    simp [results, Tryz.results211, go_sem]
  case stop =>
    rintro D c pre W _ _ h _
    exact h.elim

set_option maxHeartbeats 1000000 in
theorem collect_any (L : List En) (Bn cap : Nat) (ao : Option Addr) (w : World) (hcap : L.length ≤ cap) (hfew : L.length < 1000000000) (hBn : Bn < w.heap.size) (hc : w.cell? ⟨Bn, 0, none⟩ = some (.slice ao L.length cap)) (hO : 0 < L.length → ∃ g, ao = some ⟨g, 0, none⟩ ∧ g < w.heap.size ∧ EnAt w g L) :
    Calls Tryz.prog 186 #[.func (.func 188) #[] #[.pointer (some ⟨Bn, 0, none⟩)]] w fun e w' => GatPost L w e w' := by
  have H : Hid _ := appendSeq_any L Bn cap ao w hcap hfew hBn hc hO
  clear hO hc hBn
  go_enter Tryz.func186, Tryz.ntmps186
  go_wp2_with fail
  refine Calls.mono H.out ?_
  rintro e w2 ⟨v, rfl, ho, hb⟩
  have HF : Hid (GatPost L w (.returned v) w2) := ⟨v, rfl, ho, hb⟩
  clear ho hb
  go_wp2
  go_ret
  exact HF.out
end Go.Proofs.YtakipjofboipmaaGreat
