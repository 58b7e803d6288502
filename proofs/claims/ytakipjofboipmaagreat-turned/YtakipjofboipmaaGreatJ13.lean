/- The walks of this proof: what the shop tells. -/
import Derived.Test.YtakipjofboipmaaGreatJ12
import Derived.Deep.RegionLawGrows
namespace Go.Proofs.YtakipjofboipmaaGreat
open Go.RowKit Go.Sort

theorem bl_cb : ∀ (a b : List UInt8), Lib.compareBytes a b < 0 → Op.bytesLess a b = true
  | [], [], h => by simp [Lib.compareBytes] at h
  | [], _ :: _, _ => rfl
  | _ :: _, [], h => by simp [Lib.compareBytes] at h
  | a :: x, b :: y, h => by
    unfold Lib.compareBytes at h
    unfold Op.bytesLess
    by_cases h1 : a < b
    · simp [h1]
    · by_cases h2 : b < a
      · simp [h1, h2] at h
      · simp only [h1, h2, if_false] at h
        have e : a = b := by
          have h3 : ¬ a.toNat < b.toNat := h1
          have h4 : ¬ b.toNat < a.toNat := h2
          exact UInt8.toNat_inj.1 (by omega)
        simp [e, bl_cb x y h]

theorem bl_kc {a b : ByteArray} (h : kc a b < 0) : Op.bytesLess a.toList b.toList = true := by
  rw [ByteArray.toList_eq, ByteArray.toList_eq]
  exact bl_cb _ _ h

/-- What the scan's list is. -/
structure Listed (A : List (List Pr)) (n : Nat) (L : List Pr) : Prop where
  len : L.length = tk.countP fun k => (vk A k n).isSome
  ord : L.Pairwise fun a b => kc a.k b.k < 0
  seen : ∀ p ∈ L, p.g = false ∧ vk A p.k n = some p.v

def Scanned (A : List (List Pr)) (n : Nat) (w : World) (e : Ending) (w' : World) : Prop :=
  ∃ (v : Value) (L : List Pr), e = .returned (.tuple #[v, .int .i64 0]) ∧ w'.ownsRow w.heap.size 48 3 v L.length (pcells L) ∧ Listed A n L ∧ Below w.heap.size w w'

theorem scan_tells (B sb : Nat) (x : St) (A : List (List Pr)) (at_ : Int) (n : Nat) (w : World) (hx : SIn B sb x w) (ok : ShOk x A) (hq : seqOf x.S x.last at_ = some (n : Int)) (hn : n ≤ A.length) :
    Calls Tryz.prog 46 #[.pointer (some ⟨sb, 0, none⟩), .string ⟨#[]⟩, .int .i64 100, .int .i64 at_] w fun e w' => Scanned A n w e w' := by
  refine (scan_sin x B sb ⟨#[]⟩ 100 at_ w hx ok.st).mono ?_
  intro e w' h
  unfold ScanAns at h
  rw [hq] at h
  simp only [show ¬ ((100 : Int) < 0) by omega, if_false] at h
  obtain ⟨v, L, cur, rfl, h1, h2, h3, h4, _⟩ := h
  have ht : ∀ b ∈ A, ∀ p ∈ b, p.k ∈ tk := fun b hb => (ok.ok b hb).ten
  exact ⟨v, L, rfl, h1, ⟨scan_count ok.st.sorted ok.rel ht hn h3 h4, h3.ord, fun p hp => ⟨(h3.seen p hp).1, by rw [← sk_vk ok.st.sorted ok.rel p.k n hn]; exact (h3.seen p hp).2.1⟩⟩, h2⟩

theorem get_tells {x : St} {A : List (List Pr)} (ok : ShOk x A) {at_ : Int} {n : Nat} (hq : seqOf x.S x.last at_ = some (n : Int)) (hn : n ≤ A.length) {k : ByteArray} (hk : k ∈ tk) :
    getVal x k at_ = match vk A k n with | some v => .tuple #[.string v, .int .i64 0] | none => .tuple #[.string ⟨#[]⟩, .int .i64 6] := by
  unfold getVal
  rw [if_pos (tk_ok hk), hq]
  simp only
  rw [sk_vk ok.st.sorted ok.rel k n hn]
  cases vk A k n <;> rfl

theorem get_in (x : St) (B sb : Nat) (k : ByteArray) (n : Int) (w : World) (hx : SIn B sb x w) (ok : StOk x) (hk : k.size ≤ maxLen) (u : Value) (hu : getVal x k n = u) (d : Nat) (os : Array Obj) :
    Calls Tryz.prog 27 #[.pointer (some ⟨sb, 0, none⟩), .string k, .int .i64 n] (grow (redrawn w d) os) fun e w'' => e = .returned u ∧ ∃ p : Regrown, w'' = grow (redrawn w p.d) p.os := by
  subst hu
  exact Calls.regrown_of (get_sin x B sb k n _ (hx.below (below_of_regrown ⟨⟨d, os⟩, rfl⟩)) ok hk)

theorem kof_nat {i : Nat} (h : i < 10) : tk[i]? = some (kof i) := by
  have e : (pk (i : Int) 10).toNat = i := by unfold pk; rw [if_neg (by omega)]; omega
  unfold kof
  rw [e, List.getD_eq_getElem?_getD]
  have h' : i < tk.length := h
  rw [List.getElem?_eq_getElem h']
  rfl

theorem count_step {i : Nat} (h : i < 10) (f : ByteArray → Bool) : (tk.take (i + 1)).countP f = (tk.take i).countP f + if f (kof i) = true then 1 else 0 := by
  rw [List.take_add_one, kof_nat h]
  simp [List.countP_append, List.countP_cons]
end Go.Proofs.YtakipjofboipmaaGreat

/- The walks of this proof: the shop tells what its batches make. -/
namespace Go.Proofs.YtakipjofboipmaaGreat
open Go.RowKit Go.Sort

theorem val_pre {A Ab : List (List Pr)} (h : A <+: Ab) (k : ByteArray) : ∀ n, n ≤ A.length → val Ab k n = val A k n
  | 0, _ => rfl
  | n + 1, hn => by
    obtain ⟨r, rfl⟩ := h
    unfold val
    rw [val_pre ⟨r, rfl⟩ k n (by omega)]
    have e : (A ++ r).getD n [] = A.getD n [] := by
      rw [List.getD_eq_getElem?_getD, List.getD_eq_getElem?_getD, List.getElem?_append_left (by omega)]
    rw [e]

theorem vk_pre {A Ab : List (List Pr)} (h : A <+: Ab) (k : ByteArray) (n : Nat) (hn : n ≤ A.length) : vk Ab k n = vk A k n := by
  unfold vk; rw [val_pre h k n hn]

theorem valAns_pre {A Ab : List (List Pr)} (h : A <+: Ab) (k : ByteArray) (n : Nat) (hn : n ≤ A.length) : valAns Ab k n = valAns A k n := by
  unfold valAns; rw [vk_pre h k n hn]

set_option maxHeartbeats 2000000 in
set_option maxRecDepth 100000 in
/-- The store's batches are the first of the book's. -/
theorem tells_desk (B hb : Nat) (x : St) (A Ab : List (List Pr)) (at_ : Int) (n : Nat) (w : World) (hx : DeskAt B hb x Ab w) (hpre : A <+: Ab) (okb : ∀ b ∈ Ab, BOk b) (hfb : Ab.length < 100000000) (ok : ShOk x A) (hq : seqOf x.S x.last at_ = some (n : Int)) (hn : n ≤ A.length) :
    Calls Tryz.prog 14 #[.pointer (some ⟨hb, 0, none⟩), .int .i64 at_, .int .i64 n] w fun e w' => e = .returned (.bool true) ∧ Below w.heap.size w w' := by
  obtain ⟨sb, vA, a2, a3, a4, a5, a6, hB, hs, hst, hall⟩ := id hx
  have c0 : w.cell? ⟨hb, 0, none⟩ = some (.pointer (some ⟨sb, 0, none⟩)) := by simp [World.cell?, hs]
  have hbl : hb < w.heap.size := lt_of_block hs
  have HSC : Hid (Calls Tryz.prog 46 #[.pointer (some ⟨sb, 0, none⟩), .string ⟨#[]⟩, .int .i64 100, .int .i64 at_] w fun e w' => Scanned A n w e w') := scan_tells B sb x A at_ n w hst ok hq hn
  have HV : Hid (∀ (k : ByteArray) (w1 : World), Below w.heap.size w w1 → Calls Tryz.prog 21 #[.pointer (some ⟨hb, 0, none⟩), .string k, .int .i64 n] w1 fun e w' => e = .returned (valAns A k n) ∧ Below w1.heap.size w1 w') := fun k w1 h1 => by
    rw [← valAns_pre hpre k n hn]
    exact value_desk B hb x Ab k n w1 (hx.below h1) okb (Nat.le_trans hn hpre.length_le) hfb
  have HG : Hid (∀ (k : ByteArray) (w1 : World), k ∈ tk → Below w.heap.size w w1 → ∀ u, getVal x k at_ = u → ∀ d os, Calls Tryz.prog 27 #[.pointer (some ⟨sb, 0, none⟩), .string k, .int .i64 at_] (grow (redrawn w1 d) os) fun e w'' => e = .returned u ∧ ∃ p : Regrown, w'' = grow (redrawn w1 p.d) p.os) := fun k w1 hk h1 u hu d os => get_in x B sb k at_ w1 (hst.below h1) ok.st (by have := tk_ok hk; unfold maxLen; omega) u hu d os
  have HGV : Hid (∀ k, k ∈ tk → getVal x k at_ = match vk A k n with | some v => .tuple #[.string v, .int .i64 0] | none => .tuple #[.string ⟨#[]⟩, .int .i64 6]) := fun k hk => get_tells ok hq hn hk
  clear hx ok hq hs hst hall hpre okb hfb
  go_enter Tryz.func14, Tryz.ntmps14
  go_wp2_with fail
  refine Calls.mono HSC.out ?_
  rintro e w1 ⟨vL, L, rfl, ho, hL, hb1⟩
  have HB1 : Hid (Below w.heap.size w w1) := hb1
  have HO : Hid (w1.ownsRow w.heap.size 48 3 vL L.length (pcells L)) := ho
  have HL : Hid (Listed A n L) := hL
  have c0 := cell_later hb1 c0
  clear ho hL hb1 HSC
  go_wp2
  go_loopw [9, 10] (fun s9 i wr => ∃ k : Nat, k ≤ 10 ∧ i = .int .i64 k ∧ s9 = .int .i64 (((tk.take k).countP fun y => (vk A y n).isSome : Nat) : Int) ∧ Hid (Below w1.heap.size w1 wr)) (fun _ i _ => 10 - (intOf i).toNat)
  case atStart => exact ⟨0, Nat.zero_le _, rfl, rfl, Below.refl _ _⟩
  case round =>
    obtain ⟨k, hk, rfl, rfl, HB⟩ := hrel
    by_cases hlt : k < 10
    · have c0 := cell_later HB.out c0
      have hbl2 : hb < wr.heap.size := block_lt_of_cell c0
      have HBw : Hid (Below w.heap.size w wr) := below_trans' HB1.out HB.out
      have hck : ((tk.take k).countP fun y => (vk A y n).isSome) ≤ 10 := Nat.le_trans (List.countP_le_length) (by simp; omega)
      have HCS : Hid (((tk.take (k + 1)).countP fun y => (vk A y n).isSome) = ((tk.take k).countP fun y => (vk A y n).isSome) + if (vk A (kof k) n).isSome = true then 1 else 0) := count_step hlt fun y => (vk A y n).isSome
      have HKI : Hid (∀ d os, Calls Tryz.prog 22 #[.int .i64 k] (grow (redrawn wr d) os) fun e w'' => e = .returned (.string (kof k)) ∧ ∃ p : Regrown, w'' = grow (redrawn wr p.d) p.os) := fun d os => key_in k wr (by omega) (by omega) d os
      cases hvk : vk A (kof k) n with
      | some v =>
        have HGI : Hid (∀ d os, Calls Tryz.prog 27 #[.pointer (some ⟨sb, 0, none⟩), .string (kof k), .int .i64 at_] (grow (redrawn wr d) os) fun e w'' => e = .returned (.tuple #[.string v, .int .i64 0]) ∧ ∃ p : Regrown, w'' = grow (redrawn wr p.d) p.os) := fun d os => HG.out _ wr (kof_mem k) HBw.out _ (by rw [HGV.out _ (kof_mem k), hvk]) d os
        have hva : valAns A (kof k) n = .tuple #[.string v, .bool true] := by unfold valAns; rw [hvk]
        have c0' := cell_regrown c0
        go_wp2_with fail
        refine wp_region_quiet_below (by kernel_rfl) (by kernel_rfl) ?_
        repeat (first | go_big_quiet_step (first | exact HKI.out _ _ | exact HGI.out _ _) | quiet_step (first | exact HKI.out _ _ | exact HGI.out _ _))
        refine wpQuiet_nil ?_
        intro w2 hw'
        have hb2 := below_of_regrown hw'
        clear hw' c0'
        go_wp2_with fail
        refine (key_any k _ (by omega) (by omega)).mono ?_
        rintro e w3 ⟨rfl, hb3⟩
        go_wp2_with fail
        have HB3 : Hid (Below wr.heap.size wr w3) := below_trans' hb2 hb3
        clear hb2 hb3
        refine Calls.mono (HV.out (kof k) w3 (below_trans' HBw.out HB3.out)) ?_
        rw [hva]
        rintro e w4 ⟨rfl, hb4⟩
        have HB4 : Hid (Below w1.heap.size w1 w4) := below_trans' (below_trans' HB.out HB3.out) hb4
        rw [hvk] at HCS
        clear hb4 HB3 hva hvk
        go_wp2
        go_roundw
        case rel => exact ⟨k + 1, hlt, by go_num, by congr 1; rw [HCS.out]; simp, HB4⟩
        case measure => simp [intOf]; omega
      | none =>
        have HGI : Hid (∀ d os, Calls Tryz.prog 27 #[.pointer (some ⟨sb, 0, none⟩), .string (kof k), .int .i64 at_] (grow (redrawn wr d) os) fun e w'' => e = .returned (.tuple #[.string ⟨#[]⟩, .int .i64 6]) ∧ ∃ p : Regrown, w'' = grow (redrawn wr p.d) p.os) := fun d os => HG.out _ wr (kof_mem k) HBw.out _ (by rw [HGV.out _ (kof_mem k), hvk]) d os
        have hva : valAns A (kof k) n = .tuple #[.string ⟨#[]⟩, .bool false] := by unfold valAns; rw [hvk]
        have c0' := cell_regrown c0
        go_wp2_with fail
        refine wp_region_quiet_below (by kernel_rfl) (by kernel_rfl) ?_
        repeat (first | go_big_quiet_step (first | exact HKI.out _ _ | exact HGI.out _ _) | quiet_step (first | exact HKI.out _ _ | exact HGI.out _ _))
        refine wpQuiet_nil ?_
        intro w2 hw'
        have hb2 := below_of_regrown hw'
        clear hw' c0'
        go_wp2_with fail
        refine (key_any k _ (by omega) (by omega)).mono ?_
        rintro e w3 ⟨rfl, hb3⟩
        go_wp2_with fail
        have HB3 : Hid (Below wr.heap.size wr w3) := below_trans' hb2 hb3
        clear hb2 hb3
        refine Calls.mono (HV.out (kof k) w3 (below_trans' HBw.out HB3.out)) ?_
        rw [hva]
        rintro e w4 ⟨rfl, hb4⟩
        have HB4 : Hid (Below w1.heap.size w1 w4) := below_trans' (below_trans' HB.out HB3.out) hb4
        rw [hvk] at HCS
        clear hb4 HB3 hva hvk
        go_wp2
        go_roundw
        case rel => exact ⟨k + 1, hlt, by go_num, by congr 1; rw [HCS.out]; simp, HB4⟩
        case measure => simp [intOf]; omega
    · obtain rfl : k = 10 := by omega
      have HLN : Hid (L.length = ((tk.take 10).countP fun y => (vk A y n).isSome)) := HL.out.len
      have hlt10 : ((tk.take 10).countP fun y => (vk A y n).isSome) ≤ 10 := Nat.le_trans (List.countP_le_length) (Nat.le_refl 10)
      generalize ((tk.take 10).countP fun y => (vk A y n).isSome) = c at HLN hlt10
      obtain rfl : L.length = c := HLN.out
      clear HLN HG HGV
      obtain ⟨aoL, capL, rfl⟩ := slice_form HO.out
      rw [show (((10 : Nat)) : Int) = 10 from rfl]
      go_wp2
      go_loopw [15] (fun i wx => ∃ j : Nat, j ≤ L.length ∧ i = .int .i64 j ∧ Hid (Below w1.heap.size w1 wx)) (fun i _ => L.length - (intOf i).toNat)
      case atStart => exact ⟨0, Nat.zero_le _, rfl, HB.out⟩
      case round =>
        clear HB
        obtain ⟨j, hj, rfl, HB⟩ := hrel
        by_cases hlt2 : j < L.length
        · obtain ⟨g, cap, hv', _, hgl, hcap, hcell⟩ := pr_cells HO.out HB.out (by omega)
          simp only [Value.slice.injEq, true_and] at hv'
          obtain ⟨rfl, rfl⟩ := hv'
          obtain ⟨p, hp⟩ : ∃ p, L[j]? = some p := ⟨_, List.getElem?_eq_getElem hlt2⟩
          obtain ⟨d0, d1, d2⟩ := hcell j p hp
          have hse := HL.out.seen p (List.mem_of_getElem? hp)
          rw [hse.1] at d2
          have hva : valAns A p.k n = .tuple #[.string p.v, .bool true] := by unfold valAns; rw [hse.2]
          have hgr : g < wr.heap.size := block_lt_of_cell d0
          obtain _ | m := j
          · clear hcell hse hp
            go_wp2_with fail
            refine Calls.mono (HV.out p.k wr (below_trans' HB1.out HB.out)) ?_
            rw [hva]
            rintro e w4 ⟨rfl, hb4⟩
            have HB4 : Hid (Below w1.heap.size w1 w4) := below_trans' HB.out hb4
            have d1 := cell_regrown (cell_later hb4 d1)
            have d2 := cell_regrown (cell_later hb4 d2)
            clear hva hb4 d0
            go_wp2_with fail
            refine wp_region_quiet_below (by kernel_rfl) (by kernel_rfl) ?_
            repeat (first | go_big_quiet_step (fail) | quiet_step (fail))
            refine wpQuiet_nil ?_
            intro w5 hw'
            have HB5 : Hid (Below w1.heap.size w1 w5) := below_trans' HB4.out (below_of_regrown hw')
            clear hw' HB4 d1 d2
            go_wp2
            go_roundw
            case rel => exact ⟨1, by omega, by go_num, HB5⟩
            case measure => simp [intOf]; omega
          · obtain ⟨q, hqm⟩ : ∃ q, L[m]? = some q := ⟨_, List.getElem?_eq_getElem (by omega)⟩
            obtain ⟨f0, _, _⟩ := hcell m q hqm
            have hless : Op.bytesLess q.k.toList p.k.toList = true := bl_kc (by
              have h1 := List.pairwise_iff_getElem.1 HL.out.ord m (m + 1) (by omega) (by omega) (by omega)
              rw [List.getElem?_eq_getElem (by omega)] at hqm hp
              rw [Option.some.inj hqm, Option.some.inj hp] at h1
              exact h1)
            clear hcell hse hp hqm
            go_wp2_with fail
            refine Calls.mono (HV.out p.k wr (below_trans' HB1.out HB.out)) ?_
            rw [hva]
            rintro e w4 ⟨rfl, hb4⟩
            have HB4 : Hid (Below w1.heap.size w1 w4) := below_trans' HB.out hb4
            have d1 := cell_regrown (cell_later hb4 d1)
            have d2 := cell_regrown (cell_later hb4 d2)
            have d0 := cell_regrown (cell_later hb4 d0)
            have f0 := cell_regrown (cell_later hb4 f0)
            clear hva hb4
            go_wp2_with fail
            refine wp_region_quiet_below (by kernel_rfl) (by kernel_rfl) ?_
            repeat (first | go_big_quiet_step (fail) | quiet_step (fail))
            refine wpQuiet_nil ?_
            intro w5 hw'
            have HB5 : Hid (Below w1.heap.size w1 w5) := below_trans' HB4.out (below_of_regrown hw')
            clear hw' HB4 d0 d1 d2 f0
            go_wp2
            go_roundw
            case rel => exact ⟨m + 2, by omega, by go_num, HB5⟩
            case measure => simp [intOf]; omega
        · obtain rfl : j = L.length := by omega
          go_wp2
          go_ret
          exact ⟨rfl, below_trans' HB1.out HB.out⟩

theorem tells_any (B hb : Nat) (x : St) (A : List (List Pr)) (at_ : Int) (n : Nat) (w : World) (hx : ShopAt B hb x A w) (ok : ShOk x A) (hq : seqOf x.S x.last at_ = some (n : Int)) (hn : n ≤ A.length) :
    Calls Tryz.prog 14 #[.pointer (some ⟨hb, 0, none⟩), .int .i64 at_, .int .i64 n] w fun e w' => e = .returned (.bool true) ∧ Below w.heap.size w w' :=
  tells_desk B hb x A A at_ n w hx.desk (List.prefix_refl _) ok.ok ok.few ok hq hn
end Go.Proofs.YtakipjofboipmaaGreat

/- The walks of this proof: a look at the latest, or at a snapshot. -/
namespace Go.Proofs.YtakipjofboipmaaGreat
open Go.RowKit Go.Sort

/-- What is true of every shop behind t steps. -/
structure Sound (x : St) (A : List (List Pr)) (t : Nat) : Prop where
  sh : ShOk x A
  snp : x.S.Pairwise fun a b => a.n < b.n
  snr : ∀ s ∈ x.S, 1 ≤ s.n ∧ s.n ≤ x.lastSnap ∧ 0 ≤ s.q ∧ s.q ≤ A.length
  ls0 : 0 ≤ x.lastSnap
  b1 : A.length ≤ t
  b2 : x.E.length ≤ 4 * t
  b3 : x.T.length ≤ t
  b4 : x.lastSnap ≤ t

theorem snq_mem : ∀ {S : List Sn} (_ : S.Pairwise fun a b => a.n < b.n) {s : Sn}, s ∈ S → snq S s.n = some s.q
  | [], _, _, h => by cases h
  | a :: S, hp, s, h => by
    obtain ⟨h1, h2⟩ := List.pairwise_cons.1 hp
    unfold snq
    rw [List.find?_cons]
    rcases List.mem_cons.1 h with rfl | h
    · simp
    · have := h1 s h
      rw [decide_eq_false (show ¬ a.n = s.n by omega)]
      exact snq_mem h2 h

theorem sidx_mem : ∀ {S : List Sn} (_ : S.Pairwise fun a b => a.n < b.n) {i : Nat} {s : Sn}, S[i]? = some s → sidx S s.n = some i
  | [], _, _, _, h => by simp at h
  | a :: S, hp, i, s, h => by
    obtain ⟨h1, h2⟩ := List.pairwise_cons.1 hp
    unfold sidx
    rw [List.findIdx?_cons]
    obtain _ | i := i
    · obtain rfl : a = s := by simpa using h
      simp
    · have h' : S[i]? = some s := by simpa using h
      have := h1 s (List.mem_of_getElem? h')
      rw [decide_eq_false (show ¬ a.n = s.n by omega)]
      have ih := sidx_mem h2 h'
      unfold sidx at ih
      rw [ih]
      rfl

theorem sidx_out {S : List Sn} {n : Int} (h : ∀ s ∈ S, s.n ≠ n) : sidx S n = none := by
  unfold sidx
  rw [List.findIdx?_eq_none_iff]
  intro s hs
  simp [h s hs]

theorem tells_in (B hb : Nat) (x : St) (A : List (List Pr)) (at_ : Int) (n : Nat) (w : World) (hx : ShopAt B hb x A w) (ok : ShOk x A) (hq : seqOf x.S x.last at_ = some (n : Int)) (hn : n ≤ A.length) (d : Nat) (os : Array Obj) :
    Calls Tryz.prog 14 #[.pointer (some ⟨hb, 0, none⟩), .int .i64 at_, .int .i64 n] (grow (redrawn w d) os) fun e w'' => e = .returned (.bool true) ∧ ∃ p : Regrown, w'' = grow (redrawn w p.d) p.os :=
  Calls.regrown_of (tells_any B hb x A at_ n _ (hx.below (below_of_regrown ⟨⟨d, os⟩, rfl⟩)) ok hq hn)

set_option maxHeartbeats 1000000 in
set_option maxRecDepth 100000 in
theorem looks_any (B hb : Nat) (x : St) (A : List (List Pr)) (c : Int) (t : Nat) (w : World) (hx : ShopAt B hb x A w) (ok : Sound x A t) (h0 : -9223372036854775808 ≤ c) (h1 : c ≤ 9223372036854775807) :
    Calls Tryz.prog 13 #[.pointer (some ⟨hb, 0, none⟩), .int .i64 c] w fun e w' => e = .returned (.bool true) ∧ Below w.heap.size w w' := by
  obtain ⟨sb, vA, vS, su, la, o0, o1, hB, hs, hst, hall, hsn, _⟩ := id hx
  have c1 : w.cell? ⟨hb, 1, none⟩ = some vA := by simp [World.cell?, hs]
  have c2 : w.cell? ⟨hb, 2, none⟩ = some vS := by simp [World.cell?, hs]
  have hbl : hb < w.heap.size := lt_of_block hs
  have hS4 := ok.sh.st.snaps
  have HP : Hid (Calls Tryz.prog 30 #[.int .i64 c, .int .i64 ((x.S.length : Int) + 1)] w fun e w' => e = .returned (.int .i64 (pk c ((x.S.length : Int) + 1))) ∧ w' = w) := pick_any c _ w h0 h1 (by omega) (by omega)
  have hpk := pk_lt (c := c) (n := (x.S.length : Int) + 1) (by omega)
  generalize pk c ((x.S.length : Int) + 1) = i at HP hpk
  obtain ⟨j, rfl⟩ := Int.eq_ofNat_of_zero_le hpk.1
  obtain ⟨aoA, capA, rfl⟩ : ∃ ao cap, vA = .slice ao A.length cap := by obtain ⟨Ws, h, _⟩ := hall; exact slice_form h
  by_cases hj : j = x.S.length
  · have HT : Hid (Calls Tryz.prog 14 #[.pointer (some ⟨hb, 0, none⟩), .int .i64 0, .int .i64 A.length] w fun e w' => e = .returned (.bool true) ∧ Below w.heap.size w w') := tells_any B hb x A 0 A.length w hx ok.sh (by unfold seqOf; rw [if_pos rfl, ok.sh.last]) (Nat.le_refl _)
    subst hj
    obtain ⟨aoS, capS, rfl⟩ := slice_form hsn
    clear hx ok hs hst hall hsn hpk
    go_enter Tryz.func13, Tryz.ntmps13
    go_wp2_with fail
    refine Calls.mono HP.out ?_
    rintro e w1 ⟨rfl, rfl⟩
    go_wp2_with fail
    refine Calls.mono HT.out ?_
    rintro e w1 ⟨rfl, hb1⟩
    go_wp2
    go_ret
    exact ⟨rfl, hb1⟩
  · obtain ⟨s, hsj⟩ : ∃ s, x.S[j]? = some s := ⟨_, List.getElem?_eq_getElem (by omega)⟩
    have hsr := ok.snr s (List.mem_of_getElem? hsj)
    obtain ⟨q, hq⟩ := Int.eq_ofNat_of_zero_le hsr.2.2.1
    have HT : Hid (∀ d os, Calls Tryz.prog 14 #[.pointer (some ⟨hb, 0, none⟩), .int .i64 s.n, .int .i64 s.q] (grow (redrawn w d) os) fun e w'' => e = .returned (.bool true) ∧ ∃ p : Regrown, w'' = grow (redrawn w p.d) p.os) := fun d os => by
      rw [hq]
      exact tells_in B hb x A s.n q w hx ok.sh (by unfold seqOf; rw [if_neg (by omega), snq_mem ok.snp (List.mem_of_getElem? hsj), hq]) (by omega) d os
    obtain ⟨g, cap, rfl, _, hgl, hcap, hcell⟩ := row_cell (f := Sn.cells) (size := 2) (l := x.S) (fun a => by rfl) hsn (by omega)
    have d0 := hcell j s 0 hsj (by omega)
    have d1 := hcell j s 1 hsj (by omega)
    simp only [Sn.cells, List.getElem?_cons_zero, List.getElem?_cons_succ, Nat.add_zero] at d0 d1
    have hjl : j < x.S.length := by omega
    clear hx ok hs hst hall hsn hpk hcell hsj hsr hq
    have c2' := cell_regrown c2
    have d0' := cell_regrown d0
    have d1' := cell_regrown d1
    go_enter Tryz.func13, Tryz.ntmps13
    go_wp2_with fail
    refine Calls.mono HP.out ?_
    rintro e w1 ⟨rfl, rfl⟩
    go_wp2_with fail
    refine wp_region_quiet_below (by kernel_rfl) (by kernel_rfl) ?_
    repeat (first | go_big_quiet_step (exact HT.out _ _) | quiet_step (exact HT.out _ _))
    refine wpQuiet_nil ?_
    intro w2 hw'
    have hb2 := below_of_regrown hw'
    clear hw'
    go_wp2
    go_ret
    exact ⟨rfl, hb2⟩
end Go.Proofs.YtakipjofboipmaaGreat

/- The walks of this proof: a batch is written. -/
namespace Go.Proofs.YtakipjofboipmaaGreat
open Go.RowKit Go.Sort

theorem Tryz.info49 : (Tryz.prog.info? 49).map (fun i => (i.zero, i.size, i.bytes)) = some (some (.slice none 0 0), 1, 24) := by kernel_rfl

theorem Kp.field {B : Nat} {w : World} {sb : Nat} {a : Array Value} {t : TypeId} (hB : B ≤ sb) (h : w.heap[sb]? = some (.cells a t (0, 0))) (i : Nat) (v : Value) : Kp B [t] w (w.setCell ⟨sb, i, none⟩ v) :=
  (Kp.refl B [t] w).setCell hB h (by simp) v

/-- The types whose blocks a step may turn. -/
def turned : List Nat := [36, 49, 44, 118, 5, 58, 174, 169]

/-- What a step comes to. -/
def StepPost (B hb t : Nat) (w : World) (e : Ending) (w' : World) : Prop :=
  e = .returned (.bool true) ∧ ∃ (x' : St) (A' : List (List Pr)), ShopAt B hb x' A' w' ∧ Sound x' A' (t + 1) ∧ Kp B turned w w'

theorem Sound.mono {x : St} {A : List (List Pr)} {t t' : Nat} (h : Sound x A t) (ht : t ≤ t') : Sound x A t' :=
  ⟨h.sh, h.snp, h.snr, h.ls0, by have := h.b1; omega, by have := h.b2; omega, by have := h.b3; omega, by have := h.b4; omega⟩

theorem wrs_E (x : St) (M : List Pr) (sync : Bool) : (x.wrs M sync).E = srt (x.E ++ M.map (toEn (x.last + 1))) := by cases sync <;> rfl
theorem wrs_last (x : St) (M : List Pr) (sync : Bool) : (x.wrs M sync).last = x.last + 1 := by cases sync <;> rfl
theorem wrs_S (x : St) (M : List Pr) (sync : Bool) : (x.wrs M sync).S = x.S := by cases sync <;> rfl
theorem wrs_lastSnap (x : St) (M : List Pr) (sync : Bool) : (x.wrs M sync).lastSnap = x.lastSnap := by cases sync <;> rfl
theorem wrs_T (x : St) (M : List Pr) (sync : Bool) : (x.wrs M sync).T = x.T := by cases sync <;> rfl
theorem wrs_la (x : St) (M : List Pr) (sync : Bool) : (x.wrs M sync).la = x.la := by cases sync <;> rfl

theorem Sound.batch {x : St} {A : List (List Pr)} {t : Nat} (h : Sound x A t) (ht : t < 2000000) {b M : List Pr} (hb : BOk b) (hm : Settles b M) (sync : Bool) (ok' : StOk (x.wrs M sync)) : Sound (x.wrs M sync) (A ++ [b]) (t + 1) := by
  have hlast := h.sh.last
  have hf : ∀ y, y ∈ (x.wrs M sync).E ↔ y ∈ x.E ∨ y ∈ M.map (toEn (x.last + 1)) := fun y => by rw [wrs_E, srt_mem, List.mem_append]
  have hrel : Rel (x.wrs M sync).E (A ++ [b]) := rel_snoc h.sh.rel hm.1 (by rw [← hlast]; exact hf)
  have hml : M.length ≤ 4 := by have := hm.1.1; have := keep_len b; have := hb.hi; omega
  have hl : (x.wrs M sync).E.length = x.E.length + M.length := by rw [wrs_E, srt_len, List.length_append, List.length_map]
  have b1 := h.b1
  have b2 := h.b2
  have b3 := h.b3
  have b4 := h.b4
  have hok : ∀ c ∈ A ++ [b], BOk c := by
    intro c hc
    rcases List.mem_append.1 hc with h1 | h1
    · exact h.sh.ok c h1
    · obtain rfl := List.mem_singleton.1 h1; exact hb
  refine ⟨⟨ok', by rw [wrs_last, hlast]; simp, hrel, hok, by simp; omega⟩, by rw [wrs_S]; exact h.snp, ?_, by rw [wrs_lastSnap]; exact h.ls0, by simp; omega, by omega, by rw [wrs_T]; omega, by rw [wrs_lastSnap]; omega⟩
  rw [wrs_S, wrs_lastSnap]
  intro s hs'
  have := h.snr s hs'
  simp only [List.length_append, List.length_cons, List.length_nil]
  omega

theorem Sound.seqs {x : St} {A : List (List Pr)} {t : Nat} (h : Sound x A t) : ∀ e ∈ x.E, e.s ≤ x.last := by
  intro e he
  obtain ⟨i, c, p, h1, _, rfl⟩ := (h.sh.rel e).1 he
  have := (List.getElem?_eq_some_iff.1 h1).1
  rw [h.sh.last]
  simp only [toEn]
  omega

theorem AllAt.snoc {B : Nat} {w' : World} {vA' vb : Value} {A : List (List Pr)} {b : List Pr} {Ws : List Value} (ho : w'.ownsRow B 49 1 vA' (A.length + 1) (Ws ++ [vb])) (hl : Ws.length = A.length)
    (hr : ∀ (i : Nat) (c : List Pr), A[i]? = some c → ∃ vi, Ws[i]? = some vi ∧ w'.ownsRow B 48 3 vi c.length (pcells c)) (hb : w'.ownsRow B 48 3 vb b.length (pcells b)) : AllAt B w' vA' (A ++ [b]) := by
  refine ⟨Ws ++ [vb], by simpa using ho, fun i c hc => ?_⟩
  by_cases hi : i < A.length
  · rw [List.getElem?_append_left hi] at hc
    obtain ⟨vi, h1, h2⟩ := hr i c hc
    exact ⟨vi, by rw [List.getElem?_append_left (by omega)]; exact h1, h2⟩
  · rw [List.getElem?_append_right (by omega)] at hc
    have h0 : i - A.length = 0 := by
      rcases Nat.eq_zero_or_pos (i - A.length) with h | h
      · exact h
      · rw [List.getElem?_eq_none (by simp; omega)] at hc; cases hc
    rw [h0] at hc
    simp only [List.getElem?_cons_zero, Option.some.injEq] at hc
    subst hc
    exact ⟨vb, by rw [List.getElem?_append_right (by omega), hl, h0]; rfl, hb⟩

theorem one_cell (w : World) (v : Value) (e : TypeId) : ∀ j u, [v][j]? = some u → (w.alloc (.cells #[v] e)).cell? ((⟨w.heap.size, 0, none⟩ : Addr).add j) = some u := by
  intro j u hj
  match j, hj with
  | 0, hj => simp at hj; subst hj; simp [Addr.add]
  | j + 1, hj => simp at hj

set_option maxHeartbeats 2000000 in
set_option maxRecDepth 100000 in
theorem write19_any (B hb : Nat) (x : St) (A : List (List Pr)) (v : Value) (sync : Bool) (t : Nat) (w : World) (hx : ShopAt B hb x A w) (ok : Sound x A t) (ht : t < 2000000) (hv : RawAt w v) (hBw : B ≤ w.heap.size) :
    Calls Tryz.prog 28 #[.pointer (some ⟨hb, 0, none⟩), v, .bool sync] w fun e w' => StepPost B hb t w e w' := by
  obtain ⟨i0, hi, hz0, hz1, hz2⟩ := info_parts Tryz.info49
  obtain ⟨sb, vA, vS, su, la, o0, o1, hB, hs, hst, ⟨Ws, hWo, hWr⟩, hsn, hsu, hla, ho0, ho1⟩ := id hx
  have hWl : Ws.length = A.length := by have := hWo.1; omega
  have c0 : w.cell? ⟨hb, 0, none⟩ = some (.pointer (some ⟨sb, 0, none⟩)) := by simp [World.cell?, hs]
  have HBA : Hid (Calls Tryz.prog 41 #[v] w fun e w' => BatchMade w e w') := batch_any v w hv
  have hbl : hb < w.heap.size := lt_of_block hs
  have b1 := ok.b1
  have b2 := ok.b2
  have b3 := ok.b3
  have HW : Hid (∀ (w1 : World) (vb : Value) (b : List Pr), Below w.heap.size w w1 → w1.ownsRow w.heap.size 48 3 vb b.length (pcells b) → BOk b → Calls Tryz.prog 18 #[.pointer (some ⟨sb, 0, none⟩), vb, .bool sync] w1 fun e w' => WrPost B sb x b sync w1 e w') := fun w1 vb b h1 h2 h3 =>
    write_sin B sb x b vb w.heap.size sync w1 (hst.below h1) ok.sh.st h2 h3.lo h3.hi h3.ok (by rw [ok.sh.last]; omega) (by omega)
  have HSU : Hid (su = x.la + x.sy ∧ la = x.la ∧ o0 = decide (hasT x.T 0) ∧ o1 = decide (hasT x.T 1) ∧ (A.length : Int) = x.la + x.B.length) := ⟨hsu, hla, ho0, ho1, by rw [← ok.sh.last]; exact ok.sh.st.lv.la1⟩
  have HF : Hid (Sound x A t ∧ B ≤ hb ∧ w.heap[hb]? = some (.cells #[.pointer (some ⟨sb, 0, none⟩), vA, vS, .int .i64 su, .int .i64 la, .bool o0, .bool o1] 36 (0, 0)) ∧ w.ownsRow B 49 1 vA A.length Ws ∧ (∀ (i : Nat) (b : List Pr), A[i]? = some b → ∃ vi, Ws[i]? = some vi ∧ w.ownsRow B 48 3 vi b.length (pcells b)) ∧ w.ownsRow B 44 2 vS x.S.length (scells x.S)) := ⟨ok, hB, hs, hWo, hWr, hsn⟩
  have hlast := ok.sh.last
  clear hx ok hst hWo hWr hsn hs hv hsu hla ho0 ho1
  go_enter Tryz.func28, Tryz.ntmps28
  go_wp2_with fail
  refine Calls.mono HBA.out ?_
  rintro e w1 ⟨vb, b, rfl, hob, hbok, hb1⟩
  have c0 := cell_later hb1 c0
  have H2 := HW.out w1 vb b hb1 hob hbok
  have HB1 : Hid (Below w.heap.size w w1) := hb1
  have HOB : Hid (w1.ownsRow w.heap.size 48 3 vb b.length (pcells b)) := hob
  have HBO : Hid (BOk b) := hbok
  have H2' : Hid _ := H2
  have hbl1 : hb < w1.heap.size := Nat.lt_of_lt_of_le hbl hb1.size
  clear hb1 hob hbok H2 HW HBA
  obtain ⟨aob, capb, rfl⟩ := slice_form HOB.out
  go_wp2_with fail
  refine Calls.mono H2'.out ?_
  clear H2'
  rintro e w2 ⟨he, M, hse, hst2, hok2, hk2⟩
  rw [hlast] at he
  subst he
  have K2 : Hid (Kp B turned w w2) := (Kp.of_below HB1.out).trans (hk2.mono (by simp [turned]))
  have K2' : Hid (Kp B [118, 5, 58] w w2) := (Kp.of_below HB1.out).trans hk2
  have HOB2 : Hid (w2.ownsRow B 48 3 (.slice aob b.length capb) b.length (pcells b)) := owns_base (hk2.owns HOB.out (by simp)) hBw
  have HS : Hid (SIn B sb (x.wrs M sync) w2) := hst2
  have HSO : Hid (Sound (x.wrs M sync) (A ++ [b]) (t + 1)) := HF.out.1.batch ht HBO.out hse sync hok2
  have hs2 : Hid (w2.heap[hb]? = some (.cells #[.pointer (some ⟨sb, 0, none⟩), vA, vS, .int .i64 su, .int .i64 la, .bool o0, .bool o1] 36 (0, 0))) := K2'.out.keep HF.out.2.2.1 (by simp)
  have HWo2 : Hid (w2.ownsRow B 49 1 vA A.length Ws) := K2'.out.owns HF.out.2.2.2.1 (by simp)
  have HWr2 : Hid (∀ (i : Nat) (b : List Pr), A[i]? = some b → ∃ vi, Ws[i]? = some vi ∧ w2.ownsRow B 48 3 vi b.length (pcells b)) := fun i b h => by obtain ⟨vi, h1, h2⟩ := HF.out.2.2.2.2.1 i b h; exact ⟨vi, h1, K2'.out.owns h2 (by simp)⟩
  have Hsn2 : Hid (w2.ownsRow B 44 2 vS x.S.length (scells x.S)) := K2'.out.owns HF.out.2.2.2.2.2 (by simp)
  have hBw2 : B ≤ w2.heap.size := Nat.le_trans hBw K2.out.size
  have c1 : w2.cell? ⟨hb, 1, none⟩ = some vA := by simp [World.cell?, hs2.out]
  have hbl2 : hb < w2.heap.size := lt_of_block hs2.out
  clear c0 hse hok2 hst2 hk2 K2' HB1 HOB HBO
  obtain ⟨aoA, capA, rfl⟩ := slice_form HWo2.out
  go_wp2_with (at_builtin; refine wpList_append_own _ rfl _ _ 32 rfl B 49 i0 _ 1 24 Tryz.underlying32 hi hz0 hz1 hz2 rfl (by decide) _ _ _ rfl (HWo2.out.alloc _) ⟨w2.heap.size, 0, none⟩ 1 1 [.slice aob b.length capb] rfl rfl (by exact one_cell w2 _ 49) (by simp [Value.oneCell']) (by unfold maxLen; omega) (by omega) (by simp; omega) ?_)
  intro v9 w3 ho3 hg3 _
  have k3 : Kp B [49] w2 w3 := Kp.grown ((Kp.refl _ _ _).alloc _) (HWo2.out.alloc _) hg3 (Nat.le_refl _) (by simp)
  have hs3 := k3.keep hs2.out (by simp)
  have hfin : AllAt B w3 v9 (A ++ [b]) := AllAt.snoc ho3 hWl (fun i c h => by obtain ⟨vi, h1, h2⟩ := HWr2.out i c h; exact ⟨vi, h1, k3.owns h2 (by simp)⟩) (k3.owns HOB2.out (by simp))
  have HST3 : SIn B sb (x.wrs M sync) w3 := HS.out.kept k3 (by decide)
  have hsn3 := k3.owns Hsn2.out (by simp)
  have c1 : w3.cell? ⟨hb, 1, none⟩ = some (.slice aoA A.length capA) := by simp [World.cell?, hs3]
  have f1 : w3.frozen? ⟨hb, 1, none⟩ = false := by simp [World.frozen?, hs3]
  have k4 := Kp.field HF.out.2.1 hs3 1 v9
  have hs4 := heap_setCell_same w3 hb 1 _ 36 v9 hs3
  simp only [List.setIfInBounds_toArray, List.set_cons_succ, List.set_cons_zero] at hs4
  generalize hw4 : w3.setCell ⟨hb, 1, none⟩ v9 = w4 at k4 hs4
  have HW4 : Hid (w3.setCell ⟨hb, 1, none⟩ v9 = w4) := hw4
  have c1' : w4.cell? ⟨hb, 1, none⟩ = some v9 := by simp [World.cell?, hs4]
  have c3' : w4.cell? ⟨hb, 3, none⟩ = some (.int .i64 su) := by simp [World.cell?, hs4]
  have f3' : w4.frozen? ⟨hb, 3, none⟩ = false := by simp [World.frozen?, hs4]
  have hbl4 : hb < w4.heap.size := lt_of_block hs4
  have HK4 : Hid (Kp B turned w w4) := (K2.out.trans (k3.mono (by simp [turned]))).trans (k4.mono (by simp [turned]))
  have HALL4 : Hid (AllAt B w4 v9 (A ++ [b])) := hfin.kept k4 (by simp) (by simp)
  have HST4 : Hid (SIn B sb (x.wrs M sync) w4) := HST3.kept k4 (by decide)
  have HSN4 : Hid (w4.ownsRow B 44 2 vS x.S.length (scells x.S)) := k4.owns hsn3 (by simp)
  have HS4 : Hid (w4.heap[hb]? = some (.cells #[.pointer (some ⟨sb, 0, none⟩), v9, vS, .int .i64 su, .int .i64 la, .bool o0, .bool o1] 36 (0, 0))) := hs4
  obtain ⟨ao9, cap9, rfl⟩ := slice_form ho3
  clear k3 hs3 hfin HST3 hsn3 k4 hs4 hw4 ho3 hg3 HWr2 Hsn2 HS hs2 HWo2 K2 HOB2
  cases sync with
  | false =>
    go_wp2_with (rw [HW4.out])
    go_ret
    exact ⟨rfl, _, A ++ [b], ⟨sb, _, _, _, _, _, _, HF.out.2.1, HS4.out, HST4.out, HALL4.out, HSN4.out, HSU.out.1, HSU.out.2.1, HSU.out.2.2.1, HSU.out.2.2.2.1⟩, HSO.out, HK4.out⟩
  | true =>
    have k5 := Kp.field HF.out.2.1 HS4.out 3 (.int .i64 ((A.length : Int) + 1))
    have hs5 := heap_setCell_same w4 hb 3 _ 36 (.int .i64 ((A.length : Int) + 1)) HS4.out
    simp only [List.setIfInBounds_toArray, List.set_cons_succ, List.set_cons_zero] at hs5
    generalize hw5 : w4.setCell ⟨hb, 3, none⟩ (.int .i64 ((A.length : Int) + 1)) = w5 at k5 hs5
    have HW5 : Hid (w4.setCell ⟨hb, 3, none⟩ (.int .i64 ((A.length : Int) + 1)) = w5) := hw5
    have c1'' : w5.cell? ⟨hb, 1, none⟩ = some (.slice ao9 (A.length + 1) cap9) := by simp [World.cell?, hs5]
    have hbl5 : hb < w5.heap.size := lt_of_block hs5
    have HFIN : Hid (StepPost B hb t w (.returned (.bool true)) w5) := ⟨rfl, _, A ++ [b], ⟨sb, _, _, _, _, _, _, HF.out.2.1, hs5, HST4.out.kept k5 (by decide), HALL4.out.kept k5 (by simp) (by simp), k5.owns HSN4.out (by simp), (by have := HSU.out.2.2.2.2; show (A.length : Int) + 1 = x.la + ((x.B ++ [M]).length : Nat); rw [List.length_append]; simp only [List.length_cons, List.length_nil]; omega), HSU.out.2.1, HSU.out.2.2.1, HSU.out.2.2.2.1⟩, HSO.out, HK4.out.trans (k5.mono (by simp [turned]))⟩
    clear k5 hs5 hw5
    go_wp2_with (first | rw [HW4.out] | rw [HW5.out])
    go_ret
    exact HFIN.out
end Go.Proofs.YtakipjofboipmaaGreat

/- The walks of this proof: a snapshot is taken. -/
namespace Go.Proofs.YtakipjofboipmaaGreat
open Go.RowKit Go.Sort

theorem Tryz.info44 : (Tryz.prog.info? 44).map (fun i => (i.zero, i.size, i.bytes)) = some (some (.agg #[.int .i64 0, .int .i64 0]), 2, 16) := by kernel_rfl

theorem Sound.snap {x : St} {A : List (List Pr)} {t : Nat} (h : Sound x A t) (h4 : x.S.length < 4) :
    Sound { x with S := x.S ++ [⟨x.lastSnap + 1, x.last⟩], lastSnap := x.lastSnap + 1 } A (t + 1) := by
  have hlast := h.sh.last
  have b1 := h.b1
  have b2 := h.b2
  have b3 := h.b3
  have b4 := h.b4
  have l0 := h.ls0
  refine ⟨⟨h.sh.st.snap h4, hlast, h.sh.rel, h.sh.ok, h.sh.few⟩, ?_, ?_, by simp only; omega, by omega, by simp only; omega, by simp only; omega, by simp only; omega⟩
  · rw [List.pairwise_append]
    refine ⟨h.snp, by simp, fun a ha b hb => ?_⟩
    obtain rfl := List.mem_singleton.1 hb
    have := h.snr a ha
    simp only
    omega
  · intro s hs
    rcases List.mem_append.1 hs with h1 | h1
    · have := h.snr s h1
      simp only
      omega
    · obtain rfl := List.mem_singleton.1 h1
      simp only
      omega

theorem Sound.drop {x : St} {A : List (List Pr)} {t : Nat} (h : Sound x A t) (i : Nat) : Sound { x with S := x.S.eraseIdx i } A t := by
  have hsub := List.eraseIdx_sublist x.S i
  exact ⟨⟨h.sh.st.drop i, h.sh.last, h.sh.rel, h.sh.ok, h.sh.few⟩, h.snp.sublist hsub, fun s hs => h.snr s (hsub.subset hs), h.ls0, h.b1, h.b2, h.b3, h.b4⟩

theorem two_cells (w : World) (s : Sn) (N : Nat) (hN : N = w.heap.size) : ∀ j u, (Sn.cells s)[j]? = some u → (w.alloc (.cells #[.int .i64 s.n, .int .i64 s.q] 44)).cell? ((⟨N, 0, none⟩ : Addr).add j) = some u := by
  subst hN
  intro j u hj
  match j, hj with
  | 0, hj => simp [Sn.cells] at hj; subst hj; simp [Addr.add]
  | 1, hj => simp [Sn.cells] at hj; subst hj; simp [Addr.add]
  | j + 2, hj => simp [Sn.cells] at hj

theorem snaps69_snoc {w : World} {B : Nat} {v : Value} {S : List Sn} {s : Sn} (h : w.ownsRow B 44 2 v (S.length + 1) (scells S ++ Sn.cells s)) : w.ownsRow B 44 2 v (S ++ [s]).length (scells (S ++ [s])) := by
  have e : scells (S ++ [s]) = scells S ++ Sn.cells s := by simp [scells]
  rw [e, List.length_append]
  exact h

/-- The shop's list of snapshots is set. -/
theorem put2 {B hb : Nat} {x : St} {A : List (List Pr)} {w : World} {sb : Nat} {vA vS : Value} {su la : Int} {o0 o1 : Bool} (v : Value) (hB : B ≤ hb) (hs : w.heap[hb]? = some (.cells #[.pointer (some ⟨sb, 0, none⟩), vA, vS, .int .i64 su, .int .i64 la, .bool o0, .bool o1] 36 (0, 0)))
    (hst : SIn B sb x w) (hall : AllAt B w vA A) (hn : w.ownsRow B 44 2 v x.S.length (scells x.S)) (hu : su = x.la + x.sy ∧ la = x.la ∧ o0 = decide (hasT x.T 0) ∧ o1 = decide (hasT x.T 1)) : ShopAt B hb x A (w.setCell ⟨hb, 2, none⟩ v) := by
  have k := Kp.field hB hs 2 v
  have h := heap_setCell_same w hb 2 _ 36 v hs
  simp only [List.setIfInBounds_toArray, List.set_cons_succ, List.set_cons_zero] at h
  exact ⟨sb, vA, v, su, la, o0, o1, hB, h, hst.kept k (by decide), hall.kept k (by simp) (by simp), k.owns hn (by simp), hu⟩

set_option maxHeartbeats 2000000 in
set_option maxRecDepth 100000 in
theorem snapped4_any (B hb : Nat) (x : St) (A : List (List Pr)) (a : Int) (ao : Option Addr) (nl cl : Nat) (f : Bool) (t : Nat) (w : World) (hx : ShopAt B hb x A w) (ok : Sound x A t) (ht : t < 2000000) (hBw : B ≤ w.heap.size) :
    Calls Tryz.prog 45 #[.pointer (some ⟨hb, 0, none⟩), .agg #[.int .i64 4, .int .i64 a, .slice ao nl cl, .bool f]] w fun e w' => StepPost B hb t w e w' := by
  obtain ⟨i0, hi, hz0, hz1, hz2⟩ := info_parts Tryz.info44
  obtain ⟨W, hW⟩ : ∃ W, w.alloc (.cells #[.int .i64 4, .int .i64 a, .slice ao nl cl, .bool f] 28) = W := ⟨_, rfl⟩
  have hbW : Below w.heap.size w W := by rw [← hW]; exact (Below.refl _ _).alloc (Nat.le_refl _) _
  have hxW := hx.below hbW
  obtain ⟨sb, vA, vS, su, la, o0, o1, hB, hs, hst, hall, hsn, hu⟩ := id hxW
  have HU : Hid (su = x.la + x.sy ∧ la = x.la ∧ o0 = decide (hasT x.T 0) ∧ o1 = decide (hasT x.T 1)) := hu
  have c0 : W.cell? ⟨hb, 0, none⟩ = some (.pointer (some ⟨sb, 0, none⟩)) := by simp [World.cell?, hs]
  have c2 : W.cell? ⟨hb, 2, none⟩ = some vS := by simp [World.cell?, hs]
  have d0 : W.cell? ⟨w.heap.size, 0, none⟩ = some (.int .i64 4) := by rw [← hW]; simp
  have hbl : hb < W.heap.size := lt_of_block hs
  have hwl : w.heap.size < W.heap.size := by rw [← hW]; simp
  have HWe : Hid (w.alloc (.cells #[.int .i64 4, .int .i64 a, .slice ao nl cl, .bool f] 28) = W) := hW
  have b4 := ok.b4
  have l0 := ok.ls0
  have hS4 := ok.sh.st.snaps
  have HSN : Hid _ := snap_sin x B sb W hst ok.sh.st ok.ls0 (by omega)
  have HF : Hid (Sound x A t ∧ B ≤ hb ∧ W.heap[hb]? = some (.cells #[.pointer (some ⟨sb, 0, none⟩), vA, vS, .int .i64 su, .int .i64 la, .bool o0, .bool o1] 36 (0, 0)) ∧ AllAt B W vA A ∧ W.ownsRow B 44 2 vS x.S.length (scells x.S) ∧ Kp B turned w W ∧ ShopAt B hb x A W) := ⟨ok, hB, hs, hall, hsn, Kp.of_below hbW, hxW⟩
  have hBW : B ≤ W.heap.size := Nat.le_trans hBw hbW.size
  obtain ⟨aoA, capA, hvA⟩ : ∃ ao cap, vA = .slice ao A.length cap := by obtain ⟨Ws, h, _⟩ := hall; exact slice_form h
  obtain ⟨aoS, capS, hvS⟩ := slice_form hsn
  subst hvA hvS
  clear hx ok hW hbW hxW hs hst hall hsn hu
  go_enter Tryz.func45, Tryz.ntmps45
  go_wp2_with (first | rw [HWe.out])
  refine Calls.mono HSN.out ?_
  clear HSN
  rintro e w2 (⟨h4, rfl, rfl⟩ | ⟨h4, rfl, hst2, hk2⟩)
  · have h4' : ((x.S.length : Int) == 4) = true := by simp [h4]
    clear h4
    go_wp2
    go_ret
    exact ⟨rfl, x, A, HF.out.2.2.2.2.2.2, HF.out.1.mono (Nat.le_succ _), HF.out.2.2.2.2.2.1⟩
  · have hs2 := hk2.keep HF.out.2.2.1 (by simp)
    have c1 : w2.cell? ⟨hb, 1, none⟩ = some (.slice aoA A.length capA) := by simp [World.cell?, hs2]
    have c2 : w2.cell? ⟨hb, 2, none⟩ = some (.slice aoS x.S.length capS) := by simp [World.cell?, hs2]
    have hbl2 : hb < w2.heap.size := lt_of_block hs2
    have hBw2 : B ≤ w2.heap.size := Nat.le_trans hBW hk2.size
    have h4' : ((x.S.length : Int) == 4) = false := by simp; omega
    have HN2 : Hid (w2.ownsRow B 44 2 (.slice aoS x.S.length capS) x.S.length (scells x.S)) := hk2.owns HF.out.2.2.2.2.1 (by simp)
    have HA2 : Hid (AllAt B w2 (.slice aoA A.length capA) A) := HF.out.2.2.2.1.kept hk2 (by simp) (by simp)
    have HK2 : Hid (Kp B turned w w2) := HF.out.2.2.2.2.2.1.trans (hk2.mono (by simp [turned]))
    have HS2 : Hid (SIn B sb { x with S := x.S ++ [⟨x.lastSnap + 1, x.last⟩], lastSnap := x.lastSnap + 1 } w2) := hst2
    have HH2 : Hid (w2.heap[hb]? = some (.cells #[.pointer (some ⟨sb, 0, none⟩), .slice aoA A.length capA, .slice aoS x.S.length capS, .int .i64 su, .int .i64 la, .bool o0, .bool o1] 36 (0, 0))) := hs2
    have HSO : Hid (Sound { x with S := x.S ++ [⟨x.lastSnap + 1, x.last⟩], lastSnap := x.lastSnap + 1 } A (t + 1)) := HF.out.1.snap h4
    have hlast : Hid (x.last = A.length) := HF.out.1.sh.last
    have HHB : Hid (B ≤ hb) := HF.out.2.1
    clear c0 hs2 hk2 hst2 HF
    go_wp2_with fail
    go_region_law (refine step_append_lies _ rfl _ _ 33 rfl B 44 i0 _ 2 16 Tryz.underlying33 hi hz0 hz1 hz2 rfl (by decide) (.slice aoS x.S.length capS) x.S.length (scells x.S) rfl (by exact HN2.out.alloc _) ⟨w2.heap.size, 0, none⟩ 1 1 (Sn.cells ⟨x.lastSnap + 1, A.length⟩) rfl rfl (by exact two_cells w2 ⟨x.lastSnap + 1, A.length⟩ _ rfl) (by intro u hu; simp [Sn.cells] at hu; rcases hu with rfl | rfl <;> rfl) (by omega) (by unfold maxLen; omega) (by omega) (by simp; omega) _ rfl ?_; intro g cap w3 hown hgrow hat hlt; have K3 : Hid (Kp B [44] w2 w3) := Kp.grown ((Kp.refl _ _ _).alloc _).drew (by exact HN2.out.alloc _) hgrow (Nat.le_refl _) (by simp); have c2b : w3.cell? ⟨hb, 2, none⟩ = some (.slice aoS x.S.length capS) := (by simp [World.cell?, K3.out.keep HH2.out (by simp)]); have f2b : w3.frozen? ⟨hb, 2, none⟩ = false := (by simp [World.frozen?, K3.out.keep HH2.out (by simp)]); have HN : Hid (w3.ownsRow B 44 2 (.slice (some ⟨g, 0, none⟩) (x.S.length + 1) cap) (x.S.length + 1) (scells x.S ++ Sn.cells ⟨x.lastSnap + 1, A.length⟩)) := hown; clear hown hgrow hat hlt)
    all_goals go_wp2
    all_goals go_ret
    all_goals exact ⟨congrArg (fun z => Ending.returned (.bool z)) (decide_eq_true (p := 0 < x.lastSnap + 1) (by omega)), _, A, put2 _ HHB.out (K3.out.keep HH2.out (by simp)) (HS2.out.kept K3.out (by decide)) (HA2.out.kept K3.out (by simp) (by simp)) (by have h := HN.out; rw [← hlast.out] at h; exact snaps69_snoc h) HU.out, HSO.out, (HK2.out.trans (K3.out.mono (by simp [turned]))).trans ((Kp.field HHB.out (K3.out.keep HH2.out (by simp)) 2 _).mono (by simp [turned]))⟩
end Go.Proofs.YtakipjofboipmaaGreat
