/- The walks of this proof: a batch written, by its pairs. -/
import Derived.Test.YtakipjofboipmaaGreatJ13
import Derived.Test.YtakipjofboipmaaGreatJ18
namespace Go.Proofs.YtakipjofboipmaaGreat
open Go.RowKit Go.Sort

/-- What writing a batch comes to, by its pairs. -/
def WrtPost (B hb t : Nat) (x : St) (A : List (List Pr)) (w : World) (e : Ending) (w' : World) : Prop :=
  e = .returned (.bool true) ∧ ∃ (M b : List Pr), Settles b M ∧ BOk b ∧ ShopAt B hb (x.wrs M false) (A ++ [b]) w' ∧ Sound (x.wrs M false) (A ++ [b]) (t + 1) ∧ Kp B turned w w'

set_option maxHeartbeats 2000000 in
set_option maxRecDepth 100000 in
theorem writeT_any (B hb : Nat) (x : St) (A : List (List Pr)) (v : Value) (t : Nat) (w : World) (hx : ShopAt B hb x A w) (ok : Sound x A t) (ht : t < 2000000) (hv : RawAt w v) (hBw : B ≤ w.heap.size) :
    Calls Tryz.prog 28 #[.pointer (some ⟨hb, 0, none⟩), v, .bool false] w fun e w' => WrtPost B hb t x A w e w' := by
  obtain ⟨i0, hi, hz0, hz1, hz2⟩ := info_parts Tryz.info49
  obtain ⟨sb, vA, vS, su, la, o0, o1, hB, hs, hst, ⟨Ws, hWo, hWr⟩, hsn, hsu, hla, ho0, ho1⟩ := id hx
  have hWl : Ws.length = A.length := by have := hWo.1; omega
  have c0 : w.cell? ⟨hb, 0, none⟩ = some (.pointer (some ⟨sb, 0, none⟩)) := by simp [World.cell?, hs]
  have HBA : Hid (Calls Tryz.prog 41 #[v] w fun e w' => BatchMade w e w') := batch_any v w hv
  have hbl : hb < w.heap.size := lt_of_block hs
  have b1 := ok.b1
  have b2 := ok.b2
  have b3 := ok.b3
  have HW : Hid (∀ (w1 : World) (vb : Value) (b : List Pr), Below w.heap.size w w1 → w1.ownsRow w.heap.size 48 3 vb b.length (pcells b) → BOk b → Calls Tryz.prog 18 #[.pointer (some ⟨sb, 0, none⟩), vb, .bool false] w1 fun e w' => WrPost B sb x b false w1 e w') := fun w1 vb b h1 h2 h3 =>
    write_sin B sb x b vb w.heap.size false w1 (hst.below h1) ok.sh.st h2 h3.lo h3.hi h3.ok (by rw [ok.sh.last]; omega) (by omega)
  have HSU : Hid (su = x.la + x.sy ∧ la = x.la ∧ o0 = decide (hasT x.T 0) ∧ o1 = decide (hasT x.T 1) ∧ (A.length : Int) = x.la + x.B.length) := ⟨hsu, hla, ho0, ho1, by rw [← ok.sh.last]; exact ok.sh.st.lv.la1⟩
  have HF : Hid (Sound x A t ∧ B ≤ hb ∧ w.heap[hb]? = some (.cells #[.pointer (some ⟨sb, 0, none⟩), vA, vS, .int .i64 su, .int .i64 la, .bool o0, .bool o1] 36 (0, 0)) ∧ w.ownsRow B 49 1 vA A.length Ws ∧ (∀ (i : Nat) (b : List Pr), A[i]? = some b → ∃ vi, Ws[i]? = some vi ∧ w.ownsRow B 48 3 vi b.length (pcells b)) ∧ w.ownsRow B 44 2 vS x.S.length (scells x.S)) := ⟨ok, hB, hs, hWo, hWr, hsn⟩
  have hlast := ok.sh.last
  clear hx ok hst hWo hWr hsn hs hv hsu hla ho0 ho1
  go_enter Tryz.func28, Tryz.ntmps28
  go_wp2_with fail
  refine Calls.mono HBA.out ?_
  rintro e w1 ⟨vb, b, rfl, hob, hbok, hb1⟩
  have c0 := cell_later hb1 c0
  have H2 := HW.out w1 vb b hb1 hob hbok
  have HB1 : Hid (Below w.heap.size w w1) := hb1
  have HOB : Hid (w1.ownsRow w.heap.size 48 3 vb b.length (pcells b)) := hob
  have HBO : Hid (BOk b) := hbok
  have H2' : Hid _ := H2
  have hbl1 : hb < w1.heap.size := Nat.lt_of_lt_of_le hbl hb1.size
  clear hb1 hob hbok H2 HW HBA
  obtain ⟨aob, capb, rfl⟩ := slice_form HOB.out
  go_wp2_with fail
  refine Calls.mono H2'.out ?_
  clear H2'
  rintro e w2 ⟨he, M, hse, hst2, hok2, hk2⟩
  rw [hlast] at he
  subst he
  have K2 : Hid (Kp B turned w w2) := (Kp.of_below HB1.out).trans (hk2.mono (by simp [turned]))
  have K2' : Hid (Kp B [118, 5, 58] w w2) := (Kp.of_below HB1.out).trans hk2
  have HOB2 : Hid (w2.ownsRow B 48 3 (.slice aob b.length capb) b.length (pcells b)) := owns_base (hk2.owns HOB.out (by simp)) hBw
  have HS : Hid (SIn B sb (x.wrs M false) w2) := hst2
  have HSE : Hid (Settles b M ∧ BOk b) := ⟨hse, HBO.out⟩
  have HSO : Hid (Sound (x.wrs M false) (A ++ [b]) (t + 1)) := HF.out.1.batch ht HBO.out hse false hok2
  have hs2 : Hid (w2.heap[hb]? = some (.cells #[.pointer (some ⟨sb, 0, none⟩), vA, vS, .int .i64 su, .int .i64 la, .bool o0, .bool o1] 36 (0, 0))) := K2'.out.keep HF.out.2.2.1 (by simp)
  have HWo2 : Hid (w2.ownsRow B 49 1 vA A.length Ws) := K2'.out.owns HF.out.2.2.2.1 (by simp)
  have HWr2 : Hid (∀ (i : Nat) (b : List Pr), A[i]? = some b → ∃ vi, Ws[i]? = some vi ∧ w2.ownsRow B 48 3 vi b.length (pcells b)) := fun i b h => by obtain ⟨vi, h1, h2⟩ := HF.out.2.2.2.2.1 i b h; exact ⟨vi, h1, K2'.out.owns h2 (by simp)⟩
  have Hsn2 : Hid (w2.ownsRow B 44 2 vS x.S.length (scells x.S)) := K2'.out.owns HF.out.2.2.2.2.2 (by simp)
  have hBw2 : B ≤ w2.heap.size := Nat.le_trans hBw K2.out.size
  have c1 : w2.cell? ⟨hb, 1, none⟩ = some vA := by simp [World.cell?, hs2.out]
  have hbl2 : hb < w2.heap.size := lt_of_block hs2.out
  clear c0 hse hok2 hst2 hk2 K2' HB1 HOB HBO
  obtain ⟨aoA, capA, rfl⟩ := slice_form HWo2.out
  go_wp2_with (at_builtin; refine wpList_append_own _ rfl _ _ 32 rfl B 49 i0 _ 1 24 Tryz.underlying32 hi hz0 hz1 hz2 rfl (by decide) _ _ _ rfl (HWo2.out.alloc _) ⟨w2.heap.size, 0, none⟩ 1 1 [.slice aob b.length capb] rfl rfl (by exact one_cell w2 _ 49) (by simp [Value.oneCell']) (by unfold maxLen; omega) (by omega) (by simp; omega) ?_)
  intro v9 w3 ho3 hg3 _
  have k3 : Kp B [49] w2 w3 := Kp.grown ((Kp.refl _ _ _).alloc _) (HWo2.out.alloc _) hg3 (Nat.le_refl _) (by simp)
  have hs3 := k3.keep hs2.out (by simp)
  have hfin : AllAt B w3 v9 (A ++ [b]) := AllAt.snoc ho3 hWl (fun i c h => by obtain ⟨vi, h1, h2⟩ := HWr2.out i c h; exact ⟨vi, h1, k3.owns h2 (by simp)⟩) (k3.owns HOB2.out (by simp))
  have HST3 : SIn B sb (x.wrs M false) w3 := HS.out.kept k3 (by decide)
  have hsn3 := k3.owns Hsn2.out (by simp)
  have c1 : w3.cell? ⟨hb, 1, none⟩ = some (.slice aoA A.length capA) := by simp [World.cell?, hs3]
  have f1 : w3.frozen? ⟨hb, 1, none⟩ = false := by simp [World.frozen?, hs3]
  have k4 := Kp.field HF.out.2.1 hs3 1 v9
  have hs4 := heap_setCell_same w3 hb 1 _ 36 v9 hs3
  simp only [List.setIfInBounds_toArray, List.set_cons_succ, List.set_cons_zero] at hs4
  generalize hw4 : w3.setCell ⟨hb, 1, none⟩ v9 = w4 at k4 hs4
  have HW4 : Hid (w3.setCell ⟨hb, 1, none⟩ v9 = w4) := hw4
  have c1' : w4.cell? ⟨hb, 1, none⟩ = some v9 := by simp [World.cell?, hs4]
  have c3' : w4.cell? ⟨hb, 3, none⟩ = some (.int .i64 su) := by simp [World.cell?, hs4]
  have f3' : w4.frozen? ⟨hb, 3, none⟩ = false := by simp [World.frozen?, hs4]
  have hbl4 : hb < w4.heap.size := lt_of_block hs4
  have HK4 : Hid (Kp B turned w w4) := (K2.out.trans (k3.mono (by simp [turned]))).trans (k4.mono (by simp [turned]))
  have HALL4 : Hid (AllAt B w4 v9 (A ++ [b])) := hfin.kept k4 (by simp) (by simp)
  have HST4 : Hid (SIn B sb (x.wrs M false) w4) := HST3.kept k4 (by decide)
  have HSN4 : Hid (w4.ownsRow B 44 2 vS x.S.length (scells x.S)) := k4.owns hsn3 (by simp)
  have HS4 : Hid (w4.heap[hb]? = some (.cells #[.pointer (some ⟨sb, 0, none⟩), v9, vS, .int .i64 su, .int .i64 la, .bool o0, .bool o1] 36 (0, 0))) := hs4
  obtain ⟨ao9, cap9, rfl⟩ := slice_form ho3
  clear k3 hs3 hfin HST3 hsn3 k4 hs4 hw4 ho3 hg3 HWr2 Hsn2 HS hs2 HWo2 K2 HOB2
  go_wp2_with (rw [HW4.out])
  go_ret
  exact ⟨rfl, M, b, HSE.out.1, HSE.out.2, ⟨sb, _, _, _, _, _, _, HF.out.2.1, HS4.out, HST4.out, HALL4.out, HSN4.out, HSU.out.1, HSU.out.2.1, HSU.out.2.2.1, HSU.out.2.2.2.1⟩, HSO.out, HK4.out⟩
end Go.Proofs.YtakipjofboipmaaGreat

/- The walks of this proof: the document's own ceiling. -/
namespace Go.Proofs.YtakipjofboipmaaGreat
open Go.RowKit Go.Sort

theorem odd_u32' (a : BitVec 32) : ((a.toNat : Int) % 2 == 1) = a.getLsbD 0 := by
  have e : (a.toNat : Int) % 2 = ((a.toNat % 2 : Nat) : Int) := rfl
  rw [e, BitVec.getLsbD, Nat.testBit_zero]
  by_cases h : a.toNat % 2 = 1
  · simp [h]
  · have : a.toNat % 2 = 0 := by omega
    simp [this]

theorem not_u32' (c : BitVec 32) : bits .xor .u32 c.toNat 4294967295 = (~~~c).toNat := by
  have := bits_xor c 4294967295#32
  rw [show (((4294967295#32).toNat : Nat) : Int) = 4294967295 from rfl] at this
  rw [this]
  have : (4294967295#32 : BitVec 32) = BitVec.allOnes 32 := by decide
  rw [this, BitVec.xor_allOnes]

theorem bs_at {l : List UInt8} {k : Nat} {b : UInt8} (h : l[k]? = some b) : ∀ hk : k < (bs l).size, (bs l)[k]'hk = b := fun hk => by
  obtain ⟨h1, h2⟩ := List.getElem?_eq_some_iff.1 h
  rw [← h2]
  simp [bs, ByteArray.getElem_eq_getElem_data]

set_option maxHeartbeats 2000000 in
set_option maxRecDepth 100000 in
theorem ceilT_any (l : List UInt8) (w : World) (hn : l.length ≤ 1000000) :
    Calls Tryz.prog 67 #[.string (bs l)] w fun e w' => e = .returned (.int .u32 (ceil l).toNat) ∧ w' = w := by
  have hsz : (bs l).size = l.length := bs_size l
  have HCE : Hid (bits .xor .u32 (crc 4294967295#32 l).toNat 4294967295 = (ceil l).toNat) := not_u32' _
  have HIX : Hid (∀ k b, l[k]? = some b → ∀ h : k < (bs l).size, (bs l)[k]'h = b) := fun k b h => bs_at h
  go_enter Tryz.func67, Tryz.ntmps67
  go_wp2
  go_loop [3, 4] (fun s3 i => ∃ (k : Nat), k ≤ l.length ∧ i = .int .i64 k ∧ s3 = .int .u32 (crc 4294967295#32 (l.take k)).toNat) (fun _ i => l.length - (intOf i).toNat)
  case atStart => exact ⟨0, by omega, rfl, rfl⟩
  case round =>
    obtain ⟨k, hk, rfl, rfl⟩ := hrel
    by_cases hlt : k < l.length
    · obtain ⟨b, hlb⟩ : ∃ b, l[k]? = some b := ⟨_, List.getElem?_eq_getElem hlt⟩
      have HT : Hid (l.take (k + 1) = l.take k ++ [b]) := (by rw [List.take_add_one, hlb]; rfl : l.take (k + 1) = l.take k ++ [b])
      have hix := HIX.out k b hlb
      have hb0 : (0 : Int) ≤ b.toNat := by omega
      have hb1 : (b.toNat : Int) ≤ 255 := by have := b.toNat_lt; omega
      clear hlb
      obtain ⟨c, hc⟩ : ∃ c, crc 4294967295#32 (l.take k) = c := ⟨_, rfl⟩
      have HC : Hid (crc 4294967295#32 (l.take k) = c) := hc
      rw [hc]
      clear hc
      have HX : Hid (bits .xor .u32 c.toNat b.toNat = (c ^^^ BitVec.ofNat 32 b.toNat).toNat) := (by
        have := bits_xor c (BitVec.ofNat 32 b.toNat)
        rwa [BitVec.toNat_ofNat, Nat.mod_eq_of_lt (by have := b.toNat_lt; omega)] at this : _ = _)
      go_wp2
      rw [HX.out]
      obtain ⟨c1, hc1⟩ : ∃ c1, c ^^^ BitVec.ofNat 32 b.toNat = c1 := ⟨_, rfl⟩
      have HC1 : Hid (c ^^^ BitVec.ofNat 32 b.toNat = c1) := hc1
      rw [hc1]
      clear hc1
      go_loop [3, 5] (fun s3 i => ∃ (m : Nat), m ≤ 8 ∧ i = .int .i64 m ∧ s3 = .int .u32 (itS m c1).toNat) (fun _ i => 8 - (intOf i).toNat)
      case atStart => exact ⟨0, by omega, rfl, rfl⟩
      case round =>
        obtain ⟨m, hm, rfl, rfl⟩ := hrel
        by_cases hlt : m < 8
        · go_wp2
          · rename_i hb
            rw [odd_u32'] at hb
            refine ⟨⟨m + 1, by omega, by go_num, ?_⟩, by simp [intOf]; omega⟩
            rw [show ((itS m c1).toNat : Int) / 2 = ((itS m c1 >>> (1 : Nat)).toNat : Int) from half_u32 _]
            have := bits_xor (itS m c1 >>> 1) 3988292384#32
            rw [show (((3988292384#32).toNat : Nat) : Int) = 3988292384 from rfl] at this
            rw [this]
            simp only [itS, st1, hb, if_true]
          · rename_i hb
            rw [odd_u32'] at hb
            refine ⟨⟨m + 1, by omega, by go_num, ?_⟩, by simp [intOf]; omega⟩
            rw [show ((itS m c1).toNat : Int) / 2 = ((itS m c1 >>> (1 : Nat)).toNat : Int) from half_u32 _]
            simp only [itS, st1, hb, Bool.false_eq_true, if_false]
        · obtain rfl : m = 8 := by omega
          have HE : Hid (itS 8 c1 = crc 4294967295#32 (l.take (k + 1))) := (by rw [HT.out, crc_snoc, HC.out, HC1.out] : _ = _)
          rw [HE.out]
          go_wp2
          go_round
          case rel => exact ⟨k + 1, by omega, by go_num, rfl⟩
          case measure => simp [intOf]; omega
    · obtain rfl : k = l.length := by omega
      rw [List.take_length]
      obtain ⟨c, hc⟩ : ∃ c, crc 4294967295#32 l = c := ⟨_, rfl⟩
      rw [hc] at HCE ⊢
      clear hc
      go_wp2
      go_ret
      rw [HCE.out]
      exact ⟨rfl, rfl⟩
end Go.Proofs.YtakipjofboipmaaGreat

/- Of a record's bytes: which belong to a key, a value or the ceiling; and what comes of it when one is turned. -/
namespace Go.Proofs.YtakipjofboipmaaGreat
open Go.RowKit Go.Sort

/-- A byte of a key, a value or the ceiling: whatever it is turned to, the body is one of pairs. -/
def PlainIn (M : List Pr) (d : Nat) : Prop :=
  (bodyB M).length ≤ d ∨ ∀ b : UInt8, ∃ M' : List Pr, (∀ p ∈ M', PrOk p) ∧ M'.length = M.length ∧ bodyB M' = (bodyB M).set d b

theorem takeP_body {M : List Pr} (ok : ∀ p ∈ M, PrOk p) (h4 : M.length ≤ 4) (r : List UInt8) : takeP (bodyB M ++ r) = M := by
  unfold takeP bodyB
  have e : (UInt8.ofNat M.length).toNat = M.length := by
    rw [UInt8.toNat_ofNat', Nat.mod_eq_of_lt (by omega)]
  simp only [List.cons_append, tNum, List.drop_succ_cons, List.drop_zero, e]
  rw [tPs_flat M.length M ok (Nat.le_refl _)]
  simp

theorem num4_len (c : BitVec 32) : (num4 c).length = 4 := rfl

theorem recB_pre {M : List Pr} {c r : List UInt8} (hc : c.length = 4) (h : recB M <+: bodyB M ++ (c ++ r)) : num4 (ceil (bodyB M)) = c := by
  unfold recB at h
  rw [List.prefix_append_right_inj] at h
  have h1 := List.prefix_of_prefix_length_le h (List.prefix_append c r) (by rw [hc, num4_len]; exact Nat.le_refl _)
  exact h1.eq_of_length (by rw [hc, num4_len])

theorem set_split {l : List UInt8} {d : Nat} {a b : UInt8} (h : l[d]? = some a) : l = l.take d ++ a :: l.drop (d + 1) ∧ l.set d b = l.take d ++ b :: l.drop (d + 1) := by
  obtain ⟨h1, h2⟩ := List.getElem?_eq_some_iff.1 h
  refine ⟨?_, by rw [List.set_eq_take_append_cons_drop, if_pos h1]⟩
  conv => lhs; rw [← List.take_append_drop d l, List.drop_eq_getElem_cons h1, h2]

/-- No record begins where such a byte of one is turned. -/
theorem norec_turned {M : List Pr} (bt : Bt M) {d : Nat} (hd : d < (recB M).length) (hp : PlainIn M d) {b : UInt8} (hne : (recB M)[d]? ≠ some b) (r : List UInt8) : NoRec ((recB M ++ r).set d b) := by
  intro N hN hpre
  have hN' := takeP_pre hN hpre
  have hset : (recB M ++ r).set d b = (recB M).set d b ++ r := List.set_append_left _ _ hd
  rw [hset] at hpre hN'
  obtain ⟨a, ha⟩ : ∃ a, (recB M)[d]? = some a := ⟨_, List.getElem?_eq_getElem hd⟩
  have hab : a ≠ b := fun e => hne (by rw [ha, e])
  by_cases hb : d < (bodyB M).length
  · rcases hp with hp | hp
    · omega
    · obtain ⟨M', ok', hl', hM'⟩ := hp b
      have e1 : (recB M).set d b = bodyB M' ++ num4 (ceil (bodyB M)) := by
        unfold recB
        rw [List.set_append_left _ _ hb, hM']
      rw [e1, List.append_assoc] at hpre hN'
      rw [takeP_body ok' (by have := bt.hi; omega)] at hN'
      subst hN'
      have h1 := num4_inj (recB_pre (num4_len _) hpre)
      have ha' : (bodyB M)[d]? = some a := by
        have := ha
        unfold recB at this
        rwa [List.getElem?_append_left hb] at this
      obtain ⟨s1, s2⟩ := set_split (b := b) ha'
      rw [hM', s2] at h1
      exact hab (ceil_byte (h1.trans (congrArg ceil s1))).symm
  · have e1 : (recB M).set d b = bodyB M ++ (num4 (ceil (bodyB M))).set (d - (bodyB M).length) b := by
      unfold recB
      rw [List.set_append_right _ _ (by omega)]
    rw [e1, List.append_assoc] at hpre hN'
    rw [takeP_body bt.ok bt.hi] at hN'
    subst hN'
    have h1 := recB_pre (by rw [List.length_set, num4_len]) hpre
    have hl : d - (bodyB M).length < (num4 (ceil (bodyB M))).length := by
      unfold recB at hd
      rw [List.length_append] at hd
      omega
    have h2 : (recB M)[d]? = some b := by
      unfold recB
      rw [List.getElem?_append_right (by omega), h1, List.getElem?_set_self hl]
    exact hne h2

/-- Where the k-th pair's bytes begin, behind the number of pairs. -/
def pl (M : List Pr) (k : Nat) : Nat := ((M.take k).flatMap prB).length

theorem flat_split {M : List Pr} {k : Nat} {p : Pr} (h : M[k]? = some p) : M.flatMap prB = (M.take k).flatMap prB ++ (prB p ++ (M.drop (k + 1)).flatMap prB) := by
  obtain ⟨h1, h2⟩ := List.getElem?_eq_some_iff.1 h
  conv => lhs; rw [← List.take_append_drop k M, List.drop_eq_getElem_cons h1, h2]
  simp

theorem body_at {M : List Pr} {k y : Nat} {p : Pr} {b : UInt8} (h : M[k]? = some p) (hb : (prB p)[y]? = some b) : (bodyB M)[1 + pl M k + y]? = some b := by
  have hy := (List.getElem?_eq_some_iff.1 hb).1
  have e : 1 + pl M k + y = (pl M k + y) + 1 := by omega
  rw [bodyB, e, List.getElem?_cons_succ, flat_split h, pl, List.getElem?_append_right (by omega), Nat.add_sub_cancel_left, List.getElem?_append_left hy]
  exact hb

/-- A pair's bytes turned. -/
theorem body_set {M : List Pr} {k y : Nat} {p p' : Pr} {b : UInt8} (h : M[k]? = some p) (hy : y < (prB p).length) (hp : prB p' = (prB p).set y b) : bodyB (M.set k p') = (bodyB M).set (1 + pl M k + y) b := by
  have hk := (List.getElem?_eq_some_iff.1 h).1
  have h' : (M.set k p')[k]? = some p' := List.getElem?_set_self hk
  have e : 1 + pl M k + y = (pl M k + y) + 1 := by omega
  rw [bodyB, bodyB, List.length_set, e, List.set_cons_succ, flat_split h', flat_split h, hp]
  have e2 : (M.set k p').take k = M.take k := by rw [List.take_set_of_le (Nat.le_refl _)]
  have e3 : (M.set k p').drop (k + 1) = M.drop (k + 1) := by rw [List.drop_set_of_lt (Nat.lt_succ_self _)]
  rw [e2, e3, pl, List.set_append_right _ _ (by omega), Nat.add_sub_cancel_left, List.set_append_left _ _ hy]

theorem pl_succ {M : List Pr} {k : Nat} {p : Pr} (h : M[k]? = some p) : pl M (k + 1) = pl M k + (prB p).length := by
  unfold pl
  rw [List.take_add_one, h]
  simp

theorem size_toList (s : ByteArray) : s.data.toList.length = s.size := by simp [ByteArray.size_data]

/-- A key's bytes. -/
theorem plain_key {M : List Pr} (ok : ∀ p ∈ M, PrOk p) {k e : Nat} {p : Pr} (h : M[k]? = some p) (he : e < p.k.size) : PlainIn M (1 + pl M k + (2 + e)) := by
  right
  intro b
  have hpk := ok p (List.mem_of_getElem? h)
  have hlen : ((p.k.data.toList.set e b).toArray).size = p.k.size := by simp
  refine ⟨M.set k { p with k := ⟨(p.k.data.toList.set e b).toArray⟩ }, fun q hq => ?_, by simp, body_set h ?_ ?_⟩
  · rcases List.mem_or_eq_of_mem_set hq with hq | rfl
    · exact ok q hq
    · have e1 : ByteArray.size ⟨(p.k.data.toList.set e b).toArray⟩ = p.k.size := hlen
      exact ⟨by show 1 ≤ ByteArray.size ⟨_⟩; rw [e1]; exact hpk.lo, by show ByteArray.size ⟨_⟩ ≤ 6; rw [e1]; exact hpk.hi, hpk.val, hpk.gone⟩
  · unfold prB
    split <;> simp only [List.length_cons, List.length_append, txB_len] <;> omega
  · have e1 : ByteArray.size ⟨(p.k.data.toList.set e b).toArray⟩ = p.k.size := hlen
    have e2 : txB ⟨(p.k.data.toList.set e b).toArray⟩ = (txB p.k).set (1 + e) b := by
      unfold txB
      rw [e1, Nat.add_comm 1 e, List.set_cons_succ]
    have hl : 1 + e < (txB p.k).length := by rw [txB_len]; omega
    unfold prB
    simp only
    rw [e2]
    split
    · rw [show 2 + e = (1 + e) + 1 by omega, List.set_cons_succ]
    · rw [show 2 + e = (1 + e) + 1 by omega, List.set_cons_succ, List.set_append_left _ _ hl]

/-- A value's bytes. -/
theorem plain_val {M : List Pr} (ok : ∀ p ∈ M, PrOk p) {k e : Nat} {p : Pr} (h : M[k]? = some p) (hg : p.g = false) (he : e < p.v.size) : PlainIn M (1 + pl M k + (3 + p.k.size + e)) := by
  right
  intro b
  have hpk := ok p (List.mem_of_getElem? h)
  have hlen : ((p.v.data.toList.set e b).toArray).size = p.v.size := by simp
  have e1 : ByteArray.size ⟨(p.v.data.toList.set e b).toArray⟩ = p.v.size := hlen
  refine ⟨M.set k { p with v := ⟨(p.v.data.toList.set e b).toArray⟩ }, fun q hq => ?_, by simp, body_set h ?_ ?_⟩
  · rcases List.mem_or_eq_of_mem_set hq with hq | rfl
    · exact ok q hq
    · exact ⟨hpk.lo, hpk.hi, by show ByteArray.size ⟨_⟩ ≤ 8; rw [e1]; exact hpk.val, fun h => by simp only at h; rw [hg] at h; cases h⟩
  · unfold prB
    rw [hg]
    simp only [Bool.false_eq_true, if_false, List.length_cons, List.length_append, txB_len]
    omega
  · have e2 : txB ⟨(p.v.data.toList.set e b).toArray⟩ = (txB p.v).set (1 + e) b := by
      unfold txB
      rw [e1, Nat.add_comm 1 e, List.set_cons_succ]
    unfold prB
    simp only [hg, Bool.false_eq_true, if_false]
    rw [e2, show 3 + p.k.size + e = (p.k.size + 1 + (1 + e)) + 1 by omega, List.set_cons_succ, List.set_append_right _ _ (by rw [txB_len]; omega), txB_len, Nat.add_sub_cancel_left]
end Go.Proofs.YtakipjofboipmaaGreat

/- The walks of this proof: does a byte belong to a key, a value or the ceiling? -/
namespace Go.Proofs.YtakipjofboipmaaGreat
open Go.RowKit Go.Sort

theorem u8_small {n : Nat} (h : n < 256) : (UInt8.ofNat n).toNat = n := by rw [UInt8.toNat_ofNat', Nat.mod_eq_of_lt (by omega)]

theorem prB_gone {p : Pr} (hg : p.g = true) : (prB p)[0]? = some 1 ∧ (prB p)[1]? = some (UInt8.ofNat p.k.size) ∧ (prB p).length = 2 + p.k.size := by
  unfold prB
  rw [hg]
  refine ⟨rfl, rfl, ?_⟩
  simp only [if_true, List.length_cons, txB_len]
  omega

theorem prB_here {p : Pr} (hg : p.g = false) : (prB p)[0]? = some 0 ∧ (prB p)[1]? = some (UInt8.ofNat p.k.size) ∧ (prB p)[2 + p.k.size]? = some (UInt8.ofNat p.v.size) ∧ (prB p).length = 3 + p.k.size + p.v.size := by
  unfold prB
  rw [hg]
  refine ⟨rfl, rfl, ?_, ?_⟩
  · simp only [Bool.false_eq_true, if_false]
    rw [show 2 + p.k.size = (p.k.size + 1) + 1 by omega, List.getElem?_cons_succ, List.getElem?_append_right (by rw [txB_len]; omega), txB_len, Nat.sub_self]
    rfl
  · simp only [Bool.false_eq_true, if_false, List.length_cons, List.length_append, txB_len]
    omega

/-- What plain comes to. -/
def PlnPost (M : List Pr) (d : Nat) (w : World) (e : Ending) (w' : World) : Prop := ∃ r, e = .returned (.bool r) ∧ (r = true → PlainIn M d) ∧ w' = w

set_option maxHeartbeats 4000000 in
set_option maxRecDepth 100000 in
theorem plain_any (t : List UInt8) (M : List Pr) (fr place : Nat) (w : World) (bt : Bt M) (hpre : recB M <+: t.drop fr) (ht : t.length < 100000000) (h1 : fr ≤ place) (h2 : place < fr + (recB M).length) :
    Calls Tryz.prog 31 #[.string (bs t), .int .i64 fr, .int .i64 place] w fun e w' => PlnPost M (place - fr) w e w' := by
  have hsz : (bs t).size = t.length := bs_size t
  have hrl := hpre.length_le
  rw [List.length_drop] at hrl
  have hbl : (recB M).length = (bodyB M).length + 4 := by simp [recB, num4]
  have HAT : Hid (∀ x y b, (bodyB M)[x]? = some b → fr + x = y → y < t.length ∧ ∀ h : y < (bs t).size, (bs t)[y]'h = b) := fun x y b hb hxy => by
    subst hxy
    have hx := (List.getElem?_eq_some_iff.1 hb).1
    have e : t[fr + x]? = some b := by
      obtain ⟨r, hr⟩ := hpre
      have : (t.drop fr)[x]? = some b := by
        rw [← hr, recB, List.append_assoc, List.getElem?_append_left hx]
        exact hb
      rwa [List.getElem?_drop] at this
    exact ⟨by omega, bs_at e⟩
  have hM4 := bt.hi
  have HB0 : Hid ((bodyB M)[0]? = some (UInt8.ofNat M.length)) := rfl
  obtain ⟨hf0, hf1⟩ := HAT.out 0 fr _ HB0.out rfl
  have hn0 : (UInt8.ofNat M.length).toNat = M.length := u8_small (by omega)
  have HBT : Hid (Bt M) := bt
  have HBL : Hid ((recB M).length = (bodyB M).length + 4) := hbl
  have HPL : Hid (∀ k, k ≤ M.length → 1 + pl M k ≤ (bodyB M).length) := fun k hk => by
    show 1 + ((M.take k).flatMap prB).length ≤ (UInt8.ofNat M.length :: M.flatMap prB).length
    rw [List.length_cons]
    conv => rhs; rw [← List.take_append_drop k M, List.flatMap_append, List.length_append]
    omega
  have HEN : Hid (1 + pl M M.length = (bodyB M).length) := by
    show 1 + ((M.take M.length).flatMap prB).length = (UInt8.ofNat M.length :: M.flatMap prB).length
    rw [List.take_length, List.length_cons]
    omega
  generalize hbb : (bodyB M).length = bl at hbl
  clear hpre bt
  go_enter Tryz.func31, Tryz.ntmps31
  go_wp2
  go_loop [7, 8] (fun s7 s8 => ∃ k : Nat, k ≤ M.length ∧ s7 = .int .i64 ((fr + 1 + pl M k : Nat) : Int) ∧ s8 = .int .i64 ((M.length - k : Nat) : Int)) (fun _ s8 => (intOf s8).toNat)
  case atStart => exact ⟨0, Nat.zero_le _, by simp [pl], by simp⟩
  case round =>
    obtain ⟨k, hk, rfl, rfl⟩ := hrel
    have hpk := HPL.out k hk
    by_cases hlt : k < M.length
    · obtain ⟨p, hp⟩ : ∃ p, M[k]? = some p := ⟨_, List.getElem?_eq_getElem hlt⟩
      have okp := HBT.out.ok p (List.mem_of_getElem? hp)
      have hks := okp.hi
      have hvs := okp.val
      obtain ⟨a, ha⟩ : ∃ a, fr + 1 + pl M k = a := ⟨_, rfl⟩
      obtain ⟨q, hq⟩ : ∃ q, M.length - k = q := ⟨_, rfl⟩
      have hq1 : 0 < q := by omega
      have hq4 : q ≤ 4 := by omega
      have HQ : Hid (M.length - k = q ∧ fr + 1 + pl M k = a ∧ M[k]? = some p ∧ k < M.length) := ⟨hq, ha, hp, hlt⟩
      have HOK : Hid (∀ p ∈ M, PrOk p) := HBT.out.ok
      have haP : fr + 1 ≤ a := by omega
      have hak : a ≤ fr + (bodyB M).length := by have := hpk; omega
      rw [hq, ha]
      clear hq ha hpk
      have HK1 : Hid (∀ ks, ks = p.k.size → a + 2 ≤ place → place < a + 2 + ks → PlnPost M (place - fr) w (.returned (.bool true)) w) := fun ks hks c1 c2 => by
        refine ⟨true, rfl, fun _ => ?_, rfl⟩
        have := plain_key HOK.out HQ.out.2.2.1 (e := place - (a + 2)) (by omega)
        rwa [show 1 + pl M k + (2 + (place - (a + 2))) = place - fr by have := HQ.out.2.1; omega] at this
      by_cases hg : p.g = true
      · obtain ⟨r0, r1, r2⟩ := prB_gone hg
        obtain ⟨x0, y0⟩ := HAT.out _ a _ (body_at hp r0) (by have := HQ.out.2.1; omega)
        obtain ⟨x1, y1⟩ := HAT.out _ (a + 1) _ (body_at hp r1) (by have := HQ.out.2.1; omega)
        have z1 : (UInt8.ofNat p.k.size).toNat = p.k.size := u8_small (by omega)
        have HNX : Hid (fr + 1 + pl M (k + 1) = a + (2 + p.k.size)) := by
          show _ = _
          rw [pl_succ hp, r2]
          have := HQ.out.2.1
          omega
        clear hp r0 r1 r2 hg
        generalize hks2 : p.k.size = ks at *
        clear hks2
        by_cases c1 : a + 2 ≤ place
        · by_cases c2 : place < a + 2 + ks
          · have FIN : Hid (PlnPost M (place - fr) w (.returned (.bool true)) w) := HK1.out ks rfl c1 c2
            go_wp2
            go_ret
            exact FIN.out
          · have c3 : ¬ ((place : Int) < (a : Int) + 2 + ks) := by omega
            go_wp2
            go_round
            case rel => exact ⟨k + 1, HQ.out.2.2.2, by rw [HNX.out]; push_cast; congr 1; omega, by have := HQ.out.1; congr 1; omega⟩
            case measure => simp [intOf]; omega
        · go_wp2
          go_round
          case rel => exact ⟨k + 1, HQ.out.2.2.2, by rw [HNX.out]; push_cast; congr 1; omega, by have := HQ.out.1; congr 1; omega⟩
          case measure => simp [intOf]; omega
      · have hg' : p.g = false := by simpa using hg
        obtain ⟨r0, r1, r3, r2⟩ := prB_here hg'
        obtain ⟨x0, y0⟩ := HAT.out _ a _ (body_at hp r0) (by have := HQ.out.2.1; omega)
        obtain ⟨x1, y1⟩ := HAT.out _ (a + 1) _ (body_at hp r1) (by have := HQ.out.2.1; omega)
        obtain ⟨x3, y3⟩ := HAT.out _ (a + 2 + p.k.size) _ (body_at hp r3) (by have := HQ.out.2.1; omega)
        have z1 : (UInt8.ofNat p.k.size).toNat = p.k.size := u8_small (by omega)
        have z3 : (UInt8.ofNat p.v.size).toNat = p.v.size := u8_small (by omega)
        have HNX : Hid (fr + 1 + pl M (k + 1) = a + (3 + p.k.size + p.v.size)) := by
          show _ = _
          rw [pl_succ hp, r2]
          have := HQ.out.2.1
          omega
        have HK2 : Hid (∀ ks vs, ks = p.k.size → vs = p.v.size → a + 3 + ks ≤ place → place < a + 3 + ks + vs → PlnPost M (place - fr) w (.returned (.bool true)) w) := fun ks vs hks hvs c1 c2 => by
          refine ⟨true, rfl, fun _ => ?_, rfl⟩
          have := plain_val HOK.out HQ.out.2.2.1 hg' (e := place - (a + 3 + ks)) (by omega)
          rwa [show 1 + pl M k + (3 + p.k.size + (place - (a + 3 + ks))) = place - fr by have := HQ.out.2.1; omega] at this
        clear hp r0 r1 r2 r3 hg hg'
        generalize hks2 : p.k.size = ks at *
        clear hks2
        generalize hvs2 : p.v.size = vs at *
        clear hvs2
        by_cases c1 : a + 2 ≤ place
        · by_cases c2 : place < a + 2 + ks
          · have FIN : Hid (PlnPost M (place - fr) w (.returned (.bool true)) w) := HK1.out ks rfl c1 c2
            go_wp2
            go_ret
            exact FIN.out
          · have c3 : ¬ ((place : Int) < (a : Int) + 2 + ks) := by omega
            by_cases d1 : a + 3 + ks ≤ place
            · by_cases d2 : place < a + 3 + ks + vs
              · have FIN : Hid (PlnPost M (place - fr) w (.returned (.bool true)) w) := HK2.out ks vs rfl rfl d1 d2
                go_wp2
                go_ret
                exact FIN.out
              · go_wp2
                go_round
                case rel => exact ⟨k + 1, HQ.out.2.2.2, by rw [HNX.out]; push_cast; congr 1; omega, by have := HQ.out.1; congr 1; omega⟩
                case measure => simp [intOf]; omega
            · go_wp2
              go_round
              case rel => exact ⟨k + 1, HQ.out.2.2.2, by rw [HNX.out]; push_cast; congr 1; omega, by have := HQ.out.1; congr 1; omega⟩
              case measure => simp [intOf]; omega
        · go_wp2
          go_round
          case rel => exact ⟨k + 1, HQ.out.2.2.2, by rw [HNX.out]; push_cast; congr 1; omega, by have := HQ.out.1; congr 1; omega⟩
          case measure => simp [intOf]; omega
    · obtain rfl : k = M.length := by omega
      have HEN2 : Hid (fr + 1 + pl M M.length = fr + bl) := by show _ = _; have := HEN.out; omega
      rw [HEN2.out]
      have FIN : Hid (PlnPost M (place - fr) w (.returned (.bool (decide ((fr : Int) + bl ≤ place)))) w) := ⟨_, rfl, fun h => .inl (by have := of_decide_eq_true h; omega), rfl⟩
      clear hpk
      go_wp2
      go_ret
      exact FIN.out
end Go.Proofs.YtakipjofboipmaaGreat
