/- The walks of this proof: a record. -/
import Derived.Laws.Closers25b
import Derived.Test.YtakipjofboipmaaJ2
import Derived.Test.YtakipjofboipmaaJ1
import Derived.RangeFuncFrom
import Derived.RangeFuncCalls
import Derived.RangeFuncBox
import Derived.RangeFuncLeaves
import Derived.Shelf.Abstract
import Derived.WalkKit
import Derived.OwnWalkIn
import Derived.TacticsInMore
import Derived.LoopNIn
import Derived.LoopIn
import Derived.Maps.AppendAt
import Derived.Sort.QuietIn
import Derived.Sort.LoopGhostIn
import Derived.Deep.RegionHeld
import Derived.Deep.RegionLaw
import Derived.Lib.Overlaps
import Derived.Lib.AppendZerosOnto
namespace Go.Proofs.Ytakipjofboipmaa
open Go.RowKit Go.Sort

theorem wrap_u32 {n : Nat} (h : n < 4294967296) : IntKind.u32.wrap (n : Int) = n := by
  show (n : Int) % 4294967296 = n
  omega

theorem bits_xor (a b : BitVec 32) : bits .xor .u32 a.toNat b.toNat = (a ^^^ b).toNat := by
  show IntKind.u32.wrap ((BitVec.ofInt 32 a.toNat ^^^ BitVec.ofInt 32 b.toNat).toNat : Int) = _
  rw [BitVec.ofInt_natCast, BitVec.ofInt_natCast, BitVec.ofNat_toNat, BitVec.ofNat_toNat, BitVec.setWidth_eq, BitVec.setWidth_eq]
  exact wrap_u32 (a ^^^ b).isLt

theorem bits_and1 (a : BitVec 32) : (bits .and .u32 a.toNat 1 == 1) = a.getLsbD 0 := by
  have e : bits .and .u32 a.toNat 1 = (a &&& 1#32).toNat := by
    show IntKind.u32.wrap ((BitVec.ofInt 32 a.toNat &&& BitVec.ofInt 32 1).toNat : Int) = _
    rw [BitVec.ofInt_natCast, BitVec.ofNat_toNat, BitVec.setWidth_eq]
    exact wrap_u32 (a &&& 1#32).isLt
  rw [e, BitVec.toNat_and]
  show (((a.toNat &&& 1 : Nat) : Int) == 1) = a.getLsbD 0
  rw [Nat.and_one_is_mod, BitVec.getLsbD, Nat.testBit_zero]
  by_cases h : a.toNat % 2 = 1
  · simp [h]
  · have : a.toNat % 2 = 0 := by omega
    simp [this]

theorem half_u32 (a : BitVec 32) : Int.ofNat a.toNat / (2 : Int) = Int.ofNat (a >>> (1 : Nat)).toNat := by
  rw [BitVec.toNat_ushiftRight, Nat.shiftRight_eq_div_pow]
  rfl

set_option maxHeartbeats 1000000 in
set_option maxRecDepth 100000 in
theorem shiftByte_any (c : BitVec 32) (w : World) :
    Calls Try.prog 49 #[.int .u32 c.toNat] w fun e w' => e = .returned (.int .u32 (itS 8 c).toNat) ∧ w' = w := by
  go_enter Try.func49, Try.ntmps49
  go_wp2
  go_loop [0, 4] (fun s0 i => ∃ (k : Nat), k ≤ 8 ∧ i = .int .i64 k ∧ s0 = .int .u32 (itS k c).toNat) (fun _ i => 8 - (intOf i).toNat)
  case atStart => exact ⟨0, by omega, rfl, rfl⟩
  case round =>
    obtain ⟨k, hk, rfl, rfl⟩ := hrel
    by_cases hlt : k < 8
    · go_wp2
      · rename_i hb
        rw [bits_and1] at hb
        refine ⟨⟨k + 1, by omega, by go_num, ?_⟩, by simp [intOf]; omega⟩
        rw [show ((itS k c).toNat : Int) / 2 = ((itS k c >>> (1 : Nat)).toNat : Int) from half_u32 _]
        have := bits_xor (itS k c >>> 1) 3988292384#32
        rw [show (((3988292384#32).toNat : Nat) : Int) = 3988292384 from rfl] at this
        rw [this]
        simp only [itS, st1, hb, if_true]
      · rename_i hb
        rw [bits_and1] at hb
        refine ⟨⟨k + 1, by omega, by go_num, ?_⟩, by simp [intOf]; omega⟩
        rw [show ((itS k c).toNat : Int) / 2 = ((itS k c >>> (1 : Nat)).toNat : Int) from half_u32 _]
        simp only [itS, st1, hb, Bool.false_eq_true, if_false]
    · go_wp2
      go_ret
      obtain rfl : k = 8 := by omega
      exact ⟨rfl, rfl⟩

set_option maxHeartbeats 1000000 in
set_option maxRecDepth 100000 in
theorem appendNumber_any (base : Nat) (v : Value) (l : List UInt8) (c : BitVec 32) (w : World) (h : BR base v l w) (hb : base ≤ w.heap.size) (hn : l.length + 4 ≤ 1000000) :
    Calls Try.prog 35 #[v, .int .u32 c.toNat] w fun e w' => AppPost base (l ++ num4 c) w e w' := by
  obtain ⟨i0, hi, hz0, hz1, hz2⟩ := info_parts Try.info5
  have hown : w.ownsRow base 5 1 v l.length (bcells l) := h
  clear h
  obtain ⟨n, hn0⟩ : ∃ n, l.length = n := ⟨_, rfl⟩
  obtain ⟨R, hR0⟩ : ∃ R, bcells l = R := ⟨_, rfl⟩
  rw [hn0, hR0] at hown
  rw [hn0] at hn
  have HN : Hid (l.length = n) := hn0
  have HR : Hid (bcells l = R) := hR0
  clear hn0 hR0
  obtain ⟨ao, cap, rfl⟩ := slice_form hown
  have h0 : (0 : Int) ≤ c.toNat := by omega
  have h1 : (c.toNat : Int) ≤ 4294967295 := by have := c.isLt; omega
  obtain ⟨x, hx⟩ : ∃ x : Int, (c.toNat : Int) = x := ⟨_, rfl⟩
  have HX : Hid ((c.toNat : Int) = x) := hx
  rw [hx] at h0 h1 ⊢
  clear hx
  go_enter Try.func35, Try.ntmps35
  go_wp2_with (at_builtin; refine wpList_append_own _ rfl (.tmp 5) (.tmp 17) 43 rfl base 5 i0 _ 1 1 Try.underlying43 hi hz0 hz1 hz2 rfl (by decide) _ _ _ rfl (hown.alloc _) ⟨w.heap.size, 0, none⟩ 4 4 (Array.toList _) rfl rfl (World.news_of_block (heap_alloc_new _ _)) ?c2 ?c3 ?c4 ?c5 ?_)
  case c2 => exact ⟨rfl, rfl, rfl, rfl⟩
  case c3 => unfold maxLen; omega
  case c4 => omega
  case c5 => simp; omega
  intro v1 w1 ho1 hg1 _
  have HF : Hid (BR base v1 (l ++ num4 c) w1 ∧ Kp base [5] w w1) := by
    refine ⟨BR.of ho1 ?_ ?_, ((Kp.refl base [5] w).alloc _).grown (hown.alloc _) hg1 (Nat.le_refl _) (by simp)⟩
    · rw [List.length_append, HN.out]; rfl
    · rw [bcells_append, HR.out]
      have hlt := c.isLt
      have hxx := HX.out
      have e0 : (x % 256) = ((UInt8.ofNat c.toNat).toNat : Int) := by rw [UInt8.toNat_ofNat']; omega
      have e1 : (x / 256 % 256) = ((UInt8.ofNat (c.toNat / 256)).toNat : Int) := by rw [UInt8.toNat_ofNat']; omega
      have e2 : (x / 65536 % 256) = ((UInt8.ofNat (c.toNat / 65536)).toNat : Int) := by rw [UInt8.toNat_ofNat']; omega
      have e3 : (x / 16777216) = ((UInt8.ofNat (c.toNat / 16777216)).toNat : Int) := by rw [UInt8.toNat_ofNat']; omega
      simp only [num4, bcells, List.map_cons, List.map_nil]
      rw [e0, e1, e2, e3]
  clear ho1 hg1 hown
  go_wp2
  go_ret
  exact ⟨_, rfl, HF.out⟩

theorem crc_snoc (c : BitVec 32) (l : List UInt8) (b : UInt8) : crc c (l ++ [b]) = itS 8 (crc c l ^^^ BitVec.ofNat 32 b.toNat) := by
  rw [crc_append]; rfl

theorem not_u32 (c : BitVec 32) : bits .xor .u32 4294967295 c.toNat = (~~~c).toNat := by
  have := bits_xor 4294967295#32 c
  rw [show (((4294967295#32).toNat : Nat) : Int) = 4294967295 from rfl] at this
  rw [this]
  have : (4294967295#32 : BitVec 32) = BitVec.allOnes 32 := by decide
  rw [this, BitVec.allOnes_xor]

set_option maxHeartbeats 1000000 in
set_option maxRecDepth 100000 in
theorem ceiling_any (base : Nat) (v : Value) (l : List UInt8) (w : World) (h : BR base v l w) (hn : l.length ≤ 1000000) :
    Calls Try.prog 36 #[v] w fun e w' => e = .returned (.int .u32 (ceil l).toNat) ∧ w' = w := by
  have hown : w.ownsRow base 5 1 v l.length (bcells l) := h
  clear h
  obtain ⟨ao, cap, rfl⟩ := slice_form hown
  have HO : Hid (w.ownsRow base 5 1 (.slice ao l.length cap) l.length (bcells l)) := hown
  have HCE : Hid (bits .xor .u32 IntKind.u32.max (crc 4294967295#32 l).toNat = (ceil l).toNat) := not_u32 _
  clear hown
  go_enter Try.func36, Try.ntmps36
  go_wp2
  go_loop [3, 8] (fun s3 i => ∃ (k : Nat), k ≤ l.length ∧ i = .int .i64 k ∧ s3 = .int .u32 (crc 4294967295#32 (l.take k)).toNat) (fun _ i => l.length - (intOf i).toNat)
  case atStart => exact ⟨0, by omega, rfl, rfl⟩
  case round =>
    obtain ⟨k, hk, rfl, rfl⟩ := hrel
    by_cases hlt : k < l.length
    · obtain ⟨g, cap', hv', _, _⟩ := World.ownsRow.form HO.out (by omega)
      simp only [Value.slice.injEq, true_and] at hv'
      obtain ⟨rfl, rfl⟩ := hv'
      obtain ⟨b, hlb⟩ : ∃ b, l[k]? = some b := ⟨_, List.getElem?_eq_getElem hlt⟩
      have hx : w.cell? ⟨g, k, none⟩ = some (.int .u8 b.toNat) := by
        rw [HO.out.cellAt k (by omega), bcells, List.getElem?_map, hlb]; rfl
      have HT : Hid (l.take (k + 1) = l.take k ++ [b]) := (by rw [List.take_add_one, hlb]; rfl : l.take (k + 1) = l.take k ++ [b])
      have hb0 : (0 : Int) ≤ b.toNat := by omega
      have hb1 : (b.toNat : Int) ≤ 255 := by have := b.toNat_lt; omega
      clear hlb
      obtain ⟨c, hc⟩ : ∃ c, crc 4294967295#32 (l.take k) = c := ⟨_, rfl⟩
      have HC : Hid (crc 4294967295#32 (l.take k) = c) := hc
      rw [hc]
      clear hc
      have HX : Hid (bits .xor .u32 c.toNat b.toNat = (c ^^^ BitVec.ofNat 32 b.toNat).toNat) := (by
        have := bits_xor c (BitVec.ofNat 32 b.toNat)
        rwa [BitVec.toNat_ofNat, Nat.mod_eq_of_lt (by have := b.toNat_lt; omega)] at this : _ = _)
      go_wp2_with fail
      rw [HX.out]
      refine (shiftByte_any _ _).mono ?_
      rintro e w1 ⟨rfl, rfl⟩
      have HE : Hid (itS 8 (c ^^^ BitVec.ofNat 32 b.toNat) = crc 4294967295#32 (l.take (k + 1))) := (by rw [HT.out, crc_snoc, HC.out] : _ = _)
      rw [HE.out]
      go_wp2
      go_round
      case rel => exact ⟨k + 1, by omega, by go_num, rfl⟩
      case measure => simp [intOf]; omega
    · obtain rfl : k = l.length := by omega
      rw [List.take_length]
      obtain ⟨c, hc⟩ : ∃ c, crc 4294967295#32 l = c := ⟨_, rfl⟩
      rw [hc] at HCE ⊢
      clear hc
      go_wp2
      go_ret
      rw [HCE.out]
      exact ⟨rfl, rfl⟩

/-- What Record comes to. -/
def RecPost (M : List Pr) (w : World) (e : Ending) (w' : World) : Prop := ∃ v : Value, e = .returned v ∧ BR w.heap.size v (recB M) w' ∧ Below w.heap.size w w'

theorem body_take {L : List Pr} {k : Nat} {p : Pr} (h : L[k]? = some p) : (L.take (k + 1)).flatMap prB = (L.take k).flatMap prB ++ prB p := by
  rw [List.take_add_one, h]
  simp

set_option maxHeartbeats 1000000 in
set_option maxRecDepth 100000 in
theorem record_any (L : List Pr) (v : Value) (base : Nat) (w : World) (h : w.ownsRow base 30 3 v L.length (pcells L)) (h4 : L.length ≤ 4) (ok : ∀ p ∈ L, PrOk p) :
    Calls Try.prog 22 #[v] w fun e w' => RecPost L w e w' := by
  have HPR : Hid (∀ w', 0 < L.length → Below w.heap.size w w' → ∃ g cap, v = .slice (some ⟨g, 0, none⟩) L.length cap ∧ base ≤ g ∧ g < w.heap.size ∧ L.length ≤ cap ∧ ∀ (k : Nat) p, L[k]? = some p → w'.cell? ⟨g, k * 3, none⟩ = some (.string p.k) ∧ w'.cell? ⟨g, k * 3 + 1, none⟩ = some (.string p.v) ∧ w'.cell? ⟨g, k * 3 + 2, none⟩ = some (.bool p.g)) := fun w' hl hb => pr_cells h hb hl
  obtain ⟨ao, cap, rfl⟩ := slice_form h
  have OK : Hid (∀ p ∈ L, PrOk p) := ok
  clear h ok
  obtain ⟨n0, hn0⟩ : ∃ n0, UInt8.ofNat L.length = n0 := ⟨_, rfl⟩
  have HN0 : Hid (UInt8.ofNat L.length = n0 ∧ (n0.toNat : Int) = (L.length : Int)) := ⟨hn0, by rw [← hn0, byte_of (by omega)]⟩
  clear hn0
  have R0 : Hid (BR w.heap.size (.slice (some ⟨w.heap.size, 0, none⟩) 1 1) (n0 :: ([] : List Pr).flatMap prB) (w.alloc (.cells #[.int .u8 (L.length : Int)] 5))) := BR.of (World.ownsRow_lit w #[.int .u8 (L.length : Int)] 1 (Nat.le_refl _) (by unfold maxLen; omega) rfl) rfl (by simp only [bcells, List.flatMap_nil, List.map_cons, List.map_nil, HN0.out.2])
  have K0 : Hid (∀ o, Kp w.heap.size [5] w (w.alloc o)) := fun o => (Kp.refl _ _ _).alloc o
  go_enter Try.func22, Try.ntmps22
  go_wp2
  go_loopw [3, 12] (fun s3 i wr => ∃ (k : Nat), k ≤ L.length ∧ i = .int .i64 k ∧ Hid (BR w.heap.size s3 (n0 :: (L.take k).flatMap prB) wr ∧ (n0 :: (L.take k).flatMap prB).length ≤ 1 + 17 * k) ∧ Hid (Kp w.heap.size [5] w wr)) (fun _ i _ => L.length - (intOf i).toNat)
  case atStart => exact ⟨0, Nat.zero_le _, rfl, ⟨by rw [List.take_zero]; exact R0.out, by simp⟩, K0.out _⟩
  case round =>
    clear R0 K0
    obtain ⟨k, hk, rfl, HB, HK⟩ := hrel
    have hbel : Below w.heap.size w wr := HK.out.belowB (Nat.le_refl _)
    have hsz : w.heap.size ≤ wr.heap.size := hbel.size
    by_cases hlt : k < L.length
    · obtain ⟨g, cap', hv', _, hgl, hcap, hcell⟩ := HPR.out wr (by omega) hbel
      simp only [Value.slice.injEq, true_and] at hv'
      obtain ⟨rfl, rfl⟩ := hv'
      obtain ⟨p, hp⟩ : ∃ p, L[k]? = some p := ⟨_, List.getElem?_eq_getElem hlt⟩
      obtain ⟨c0, c1, c2⟩ := hcell k p hp
      have OKp : Hid (PrOk p ∧ (prB p).length ≤ 17) := ⟨OK.out p (List.mem_of_getElem? hp), (prB_len (OK.out p (List.mem_of_getElem? hp))).2⟩
      have hgr : g < wr.heap.size := by omega
      have HTK : Hid (n0 :: (L.take (k + 1)).flatMap prB = (n0 :: (L.take k).flatMap prB) ++ prB p) := (by rw [body_take hp]; rfl : _ = _)
      clear hcell hp hbel
      go_wp2_with fail
      refine (appendPair_any w.heap.size _ (n0 :: (L.take k).flatMap prB) p _ (by exact HB.out.1.below ((Below.refl _ _).alloc (Nat.le_refl _) _)) (by simp; omega) (by have := HB.out.2; omega) OKp.out.1).mono ?_
      rintro e w2 ⟨v2, rfl, hbr, hkp⟩
      have HB2 : Hid (BR w.heap.size v2 (n0 :: (L.take (k + 1)).flatMap prB) w2 ∧ (n0 :: (L.take (k + 1)).flatMap prB).length ≤ 1 + 17 * (k + 1)) := by
        rw [HTK.out]
        exact ⟨hbr, by rw [List.length_append]; have := HB.out.2; have := OKp.out.2; omega⟩
      have HK2 : Hid (Kp w.heap.size [5] w w2) := (HK.out.alloc _).trans hkp
      clear hbr hkp
      go_wp2
      go_roundw
      case rel => exact ⟨k + 1, by omega, by go_num, HB2, HK2⟩
      case measure => simp [intOf]; omega
    · clear hbel
      obtain rfl : k = L.length := by omega
      obtain ⟨body, hbody⟩ : ∃ body, n0 :: (L.take L.length).flatMap prB = body := ⟨_, rfl⟩
      rw [hbody] at HB
      have HBO : Hid (body ++ num4 (ceil body) = recB L) := (by rw [← hbody, List.take_length]; unfold recB bodyB; rw [HN0.out.1] : _ = _)
      have hbl : body.length ≤ 100 := by have := HB.out.2; omega
      clear hbody
      go_wp2_with fail
      refine (ceiling_any w.heap.size _ body _ HB.out.1 (by omega)).mono ?_
      rintro e w2 ⟨rfl, rfl⟩
      go_wp2_with fail
      refine (appendNumber_any w.heap.size _ body (ceil body) _ HB.out.1 hsz (by omega)).mono ?_
      rintro e w3 ⟨v3, rfl, hbr, hkp⟩
      rw [HBO.out] at hbr
      have HF : Hid (BR w.heap.size v3 (recB L) w3 ∧ Kp w.heap.size [5] w w3) := ⟨hbr, HK.out.trans hkp⟩
      clear hbr hkp
      go_wp2
      go_ret
      exact ⟨_, rfl, HF.out.1, HF.out.2.belowB (Nat.le_refl _)⟩
end Go.Proofs.Ytakipjofboipmaa

/- The walks of this proof: the entries of a batch. -/
namespace Go.Proofs.Ytakipjofboipmaa
open Go.RowKit Go.Sort

theorem Try.info73 : (Try.prog.info? 73).map (fun i => (i.zero, i.size, i.bytes)) = some (some (.agg #[.string ⟨#[]⟩, .int .i64 0, .bool false, .string ⟨#[]⟩]), 4, 48) := by kernel_rfl

theorem one_entry (w : World) (x : En) (N : Nat) (hN : N = w.heap.size) : ∀ j u, (En.cells x)[j]? = some u → (w.alloc (.cells #[.string x.k, .int .i64 x.s, .bool x.g, .string x.v] 73)).cell? ((⟨N, 0, none⟩ : Addr).add j) = some u := by
  subst hN
  intro j u hj
  match j, hj with
  | 0, hj => simp [En.cells] at hj; subst hj; simp [Addr.add]
  | 1, hj => simp [En.cells] at hj; subst hj; simp [Addr.add]
  | 2, hj => simp [En.cells] at hj; subst hj; simp [Addr.add]
  | 3, hj => simp [En.cells] at hj; subst hj; simp [Addr.add]
  | j + 4, hj => simp [En.cells] at hj

theorem entry_one (x : En) : ∀ u ∈ En.cells x, u.oneCell' = true := by
  intro u hu; simp [En.cells] at hu; rcases hu with rfl | rfl | rfl | rfl <;> rfl

/-- What Entries comes to. -/
def EntPost (L : List Pr) (s : Int) (w : World) (e : Ending) (w' : World) : Prop :=
  ∃ v : Value, e = .returned v ∧ w'.ownsRow w.heap.size 73 4 v (L.map (toEn s)).length (ecells (L.map (toEn s))) ∧ Below w.heap.size w w'

set_option maxHeartbeats 1000000 in
set_option maxRecDepth 100000 in
theorem entries_any (L : List Pr) (v : Value) (base : Nat) (s : Int) (w : World) (h : w.ownsRow base 30 3 v L.length (pcells L)) (h4 : L.length ≤ 4) :
    Calls Try.prog 14 #[v, .int .i64 s] w fun e w' => EntPost L s w e w' := by
  obtain ⟨i0, hi, hz0, hz1, hz2⟩ := info_parts Try.info73
  have HPR : Hid (∀ w', 0 < L.length → Below w.heap.size w w' → ∃ g cap, v = .slice (some ⟨g, 0, none⟩) L.length cap ∧ base ≤ g ∧ g < w.heap.size ∧ L.length ≤ cap ∧ ∀ (k : Nat) p, L[k]? = some p → w'.cell? ⟨g, k * 3, none⟩ = some (.string p.k) ∧ w'.cell? ⟨g, k * 3 + 1, none⟩ = some (.string p.v) ∧ w'.cell? ⟨g, k * 3 + 2, none⟩ = some (.bool p.g)) := fun w' hl hb => pr_cells h hb hl
  obtain ⟨ao, cap, rfl⟩ := slice_form h
  clear h
  obtain ⟨M, hM⟩ : ∃ M, madeCells (Value.agg #[.string ⟨#[]⟩, .int .i64 0, .bool false, .string ⟨#[]⟩]).cells (((L.length : Nat) : Int).toNat * i0.size) = M := ⟨_, rfl⟩
  have hMs : M.size = L.length * 4 := by rw [← hM, size_madeCells, hz1]; simp
  have mk : ∀ W : World, (Instr.makeSlice 35 (.int .i64 0) (.int .i64 (L.length : Int))).run Try.prog W = .ok (.slice (some ⟨W.heap.size, 0, none⟩) 0 L.length) (W.alloc (.cells M 73)) := fun W => by
    have h := run_make (P := Try.prog) W 35 73 i0 (.agg #[.string ⟨#[]⟩, .int .i64 0, .bool false, .string ⟨#[]⟩]) Try.underlying35 hi hz0 .i64 .i64 0 (L.length : Int) (by omega) (by omega) (by rw [hz2]; omega) (by omega)
    rw [hM] at h
    simpa using h
  have OWN0 : Hid ((w.alloc (.cells M 73)).ownsRow w.heap.size 73 4 (.slice (some ⟨w.heap.size, 0, none⟩) 0 L.length) 0 []) := World.ownsRow_made w M L.length (Nat.le_refl _) (by unfold maxLen; omega) hMs
  have B0 : Hid (Below w.heap.size w (w.alloc (.cells M 73))) := (Below.refl _ _).alloc (Nat.le_refl _) _
  clear hM hMs
  go_enter Try.func14, Try.ntmps14
  go_wp2
  go_loopw [5, 13] (fun s5 i wr => ∃ k : Nat, k ≤ L.length ∧ i = .int .i64 k ∧ Hid (wr.ownsRow w.heap.size 73 4 s5 ((L.take k).map (toEn s)).length (ecells ((L.take k).map (toEn s)))) ∧ Hid (Below w.heap.size w wr)) (fun _ i _ => L.length - (intOf i).toNat)
  case atStart => exact ⟨0, Nat.zero_le _, rfl, OWN0.out, B0.out⟩
  case round =>
    clear OWN0 B0 mk
    obtain ⟨k, hk, rfl, HO, HB⟩ := hrel
    have hsz : w.heap.size ≤ wr.heap.size := HB.out.size
    have hlen : ((L.take k).map (toEn s)).length = k := by simp; omega
    by_cases hlt : k < L.length
    · obtain ⟨g, cap', hv', _, hgl, hcap, hcell⟩ := HPR.out wr (by omega) HB.out
      simp only [Value.slice.injEq, true_and] at hv'
      obtain ⟨rfl, rfl⟩ := hv'
      obtain ⟨p, hp⟩ : ∃ p, L[k]? = some p := ⟨_, List.getElem?_eq_getElem hlt⟩
      obtain ⟨c0, c1, c2⟩ := hcell k p hp
      have hgr : g < wr.heap.size := by omega
      have HT : Hid ((L.take (k + 1)).map (toEn s) = (L.take k).map (toEn s) ++ [toEn s p]) := by
        show _ = _
        rw [List.take_add_one, hp]; simp
      rw [hlen] at HO
      obtain ⟨ao5, cap5, rfl⟩ := slice_form HO.out
      clear hcell hp hlen
      go_wp2_with (at_builtin; refine wpList_append_own _ rfl (.tmp 17) (.tmp 26) 35 rfl w.heap.size 73 i0 _ 4 48 Try.underlying35 hi hz0 hz1 hz2 rfl (by decide) _ _ _ rfl (by exact (HO.out.alloc _).alloc _) ⟨wr.heap.size + 1, 0, none⟩ 1 1 (En.cells (toEn s p)) rfl rfl (by exact one_entry (wr.alloc _) (toEn s p) _ (by simp)) (entry_one _) (by unfold maxLen; omega) (by omega) (by simp; omega) ?_)
      intro v9 w2 ho2 hg2 _
      have HB2 : Hid (Below w.heap.size w w2) := ((HB.out.alloc HB.out.size _).alloc (by simp; omega) _).grown hg2 (by simp; omega) fun k hk => (HO.out.lt k hk).1
      have HO2 : Hid (w2.ownsRow w.heap.size 73 4 v9 ((L.take (k + 1)).map (toEn s)).length (ecells ((L.take (k + 1)).map (toEn s)))) := by
        rw [HT.out]
        have e : ecells ((L.take k).map (toEn s) ++ [toEn s p]) = ecells ((L.take k).map (toEn s)) ++ En.cells (toEn s p) := by simp [ecells]
        rw [e, List.length_append, show ((L.take k).map (toEn s)).length = k by simp; omega]
        rw [← List.map_take] at ho2
        exact ho2
      clear ho2 hg2 HO
      go_wp2
      go_roundw
      case rel => exact ⟨k + 1, by omega, by go_num, HO2, HB2⟩
      case measure => simp [intOf]; omega
    · obtain rfl : k = L.length := by omega
      rw [List.take_of_length_le (Nat.le_refl _)] at HO
      clear hlen
      go_wp2
      go_ret
      exact ⟨_, rfl, HO.out, HB.out⟩
end Go.Proofs.Ytakipjofboipmaa

/- The walks of this proof: laying entries together. -/
namespace Go.Proofs.Ytakipjofboipmaa
open Go.RowKit Go.Sort

/-- copy within a row of elements of some cells, the row written out. -/
theorem run_copy_rows {P : Program} (w : World) (dT sT ty elem : TypeId) (i : TypeInfo) (g o dLen dCap sLen sCap n : Nat) (dp sp : Option Addr) (a : Addr) (cur : Array Value) (t : TypeId) (cs : List Value)
    (hu : P.underlying dT = some (.slice elem)) (hi : P.info? elem = some i) (hg : w.heap[g]? = some (.cells cur t (0, 0))) (hn : Nat.min sLen dLen = n) (hcs : cs.length = n * i.size)
    (hpos : 0 < n → dp = some ⟨g, o, none⟩ ∧ sp = some a) (hsrc : ∀ j v, cs[j]? = some v → w.cell? (a.add j) = some v) (hfit : o + cs.length ≤ cur.size) (h1 : ∀ v ∈ cs, v.oneCell' = true) :
    (Builtin.copy_ #[dT, sT] ty #[.slice dp dLen dCap, .slice sp sLen sCap]).run P w = .ok (goInt n) (w.setRow g (cur.toList.take o ++ cs ++ cur.toList.drop (o + cs.length)).toArray) := by
  by_cases h0 : 0 < n
  · obtain ⟨rfl, rfl⟩ := hpos h0
    have hf := run_firstCells_some (P := P) w i.size n a sLen sCap cs hcs hsrc
    have hst := run_storeCells_at P g o t cs 0 cur w hg (by simpa using hfit) h1
    simp only [Nat.add_zero] at hst
    simp [Builtin.copy_, run_underlying hu, Builtin.lenOf, sizeOf, typeInfo, hi, hn, hf, hst]
  · obtain rfl : n = 0 := by omega
    have hc0 : cs = [] := List.eq_nil_of_length_eq_zero (by omega)
    subst hc0
    have hself : w.setRow g (cur.toList.take o ++ [] ++ cur.toList.drop (o + ([] : List Value).length)).toArray = w := by
      simp only [List.append_nil, List.length_nil, Nat.add_zero, List.take_append_drop]
      exact setRow_self w g cur t (0, 0) hg
    rw [hself]
    have hf : (Builtin.firstCells i.size 0 (.slice sp sLen sCap)).run P w = .ok #[] w := by
      cases sp with
      | none => simp [Builtin.firstCells]
      | some b => exact run_firstCells_some (P := P) w i.size 0 b sLen sCap [] (by simp) (by simp)
    cases dp with
    | none => simp [Builtin.copy_, run_underlying hu, Builtin.lenOf, sizeOf, typeInfo, hi, hn, hf]
    | some b => simp [Builtin.copy_, run_underlying hu, Builtin.lenOf, sizeOf, typeInfo, hi, hn, hf, storeCells]

theorem ecells_len (L : List En) : (ecells L).length = L.length * 4 := flat_len _ 4 (fun a => by rfl) L

theorem set4 {β : Type} (a b c d : β) : ∀ (n : Nat) (xs : List β), n + 3 < xs.length → (((xs.set n a).set (n + 1) b).set (n + 2) c).set (n + 3) d = xs.take n ++ [a, b, c, d] ++ xs.drop (n + 4)
  | 0, x :: y :: z :: u :: r, _ => by simp
  | 0, [], h => by simp at h
  | 0, [_], h => by simp at h
  | 0, [_, _], h => by simp at h
  | 0, [_, _, _], h => by simp at h
  | n + 1, [], h => by simp at h
  | n + 1, x :: r, h => by
    have ih := set4 a b c d n r (by simp at h; omega)
    simp only [List.set_cons_succ, List.take_succ_cons, List.cons_append, List.drop_succ_cons]
    rw [ih]

theorem ecells_set (L : List En) (k : Nat) (x : En) (hk : k < L.length) : ((((ecells L).set (k * 4) (.string x.k)).set (k * 4 + 1) (.int .i64 x.s)).set (k * 4 + 2) (.bool x.g)).set (k * 4 + 3) (.string x.v) = ecells (L.set k x) := by
  rw [set4 _ _ _ _ _ _ (by rw [ecells_len]; omega)]
  unfold ecells
  rw [flat_set _ 4 (fun a => by rfl) L k x hk, show k * 4 + 4 = (k + 1) * 4 by omega]
  rfl

/-- An entry stored into a row. -/
theorem put_entry {w : World} {base g cap : Nat} {L : List En} (h : w.ownsRow base 73 4 (.slice (some ⟨g, 0, none⟩) L.length cap) L.length (ecells L)) (k : Nat) (x : En) (hk : k < L.length) :
    ((((w.setCell ⟨g, k * 4, none⟩ (.string x.k)).setCell ⟨g, k * 4 + 1, none⟩ (.int .i64 x.s)).setCell ⟨g, k * 4 + 2, none⟩ (.bool x.g)).setCell ⟨g, k * 4 + 3, none⟩ (.string x.v)).ownsRow base 73 4 (.slice (some ⟨g, 0, none⟩) (L.set k x).length cap) (L.set k x).length (ecells (L.set k x)) := by
  have h4 := ((((h.stored (k * 4) (.string x.k)).1.stored (k * 4 + 1) (.int .i64 x.s)).1.stored (k * 4 + 2) (.bool x.g)).1.stored (k * 4 + 3) (.string x.v)).1
  rw [ecells_set L k x hk] at h4
  rw [List.length_set]; exact h4

/-- A part of a row copied to another place in it. -/
theorem copy_entries {w : World} {base g cap : Nat} {L : List En} (h : w.ownsRow base 73 4 (.slice (some ⟨g, 0, none⟩) L.length cap) L.length (ecells L)) (d s l : Nat) (hs : s + l ≤ L.length) (hd : d + l ≤ L.length) :
    ∃ cur : Array Value, w.heap[g]? = some (.cells cur 73 (0, 0)) ∧ base ≤ g ∧ d * 4 + (ecells ((L.drop s).take l)).length ≤ cur.size ∧
      (∀ j v, (ecells ((L.drop s).take l))[j]? = some v → w.cell? ((⟨g, s * 4, none⟩ : Addr).add j) = some v) ∧
      (w.setRow g (cur.toList.take (d * 4) ++ ecells ((L.drop s).take l) ++ cur.toList.drop (d * 4 + (ecells ((L.drop s).take l)).length)).toArray).ownsRow base 73 4 (.slice (some ⟨g, 0, none⟩) L.length cap) L.length (ecells (L.take d ++ (L.drop s).take l ++ L.drop (d + l))) := by
  have hlen : (ecells ((L.drop s).take l)).length = l * 4 := by rw [ecells_len, List.length_take, List.length_drop, Nat.min_eq_left (by omega)]
  rcases h.2 with ⟨h', _⟩ | ⟨g', cap', cur, hv, hb, hg, hnc, hcm, hsz, htake⟩
  · cases h'
  simp only [Value.slice.injEq, Option.some.injEq, Addr.mk.injEq, and_true, true_and] at hv
  obtain ⟨rfl, rfl⟩ := hv
  refine ⟨cur, hg, hb, by rw [hlen, hsz]; omega, fun j v hj => ?_, ?_⟩
  · have hadd : (⟨g, s * 4, none⟩ : Addr).add j = ⟨g, s * 4 + j, none⟩ := by unfold Addr.add; split <;> simp_all
    have hj' : j < l * 4 := by rw [← hlen]; exact (List.getElem?_eq_some_iff.1 hj).1
    rw [hadd, h.cellAt _ (by omega)]
    have e : ecells ((L.drop s).take l) = ((ecells L).drop (s * 4)).take (l * 4) := by
      unfold ecells
      rw [flat_drop _ 4 (fun a => by rfl), flat_take _ 4 (fun a => by rfl)]
    rw [e, List.getElem?_take, if_pos hj', List.getElem?_drop] at hj
    exact hj
  · refine ⟨?_, .inr ⟨g, cap, _, rfl, hb, setRow_heap w g cur _ 73 _ hg, hnc, hcm, ?_, ?_⟩⟩
    · rw [ecells_len]; simp only [List.length_append, List.length_take, List.length_drop]; omega
    · simp only [List.size_toArray, List.length_append, List.length_take, List.length_drop, Array.length_toList, hlen, hsz]; omega
    · have hA : cur.toList.take (d * 4) = ecells (L.take d) := by
        have : (cur.toList.take (L.length * 4)).take (d * 4) = cur.toList.take (d * 4) := by rw [List.take_take, Nat.min_eq_left (by omega)]
        rw [← this, htake]; exact flat_take _ 4 (fun a => by rfl) L d
      have hC : (cur.toList.drop (d * 4 + l * 4)).take (L.length * 4 - (d * 4 + l * 4)) = ecells (L.drop (d + l)) := by
        rw [← List.drop_take, htake, show d * 4 + l * 4 = (d + l) * 4 by omega]
        exact flat_drop _ 4 (fun a => by rfl) L (d + l)
      show List.take _ (_ ++ _ ++ _) = _
      rw [hlen, hA, List.take_append, List.take_of_length_le (by rw [List.length_append, ecells_len, ecells_len, List.length_take, List.length_take, List.length_drop]; omega)]
      have e2 : L.length * 4 - (ecells (L.take d) ++ ecells ((L.drop s).take l)).length = L.length * 4 - (d * 4 + l * 4) := by
        rw [List.length_append, ecells_len, hlen, List.length_take, Nat.min_eq_left (by omega)]
      rw [e2, hC]
      simp [ecells]
end Go.Proofs.Ytakipjofboipmaa

/- The walks of this proof: (*run).Lay. -/
namespace Go.Proofs.Ytakipjofboipmaa
open Go.RowKit Go.Sort

theorem place_unique {E : List En} {k : ByteArray} {s : Int} {i j : Nat} (hi : IsPlace E k s i) (hj : IsPlace E k s j) : i = j := by
  rcases Nat.lt_trichotomy i j with h | h | h
  · have hl : i < E.length := by have := hj.1; omega
    have h1 := (hj.2 i _ (List.getElem?_eq_getElem hl)).1 h
    have h2 := (hi.2 i _ (List.getElem?_eq_getElem hl)).2 (Nat.le_refl _)
    omega
  · exact h
  · have hl : j < E.length := by have := hi.1; omega
    have h1 := (hi.2 j _ (List.getElem?_eq_getElem hl)).1 h
    have h2 := (hj.2 j _ (List.getElem?_eq_getElem hl)).2 (Nat.le_refl _)
    omega

theorem place_exists (k : ByteArray) (s : Int) : ∀ {E : List En}, Sorted E → ∃ i, IsPlace E k s i
  | [], _ => ⟨0, Nat.le_refl _, fun j e h => by simp at h⟩
  | x :: r, hs => by
    have hr : Sorted r := (List.pairwise_cons.1 hs).2
    by_cases h : oc x.k x.s k s < 0
    · obtain ⟨i, h1, h2⟩ := place_exists k s hr
      refine ⟨i + 1, by simpa using h1, fun j e he => ?_⟩
      cases j with
      | zero => simp at he; subst he; exact ⟨fun _ => h, fun g => by omega⟩
      | succ j =>
        simp at he
        exact ⟨fun g => (h2 j e he).1 (by omega), fun g => (h2 j e he).2 (by omega)⟩
    · refine ⟨0, Nat.zero_le _, fun j e he => ⟨fun g => absurd g (Nat.not_lt_zero _), fun _ => ?_⟩⟩
      cases j with
      | zero => simp at he; subst he; omega
      | succ j =>
        simp at he
        have := (List.pairwise_cons.1 hs).1 e (List.mem_of_getElem? he)
        exact Int.not_lt.1 fun g => h (oc_trans this g)

theorem place_in {E : List En} {k : ByteArray} {s : Int} {p : Nat} (hp : IsPlace E k s p) (v : Value) (w : World) (hn : E.length < 1000000000) (hs : Sorted E) (hc : EnRow w v E) (d : Nat) (os : Array Obj) :
    Calls Try.prog 37 #[v, .string k, .int .i64 s] (grow (redrawn w d) os) fun e w'' => e = .returned (.int .i64 p) ∧ ∃ q : Regrown, w'' = grow (redrawn w q.d) q.os := by
  refine Calls.regrown_of ((place_any E v k s _ hn hs (hc.below (below_regrown w d os))).mono ?_)
  rintro e w' ⟨i, rfl, hi, hb⟩
  rw [place_unique hp hi]
  exact ⟨rfl, hb⟩

/-- What is true of memory while entries are laid together. -/
structure LayAt (D : Nat → Prop) (t : TypeId) (sb g gN n : Nat) (V : Value) (f : List Value) (curN : Array Value) (w0 : World) (row : List En) (w : World) : Prop where
  own : w.ownsRow 0 73 4 V row.length (ecells row)
  sto : w.heap[sb]? = some (.cells (V :: f).toArray t (0, 0))
  new : w.heap[gN]? = some (.cells curN 73 (0, 0))
  kp : Kd D [t, 73] w0 w
  ne : t ≠ 73
  len : row.length = n

theorem LayAt.below {D : Nat → Prop} {t : TypeId} {sb g gN n : Nat} {V : Value} {f : List Value} {curN : Array Value} {w0 w w' : World} {row : List En} (h : LayAt D t sb g gN n V f curN w0 row w) (hb : Below w.heap.size w w') : LayAt D t sb g gN n V f curN w0 row w' :=
  ⟨(Kp.of_below (B := 0) (ts := []) hb).owns h.own (by simp), (hb.block sb (lt_of_block h.sto)).trans h.sto, (hb.block gN (lt_of_block h.new)).trans h.new, h.kp.trans (Kd.of_below hb), h.ne, h.len⟩

/-- A row that turns in place. -/
theorem LayAt.turn {D : Nat → Prop} {t : TypeId} {sb g gN n cap : Nat} {f : List Value} {curN : Array Value} {w0 w w' : World} {row row' : List En} (h : LayAt D t sb g gN n (.slice (some ⟨g, 0, none⟩) n cap) f curN w0 row w) (hgN : g ≠ gN) (hB : D g)
    (hw : ∀ k, k ≠ g → w'.heap[k]? = w.heap[k]?) (hos : w'.os = w.os ∧ w'.tape = w.tape ∧ w'.output = w.output ∧ w'.heap.size = w.heap.size) (ho : w'.ownsRow 0 73 4 (.slice (some ⟨g, 0, none⟩) n cap) row'.length (ecells row')) (hl : row'.length = n) : LayAt D t sb g gN n (.slice (some ⟨g, 0, none⟩) n cap) f curN w0 row' w' := by
  obtain ⟨cur, hg⟩ : ∃ cur, w.heap[g]? = some (.cells cur 73 (0, 0)) := by
    rcases h.own.2 with ⟨h', _⟩ | ⟨g', cap', cur, hv, _, hg, _⟩
    · cases h'
    · simp only [Value.slice.injEq, Option.some.injEq, Addr.mk.injEq, and_true] at hv
      obtain ⟨rfl, _⟩ := hv
      exact ⟨cur, hg⟩
  have hsg : sb ≠ g := fun e => by
    have h1 := h.sto
    rw [e, hg] at h1
    simp only [Option.some.injEq, Obj.cells.injEq] at h1
    exact h.ne h1.2.1.symm
  refine ⟨ho, (hw sb hsg).trans h.sto, (hw gN (Ne.symm hgN)).trans h.new, h.kp.trans ⟨hos.1, hos.2.1, hos.2.2.1, by rw [hos.2.2.2]; exact Nat.le_refl _, fun k _ hor => hw k (fun e => ?_)⟩, h.ne, hl⟩
  subst e
  rcases hor with h1 | h1
  · exact h1 hB
  · exact h1 _ _ _ hg (by simp)

/-- What Lay comes to. -/
def LayPost (E N : List En) (D : Nat → Prop) (t : TypeId) (sb : Nat) (f : List Value) (w : World) (e : Ending) (w' : World) : Prop :=
  e = .returned (.tuple #[]) ∧ ∃ (V : Value) (F : List En), w'.heap[sb]? = some (.cells (V :: f).toArray t (0, 0)) ∧ OwnsIn w' D 73 4 V F.length (ecells F) ∧ Sorted F ∧ (∀ x, x ∈ F ↔ x ∈ E ∨ x ∈ N) ∧ F.length = E.length + N.length ∧ Kd D [t, 73] w w'

set_option maxHeartbeats 2000000 in
set_option maxRecDepth 100000 in
theorem lay_any (E N : List En) (D : Nat → Prop) (sb gN capN : Nat) (vE : Value) (t : TypeId) (fl : List Value) (curN : Array Value) (w : World) (ht : t ≠ 73)
    (hs : w.heap[sb]? = some (.cells (vE :: fl).toArray t (0, 0))) (hB : D sb) (hD : Opn D w) (hE : OwnsIn w D 73 4 vE E.length (ecells E))
    (hg : w.heap[gN]? = some (.cells curN 73 (0, 0))) (hN : w.ownsRow 0 73 4 (.slice (some ⟨gN, 0, none⟩) N.length capN) N.length (ecells N)) (hne : vE.ownBlock ≠ some gN)
    (sE : Sorted E) (sN : Sorted N) (hdis : ∀ y ∈ E, ∀ x ∈ N, ¬ (y.k = x.k ∧ y.s = x.s)) (hle : E.length + N.length < 1000000000) (h1 : 1 ≤ N.length) :
    Calls Try.prog 23 #[.pointer (some ⟨sb, 0, none⟩), .slice (some ⟨gN, 0, none⟩) N.length capN] w fun e w' => LayPost E N D t sb fl w e w' := by
  obtain ⟨i0, hi, hz0, hz1, hz2⟩ := info_parts Try.info73
  obtain ⟨aoE, capE, rfl⟩ := slice_form hE.own
  have hnews : Hid (∀ j u, (ecells N)[j]? = some u → w.cell? ((⟨gN, 0, none⟩ : Addr).add j) = some u) := hN.cells (g := gN) rfl
  have hone : Hid (∀ u ∈ ecells N, u.oneCell' = true) := fun u hu => by
    obtain ⟨x, _, hx⟩ := List.mem_flatMap.1 hu
    exact entry_one x u hx
  have c0 : w.cell? ⟨sb, 0, none⟩ = some (.slice aoE E.length capE) := by simp [World.cell?, hs]
  have HE : Hid (OwnsIn w D 73 4 (.slice aoE E.length capE) E.length (ecells E)) := hE
  have HN : Hid (w.heap[sb]? = some (.cells (.slice aoE E.length capE :: fl).toArray t (0, 0)) ∧ w.heap[gN]? = some (.cells curN 73 (0, 0)) ∧ w.ownsRow 0 73 4 (.slice (some ⟨gN, 0, none⟩) N.length capN) N.length (ecells N) ∧ (Value.slice aoE E.length capE).ownBlock ≠ some gN ∧ Sorted E ∧ Sorted N ∧ ∀ y ∈ E, ∀ x ∈ N, ¬ (y.k = x.k ∧ y.s = x.s)) := ⟨hs, hg, hN, hne, sE, sN, hdis⟩
  have HD : Hid (Opn D w) := hD
  clear hs hE hg hN hne sE sN hdis hD
  go_enter Try.func23, Try.ntmps23
  go_wp2_with (at_builtin; refine wpList_append_lies _ rfl (.tmp 16) (.tmp 17) 35 rfl 0 73 i0 _ 4 48 Try.underlying35 hi hz0 hz1 hz2 rfl (by decide) _ _ _ rfl HE.out.own ⟨gN, 0, none⟩ N.length capN (ecells N) rfl (ecells_len N) hnews.out hone.out (by omega) (by unfold maxLen; omega) (by omega) (Nat.zero_le _) _ rfl ?_)
  intro g cap w1 ho1 hg1 hat hlt
  have K1 : Kd D [73] w w1 := (Kd.refl D [73] w).grown HE.out hg1 (by simp)
  have hgN : g ≠ gN := fun e => by
    subst e
    rcases hat with h | h
    · exact HN.out.2.2.2.1 h
    · have := lt_of_block HN.out.2.1; omega
  have ht2 : ¬ 73 = t := fun e => ht e.symm
  have hs1 := K1.keep HN.out.1 (by simp [ht])
  have hcap : E.length + N.length ≤ cap := by
    rcases ho1.2 with ⟨h, _⟩ | ⟨g', cap', cur, hv, _, _, hnc, _⟩
    · cases h
    · simp only [Value.slice.injEq, true_and] at hv; rw [hv.2]; exact hnc
  have hBg : D g := (HE.out.lies HD.out ho1 hat).dom g rfl
  have L1 : Hid (LayAt D t sb g gN (E.length + N.length) (.slice (some ⟨g, 0, none⟩) (E.length + N.length) cap) fl curN w (E ++ N) (w1.setCell ⟨sb, 0, none⟩ (.slice (some ⟨g, 0, none⟩) (E.length + N.length) cap))) := by
    have kf := Kd.field hB hs1 0 (.slice (some ⟨g, 0, none⟩) (E.length + N.length) cap)
    refine ⟨?_, ?_, ?_, (K1.mono (by simp)).trans (kf.mono (by simp)), ht, by rw [List.length_append]⟩
    · have e : ecells (E ++ N) = ecells E ++ ecells N := by simp [ecells]
      rw [e, List.length_append]
      exact kf.owns ho1 (by simp [ht2])
    · rw [heap_setCell_same _ _ _ _ _ _ hs1]; simp
    · have e1 : w1.heap[gN]? = some (.cells curN 73 (0, 0)) := (hg1.block gN (lt_of_block HN.out.2.1) (fun e => HN.out.2.2.2.1 e.symm)).trans HN.out.2.1
      exact kf.keep e1 (by simp [ht2])
  have c0' : w1.cell? ⟨sb, 0, none⟩ = some (.slice aoE E.length capE) := by simp [World.cell?, hs1]
  have f0' : w1.frozen? ⟨sb, 0, none⟩ = false := by simp [World.frozen?, hs1]
  have HGN : Hid (g ≠ gN) := hgN
  clear ho1 hg1 hat hlt hs1 K1 hgN
  go_wp2
  go_loopg [4, 5] N.length (fun kx s4 s5 wr => ∃ (e i1 : Nat) (J T : List En), s4 = .int .i64 e ∧ ((i1 = 0 ∧ s5 = .int .i64 (-1)) ∨ ∃ i : Nat, i1 = i + 1 ∧ s5 = .int .i64 i) ∧ i1 ≤ kx ∧ J.length = i1 ∧ Hid (LayInv E N e i1 T) ∧ Hid (LayAt D t sb g gN (E.length + N.length) (.slice (some ⟨g, 0, none⟩) (E.length + N.length) cap) fl curN w (E.take e ++ J ++ T) wr))
  case atStart => exact ⟨E.length, N.length, N, [], rfl, .inr ⟨N.length - 1, by omega, by congr 1; omega⟩, by omega, rfl, lay_start E N, by rw [List.append_nil, List.take_of_length_le (Nat.le_refl _)]; exact L1.out⟩
  case round =>
    clear L1 c0 c0' f0'
    obtain ⟨e, i1, J, T, rfl, hi1, hkx, hJ, HI, HL⟩ := hrel
    rcases hi1 with ⟨rfl, rfl⟩ | ⟨i, rfl, rfl⟩
    · obtain rfl : J = [] := List.eq_nil_of_length_eq_zero hJ
      go_wp2
      go_end0
      have hf := lay_end HN.out.2.2.2.2.1 HI.out
      have hr := HL.out
      rw [List.append_nil] at hr
      refine ⟨rfl, _, E.take e ++ T, hr.sto, ⟨by simpa using hr.own, fun g2 hg2 => by simp only [Value.ownBlock, Option.some.injEq] at hg2; subst hg2; exact hBg⟩, hf.1, hf.2.1, hf.2.2, hr.kp⟩
    · have hil : i < N.length := by have := HI.out.li; omega
      have hel : e ≤ E.length := HI.out.le
      obtain ⟨x, hx⟩ : ∃ x, N[i]? = some x := ⟨_, List.getElem?_eq_getElem hil⟩
      have hte : (E.take e).length = e := by rw [List.length_take, Nat.min_eq_left hel]
      obtain ⟨p, hp⟩ := place_exists x.k x.s (E := E.take e) (List.Pairwise.sublist (List.take_sublist _ _) HN.out.2.2.2.2.1)
      have hpe : p ≤ e := by have := hp.1; omega
      have HI2 : Hid (LayInv E N p i (x :: ((E.take e).drop p ++ T))) := lay_step HN.out.2.2.2.2.1 HN.out.2.2.2.2.2.1 HI.out hx hp (fun y hy => HN.out.2.2.2.2.2.2 y hy x (List.mem_of_getElem? hx))
      have nc : ∀ f, f < 4 → wr.cell? ⟨gN, i * 4 + f, none⟩ = (En.cells x)[f]? := fun f hf => by
        rw [World.cell?_of_block (w := w) (a := ⟨gN, i * 4 + f, none⟩) (HL.out.new.trans HN.out.2.1.symm), HN.out.2.2.1.cellAt _ (by omega)]
        exact flat_get _ 4 (fun a => by rfl) N i x f hx hf
      have n0 : wr.cell? ⟨gN, i * 4, none⟩ = some (.string x.k) := nc 0 (by omega)
      have n1 : wr.cell? ⟨gN, i * 4 + 1, none⟩ = some (.int .i64 x.s) := nc 1 (by omega)
      have n2 : wr.cell? ⟨gN, i * 4 + 2, none⟩ = some (.bool x.g) := nc 2 (by omega)
      have n3 : wr.cell? ⟨gN, i * 4 + 3, none⟩ = some (.string x.v) := nc 3 (by omega)
      have s0 : wr.cell? ⟨sb, 0, none⟩ = some (.slice (some ⟨g, 0, none⟩) (E.length + N.length) cap) := by simp [World.cell?, HL.out.sto]
      have n0' := cell_regrown n0
      have n1' := cell_regrown n1
      have s0' := cell_regrown s0
      have ER : Hid (EnRow wr (.slice (some ⟨g, 0, none⟩) e cap) (E.take e)) := by
        refine .inr ⟨g, cap, by rw [hte], by omega, fun j y hy => ?_⟩
        have hy2 : (E.take e ++ J ++ T)[j]? = some y := by
          have hj : j < (E.take e).length := (List.getElem?_eq_some_iff.1 hy).1
          rw [List.append_assoc, List.getElem?_append_left hj]; exact hy
        have hown := HL.out.own
        obtain ⟨g', cap', hv, _, _, _, hcell⟩ := row_cell (fun a => by rfl) hown (by have := (List.getElem?_eq_some_iff.1 hy2).1; omega)
        simp only [Value.slice.injEq, Option.some.injEq, Addr.mk.injEq, and_true] at hv
        obtain ⟨rfl, _, rfl⟩ := hv
        exact ⟨hcell j y 0 hy2 (by omega), hcell j y 1 hy2 (by omega), hcell j y 2 hy2 (by omega), hcell j y 3 hy2 (by omega)⟩
      have HSE : Hid (Sorted (E.take e)) := List.Pairwise.sublist (List.take_sublist _ _) HN.out.2.2.2.2.1
      have HP : Hid (IsPlace (E.take e) x.k x.s p) := hp
      have HX : Hid (N[i]? = some x) := hx
      have hen : (E.take e).length < 1000000000 := by omega
      have hec : (e : Int) ≤ (cap : Int) := by omega
      have hecn : e ≤ cap := by omega
      have hiN : (i : Int) < (N.length : Int) := by omega
      clear nc hp hx
      go_wp2
      refine wp_region_quiet_below (by kernel_rfl) (by kernel_rfl) ?_
      repeat (first | go_big_quiet_step (exact place_in HP.out _ _ hen HSE.out ER.out _ _) | quiet_step (exact place_in HP.out _ _ hen HSE.out ER.out _ _))
      refine wpQuiet_nil ?_
      intro w2 hw'
      have hb := below_of_regrown hw'
      have HL2 : Hid (LayAt D t sb g gN (E.length + N.length) (.slice (some ⟨g, 0, none⟩) (E.length + N.length) cap) fl curN w (E.take e ++ J ++ T) w2) := HL.out.below hb
      have n0 := cell_later hb n0
      have n1 := cell_later hb n1
      have n2 := cell_later hb n2
      have n3 := cell_later hb n3
      have s0 := cell_later hb s0
      have hTl : e + (i + 1) + T.length = E.length + N.length := HI.out.len
      clear hb hw' n0' n1' s0' ER HL HSE HP HI
      have s0' := cell_regrown s0
      have hrow : (E.take e ++ J ++ T).length = E.length + N.length := HL2.out.len
      have hce1 : ¬ cap = p := by omega
      go_wp2
      refine wp_region_quiet_tail 16 (by kernel_rfl) (by kernel_rfl) ?_
      simp only [List.take_succ_cons, List.take_zero, List.drop_succ_cons, List.drop_zero]
      have HCP : Hid (∀ w3, Below w2.heap.size w2 w3 → ∃ arr : Array Value, (∀ (ty dCap sCap : Nat) (dp : Option Addr), (p < e → dp = some ⟨g, (p + i + 1) * 4, none⟩) → (Builtin.copy_ #[35, 35] ty #[.slice dp (E.length + N.length - (p + i + 1)) dCap, .slice (some ⟨g, p * 4, none⟩) (e - p) sCap]).run Try.prog w3 = .ok (goInt ((e - p : Nat) : Int)) (w3.setRow g arr)) ∧
          LayAt D t sb g gN (E.length + N.length) (.slice (some ⟨g, 0, none⟩) (E.length + N.length) cap) fl curN w ((E.take e ++ J ++ T).take (p + i + 1) ++ ((E.take e ++ J ++ T).drop p).take (e - p) ++ (E.take e ++ J ++ T).drop (p + i + 1 + (e - p))) (w3.setRow g arr)) := fun w3 hb3 => by
        have hl3 := HL2.out.below hb3
        have hown := hl3.own
        rw [← hrow] at hown
        obtain ⟨cur, hg3, _, hfit, hsrc, hnew⟩ := copy_entries hown (p + i + 1) p (e - p) (by rw [hrow]; omega) (by rw [hrow]; omega)
        refine ⟨_, fun ty dCap sCap dp hdp => run_copy_rows w3 35 35 ty 73 i0 g ((p + i + 1) * 4) _ dCap _ sCap (e - p) dp _ ⟨g, p * 4, none⟩ cur 73 (ecells (((E.take e ++ J ++ T).drop p).take (e - p))) Try.underlying35 hi hg3 (Nat.min_eq_left (by omega)) (by rw [ecells_len, List.length_take, List.length_drop, hrow, hz1]; congr 1; omega) (fun h => ⟨hdp (by omega), rfl⟩) hsrc hfit (fun u hu => by
          obtain ⟨y, _, hy⟩ := List.mem_flatMap.1 hu
          exact entry_one y u hy), ?_⟩
        refine hl3.turn HGN.out hBg (fun k hk => setRow_other _ _ _ _ hk) ⟨rfl, rfl, rfl, by simp⟩ ?_ ?_
        · have hl' : ((E.take e ++ J ++ T).take (p + i + 1) ++ ((E.take e ++ J ++ T).drop p).take (e - p) ++ (E.take e ++ J ++ T).drop (p + i + 1 + (e - p))).length = (E.take e ++ J ++ T).length := by
            simp only [List.length_append, List.length_take, List.length_drop] at hrow ⊢; omega
          rw [hl']
          rw [hrow] at hnew ⊢
          exact hnew
        · simp only [List.length_append, List.length_take, List.length_drop] at hrow ⊢; omega
      rcases Decidable.em (cap = p + i + 1) with hce | hce
      · subst hce
        repeat (first | go_big_quiet_step (fail) | quiet_step (fail))
        refine wpQuiet_nil ?_
        intro w3 hw'
        have hb := below_of_regrown hw'
        obtain ⟨arr, hcp0, hl4⟩ := HCP.out w3 hb
        have hcp := fun ty dCap sCap => hcp0 ty dCap sCap (some ⟨g, 0, none⟩) (fun h => absurd h (by omega))
        clear hcp0 hb hw' HCP HL2 s0 s0' n0 n1 n2 n3
        have HL4 : Hid _ := hl4
        clear hl4
        have hz : E.length + N.length - (p + i + 1) = 0 := by omega
        simp only [hz] at hcp
        clear hz
        go_wp2_with fail
        clear hcp
        generalize w3.setRow g arr = w4 at HL4 ⊢
        obtain ⟨row1, hrow1⟩ : ∃ row1, (E.take e ++ J ++ T).take (p + i + 1) ++ ((E.take e ++ J ++ T).drop p).take (e - p) ++ (E.take e ++ J ++ T).drop (p + i + 1 + (e - p)) = row1 := ⟨_, rfl⟩
        obtain ⟨J2, hJ2, hset⟩ := lay_row (T := T) (x := x) hel hpe hJ
        rw [hrow1] at HL4 hset
        have HSET : Hid _ := hset
        clear hset hrow1
        have hr1 : row1.length = E.length + N.length := HL4.out.len
        obtain ⟨y, hy⟩ : ∃ y, row1[p + i]? = some y := ⟨_, List.getElem?_eq_getElem (by omega)⟩
        obtain ⟨g', cap', hv, _, _, _, hcell⟩ := row_cell (fun a => by rfl) HL4.out.own (by omega)
        simp only [Value.slice.injEq, Option.some.injEq, Addr.mk.injEq, and_true] at hv
        obtain ⟨rfl, hjk, rfl⟩ := hv
        clear hjk
        have r0 : w4.cell? ⟨g, (p + i) * 4, none⟩ = some (.string y.k) := hcell (p + i) y 0 hy (by omega)
        have r1 : w4.cell? ⟨g, (p + i) * 4 + 1, none⟩ = some (.int .i64 y.s) := hcell (p + i) y 1 hy (by omega)
        have r2 : w4.cell? ⟨g, (p + i) * 4 + 2, none⟩ = some (.bool y.g) := hcell (p + i) y 2 hy (by omega)
        have r3 : w4.cell? ⟨g, (p + i) * 4 + 3, none⟩ = some (.string y.v) := hcell (p + i) y 3 hy (by omega)
        have s0 : w4.cell? ⟨sb, 0, none⟩ = some (.slice (some ⟨g, 0, none⟩) (E.length + N.length) (p + i + 1)) := by simp [World.cell?, HL4.out.sto]
        have nc : ∀ f, f < 4 → w4.cell? ⟨gN, i * 4 + f, none⟩ = (En.cells x)[f]? := fun f hf => by
          rw [World.cell?_of_block (w := w) (a := ⟨gN, i * 4 + f, none⟩) (HL4.out.new.trans HN.out.2.1.symm), HN.out.2.2.1.cellAt _ (by omega)]
          exact flat_get _ 4 (fun a => by rfl) N i x f HX.out hf
        have n0 := cell_regrown (show w4.cell? ⟨gN, i * 4, none⟩ = some (.string x.k) from nc 0 (by omega))
        have n1 := cell_regrown (show w4.cell? ⟨gN, i * 4 + 1, none⟩ = some (.int .i64 x.s) from nc 1 (by omega))
        have n2 := cell_regrown (show w4.cell? ⟨gN, i * 4 + 2, none⟩ = some (.bool x.g) from nc 2 (by omega))
        have n3 := cell_regrown (show w4.cell? ⟨gN, i * 4 + 3, none⟩ = some (.string x.v) from nc 3 (by omega))
        have s0' := cell_regrown s0
        have HR1 : Hid (row1.length = E.length + N.length) := hr1
        clear nc hcell hy s0 hr1
        have hpi : (p : Int) + (i : Int) < (E.length : Int) + (N.length : Int) := by omega
        have hpi0 : (0 : Int) ≤ (p : Int) + (i : Int) := by omega
        have hpin : ((p : Int) + (i : Int)).toNat = p + i := by omega
        refine wp_region_quiet_tail 12 (by kernel_rfl) (by kernel_rfl) ?_
        simp only [List.take_succ_cons, List.take_zero, List.drop_succ_cons, List.drop_zero]
        repeat (first | go_big_quiet_step (fail) | quiet_step (fail))
        refine wpQuiet_nil ?_
        intro w5 hw'
        have hb := below_of_regrown hw'
        have r0 := cell_later hb r0
        have r1 := cell_later hb r1
        have r2 := cell_later hb r2
        have r3 := cell_later hb r3
        have HL5 : Hid (LayAt D t sb g gN (E.length + N.length) (.slice (some ⟨g, 0, none⟩) (E.length + N.length) (p + i + 1)) fl curN w row1 w5) := HL4.out.below hb
        have hfz : ∀ o, w5.frozen? ⟨g, o, none⟩ = false := fun o => by
          rcases HL5.out.own.2 with ⟨h, _⟩ | ⟨g2, cap2, cur, hv, _, hg, _⟩
          · cases h
          · simp only [Value.slice.injEq, Option.some.injEq, Addr.mk.injEq, and_true] at hv
            obtain ⟨rfl, _⟩ := hv
            simp [World.frozen?, hg]
        have HF : Hid (LayAt D t sb g gN (E.length + N.length) (.slice (some ⟨g, 0, none⟩) (E.length + N.length) (p + i + 1)) fl curN w (row1.set (p + i) x) ((((w5.setCell ⟨g, (p + i) * 4, none⟩ (.string x.k)).setCell ⟨g, (p + i) * 4 + 1, none⟩ (.int .i64 x.s)).setCell ⟨g, (p + i) * 4 + 2, none⟩ (.bool x.g)).setCell ⟨g, (p + i) * 4 + 3, none⟩ (.string x.v))) := by
          have hown := HL5.out.own
          rw [← HR1.out] at hown
          have hput := put_entry hown (p + i) x (by have := HR1.out; omega)
          have hl' : (row1.set (p + i) x).length = E.length + N.length := by rw [List.length_set, HR1.out]
          refine HL5.out.turn HGN.out hBg (fun k hk => ?_) ⟨rfl, rfl, rfl, by simp [World.setCell]⟩ ?_ hl'
          · rw [Below.heap_setCell _ _ _ _ hk, Below.heap_setCell _ _ _ _ hk, Below.heap_setCell _ _ _ _ hk, Below.heap_setCell _ _ _ _ hk]
          · rw [hl'] at hput ⊢
            exact hput
        clear hb hw' n0 n1 n2 n3 s0' HL4 HL5
        go_wp2
        go_roundg i
        case measure => omega
        case rel =>
          refine ⟨p, i, J2, x :: ((E.take e).drop p ++ T), rfl, ?_, Nat.le_refl _, hJ2, HI2.out, ?_⟩
          · cases i with
            | zero => exact .inl ⟨rfl, rfl⟩
            | succ i => exact .inr ⟨i, rfl, by congr 1; omega⟩
          · rw [← HSET.out]
            exact HF.out
      ·
        repeat (first | go_big_quiet_step (fail) | quiet_step (fail))
        refine wpQuiet_nil ?_
        intro w3 hw'
        have hb := below_of_regrown hw'
        obtain ⟨arr, hcp0, hl4⟩ := HCP.out w3 hb
        have hcp := fun ty dCap sCap => hcp0 ty dCap sCap (some ⟨g, (p + i + 1) * 4, none⟩) (fun _ => rfl)
        clear hcp0 hb hw' HCP HL2 s0 s0' n0 n1 n2 n3
        have HL4 : Hid _ := hl4
        clear hl4
        go_wp2_with fail
        clear hcp
        generalize w3.setRow g arr = w4 at HL4 ⊢
        obtain ⟨row1, hrow1⟩ : ∃ row1, (E.take e ++ J ++ T).take (p + i + 1) ++ ((E.take e ++ J ++ T).drop p).take (e - p) ++ (E.take e ++ J ++ T).drop (p + i + 1 + (e - p)) = row1 := ⟨_, rfl⟩
        obtain ⟨J2, hJ2, hset⟩ := lay_row (T := T) (x := x) hel hpe hJ
        rw [hrow1] at HL4 hset
        have HSET : Hid _ := hset
        clear hset hrow1
        have hr1 : row1.length = E.length + N.length := HL4.out.len
        obtain ⟨y, hy⟩ : ∃ y, row1[p + i]? = some y := ⟨_, List.getElem?_eq_getElem (by omega)⟩
        obtain ⟨g', cap', hv, _, _, _, hcell⟩ := row_cell (fun a => by rfl) HL4.out.own (by omega)
        simp only [Value.slice.injEq, Option.some.injEq, Addr.mk.injEq, and_true] at hv
        obtain ⟨rfl, hjk, rfl⟩ := hv
        clear hjk
        have r0 : w4.cell? ⟨g, (p + i) * 4, none⟩ = some (.string y.k) := hcell (p + i) y 0 hy (by omega)
        have r1 : w4.cell? ⟨g, (p + i) * 4 + 1, none⟩ = some (.int .i64 y.s) := hcell (p + i) y 1 hy (by omega)
        have r2 : w4.cell? ⟨g, (p + i) * 4 + 2, none⟩ = some (.bool y.g) := hcell (p + i) y 2 hy (by omega)
        have r3 : w4.cell? ⟨g, (p + i) * 4 + 3, none⟩ = some (.string y.v) := hcell (p + i) y 3 hy (by omega)
        have s0 : w4.cell? ⟨sb, 0, none⟩ = some (.slice (some ⟨g, 0, none⟩) (E.length + N.length) cap) := by simp [World.cell?, HL4.out.sto]
        have nc : ∀ f, f < 4 → w4.cell? ⟨gN, i * 4 + f, none⟩ = (En.cells x)[f]? := fun f hf => by
          rw [World.cell?_of_block (w := w) (a := ⟨gN, i * 4 + f, none⟩) (HL4.out.new.trans HN.out.2.1.symm), HN.out.2.2.1.cellAt _ (by omega)]
          exact flat_get _ 4 (fun a => by rfl) N i x f HX.out hf
        have n0 := cell_regrown (show w4.cell? ⟨gN, i * 4, none⟩ = some (.string x.k) from nc 0 (by omega))
        have n1 := cell_regrown (show w4.cell? ⟨gN, i * 4 + 1, none⟩ = some (.int .i64 x.s) from nc 1 (by omega))
        have n2 := cell_regrown (show w4.cell? ⟨gN, i * 4 + 2, none⟩ = some (.bool x.g) from nc 2 (by omega))
        have n3 := cell_regrown (show w4.cell? ⟨gN, i * 4 + 3, none⟩ = some (.string x.v) from nc 3 (by omega))
        have s0' := cell_regrown s0
        have HR1 : Hid (row1.length = E.length + N.length) := hr1
        clear nc hcell hy s0 hr1
        have hpi : (p : Int) + (i : Int) < (E.length : Int) + (N.length : Int) := by omega
        have hpi0 : (0 : Int) ≤ (p : Int) + (i : Int) := by omega
        have hpin : ((p : Int) + (i : Int)).toNat = p + i := by omega
        refine wp_region_quiet_tail 12 (by kernel_rfl) (by kernel_rfl) ?_
        simp only [List.take_succ_cons, List.take_zero, List.drop_succ_cons, List.drop_zero]
        repeat (first | go_big_quiet_step (fail) | quiet_step (fail))
        refine wpQuiet_nil ?_
        intro w5 hw'
        have hb := below_of_regrown hw'
        have r0 := cell_later hb r0
        have r1 := cell_later hb r1
        have r2 := cell_later hb r2
        have r3 := cell_later hb r3
        have HL5 : Hid (LayAt D t sb g gN (E.length + N.length) (.slice (some ⟨g, 0, none⟩) (E.length + N.length) cap) fl curN w row1 w5) := HL4.out.below hb
        have hfz : ∀ o, w5.frozen? ⟨g, o, none⟩ = false := fun o => by
          rcases HL5.out.own.2 with ⟨h, _⟩ | ⟨g2, cap2, cur, hv, _, hg, _⟩
          · cases h
          · simp only [Value.slice.injEq, Option.some.injEq, Addr.mk.injEq, and_true] at hv
            obtain ⟨rfl, _⟩ := hv
            simp [World.frozen?, hg]
        have HF : Hid (LayAt D t sb g gN (E.length + N.length) (.slice (some ⟨g, 0, none⟩) (E.length + N.length) cap) fl curN w (row1.set (p + i) x) ((((w5.setCell ⟨g, (p + i) * 4, none⟩ (.string x.k)).setCell ⟨g, (p + i) * 4 + 1, none⟩ (.int .i64 x.s)).setCell ⟨g, (p + i) * 4 + 2, none⟩ (.bool x.g)).setCell ⟨g, (p + i) * 4 + 3, none⟩ (.string x.v))) := by
          have hown := HL5.out.own
          rw [← HR1.out] at hown
          have hput := put_entry hown (p + i) x (by have := HR1.out; omega)
          have hl' : (row1.set (p + i) x).length = E.length + N.length := by rw [List.length_set, HR1.out]
          refine HL5.out.turn HGN.out hBg (fun k hk => ?_) ⟨rfl, rfl, rfl, by simp [World.setCell]⟩ ?_ hl'
          · rw [Below.heap_setCell _ _ _ _ hk, Below.heap_setCell _ _ _ _ hk, Below.heap_setCell _ _ _ _ hk, Below.heap_setCell _ _ _ _ hk]
          · rw [hl'] at hput ⊢
            exact hput
        clear hb hw' n0 n1 n2 n3 s0' HL4 HL5
        go_wp2
        go_roundg i
        case measure => omega
        case rel =>
          refine ⟨p, i, J2, x :: ((E.take e).drop p ++ T), rfl, ?_, Nat.le_refl _, hJ2, HI2.out, ?_⟩
          · cases i with
            | zero => exact .inl ⟨rfl, rfl⟩
            | succ i => exact .inr ⟨i, rfl, by congr 1; omega⟩
          · rw [← HSET.out]
            exact HF.out
end Go.Proofs.Ytakipjofboipmaa

/- The walks of this proof: whether a snapshot sees from one number to another. -/
namespace Go.Proofs.Ytakipjofboipmaa
open Go.RowKit Go.Sort

/-- A slice value that holds these numbers. -/
def IntRow (w : World) (v : Value) (Q : List Int) : Prop :=
  ∃ ao cap, v = .slice ao Q.length cap ∧ (0 < Q.length → ∃ g, ao = some ⟨g, 0, none⟩ ∧ Q.length ≤ cap ∧ ∀ (k : Nat) q, Q[k]? = some q → w.cell? ⟨g, k, none⟩ = some (.int .i64 q))

theorem IntRow.below {w w' : World} {v : Value} {Q : List Int} (h : IntRow w v Q) (hb : Below w.heap.size w w') : IntRow w' v Q := by
  obtain ⟨ao, cap, hv, h⟩ := h
  refine ⟨ao, cap, hv, fun hl => ?_⟩
  obtain ⟨g, hg, hc, h⟩ := h hl
  exact ⟨g, hg, hc, fun k q hq => cell_later hb (h k q hq)⟩

end Go.Proofs.Ytakipjofboipmaa

/- Plain mathematics of this proof: of one key's entries those that are needed. -/
namespace Go.Proofs.Ytakipjofboipmaa

/-- From i on n entries of one key, and no more. -/
structure IsGrp (O : List En) (i n : Nat) : Prop where
  pos : 0 < n
  le : i + n ≤ O.length
  same : ∀ j a b, j < n → O[i]? = some a → O[i + j]? = some b → b.k = a.k
  more : ∀ a b, O[i]? = some a → O[i + n]? = some b → b.k ≠ a.k

/-- Groups from the head on up to i. -/
def Grps (O : List En) (xs : List (Nat × Nat)) (i : Nat) : Prop :=
  ∀ M : List (Nat × Nat) → Nat → Prop, M [] 0 → (∀ xs i n, M xs i → IsGrp O i n → M (xs ++ [(i, n)]) (i + n)) → M xs i
theorem Grps.nil {O : List En} : Grps O [] 0 := fun _ h _ => h
theorem Grps.snoc {O : List En} {xs : List (Nat × Nat)} {i n : Nat} (h : Grps O xs i) (g : IsGrp O i n) : Grps O (xs ++ [(i, n)]) (i + n) :=
  fun M h0 h1 => h1 _ _ _ (h M h0 h1) g

theorem Grps.len {O : List En} {xs : List (Nat × Nat)} {i : Nat} (h : Grps O xs i) : xs.length ≤ i ∧ i ≤ O.length := by
  refine h (fun xs i => xs.length ≤ i ∧ i ≤ O.length) ⟨Nat.le_refl _, Nat.zero_le _⟩ fun xs i n ih g => ?_
  have := g.pos
  have := g.le
  rw [List.length_append]
  simp
  omega

end Go.Proofs.Ytakipjofboipmaa

/- Plain mathematics of this proof: what is needed of a whole run, and what is seen of it. -/
namespace Go.Proofs.Ytakipjofboipmaa

/-- At these numbers it is seen: those of snapshots, and those above all. -/
def At (Q : List Int) (O : List En) (q : Int) : Prop := q ∈ Q ∨ ∀ e ∈ O, e.s ≤ q

end Go.Proofs.Ytakipjofboipmaa

/- The walks of this proof: writing a batch. -/
namespace Go.Proofs.Ytakipjofboipmaa
open Go.RowKit Go.Sort

/-- What addRecord comes to. -/
def AddPost (D : Nat → Prop) (sb : Nat) (vE vL a2 a3 a4 a5 a6 : Value) (l : List UInt8) (w : World) (e : Ending) (w' : World) : Prop :=
  e = .returned (.tuple #[]) ∧ ∃ v : Value, w'.heap[sb]? = some (.cells #[vE, vL, v, a2, a3, a4, a5, a6] 50 (0, 0)) ∧ OwnsJ w' D v l ∧ Kd D [50, 5] w w'

set_option maxHeartbeats 1000000 in
set_option maxRecDepth 100000 in
theorem addRecord_any (D : Nat → Prop) (B sb : Nat) (vE vL vR a2 a3 a4 a5 a6 v : Value) (l r : List UInt8) (w : World) (hs : w.heap[sb]? = some (.cells #[vE, vL, vR, a2, a3, a4, a5, a6] 50 (0, 0))) (hB : D sb) (hD : Opn D w) (hR : OwnsJ w D vR l) (hv : BR B v r w) (hm : 1 ≤ r.length) (hl : l.length + r.length ≤ 140737488355328) :
    Calls Try.prog 21 #[.pointer (some ⟨sb, 2, none⟩), v] w fun e w' => AddPost D sb vE vL a2 a3 a4 a5 a6 (l ++ r) w e w' := by
  obtain ⟨i0, hi, hz0, hz1, hz2⟩ := info_parts Try.info5
  have ho2 : w.ownsRow B 5 1 v r.length (bcells r) := hv
  clear hv
  obtain ⟨g2, cap2, rfl, hB2, hg2⟩ := ho2.form (by omega)
  have hnews : Hid (∀ j u, (bcells r)[j]? = some u → w.cell? ((⟨g2, 0, none⟩ : Addr).add j) = some u) := ho2.cells (g := g2) rfl
  obtain ⟨aoR, capR, rfl⟩ := hR.form
  have c1 : w.cell? ⟨sb, 2, none⟩ = some (.slice aoR l.length capR) := by simp [World.cell?, hs]
  have HD : Hid (Opn D w) := hD
  have HS : Hid (w.heap[sb]? = some (.cells #[vE, vL, .slice aoR l.length capR, a2, a3, a4, a5, a6] 50 (0, 0))) := hs
  have HO : Hid (OwnsJ w D (.slice aoR l.length capR) l) := hR
  obtain ⟨g1, cap1, w1, hrun, ho1, hg1, hat⟩ := run_append_mark Try.prog w 43 43 i0 Try.underlying43 hi hz0 hz1 hz2 (.slice aoR l.length capR) l r hR.1 ⟨g2, 0, none⟩ cap2 hnews.out (by omega) (by omega)
  have HRUN : Hid ((Builtin.append_ #[43, 43] 43 #[.slice aoR l.length capR, .slice (some ⟨g2, 0, none⟩) r.length cap2]).run Try.prog w = .ok (.slice (some ⟨g1, 0, none⟩) (l.length + r.length) cap1) w1) := hrun
  have K1 : Kd D [5] w w1 := Kd.grownJ HO.out hg1
  have hs1 := K1.keep HS.out (by simp)
  have HF : Hid (AddPost D sb vE vL a2 a3 a4 a5 a6 (l ++ r) w (.returned (.tuple #[])) (w1.setCell ⟨sb, 2, none⟩ (.slice (some ⟨g1, 0, none⟩) (l.length + r.length) cap1))) := by
    have kf := Kd.field hB hs1 2 (.slice (some ⟨g1, 0, none⟩) (l.length + r.length) cap1)
    refine ⟨rfl, .slice (some ⟨g1, 0, none⟩) (l.length + r.length) cap1, by rw [set_field hs1 2 _]; simp, ?_, (K1.mono (by simp)).trans (kf.mono (by simp))⟩
    exact kf.ownsJ (HO.out.lies HD.out ho1 hat) (by simp)
  have c1' : w1.cell? ⟨sb, 2, none⟩ = some (.slice aoR l.length capR) := by simp [World.cell?, hs1]
  have f1' : w1.frozen? ⟨sb, 2, none⟩ = false := by simp [World.frozen?, hs1]
  clear ho2 hs hR hD ho1 hg1 hs1 K1 hat hrun
  go_enter Try.func21, Try.ntmps21
  go_wp2_with (at_builtin; refine wpList_appB _ rfl (.tmp 8) (.tmp 9) 43 43 rfl (.slice aoR l.length capR) (.slice (some ⟨g2, 0, none⟩) r.length cap2) rfl rfl HRUN.out ?_)
  go_wp2
  go_end0
  exact HF.out

theorem below_from_drewN {B d : Nat} {w w' : World} (h : Below B (w.drewN d) w') : Below B w w' := ⟨h.os, h.tape, h.output, h.size, h.block⟩

theorem br_base {B base : Nat} {v : Value} {l : List UInt8} {w : World} (h : BR base v l w) (hb : B ≤ base) : BR B v l w := owns_base h hb

/-- A store in which a batch more was written. -/
def St.wr (x : St) (b : List Pr) : St := { x with E := srt (x.E ++ b.map (toEn (x.last + 1))), B := x.B ++ [b], M := srt (x.M ++ b.map (toEn (x.last + 1))), last := x.last + 1 }
/-- The whole journal is synced. -/
def St.syn (x : St) : St := { x with sy := x.B.length }

/-- What writing a batch comes to. -/
def WritePost (D F : Nat → Prop) (sb : Nat) (x : St) (w : World) (e : Ending) (w' : World) : Prop :=
  e = .returned (.tuple #[]) ∧ StoreAt D F sb x w' ∧ Kd D [50, 5, 73] w w'

theorem sorted_new {M : List Pr} {s : Int} (h : Upto M M.length) : Sorted (M.map (toEn s)) := by
  refine List.pairwise_iff_getElem.2 fun i j hi hj hij => ?_
  simp only [List.length_map] at hi hj
  have := h i j _ _ hij hj (List.getElem?_eq_getElem hi) (List.getElem?_eq_getElem hj)
  unfold elt
  rw [oc_lt]
  left
  simpa [toEn] using this

theorem srt_new {E : List En} {M : List Pr} {la : Int} (hE : Sorted E) (hup : Upto M M.length) (hlt : ∀ e ∈ E, e.s ≤ la) : Sorted (srt (E ++ M.map (toEn (la + 1)))) := by
  refine srt_sorted (List.pairwise_append.2 ⟨sorted_dist hE, sorted_dist (sorted_new hup), fun a ha b hb hh => ?_⟩)
  obtain ⟨p, _, rfl⟩ := List.mem_map.1 hb
  have h1 := hlt a ha
  have h2 : a.s = la + 1 := hh.2
  omega

/-- All that Lay asks, behind Entries. -/
theorem lay_ready {D : Nat → Prop} {sb : Nat} {vE : Value} {fl : List Value} {E : List En} {M : List Pr} {la : Int} {w3 w4 : World} {vN : Value}
    (hs : w3.heap[sb]? = some (.cells (vE :: fl).toArray 50 (0, 0))) (hB : D sb) (hD : Opn D w3) (hE : OwnsIn w3 D 73 4 vE E.length (ecells E)) (sE : Sorted E) (hup : Upto M M.length) (hb : Below w3.heap.size w3 w4)
    (hN : w4.ownsRow w3.heap.size 73 4 vN (M.map (toEn (la + 1))).length (ecells (M.map (toEn (la + 1))))) (h1 : 1 ≤ M.length) (h4 : M.length ≤ 4) (hlt : ∀ e ∈ E, e.s ≤ la) (hfew : E.length + 4 < 1000000000) :
    ∃ gN capN, vN = .slice (some ⟨gN, 0, none⟩) M.length capN ∧ Calls Try.prog 23 #[.pointer (some ⟨sb, 0, none⟩), .slice (some ⟨gN, 0, none⟩) M.length capN] w4 fun e w' => LayPost E (M.map (toEn (la + 1))) D 50 sb fl w4 e w' := by
  have hl : (M.map (toEn (la + 1))).length = M.length := List.length_map _
  rcases hN.2 with ⟨_, h0⟩ | ⟨gN, capN, curN, rfl, hbg, hg, _⟩
  · omega
  refine ⟨gN, capN, by rw [hl], ?_⟩
  have hne : vE.ownBlock ≠ some gN := fun e => by have := (hE.own.lt gN e).2; omega
  have h := lay_any E (M.map (toEn (la + 1))) D sb gN capN vE 50 fl curN w4 (by decide) ((Kp.of_below (B := 0) (ts := []) hb).keep hs (by simp)) hB (hD.later hb.size) (hE.below hb) hg (owns_base hN (Nat.zero_le _)) hne sE (sorted_new hup)
    (fun y hy z hz => by
      obtain ⟨q, _, rfl⟩ := List.mem_map.1 hz
      intro hh
      have := hlt y hy
      have h2 : y.s = la + 1 := hh.2
      omega) (by omega) (by omega)
  rw [hl] at h
  exact h

set_option maxHeartbeats 2000000 in
set_option maxRecDepth 100000 in
theorem write_any (D F : Nat → Prop) (sb : Nat) (x : St) (M : List Pr) (vs : Value) (base : Nat) (w : World) (hx : StoreAt D F sb x w) (hD : Opn D w) (hF : ∀ b, b < w.heap.size → F b → ¬ D b) (ok : StOk x) (hM : w.ownsRow base 30 3 vs M.length (pcells M)) (bt : Bt M) (hl1 : x.last < 1000000000) (hfew : x.E.length + 4 < 1000000000) :
    Calls Try.prog 10 #[.pointer (some ⟨sb, 0, none⟩), vs] w fun e w' => WritePost D F sb (x.wr M) w e w' := by
  have h1 := bt.lo
  have h4 := bt.hi
  have okM := bt.ok
  have hup := bt.up
  have hlt := ok.slast
  have hl0 : 0 ≤ x.last := by have := ok.lv.la0; have := ok.lv.la1; omega
  have hjl := ok.lv.jl hl1
  obtain ⟨vE, vL, vR, vS, hB, hs, hE, hT, hR, hS⟩ := hx
  obtain ⟨la, hla⟩ : ∃ la, x.last = la := ⟨_, rfl⟩
  rw [hla] at hs hl0 hl1 hlt
  have c5 : w.cell? ⟨sb, 7, none⟩ = some (.int .i64 la) := by simp [World.cell?, hs]
  have f5 : w.frozen? ⟨sb, 7, none⟩ = false := by simp [World.frozen?, hs]
  have k1 := Kd.field hB hs 7 (.int .i64 (la + 1))
  have s1 := set_field hs 7 (.int .i64 (la + 1))
  simp only [List.setIfInBounds_toArray, List.set_cons_succ, List.set_cons_zero] at s1
  have e1 := k1.ownsIn hE (by simp)
  have r1 := k1.ownsJ hR (by simp)
  have o1 := k1.ownsIn hS (by simp)
  have m1 := k1.owns hM (by simp)
  generalize hw1 : w.setCell ⟨sb, 7, none⟩ (.int .i64 (la + 1)) = w1 at k1 s1 e1 r1 o1 m1
  have HW : Hid (w.setCell ⟨sb, 7, none⟩ (.int .i64 (la + 1)) = w1) := hw1
  have HD1 : Hid (Opn D w1) := hD.later k1.size
  have HREC : Hid (∀ d, Calls Try.prog 22 #[vs] (w1.drewN d) fun e w' => RecPost M (w1.drewN d) e w') := fun d => record_any M vs base (w1.drewN d) m1 h4 okM
  have HALL : Hid (Kd D [50] w w1 ∧ w1.heap[sb]? = some (.cells #[vE, vL, vR, .int .i64 (rl (x.B.take x.sy)), .int .i64 x.la, vS, .int .i64 x.lastSnap, .int .i64 (la + 1)] 50 (0, 0)) ∧ OwnsIn w1 D 73 4 vE x.M.length (ecells x.M) ∧ OwnsJ w1 D vR x.J ∧ OwnsIn w1 D 152 2 vS x.S.length (scells x.S) ∧ w1.ownsRow base 30 3 vs M.length (pcells M) ∧ x.J.length + 1000 ≤ 140737488355328) := ⟨k1, s1, e1, r1, o1, m1, hjl⟩
  have HTB : Hid (TabsIn w D F vL x.T ∧ (∀ b, b < w.heap.size → F b → ¬ D b)) := ⟨hT, hF⟩
  have HBT : Hid (Bt M ∧ (recB M).length ≤ 73 ∧ 1 ≤ (recB M).length) := ⟨bt, by have := recB_len bt; omega, by have := recB_len bt; omega⟩
  have OKX : Hid (StOk x) := ok
  have OKM : Hid (∀ p ∈ M, PrOk p) := okM
  have HUP : Hid (Upto M M.length) := hup
  have HLT : Hid (∀ e ∈ x.M, e.s ≤ la) := fun e he => hlt e ((ok.lv.mem e).1 he).1
  have hmf : x.M.length + 4 < 1000000000 := by have := sub_len ok.lv.msorted ok.sorted fun e he => ((ok.lv.mem e).1 he).1; omega
  have HLA : Hid (x.last = la) := hla
  clear hD hs hE hT hF hR hS hM ok okM hup hlt bt hjl k1 s1 e1 r1 o1 m1 hw1 hla
  go_enter Try.func10, Try.ntmps10
  go_wp2
  rw [HW.out]
  go_region_with (first
    | (go_at_call 22; refine Calls.mono (HREC.out 1) ?_; rintro e w2 ⟨vr, rfl, hbr, hbel⟩; have B2 : Hid (Below w1.heap.size w1 w2) := below_from_drewN hbel; have V2 : Hid (BR 0 vr (recB M) w2) := br_base hbr (Nat.zero_le _); have D2 : Hid (Opn D w2) := HD1.out.later B2.out.size; clear hbr hbel)
    | (go_at_call 21; refine (addRecord_any D 0 sb vE vL vR _ _ vS _ _ _ x.J (recB M) _ (by exact (Kp.of_below (B := 0) (ts := []) B2.out).keep HALL.out.2.1 (by simp)) hB D2.out (by exact (Kd.of_below (D := D) (ts := []) B2.out).ownsJ HALL.out.2.2.2.1 (by simp)) V2.out HBT.out.2.2 (by have := HALL.out.2.2.2.2.2.2; have := HBT.out.2.1; omega)).mono ?_; rintro e w3 ⟨rfl, vR3, h3s, h3o, h3k⟩; have A3 : Hid (w3.heap[sb]? = some (.cells #[vE, vL, vR3, .int .i64 (rl (x.B.take x.sy)), .int .i64 x.la, vS, .int .i64 x.lastSnap, .int .i64 (la + 1)] 50 (0, 0)) ∧ OwnsJ w3 D vR3 (x.J ++ recB M) ∧ Kd D [50, 5] w1 w3) := ⟨h3s, h3o, (Kd.of_below B2.out).trans h3k⟩; clear h3s h3o h3k))
  go_wp2
  have c5b : w3.cell? ⟨sb, 7, none⟩ = some (.int .i64 (la + 1)) := by simp [World.cell?, A3.out.1]
  have K3 : Hid (Kd D [50, 5] w1 w3) := A3.out.2.2
  have HENT : Hid (∀ d, Calls Try.prog 14 #[vs, .int .i64 (la + 1)] (w3.drewN d) fun e w' => EntPost M (la + 1) (w3.drewN d) e w') := fun d => entries_any M vs base (la + 1) (w3.drewN d) (K3.out.owns HALL.out.2.2.2.2.2.1 (by simp)) h4
  have HD3 : Hid (Opn D w3) := HD1.out.later K3.out.size
  have E3 : Hid (OwnsIn w3 D 73 4 vE x.M.length (ecells x.M)) := K3.out.ownsIn HALL.out.2.2.1 (by simp)
  go_region_with (first
    | (go_at_call 14; refine Calls.mono (HENT.out 1) ?_; rintro e w4 ⟨vN, rfl, hoN, hbN⟩; obtain ⟨gN, capN, hLAY⟩ := lay_ready A3.out.1 hB HD3.out E3.out OKX.out.lv.msorted HUP.out (below_from_drewN hbN) hoN h1 h4 HLT.out (by omega); obtain ⟨rfl, hLAY⟩ := hLAY; have HLAY : Hid _ := hLAY; have B4 : Hid (Below w3.heap.size w3 w4) := below_from_drewN hbN; clear hLAY hoN hbN)
    | (go_at_call 23; refine Calls.mono HLAY.out ?_; rintro e w5 ⟨rfl, V5, F5, h5s, h5o, h5r, h5m, h5l, h5k⟩; have A5 : Hid (w5.heap[sb]? = some (.cells #[V5, vL, vR3, .int .i64 (rl (x.B.take x.sy)), .int .i64 x.la, vS, .int .i64 x.lastSnap, .int .i64 (la + 1)] 50 (0, 0)) ∧ OwnsIn w5 D 73 4 V5 F5.length (ecells F5) ∧ Sorted F5 ∧ (∀ y, y ∈ F5 ↔ y ∈ x.M ∨ y ∈ M.map (toEn (la + 1))) ∧ F5.length = x.M.length + (M.map (toEn (la + 1))).length ∧ Kd D [50, 73] w4 w5) := ⟨h5s, h5o, h5r, h5m, h5l, h5k⟩; clear h5s h5o h5r h5m h5l h5k))
  go_wp2
  go_end0
  have K35 : Kd D [50, 5, 73] w3 w5 := (Kd.of_below B4.out).trans (A5.out.2.2.2.2.2.mono (by simp))
  have KALL : Kd D [50, 5, 73] w w5 := ((HALL.out.1.mono (by simp)).trans (K3.out.mono (by simp))).trans K35
  have hF5 : F5 = (x.wr M).M := sorted_ext A5.out.2.2.1 (srt_new OKX.out.lv.msorted HUP.out fun e he => by rw [HLA.out]; exact HLT.out e he) fun e => by
    rw [A5.out.2.2.2.1]
    show _ ↔ e ∈ srt _
    rw [srt_mem, List.mem_append, HLA.out]
  have hJ : (x.wr M).J = x.J ++ recB M := by simp [St.J, St.wr]
  have hsy : (x.wr M).B.take (x.wr M).sy = x.B.take x.sy := List.take_append_of_le_length OKX.out.lv.bsy
  refine ⟨rfl, ⟨V5, vL, vR3, vS, hB, ?_, by rw [← hF5]; exact A5.out.2.1, HTB.out.1.kept KALL (by simp) HTB.out.2, ?_, ?_⟩, KALL⟩
  · rw [hsy]
    show _ = some (Obj.cells #[V5, vL, vR3, .int .i64 (rl (x.B.take x.sy)), .int .i64 x.la, vS, .int .i64 x.lastSnap, .int .i64 (x.last + 1)] 50 (0, 0))
    rw [HLA.out]; exact A5.out.1
  · rw [hJ]
    exact ((Kd.of_below (D := D) (ts := [50, 73]) B4.out).trans A5.out.2.2.2.2.2).ownsJ A3.out.2.1 (by simp)
  · exact (((K3.out.mono (by simp) : Kd D [50, 5, 73] w1 w3)).trans K35).ownsIn HALL.out.2.2.2.2.1 (by simp)

theorem St.syn_rl (x : St) : x.J.length = rl (x.syn.B.take x.syn.sy) := by
  show _ = rl (x.B.take x.B.length)
  rw [List.take_length]
  rfl

set_option maxHeartbeats 400000 in
theorem syncAll_any (D F : Nat → Prop) (sb : Nat) (x : St) (w : World) (hx : StoreAt D F sb x w) :
    Calls Try.prog 12 #[.pointer (some ⟨sb, 2, none⟩)] w fun e w' => e = .returned (.tuple #[]) ∧ StoreAt D F sb x.syn w' ∧ Kd D [50] w w' := by
  have hrl := x.syn_rl
  obtain ⟨vE, vL, vR, vS, hB, hs, hE, hT, hR, hS⟩ := hx
  obtain ⟨aoR, capR, rfl⟩ := hR.form
  have c1 : w.cell? ⟨sb, 2, none⟩ = some (.slice aoR x.J.length capR) := by simp [World.cell?, hs]
  have c2 : w.cell? ⟨sb, 3, none⟩ = some (.int .i64 (rl (x.B.take x.sy))) := by simp [World.cell?, hs]
  have f2 : w.frozen? ⟨sb, 3, none⟩ = false := by simp [World.frozen?, hs]
  have HF : Hid (StoreAt D F sb x.syn (w.setCell ⟨sb, 3, none⟩ (.int .i64 (x.J.length : Int))) ∧ Kd D [50] w (w.setCell ⟨sb, 3, none⟩ (.int .i64 (x.J.length : Int)))) := by
    have kf := Kd.field hB hs 3 (.int .i64 (x.J.length : Int))
    refine ⟨⟨vE, vL, .slice aoR x.J.length capR, vS, hB, ?_, kf.ownsIn hE (by simp), hT.kd kf (by simp) (by simp), kf.ownsJ hR (by simp), kf.ownsIn hS (by simp)⟩, kf⟩
    rw [set_field hs 3 _, ← hrl]; rfl
  clear hs hE hT hR hS hrl
  go_enter Try.func12, Try.ntmps12
  go_wp2
  go_end0
  exact ⟨rfl, HF.out⟩

/-- The batch that pairs come to. -/
def Settles (Lp M : List Pr) : Prop := SamePr (keep Lp) M ∧ Upto M M.length

theorem Settles.bt {Lp M : List Pr} (h : Settles Lp M) (h1 : 1 ≤ Lp.length) (h4 : Lp.length ≤ 4) (okL : ∀ p ∈ Lp, PrOk p) : Bt M := by
  have hk1 := keep_pos h1
  have hk2 := keep_len Lp
  have hml := h.1.1
  exact ⟨by omega, by omega, fun p hp => okL p (keep_sub ((h.1.2 p).1 hp)), h.2⟩

/-- A store behind a Write. -/
def St.wrs (x : St) (b : List Pr) (sync : Bool) : St := if sync then (x.wr b).syn else x.wr b

/-- What Write comes to, of a batch. -/
def BatchPost (D F : Nat → Prop) (sb : Nat) (x : St) (Lp : List Pr) (sync : Bool) (w : World) (e : Ending) (w' : World) : Prop :=
  e = .returned (.tuple #[.int .i64 (x.last + 1), .int .i64 0]) ∧ ∃ M : List Pr, Settles Lp M ∧ StoreAt D F sb (x.wrs M sync) w' ∧ Kd D [50, 5, 73] w w'

set_option maxHeartbeats 2000000 in
set_option maxRecDepth 100000 in
theorem writeCall_any (D F : Nat → Prop) (sb : Nat) (x : St) (Lp : List Pr) (v : Value) (base : Nat) (sync : Bool) (w : World) (hx : StoreAt D F sb x w) (hD : Opn D w) (hF : ∀ b, F b → ¬ D b) (ok : StOk x) (hL : w.ownsRow base 30 3 v Lp.length (pcells Lp)) (h1 : 1 ≤ Lp.length) (h4 : Lp.length ≤ 4) (okL : ∀ p ∈ Lp, PrOk p)
    (hl1 : x.last < 1000000000) (hfew : x.E.length + 4 < 1000000000) :
    Calls Try.prog 6 #[.pointer (some ⟨sb, 0, none⟩), v, .bool sync] w fun e w' => BatchPost D F sb x Lp sync w e w' := by
  have HC : Hid (Calls Try.prog 9 #[v] w fun e w' => e = .returned (.int .i64 0) ∧ Below w.heap.size w w') := check_any Lp v base w hL h1 h4 okL
  have HS : Hid (∀ w1, Below w.heap.size w w1 → Calls Try.prog 11 #[v] w1 fun e w' => SettlePost Lp w1 e w') := fun w1 hb => settle_any Lp v base w1 ((Kp.of_below (B := 0) (ts := []) hb).owns hL (by simp)) h1 h4 okL
  have HWR : Hid (∀ (M : List Pr) (vs : Value) (b : Nat) (w1 : World), Below w.heap.size w w1 → Settles Lp M → w1.ownsRow b 30 3 vs M.length (pcells M) → Calls Try.prog 10 #[.pointer (some ⟨sb, 0, none⟩), vs] w1 fun e w' => WritePost D F sb (x.wr M) w1 e w') := fun M vs b w1 hb hse ho =>
    write_any D F sb x M vs b w1 (hx.below hb) (hD.later hb.size) (fun b _ hfb => hF b hfb) ok ho (hse.bt h1 h4 okL) hl1 hfew
  clear hx hD hF ok hL okL
  go_enter Try.func6, Try.ntmps6
  go_wp2_with fail
  refine Calls.mono HC.out ?_
  rintro e w1 ⟨rfl, hb1⟩
  have B1 : Hid (Below w.heap.size w w1) := hb1
  clear hb1
  go_wp2_with fail
  refine Calls.mono (HS.out _ B1.out) ?_
  rintro e w2 ⟨vs, M, rfl, hsm, hup, hown, hb2⟩
  have B2 : Hid (Below w.heap.size w w2) := below_trans' B1.out hb2
  have A2 : Hid (Settles Lp M ∧ w2.ownsRow w1.heap.size 30 3 vs M.length (pcells M)) := ⟨⟨hsm, hup⟩, hown⟩
  clear hsm hup hown hb2
  go_wp2_with fail
  refine Calls.mono (HWR.out M vs w1.heap.size _ B2.out A2.out.1 A2.out.2) ?_
  rintro e w3 ⟨rfl, hF4, hF5⟩
  have A3 : Hid (StoreAt D F sb (x.wr M) w3 ∧ Kd D [50, 5, 73] w w3) := ⟨hF4, (Kd.of_below B2.out).trans hF5⟩
  clear hF4 hF5
  cases sync with
  | false =>
    have c5 : w3.cell? ⟨sb, 7, none⟩ = some (.int .i64 (x.last + 1)) := by
      obtain ⟨vE, vL, vR, vS, hB, hs, _⟩ := A3.out.1
      simp [World.cell?, hs, St.wr]
    go_wp2
    go_ret2
    exact ⟨rfl, M, A2.out.1, A3.out.1, A3.out.2⟩
  | true =>
    have HSY : Hid _ := syncAll_any D F sb _ w3 A3.out.1
    go_wp2_with fail
    refine Calls.mono HSY.out ?_
    rintro e w4 ⟨rfl, hst, hkp⟩
    have A4 : Hid (StoreAt D F sb (x.wr M).syn w4 ∧ Kd D [50, 5, 73] w w4) := ⟨hst, A3.out.2.trans (hkp.mono (by simp))⟩
    have c5 : w4.cell? ⟨sb, 7, none⟩ = some (.int .i64 (x.last + 1)) := by
      obtain ⟨vE, vL, vR, vS, hB, hs, _⟩ := A4.out.1
      simp [World.cell?, hs, St.wr, St.syn]
    clear hst hkp HSY
    go_wp2
    go_ret2
    exact ⟨rfl, M, A2.out.1, A4.out.1, A4.out.2⟩
end Go.Proofs.Ytakipjofboipmaa

/- Plain mathematics of this proof: what a store is behind a call. -/
namespace Go.Proofs.Ytakipjofboipmaa

theorem filter_ext {E E' : List En} (h : Sorted E) (h' : Sorted E') {p : En → Bool} (hm : ∀ e, p e = true → (e ∈ E ↔ e ∈ E')) : E.filter p = E'.filter p :=
  sorted_ext (h.sublist List.filter_sublist) (h'.sublist List.filter_sublist) fun e => by
    simp only [List.mem_filter]
    constructor
    · exact fun g => ⟨(hm e g.2).1 g.1, g.2⟩
    · exact fun g => ⟨(hm e g.2).2 g.1, g.2⟩

/-- Another batch is written. -/
theorem StOk.wr {x : St} (ok : StOk x) {b : List Pr} (bt : Bt b) (hl : x.last < 1000000000) (hf : x.E.length + 4 < 1000000000) : StOk (x.wr b) := by
  have hsE : Sorted (x.wr b).E := srt_new ok.sorted bt.up ok.slast
  have hmE : ∀ e, e ∈ (x.wr b).E ↔ e ∈ x.E ∨ e ∈ b.map (toEn (x.last + 1)) := fun e => by
    show e ∈ srt _ ↔ _; rw [srt_mem, List.mem_append]
  have hnew : ∀ e, e ∈ b.map (toEn (x.last + 1)) → e.s = x.last + 1 := fun e he => by
    obtain ⟨p, _, rfl⟩ := List.mem_map.1 he; rfl
  have hla := ok.lv.la2
  have h4 := bt.hi
  refine ⟨fun e he => ?_, hsE, ?_, fun e he => ?_, fun e he => ?_, ok.snaps, ?_⟩
  · rcases (hmE e).1 he with h | h
    · have := ok.slast e h; show e.s ≤ x.last + 1; omega
    · rw [hnew e h]; exact Int.le_refl _
  · show (srt _).length < _
    rw [srt_len, List.length_append, List.length_map]; omega
  · rcases (hmE e).1 he with h | h
    · exact ok.seqs e h
    · rw [hnew e h]; omega
  · rcases (hmE e).1 he with h | h
    · exact ok.keys e h
    · obtain ⟨p, hp, rfl⟩ := List.mem_map.1 h
      have := (bt.ok p hp).hi
      show p.k.size ≤ 1000; omega
  · have lv := ok.lv
    have hM : Sorted (x.wr b).M := srt_new lv.msorted bt.up fun e he => ok.slast e ((lv.mem e).1 he).1
    refine ⟨hM, fun e => ?_, fun t ht e he => ?_, lv.tsorted, lv.tne, lv.lay, lv.lev, lv.lev2, fun q hq k => ?_, lv.tfew, lv.la0, ?_, fun c hc => ?_, ?_, fun e => ?_⟩
    · show e ∈ srt _ ↔ _
      rw [srt_mem, List.mem_append, hmE, lv.mem]
      show _ ↔ _ ∧ x.la < e.s
      constructor
      · rintro (h | h)
        · exact ⟨.inl h.1, h.2⟩
        · exact ⟨.inr h, by rw [hnew e h]; omega⟩
      · rintro ⟨h | h, h2⟩
        · exact .inl ⟨h, h2⟩
        · exact .inr h
    · have := lv.tsub t ht e he
      exact ⟨(hmE e).2 (.inl this.1), this.2⟩
    · have e1 : (x.wr b).E.filter (fun e => decide (e.s ≤ x.la)) = x.E.filter fun e => decide (e.s ≤ x.la) := filter_ext hsE ok.sorted fun e he => by
        simp only [decide_eq_true_eq] at he
        rw [hmE]
        constructor
        · rintro (h | h)
          · exact h
          · rw [hnew e h] at he; omega
        · exact .inl
      show skO (fndL (x.T.map (·.2)) k q) = skO (fnd ((x.wr b).E.filter fun e => decide (e.s ≤ x.la)) k q)
      rw [e1]
      exact lv.view q hq k
    · have := lv.la1
      show x.last + 1 = x.la + ((x.B ++ [b]).length : Nat)
      rw [List.length_append]
      simp only [List.length_cons, List.length_nil]
      omega
    · rcases List.mem_append.1 hc with h | h
      · exact lv.bok c h
      · rw [List.mem_singleton] at h; subst h; exact bt
    · show x.sy ≤ (x.B ++ [b]).length
      have := lv.bsy
      rw [List.length_append]; omega
    · rw [hmE]
      show (_ ∧ x.la < e.s) ↔ ∃ (i : Nat) (c : List Pr) (p : Pr), (x.B ++ [b])[i]? = some c ∧ p ∈ c ∧ e = toEn (x.la + 1 + i) p
      have l1 := lv.la1
      constructor
      · rintro ⟨h | h, h2⟩
        · obtain ⟨i, c, p, hi, hp, he⟩ := (lv.bent e).1 ⟨h, h2⟩
          exact ⟨i, c, p, by rw [List.getElem?_append_left (List.getElem?_eq_some_iff.1 hi).1]; exact hi, hp, he⟩
        · obtain ⟨p, hp, rfl⟩ := List.mem_map.1 h
          exact ⟨x.B.length, b, p, by simp, hp, by congr 1; omega⟩
      · rintro ⟨i, c, p, hi, hp, rfl⟩
        refine ⟨?_, by show x.la < x.la + 1 + i; omega⟩
        by_cases hib : i < x.B.length
        · rw [List.getElem?_append_left hib] at hi
          exact .inl ((lv.bent _).2 ⟨i, c, p, hi, hp, rfl⟩).1
        · rw [List.getElem?_append_right (by omega)] at hi
          have hi0 : i - x.B.length = 0 := by
            have := (List.getElem?_eq_some_iff.1 hi).1
            simp at this; omega
          rw [hi0] at hi
          simp at hi
          subst hi
          refine .inr (List.mem_map.2 ⟨p, hp, ?_⟩)
          congr 1; omega

theorem StOk.syn {x : St} (ok : StOk x) : StOk x.syn := by
  have lv := ok.lv
  exact ⟨ok.slast, ok.sorted, ok.few, ok.seqs, ok.keys, ok.snaps, ⟨lv.msorted, lv.mem, lv.tsub, lv.tsorted, lv.tne, lv.lay, lv.lev, lv.lev2, lv.view, lv.tfew, lv.la0, lv.la1, lv.bok, Nat.le_refl _, lv.bent⟩⟩

theorem StOk.wrs {x : St} (ok : StOk x) {b : List Pr} (bt : Bt b) (hl : x.last < 1000000000) (hf : x.E.length + 4 < 1000000000) (sync : Bool) : StOk (x.wrs b sync) := by
  unfold St.wrs
  split
  · exact (ok.wr bt hl hf).syn
  · exact ok.wr bt hl hf

/-- Other snapshots, which see what is seen. -/
theorem StOk.snapsTo {x : St} (ok : StOk x) (S' : List Sn) (n : Int) (h4 : S'.length ≤ 4) (h : ∀ s ∈ S', x.la ≤ s.q ∨ s ∈ x.S) : StOk { x with S := S', lastSnap := n } := by
  have lv := ok.lv
  refine ⟨ok.slast, ok.sorted, ok.few, ok.seqs, ok.keys, h4, ⟨lv.msorted, lv.mem, lv.tsub, lv.tsorted, lv.tne, lv.lay, lv.lev, lv.lev2, fun q hq k => lv.view q ?_ k, lv.tfew, lv.la0, lv.la1, lv.bok, lv.bsy, lv.bent⟩⟩
  rcases hq with hq | ⟨s, hs, rfl⟩
  · exact .inl hq
  · rcases h s hs with h | h
    · exact .inl h
    · exact .inr ⟨s, h, rfl⟩

theorem StOk.drop {x : St} (ok : StOk x) (i : Nat) : StOk { x with S := x.S.eraseIdx i } :=
  ok.snapsTo _ x.lastSnap (Nat.le_trans (List.eraseIdx_sublist x.S i).length_le ok.snaps) fun _ hs => .inr ((List.eraseIdx_sublist x.S i).subset hs)

end Go.Proofs.Ytakipjofboipmaa

/- The walks of this proof: of one key's entries those that are needed. -/
namespace Go.Proofs.Ytakipjofboipmaa
open Go.RowKit Go.Sort

/-- Entries that lie in a block from a place on. -/
def EnSl (w : World) (g o : Nat) (G : List En) : Prop :=
  ∀ j e, G[j]? = some e → w.cell? ⟨g, o + j * 4, none⟩ = some (.string e.k) ∧ w.cell? ⟨g, o + j * 4 + 1, none⟩ = some (.int .i64 e.s) ∧ w.cell? ⟨g, o + j * 4 + 2, none⟩ = some (.bool e.g) ∧ w.cell? ⟨g, o + j * 4 + 3, none⟩ = some (.string e.v)

theorem EnSl.below {w w' : World} {g o : Nat} {G : List En} (h : EnSl w g o G) (hb : Below w.heap.size w w') : EnSl w' g o G := fun j e he =>
  let ⟨h0, h1, h2, h3⟩ := h j e he
  ⟨cell_later hb h0, cell_later hb h1, cell_later hb h2, cell_later hb h3⟩

end Go.Proofs.Ytakipjofboipmaa

/- The walks of this proof: what is needed of a table's entries. -/
namespace Go.Proofs.Ytakipjofboipmaa
open Go.RowKit Go.Shelf

attribute [local go_sem] Oper.semAt_some

/-- What a store into the box behind an append comes to. -/
theorem boxed_app {W w1 : World} {n₀ B : Nat} {t e : TypeId} {size : Nat} {v v' : Value} {k m : Nat} {xs ys : List Value}
    (hv : Boxed W B t v) (hte : t ≠ e) (hrow : W.ownsRow n₀ e size v k xs) (hn₀ : n₀ ≤ W.heap.size) (hB : n₀ ≤ B)
    (hown' : w1.ownsRow n₀ e size v' m ys) (hgrow : W.grownBy w1 v.ownBlock) :
    Boxed w1 B t v ∧ Boxed (w1.setCell ⟨B, 0, none⟩ v') B t v' ∧ (w1.setCell ⟨B, 0, none⟩ v').ownsRow n₀ e size v' m ys ∧ KeepsOthers W (w1.setCell ⟨B, 0, none⟩ v') ∧ Below n₀ W (w1.setCell ⟨B, 0, none⟩ v') := by
  have hv1 : Boxed w1 B t v := hv.kept hgrow (hv.not_row hte hrow)
  refine ⟨hv1, hv1.set v', hown'.kept (grownBy_setCell' w1 B v') (.inr (hv1.not_row hte hown').symm), ?_, ?_⟩
  · refine (KeepsOthers.of_grownBy hgrow fun j o ej hj => ?_).trans (KeepsOthers.setCell _ _ _)
    rcases hrow.2 with ⟨rfl, _⟩ | ⟨g, cap, cur, rfl, _, hgb, _⟩
    · simp [Value.ownBlock] at ej
    · obtain rfl : g = j := by simpa [Value.ownBlock] using ej
      rw [hgb] at hj; cases hj; rfl
  · refine ((Below.refl n₀ W).grown hgrow hn₀ fun j ej => ?_).setCell (p := ⟨B, 0, none⟩) hB v'
    rcases hrow.2 with ⟨rfl, _⟩ | ⟨g, cap, cur, rfl, hb, _, _⟩
    · simp [Value.ownBlock] at ej
    · obtain rfl : g = j := by simpa [Value.ownBlock] using ej
      exact hb

end Go.Proofs.Ytakipjofboipmaa

/- The calls of a store, by what they do to memory from a block on. -/
namespace Go.Proofs.Ytakipjofboipmaa
open Go.RowKit Go.Sort

/-- A store all of whose memory lies from block N on. -/
def SIn (N sb : Nat) (x : St) (w : World) : Prop :=
  ∃ D F : Nat → Prop, (∀ k, D k → N ≤ k) ∧ (∀ k, F k → N ≤ k) ∧ (∀ k, F k → ¬ D k) ∧ Opn D w ∧ StoreAt D F sb x w

theorem Kd.kp {D : Nat → Prop} {ts : List Nat} {N : Nat} {w w' : World} (h : Kd D ts w w') (hD : ∀ k, D k → N ≤ k) : Kp N ts w w' :=
  ⟨h.os, h.tape, h.output, h.size, fun k hk hor => h.block k hk (hor.imp (fun hlt hd => by have := hD k hd; omega) id)⟩

/-- The store's own types. -/
def own5 : List Nat := [50, 5, 73, 150, 152]

theorem SIn.kept {N N' sb : Nat} {x : St} {ts : List Nat} {w w' : World} (h : SIn N sb x w) (k : Kp N' ts w w') (ht : ∀ t ∈ own5, t ∉ ts) : SIn N sb x w' := by
  obtain ⟨D, F, h1, h2, h3, h4, vE, vL, vR, vS, hB, hs, hE, ⟨Vs, hl, ho, hr⟩, hR, hS⟩ := h
  have t1 := ht 50 (by simp [own5]); have t2 := ht 5 (by simp [own5]); have t3 := ht 73 (by simp [own5]); have t4 := ht 150 (by simp [own5]); have t5 := ht 152 (by simp [own5])
  have f : ∀ {D0 : Nat → Prop} {e size v n xs}, e ∉ ts → OwnsIn w D0 e size v n xs → OwnsIn w' D0 e size v n xs := fun he ho => ⟨k.owns ho.own he, ho.dom⟩
  exact ⟨D, F, h1, h2, h3, h4.later k.size, vE, vL, vR, vS, hB, k.keep hs t1, f t3 hE, ⟨Vs, hl, f t4 ho, fun i t v a b => f t3 (hr i t v a b)⟩, ⟨hR.1.kept k t2, hR.2⟩, f t5 hS⟩

theorem SIn.below {N sb : Nat} {x : St} {w w' : World} (h : SIn N sb x w) (hb : Below w.heap.size w w') : SIn N sb x w' := h.kept (Kp.of_below (B := 0) (ts := []) hb) (by simp)

theorem SIn.lt {N sb : Nat} {x : St} {w : World} (h : SIn N sb x w) : sb < w.heap.size ∧ N ≤ sb := by
  obtain ⟨D, F, h1, _, _, _, vE, vL, vR, vS, hB, hs, _⟩ := h
  exact ⟨lt_of_block hs, h1 sb hB⟩

/-- A new store in memory of its own. -/
theorem SIn.mono {N N' sb : Nat} {x : St} {w : World} (h : SIn N sb x w) (hN : N' ≤ N) : SIn N' sb x w := by
  obtain ⟨D, F, h1, h2, r⟩ := h
  exact ⟨D, F, fun k hk => Nat.le_trans hN (h1 k hk), fun k hk => Nat.le_trans hN (h2 k hk), r⟩

/-- What Write comes to. -/
def WrPost (N sb : Nat) (x : St) (Lp : List Pr) (sync : Bool) (w : World) (e : Ending) (w' : World) : Prop :=
  e = .returned (.tuple #[.int .i64 (x.last + 1), .int .i64 0]) ∧ ∃ M : List Pr, Settles Lp M ∧ SIn N sb (x.wrs M sync) w' ∧ StOk (x.wrs M sync) ∧ Kp N [50, 5, 73] w w'

theorem write_sin (N sb : Nat) (x : St) (Lp : List Pr) (v : Value) (base : Nat) (sync : Bool) (w : World) (hx : SIn N sb x w) (ok : StOk x) (hL : w.ownsRow base 30 3 v Lp.length (pcells Lp)) (h1 : 1 ≤ Lp.length) (h4 : Lp.length ≤ 4) (okL : ∀ p ∈ Lp, PrOk p)
    (hl1 : x.last < 1000000000) (hfew : x.E.length + 4 < 1000000000) :
    Calls Try.prog 6 #[.pointer (some ⟨sb, 0, none⟩), v, .bool sync] w fun e w' => WrPost N sb x Lp sync w e w' := by
  obtain ⟨D, F, g1, g2, g3, g4, hst⟩ := hx
  refine (writeCall_any D F sb x Lp v base sync w hst g4 g3 ok hL h1 h4 okL hl1 hfew).mono ?_
  rintro e w' ⟨rfl, M, hse, hst', hk⟩
  exact ⟨rfl, M, hse, ⟨D, F, g1, g2, g3, g4.later hk.size, hst'⟩, ok.wrs (hse.bt h1 h4 okL) hl1 hfew sync, hk.kp g1⟩

set_option maxHeartbeats 400000 in
/-- A new store. -/
theorem new_sin (w : World) :
    Calls Try.prog 7 #[] w fun e w' => ∃ sb, e = .returned (.pointer (some ⟨sb, 0, none⟩)) ∧ SIn w.heap.size sb ⟨[], [], 0, [], [], 0, [], 0, 0⟩ w' ∧ Below w.heap.size w w' := by
  have h : SIn w.heap.size w.heap.size ⟨[], [], 0, [], [], 0, [], 0, 0⟩ (w.alloc (.cells #[.slice none 0 0, .slice none 0 0, .slice none 0 0, .int .i64 0, .int .i64 0, .slice none 0 0, .int .i64 0, .int .i64 0] 50)) := by
    have nil : ∀ (W : World) (D : Nat → Prop) (e size : Nat), OwnsIn W D e size (.slice none 0 0) 0 [] := fun W D e size => ⟨World.ownsRow_nil _ _ _ _, fun g e => by simp [Value.ownBlock] at e⟩
    refine ⟨fun k => w.heap.size ≤ k, fun _ => False, fun k h => h, fun k h => h.elim, fun k h => h.elim, fun k hk => by simp at hk; omega, .slice none 0 0, .slice none 0 0, .slice none 0 0, .slice none 0 0, Nat.le_refl _, heap_alloc_new w _, nil _ _ _ _, ⟨[], rfl, nil _ _ _ _, fun k t v ht => by simp at ht⟩, OwnsJ.nil _ _, nil _ _ _ _⟩
  have H : Hid _ := h
  clear h
  go_enter Try.func7, Try.ntmps7
  go_wp2
  go_ret
  exact ⟨_, rfl, H.out, (Below.refl _ _).alloc (Nat.le_refl _) _⟩

theorem stOk0 : StOk ⟨[], [], 0, [], [], 0, [], 0, 0⟩ := by
  refine ⟨by simp, List.Pairwise.nil, by simp, by simp, by simp, by simp, ⟨List.Pairwise.nil, by simp, by simp, by simp, by simp, List.Pairwise.nil, List.Pairwise.nil, by simp, fun q _ k => rfl, by simp, Int.le_refl _, by simp, by simp, Nat.le_refl _, by simp⟩⟩
end Go.Proofs.Ytakipjofboipmaa
