/- The walks of this proof: a record. -/
import Derived.Laws.Closers25b
import Derived.Test.YtakipjofboipmaaGreatDoorJ17
namespace Go.Proofs.YtakipjofboipmaaGreatDoor
open Go.RowKit Go.Sort

theorem wrap_u32 {n : Nat} (h : n < 4294967296) : IntKind.u32.wrap (n : Int) = n := by
  show (n : Int) % 4294967296 = n
  omega

theorem bits_xor (a b : BitVec 32) : bits .xor .u32 a.toNat b.toNat = (a ^^^ b).toNat := by
  show IntKind.u32.wrap ((BitVec.ofInt 32 a.toNat ^^^ BitVec.ofInt 32 b.toNat).toNat : Int) = _
  rw [BitVec.ofInt_natCast, BitVec.ofInt_natCast, BitVec.ofNat_toNat, BitVec.ofNat_toNat, BitVec.setWidth_eq, BitVec.setWidth_eq]
  exact wrap_u32 (a ^^^ b).isLt

theorem bits_and1 (a : BitVec 32) : (bits .and .u32 a.toNat 1 == 1) = a.getLsbD 0 := by
  have e : bits .and .u32 a.toNat 1 = (a &&& 1#32).toNat := by
    show IntKind.u32.wrap ((BitVec.ofInt 32 a.toNat &&& BitVec.ofInt 32 1).toNat : Int) = _
    rw [BitVec.ofInt_natCast, BitVec.ofNat_toNat, BitVec.setWidth_eq]
    exact wrap_u32 (a &&& 1#32).isLt
  rw [e, BitVec.toNat_and]
  show (((a.toNat &&& 1 : Nat) : Int) == 1) = a.getLsbD 0
  rw [Nat.and_one_is_mod, BitVec.getLsbD, Nat.testBit_zero]
  by_cases h : a.toNat % 2 = 1
  · simp [h]
  · have : a.toNat % 2 = 0 := by omega
    simp [this]

theorem half_u32 (a : BitVec 32) : Int.ofNat a.toNat / (2 : Int) = Int.ofNat (a >>> (1 : Nat)).toNat := by
  rw [BitVec.toNat_ushiftRight, Nat.shiftRight_eq_div_pow]
  rfl

set_option maxHeartbeats 1000000 in
set_option maxRecDepth 100000 in
theorem shiftByte_any (c : BitVec 32) (w : World) :
    Calls Tryz.prog 229 #[.int .u32 c.toNat] w fun e w' => e = .returned (.int .u32 (itS 8 c).toNat) ∧ w' = w := by
  go_enter Tryz.func229, Tryz.ntmps229
  go_wp2
  go_loop [0, 4] (fun s0 i => ∃ (k : Nat), k ≤ 8 ∧ i = .int .i64 k ∧ s0 = .int .u32 (itS k c).toNat) (fun _ i => 8 - (intOf i).toNat)
  case atStart => exact ⟨0, by omega, rfl, rfl⟩
  case round =>
    obtain ⟨k, hk, rfl, rfl⟩ := hrel
    by_cases hlt : k < 8
    · go_wp2
      · rename_i hb
        rw [bits_and1] at hb
        refine ⟨⟨k + 1, by omega, by go_num, ?_⟩, by simp [intOf]; omega⟩
        rw [show ((itS k c).toNat : Int) / 2 = ((itS k c >>> (1 : Nat)).toNat : Int) from half_u32 _]
        have := bits_xor (itS k c >>> 1) 3988292384#32
        rw [show (((3988292384#32).toNat : Nat) : Int) = 3988292384 from rfl] at this
        rw [this]
        simp only [itS, st1, hb, if_true]
      · rename_i hb
        rw [bits_and1] at hb
        refine ⟨⟨k + 1, by omega, by go_num, ?_⟩, by simp [intOf]; omega⟩
        rw [show ((itS k c).toNat : Int) / 2 = ((itS k c >>> (1 : Nat)).toNat : Int) from half_u32 _]
        simp only [itS, st1, hb, Bool.false_eq_true, if_false]
    · go_wp2
      go_ret
      obtain rfl : k = 8 := by omega
      exact ⟨rfl, rfl⟩

set_option maxHeartbeats 1000000 in
set_option maxRecDepth 100000 in
theorem appendNumber_any (base : Nat) (v : Value) (l : List UInt8) (c : BitVec 32) (w : World) (h : BR base v l w) (hb : base ≤ w.heap.size) (hn : l.length + 4 ≤ 1000000) :
    Calls Tryz.prog 195 #[v, .int .u32 c.toNat] w fun e w' => AppPost base (l ++ num4 c) w e w' := by
  obtain ⟨i0, hi, hz0, hz1, hz2⟩ := info_parts Tryz.info5
  have hown : w.ownsRow base 5 1 v l.length (bcells l) := h
  clear h
  obtain ⟨n, hn0⟩ : ∃ n, l.length = n := ⟨_, rfl⟩
  obtain ⟨R, hR0⟩ : ∃ R, bcells l = R := ⟨_, rfl⟩
  rw [hn0, hR0] at hown
  rw [hn0] at hn
  have HN : Hid (l.length = n) := hn0
  have HR : Hid (bcells l = R) := hR0
  clear hn0 hR0
  obtain ⟨ao, cap, rfl⟩ := slice_form hown
  have h0 : (0 : Int) ≤ c.toNat := by omega
  have h1 : (c.toNat : Int) ≤ 4294967295 := by have := c.isLt; omega
  obtain ⟨x, hx⟩ : ∃ x : Int, (c.toNat : Int) = x := ⟨_, rfl⟩
  have HX : Hid ((c.toNat : Int) = x) := hx
  rw [hx] at h0 h1 ⊢
  clear hx
  go_enter Tryz.func195, Tryz.ntmps195
  go_wp2_with (at_builtin; refine wpList_append_own _ rfl (.tmp 5) (.tmp 17) 75 rfl base 5 i0 _ 1 1 Tryz.underlying75 hi hz0 hz1 hz2 rfl (by decide) _ _ _ rfl (hown.alloc _) ⟨w.heap.size, 0, none⟩ 4 4 (Array.toList _) rfl rfl (World.news_of_block (heap_alloc_new _ _)) ?c2 ?c3 ?c4 ?c5 ?_)
  case c2 => exact ⟨rfl, rfl, rfl, rfl⟩
  case c3 => unfold maxLen; omega
  case c4 => omega
  case c5 => simp; omega
  intro v1 w1 ho1 hg1 _
  have HF : Hid (BR base v1 (l ++ num4 c) w1 ∧ Kp base [5] w w1) := by
    refine ⟨BR.of ho1 ?_ ?_, ((Kp.refl base [5] w).alloc _).grown (hown.alloc _) hg1 (Nat.le_refl _) (by simp)⟩
    · rw [List.length_append, HN.out]; rfl
    · rw [bcells_append, HR.out]
      have hlt := c.isLt
      have hxx := HX.out
      have e0 : (x % 256) = ((UInt8.ofNat c.toNat).toNat : Int) := by rw [UInt8.toNat_ofNat']; omega
      have e1 : (x / 256 % 256) = ((UInt8.ofNat (c.toNat / 256)).toNat : Int) := by rw [UInt8.toNat_ofNat']; omega
      have e2 : (x / 65536 % 256) = ((UInt8.ofNat (c.toNat / 65536)).toNat : Int) := by rw [UInt8.toNat_ofNat']; omega
      have e3 : (x / 16777216) = ((UInt8.ofNat (c.toNat / 16777216)).toNat : Int) := by rw [UInt8.toNat_ofNat']; omega
      simp only [num4, bcells, List.map_cons, List.map_nil]
      rw [e0, e1, e2, e3]
  clear ho1 hg1 hown
  go_wp2
  go_ret
  exact ⟨_, rfl, HF.out⟩

theorem crc_snoc (c : BitVec 32) (l : List UInt8) (b : UInt8) : crc c (l ++ [b]) = itS 8 (crc c l ^^^ BitVec.ofNat 32 b.toNat) := by
  rw [crc_append]; rfl

theorem not_u32 (c : BitVec 32) : bits .xor .u32 4294967295 c.toNat = (~~~c).toNat := by
  have := bits_xor 4294967295#32 c
  rw [show (((4294967295#32).toNat : Nat) : Int) = 4294967295 from rfl] at this
  rw [this]
  have : (4294967295#32 : BitVec 32) = BitVec.allOnes 32 := by decide
  rw [this, BitVec.allOnes_xor]

set_option maxHeartbeats 1000000 in
set_option maxRecDepth 100000 in
theorem ceiling_any (base : Nat) (v : Value) (l : List UInt8) (w : World) (h : BR base v l w) (hn : l.length ≤ 1000000) :
    Calls Tryz.prog 196 #[v] w fun e w' => e = .returned (.int .u32 (ceil l).toNat) ∧ w' = w := by
  have hown : w.ownsRow base 5 1 v l.length (bcells l) := h
  clear h
  obtain ⟨ao, cap, rfl⟩ := slice_form hown
  have HO : Hid (w.ownsRow base 5 1 (.slice ao l.length cap) l.length (bcells l)) := hown
  have HCE : Hid (bits .xor .u32 IntKind.u32.max (crc 4294967295#32 l).toNat = (ceil l).toNat) := not_u32 _
  clear hown
  go_enter Tryz.func196, Tryz.ntmps196
  go_wp2
  go_loop [3, 8] (fun s3 i => ∃ (k : Nat), k ≤ l.length ∧ i = .int .i64 k ∧ s3 = .int .u32 (crc 4294967295#32 (l.take k)).toNat) (fun _ i => l.length - (intOf i).toNat)
  case atStart => exact ⟨0, by omega, rfl, rfl⟩
  case round =>
    obtain ⟨k, hk, rfl, rfl⟩ := hrel
    by_cases hlt : k < l.length
    · obtain ⟨g, cap', hv', _, _⟩ := World.ownsRow.form HO.out (by omega)
      simp only [Value.slice.injEq, true_and] at hv'
      obtain ⟨rfl, rfl⟩ := hv'
      obtain ⟨b, hlb⟩ : ∃ b, l[k]? = some b := ⟨_, List.getElem?_eq_getElem hlt⟩
      have hx : w.cell? ⟨g, k, none⟩ = some (.int .u8 b.toNat) := by
        rw [HO.out.cellAt k (by omega), bcells, List.getElem?_map, hlb]; rfl
      have HT : Hid (l.take (k + 1) = l.take k ++ [b]) := (by rw [List.take_add_one, hlb]; rfl : l.take (k + 1) = l.take k ++ [b])
      have hb0 : (0 : Int) ≤ b.toNat := by omega
      have hb1 : (b.toNat : Int) ≤ 255 := by have := b.toNat_lt; omega
      clear hlb
      obtain ⟨c, hc⟩ : ∃ c, crc 4294967295#32 (l.take k) = c := ⟨_, rfl⟩
      have HC : Hid (crc 4294967295#32 (l.take k) = c) := hc
      rw [hc]
      clear hc
      have HX : Hid (bits .xor .u32 c.toNat b.toNat = (c ^^^ BitVec.ofNat 32 b.toNat).toNat) := (by
        have := bits_xor c (BitVec.ofNat 32 b.toNat)
        rwa [BitVec.toNat_ofNat, Nat.mod_eq_of_lt (by have := b.toNat_lt; omega)] at this : _ = _)
      go_wp2_with fail
      rw [HX.out]
      refine (shiftByte_any _ _).mono ?_
      rintro e w1 ⟨rfl, rfl⟩
      have HE : Hid (itS 8 (c ^^^ BitVec.ofNat 32 b.toNat) = crc 4294967295#32 (l.take (k + 1))) := (by rw [HT.out, crc_snoc, HC.out] : _ = _)
      rw [HE.out]
      go_wp2
      go_round
      case rel => exact ⟨k + 1, by omega, by go_num, rfl⟩
      case measure => simp [intOf]; omega
    · obtain rfl : k = l.length := by omega
      rw [List.take_length]
      obtain ⟨c, hc⟩ : ∃ c, crc 4294967295#32 l = c := ⟨_, rfl⟩
      rw [hc] at HCE ⊢
      clear hc
      go_wp2
      go_ret
      rw [HCE.out]
      exact ⟨rfl, rfl⟩

/-- What Record comes to. -/
def RecPost (M : List Pr) (w : World) (e : Ending) (w' : World) : Prop := ∃ v : Value, e = .returned v ∧ BR w.heap.size v (recB M) w' ∧ Below w.heap.size w w'

theorem body_take {L : List Pr} {k : Nat} {p : Pr} (h : L[k]? = some p) : (L.take (k + 1)).flatMap prB = (L.take k).flatMap prB ++ prB p := by
  rw [List.take_add_one, h]
  simp

set_option maxHeartbeats 1000000 in
set_option maxRecDepth 100000 in
theorem record_any (L : List Pr) (v : Value) (base : Nat) (w : World) (h : w.ownsRow base 57 3 v L.length (pcells L)) (h4 : L.length ≤ 4) (ok : ∀ p ∈ L, PrOk p) :
    Calls Tryz.prog 144 #[v] w fun e w' => RecPost L w e w' := by
  have HPR : Hid (∀ w', 0 < L.length → Below w.heap.size w w' → ∃ g cap, v = .slice (some ⟨g, 0, none⟩) L.length cap ∧ base ≤ g ∧ g < w.heap.size ∧ L.length ≤ cap ∧ ∀ (k : Nat) p, L[k]? = some p → w'.cell? ⟨g, k * 3, none⟩ = some (.string p.k) ∧ w'.cell? ⟨g, k * 3 + 1, none⟩ = some (.string p.v) ∧ w'.cell? ⟨g, k * 3 + 2, none⟩ = some (.bool p.g)) := fun w' hl hb => pr_cells h hb hl
  obtain ⟨ao, cap, rfl⟩ := slice_form h
  have OK : Hid (∀ p ∈ L, PrOk p) := ok
  clear h ok
  obtain ⟨n0, hn0⟩ : ∃ n0, UInt8.ofNat L.length = n0 := ⟨_, rfl⟩
  have HN0 : Hid (UInt8.ofNat L.length = n0 ∧ (n0.toNat : Int) = (L.length : Int)) := ⟨hn0, by rw [← hn0, byte_of (by omega)]⟩
  clear hn0
  have R0 : Hid (BR w.heap.size (.slice (some ⟨w.heap.size, 0, none⟩) 1 1) (n0 :: ([] : List Pr).flatMap prB) (w.alloc (.cells #[.int .u8 (L.length : Int)] 5))) := BR.of (World.ownsRow_lit w #[.int .u8 (L.length : Int)] 1 (Nat.le_refl _) (by unfold maxLen; omega) rfl) rfl (by simp only [bcells, List.flatMap_nil, List.map_cons, List.map_nil, HN0.out.2])
  have K0 : Hid (∀ o, Kp w.heap.size [5] w (w.alloc o)) := fun o => (Kp.refl _ _ _).alloc o
  go_enter Tryz.func144, Tryz.ntmps144
  go_wp2
  go_loopw [3, 12] (fun s3 i wr => ∃ (k : Nat), k ≤ L.length ∧ i = .int .i64 k ∧ Hid (BR w.heap.size s3 (n0 :: (L.take k).flatMap prB) wr ∧ (n0 :: (L.take k).flatMap prB).length ≤ 1 + 17 * k) ∧ Hid (Kp w.heap.size [5] w wr)) (fun _ i _ => L.length - (intOf i).toNat)
  case atStart => exact ⟨0, Nat.zero_le _, rfl, ⟨by rw [List.take_zero]; exact R0.out, by simp⟩, K0.out _⟩
  case round =>
    clear R0 K0
    obtain ⟨k, hk, rfl, HB, HK⟩ := hrel
    have hbel : Below w.heap.size w wr := HK.out.belowB (Nat.le_refl _)
    have hsz : w.heap.size ≤ wr.heap.size := hbel.size
    by_cases hlt : k < L.length
    · obtain ⟨g, cap', hv', _, hgl, hcap, hcell⟩ := HPR.out wr (by omega) hbel
      simp only [Value.slice.injEq, true_and] at hv'
      obtain ⟨rfl, rfl⟩ := hv'
      obtain ⟨p, hp⟩ : ∃ p, L[k]? = some p := ⟨_, List.getElem?_eq_getElem hlt⟩
      obtain ⟨c0, c1, c2⟩ := hcell k p hp
      have OKp : Hid (PrOk p ∧ (prB p).length ≤ 17) := ⟨OK.out p (List.mem_of_getElem? hp), (prB_len (OK.out p (List.mem_of_getElem? hp))).2⟩
      have hgr : g < wr.heap.size := by omega
      have HTK : Hid (n0 :: (L.take (k + 1)).flatMap prB = (n0 :: (L.take k).flatMap prB) ++ prB p) := (by rw [body_take hp]; rfl : _ = _)
      clear hcell hp hbel
      go_wp2_with fail
      refine (appendPair_any w.heap.size _ (n0 :: (L.take k).flatMap prB) p _ (by exact HB.out.1.below ((Below.refl _ _).alloc (Nat.le_refl _) _)) (by simp; omega) (by have := HB.out.2; omega) OKp.out.1).mono ?_
      rintro e w2 ⟨v2, rfl, hbr, hkp⟩
      have HB2 : Hid (BR w.heap.size v2 (n0 :: (L.take (k + 1)).flatMap prB) w2 ∧ (n0 :: (L.take (k + 1)).flatMap prB).length ≤ 1 + 17 * (k + 1)) := by
        rw [HTK.out]
        exact ⟨hbr, by rw [List.length_append]; have := HB.out.2; have := OKp.out.2; omega⟩
      have HK2 : Hid (Kp w.heap.size [5] w w2) := (HK.out.alloc _).trans hkp
      clear hbr hkp
      go_wp2
      go_roundw
      case rel => exact ⟨k + 1, by omega, by go_num, HB2, HK2⟩
      case measure => simp [intOf]; omega
    · clear hbel
      obtain rfl : k = L.length := by omega
      obtain ⟨body, hbody⟩ : ∃ body, n0 :: (L.take L.length).flatMap prB = body := ⟨_, rfl⟩
      rw [hbody] at HB
      have HBO : Hid (body ++ num4 (ceil body) = recB L) := (by rw [← hbody, List.take_length]; unfold recB bodyB; rw [HN0.out.1] : _ = _)
      have hbl : body.length ≤ 100 := by have := HB.out.2; omega
      clear hbody
      go_wp2_with fail
      refine (ceiling_any w.heap.size _ body _ HB.out.1 (by omega)).mono ?_
      rintro e w2 ⟨rfl, rfl⟩
      go_wp2_with fail
      refine (appendNumber_any w.heap.size _ body (ceil body) _ HB.out.1 hsz (by omega)).mono ?_
      rintro e w3 ⟨v3, rfl, hbr, hkp⟩
      rw [HBO.out] at hbr
      have HF : Hid (BR w.heap.size v3 (recB L) w3 ∧ Kp w.heap.size [5] w w3) := ⟨hbr, HK.out.trans hkp⟩
      clear hbr hkp
      go_wp2
      go_ret
      exact ⟨_, rfl, HF.out.1, HF.out.2.belowB (Nat.le_refl _)⟩
end Go.Proofs.YtakipjofboipmaaGreatDoor

/- The walks of this proof: the entries of a batch. -/
namespace Go.Proofs.YtakipjofboipmaaGreatDoor
open Go.RowKit Go.Sort

theorem Tryz.info61 : (Tryz.prog.info? 61).map (fun i => (i.zero, i.size, i.bytes)) = some (some (.agg #[.string ⟨#[]⟩, .int .i64 0, .bool false, .string ⟨#[]⟩]), 4, 48) := by kernel_rfl

theorem one_entry (w : World) (x : En) (N : Nat) (hN : N = w.heap.size) : ∀ j u, (En.cells x)[j]? = some u → (w.alloc (.cells #[.string x.k, .int .i64 x.s, .bool x.g, .string x.v] 61)).cell? ((⟨N, 0, none⟩ : Addr).add j) = some u := by
  subst hN
  intro j u hj
  match j, hj with
  | 0, hj => simp [En.cells] at hj; subst hj; simp [Addr.add]
  | 1, hj => simp [En.cells] at hj; subst hj; simp [Addr.add]
  | 2, hj => simp [En.cells] at hj; subst hj; simp [Addr.add]
  | 3, hj => simp [En.cells] at hj; subst hj; simp [Addr.add]
  | j + 4, hj => simp [En.cells] at hj

theorem entry_one (x : En) : ∀ u ∈ En.cells x, u.oneCell' = true := by
  intro u hu; simp [En.cells] at hu; rcases hu with rfl | rfl | rfl | rfl <;> rfl

/-- What Entries comes to. -/
def EntPost (L : List Pr) (s : Int) (w : World) (e : Ending) (w' : World) : Prop :=
  ∃ v : Value, e = .returned v ∧ w'.ownsRow w.heap.size 61 4 v (L.map (toEn s)).length (ecells (L.map (toEn s))) ∧ Below w.heap.size w w'

set_option maxHeartbeats 1000000 in
set_option maxRecDepth 100000 in
theorem entries_any (L : List Pr) (v : Value) (base : Nat) (s : Int) (w : World) (h : w.ownsRow base 57 3 v L.length (pcells L)) (h4 : L.length ≤ 4) :
    Calls Tryz.prog 49 #[v, .int .i64 s] w fun e w' => EntPost L s w e w' := by
  obtain ⟨i0, hi, hz0, hz1, hz2⟩ := info_parts Tryz.info61
  have HPR : Hid (∀ w', 0 < L.length → Below w.heap.size w w' → ∃ g cap, v = .slice (some ⟨g, 0, none⟩) L.length cap ∧ base ≤ g ∧ g < w.heap.size ∧ L.length ≤ cap ∧ ∀ (k : Nat) p, L[k]? = some p → w'.cell? ⟨g, k * 3, none⟩ = some (.string p.k) ∧ w'.cell? ⟨g, k * 3 + 1, none⟩ = some (.string p.v) ∧ w'.cell? ⟨g, k * 3 + 2, none⟩ = some (.bool p.g)) := fun w' hl hb => pr_cells h hb hl
  obtain ⟨ao, cap, rfl⟩ := slice_form h
  clear h
  obtain ⟨M, hM⟩ : ∃ M, madeCells (Value.agg #[.string ⟨#[]⟩, .int .i64 0, .bool false, .string ⟨#[]⟩]).cells (((L.length : Nat) : Int).toNat * i0.size) = M := ⟨_, rfl⟩
  have hMs : M.size = L.length * 4 := by rw [← hM, size_madeCells, hz1]; simp
  have mk : ∀ W : World, (Instr.makeSlice 59 (.int .i64 0) (.int .i64 (L.length : Int))).run Tryz.prog W = .ok (.slice (some ⟨W.heap.size, 0, none⟩) 0 L.length) (W.alloc (.cells M 61)) := fun W => by
    have h := run_make (P := Tryz.prog) W 59 61 i0 (.agg #[.string ⟨#[]⟩, .int .i64 0, .bool false, .string ⟨#[]⟩]) Tryz.underlying59 hi hz0 .i64 .i64 0 (L.length : Int) (by omega) (by omega) (by rw [hz2]; omega) (by omega)
    rw [hM] at h
    simpa using h
  have OWN0 : Hid ((w.alloc (.cells M 61)).ownsRow w.heap.size 61 4 (.slice (some ⟨w.heap.size, 0, none⟩) 0 L.length) 0 []) := World.ownsRow_made w M L.length (Nat.le_refl _) (by unfold maxLen; omega) hMs
  have B0 : Hid (Below w.heap.size w (w.alloc (.cells M 61))) := (Below.refl _ _).alloc (Nat.le_refl _) _
  clear hM hMs
  go_enter Tryz.func49, Tryz.ntmps49
  go_wp2
  go_loopw [5, 13] (fun s5 i wr => ∃ k : Nat, k ≤ L.length ∧ i = .int .i64 k ∧ Hid (wr.ownsRow w.heap.size 61 4 s5 ((L.take k).map (toEn s)).length (ecells ((L.take k).map (toEn s)))) ∧ Hid (Below w.heap.size w wr)) (fun _ i _ => L.length - (intOf i).toNat)
  case atStart => exact ⟨0, Nat.zero_le _, rfl, OWN0.out, B0.out⟩
  case round =>
    clear OWN0 B0 mk
    obtain ⟨k, hk, rfl, HO, HB⟩ := hrel
    have hsz : w.heap.size ≤ wr.heap.size := HB.out.size
    have hlen : ((L.take k).map (toEn s)).length = k := by simp; omega
    by_cases hlt : k < L.length
    · obtain ⟨g, cap', hv', _, hgl, hcap, hcell⟩ := HPR.out wr (by omega) HB.out
      simp only [Value.slice.injEq, true_and] at hv'
      obtain ⟨rfl, rfl⟩ := hv'
      obtain ⟨p, hp⟩ : ∃ p, L[k]? = some p := ⟨_, List.getElem?_eq_getElem hlt⟩
      obtain ⟨c0, c1, c2⟩ := hcell k p hp
      have hgr : g < wr.heap.size := by omega
      have HT : Hid ((L.take (k + 1)).map (toEn s) = (L.take k).map (toEn s) ++ [toEn s p]) := by
        show _ = _
        rw [List.take_add_one, hp]; simp
      rw [hlen] at HO
      obtain ⟨ao5, cap5, rfl⟩ := slice_form HO.out
      clear hcell hp hlen
      go_wp2_with (at_builtin; refine wpList_append_own _ rfl (.tmp 17) (.tmp 26) 59 rfl w.heap.size 61 i0 _ 4 48 Tryz.underlying59 hi hz0 hz1 hz2 rfl (by decide) _ _ _ rfl (by exact (HO.out.alloc _).alloc _) ⟨wr.heap.size + 1, 0, none⟩ 1 1 (En.cells (toEn s p)) rfl rfl (by exact one_entry (wr.alloc _) (toEn s p) _ (by simp)) (entry_one _) (by unfold maxLen; omega) (by omega) (by simp; omega) ?_)
      intro v9 w2 ho2 hg2 _
      have HB2 : Hid (Below w.heap.size w w2) := ((HB.out.alloc HB.out.size _).alloc (by simp; omega) _).grown hg2 (by simp; omega) fun k hk => (HO.out.lt k hk).1
      have HO2 : Hid (w2.ownsRow w.heap.size 61 4 v9 ((L.take (k + 1)).map (toEn s)).length (ecells ((L.take (k + 1)).map (toEn s)))) := by
        rw [HT.out]
        have e : ecells ((L.take k).map (toEn s) ++ [toEn s p]) = ecells ((L.take k).map (toEn s)) ++ En.cells (toEn s p) := by simp [ecells]
        rw [e, List.length_append, show ((L.take k).map (toEn s)).length = k by simp; omega]
        rw [← List.map_take] at ho2
        exact ho2
      clear ho2 hg2 HO
      go_wp2
      go_roundw
      case rel => exact ⟨k + 1, by omega, by go_num, HO2, HB2⟩
      case measure => simp [intOf]; omega
    · obtain rfl : k = L.length := by omega
      rw [List.take_of_length_le (Nat.le_refl _)] at HO
      clear hlen
      go_wp2
      go_ret
      exact ⟨_, rfl, HO.out, HB.out⟩
end Go.Proofs.YtakipjofboipmaaGreatDoor

/- Plain mathematics of this proof: what the batches make of a key, and what the entries tell of it. -/
namespace Go.Proofs.YtakipjofboipmaaGreatDoor

/-- What the first n batches make of a key: the last pair. -/
def val (A : List (List Pr)) (k : ByteArray) : Nat → Option Pr
  | 0 => none
  | n + 1 => match lastP (A.getD n []) k with
    | some p => some p
    | none => val A k n

def vk (A : List (List Pr)) (k : ByteArray) (n : Nat) : Option ByteArray :=
  match val A k n with
  | some p => if p.g then none else some p.v
  | none => none

theorem lastP_snoc : ∀ (L : List Pr) (p : Pr) (k : ByteArray), lastP (L ++ [p]) k = if p.k = k then some p else lastP L k
  | [], p, k => by simp [lastP]
  | a :: L, p, k => by
    rw [List.cons_append]
    unfold lastP
    rw [lastP_snoc L p k]
    by_cases h : p.k = k
    · simp [h]
    · simp [h]

/-- The entries are those that the batches made. -/
def Rel (E : List En) (A : List (List Pr)) : Prop := ∀ e, e ∈ E ↔ ∃ (i : Nat) (b : List Pr) (p : Pr), A[i]? = some b ∧ p ∈ keep b ∧ e = toEn ((i : Int) + 1) p

theorem val_none {A : List (List Pr)} {k : ByteArray} : ∀ {n : Nat}, val A k n = none → ∀ i, i < n → lastP (A.getD i []) k = none
  | 0, _, i, h => absurd h (Nat.not_lt_zero _)
  | n + 1, h, i, hi => by
    unfold val at h
    cases hl : lastP (A.getD n []) k with
    | some p => rw [hl] at h; cases h
    | none =>
      rw [hl] at h
      rcases Nat.lt_succ_iff_lt_or_eq.1 hi with h1 | rfl
      · exact val_none h i h1
      · exact hl

theorem val_some {A : List (List Pr)} {k : ByteArray} {p : Pr} : ∀ {n : Nat}, val A k n = some p → ∃ i, i < n ∧ lastP (A.getD i []) k = some p ∧ ∀ j, i < j → j < n → lastP (A.getD j []) k = none
  | 0, h => by cases h
  | n + 1, h => by
    unfold val at h
    cases hl : lastP (A.getD n []) k with
    | some q => rw [hl] at h; obtain rfl := Option.some.inj h; exact ⟨n, Nat.lt_succ_self _, hl, fun j h1 h2 => by omega⟩
    | none =>
      rw [hl] at h
      obtain ⟨i, h1, h2, h3⟩ := val_some h
      refine ⟨i, by omega, h2, fun j h4 h5 => ?_⟩
      rcases Nat.lt_succ_iff_lt_or_eq.1 h5 with h6 | rfl
      · exact h3 j h4 h6
      · exact hl

theorem sk_vk {E : List En} {A : List (List Pr)} (hs : Sorted E) (hr : Rel E A) (k : ByteArray) (n : Nat) (hn : n ≤ A.length) : sk E k n = vk A k n := by
  unfold sk vk
  cases hv : val A k n with
  | none =>
    have h := val_none hv
    rw [fnd_no]
    intro e he hk hq
    obtain ⟨i, b, p, hb, hp, rfl⟩ := (hr e).1 he
    have hi : i < n := by simp only [toEn] at hq; omega
    have h1 := h i hi
    rw [List.getD_eq_getElem?_getD, hb] at h1
    have h2 := keep_mem.1 hp
    simp only [toEn] at hk
    rw [hk] at h2
    simp only [Option.getD_some] at h1
    rw [h1] at h2
    cases h2
  | some p =>
    obtain ⟨i, hi, hl, hm⟩ := val_some hv
    obtain ⟨b, hb⟩ : ∃ b, A[i]? = some b := ⟨_, List.getElem?_eq_getElem (by omega)⟩
    rw [List.getD_eq_getElem?_getD, hb, Option.getD_some] at hl
    have hk := (lastP_key hl).1
    have he : toEn ((i : Int) + 1) p ∈ E := (hr _).2 ⟨i, b, p, hb, keep_mem.2 (by rw [hk]; exact hl), rfl⟩
    rw [fnd_eq hs he hk (by simp only [toEn]; omega) ?_]
    · rfl
    · intro e' he' hk' hq'
      obtain ⟨j, b', p', hb', hp', rfl⟩ := (hr e').1 he'
      simp only [toEn] at hk' hq' ⊢
      by_cases hij : i < j
      · exfalso
        have h1 := hm j hij (by omega)
        rw [List.getD_eq_getElem?_getD, hb', Option.getD_some] at h1
        have h2 := keep_mem.1 hp'
        rw [hk', h1] at h2
        cases h2
      · omega

/-- One batch more. -/
theorem rel_snoc {E F : List En} {A : List (List Pr)} {b M : List Pr} (hr : Rel E A) (hm : SamePr (keep b) M) (hf : ∀ y, y ∈ F ↔ y ∈ E ∨ y ∈ M.map (toEn ((A.length : Int) + 1))) : Rel F (A ++ [b]) := by
  intro e
  rw [hf]
  constructor
  · rintro (h | h)
    · obtain ⟨i, c, p, h1, h2, h3⟩ := (hr e).1 h
      exact ⟨i, c, p, by rw [List.getElem?_append_left (List.getElem?_eq_some_iff.1 h1).1]; exact h1, h2, h3⟩
    · obtain ⟨p, h1, rfl⟩ := List.mem_map.1 h
      exact ⟨A.length, b, p, by simp, (hm.2 p).1 h1, rfl⟩
  · rintro ⟨i, c, p, h1, h2, rfl⟩
    by_cases hi : i < A.length
    · rw [List.getElem?_append_left hi] at h1
      exact .inl ((hr _).2 ⟨i, c, p, h1, h2, rfl⟩)
    · rw [List.getElem?_append_right (by omega)] at h1
      have h0 : i - A.length = 0 := by
        rcases Nat.eq_zero_or_pos (i - A.length) with h | h
        · exact h
        · rw [List.getElem?_eq_none (by simp; omega)] at h1; cases h1
      rw [h0] at h1
      simp only [List.getElem?_cons_zero, Option.some.injEq] at h1
      subst h1
      obtain rfl : i = A.length := by omega
      exact .inr (List.mem_map.2 ⟨p, (hm.2 p).2 h2, rfl⟩)

theorem val_succ {A : List (List Pr)} {k : ByteArray} {i : Nat} {b : List Pr} (hb : A[i]? = some b) : val A k (i + 1) = match lastP b k with | some p => some p | none => val A k i := by
  show (match lastP (A.getD i []) k with | some p => some p | none => val A k i) = _
  rw [List.getD_eq_getElem?_getD, hb, Option.getD_some]

theorem lastP_take {b : List Pr} {r : Nat} {p : Pr} (k : ByteArray) (h : b[r]? = some p) : lastP (b.take (r + 1)) k = if p.k = k then some p else lastP (b.take r) k := by
  rw [List.take_add_one, h]
  exact lastP_snoc _ _ _

end Go.Proofs.YtakipjofboipmaaGreatDoor

/- The walks of this proof: the document's store: the number that is asked, what is seen of a key, Get. -/
namespace Go.Proofs.YtakipjofboipmaaGreatDoor
open Go.RowKit Go.Sort

/-- What the document's store holds: batches, snapshots, the number of the last one. -/
structure Rf where
  A : List (List Pr)
  S : List Sn
  num : Int

/-- Batches, each a row of D. -/
def RAll (D : Nat → Prop) (w : World) (vA : Value) (A : List (List Pr)) : Prop :=
  ∃ Ws : List Value, OwnsIn w D 38 1 vA A.length Ws ∧ ∀ (i : Nat) (b : List Pr), A[i]? = some b → ∃ vi, Ws[i]? = some vi ∧ OwnsIn w D 57 3 vi b.length (pcells b)

/-- The document's store that lies in block rb. -/
def RefAt (D : Nat → Prop) (rb : Nat) (y : Rf) (w : World) : Prop :=
  ∃ (vA vS vT : Value) (la sy : Int), D rb ∧ w.heap[rb]? = some (.cells #[vA, .int .i64 la, .int .i64 sy, vS, .int .i64 y.num, vT] 85 (0, 0)) ∧
    RAll D w vA y.A ∧ OwnsIn w D 138 2 vS y.S.length (scells y.S)

theorem RAll.kept {D D' : Nat → Prop} {ts : List Nat} {w w' : World} {vA : Value} {A : List (List Pr)} (h : RAll D w vA A) (k : Kd D' ts w w') (h1 : 38 ∉ ts) (h2 : 57 ∉ ts) : RAll D w' vA A := by
  obtain ⟨Ws, h3, h4⟩ := h
  exact ⟨Ws, k.ownsIn h3 h1, fun i b hb => by obtain ⟨vi, h5, h6⟩ := h4 i b hb; exact ⟨vi, h5, k.ownsIn h6 h2⟩⟩

theorem OwnsIn.apart {D D' : Nat → Prop} {ts : List Nat} {w w' : World} {e : TypeId} {size : Nat} {v : Value} {n : Nat} {xs : List Value} (h : OwnsIn w D e size v n xs) (k : Kd D' ts w w') (hd : ∀ b, D b → b < w.heap.size → ¬ D' b) : OwnsIn w' D e size v n xs :=
  ⟨k.ownsN h.own fun g hg => hd g (h.dom g hg) (h.own.lt g hg).2, h.dom⟩

theorem RAll.apart {D D' : Nat → Prop} {ts : List Nat} {w w' : World} {vA : Value} {A : List (List Pr)} (h : RAll D w vA A) (k : Kd D' ts w w') (hd : ∀ b, D b → b < w.heap.size → ¬ D' b) : RAll D w' vA A := by
  obtain ⟨Ws, h3, h4⟩ := h
  exact ⟨Ws, h3.apart k hd, fun i b hb => by obtain ⟨vi, h5, h6⟩ := h4 i b hb; exact ⟨vi, h5, h6.apart k hd⟩⟩

theorem RefAt.kept {D D' : Nat → Prop} {rb : Nat} {ts : List Nat} {y : Rf} {w w' : World} (h : RefAt D rb y w) (k : Kd D' ts w w') (h1 : 85 ∉ ts) (h2 : 38 ∉ ts) (h3 : 57 ∉ ts) (h4 : 138 ∉ ts) : RefAt D rb y w' := by
  obtain ⟨vA, vS, vT, la, sy, hB, hs, hA, hS⟩ := h
  exact ⟨vA, vS, vT, la, sy, hB, k.keep hs h1, hA.kept k h2 h3, k.ownsIn hS h4⟩

theorem RefAt.apart {D D' : Nat → Prop} {rb : Nat} {ts : List Nat} {y : Rf} {w w' : World} (h : RefAt D rb y w) (k : Kd D' ts w w') (hd : ∀ b, D b → b < w.heap.size → ¬ D' b) : RefAt D rb y w' := by
  obtain ⟨vA, vS, vT, la, sy, hB, hs, hA, hS⟩ := h
  exact ⟨vA, vS, vT, la, sy, hB, k.keepN hs (hd rb hB (lt_of_block hs)), hA.apart k hd, hS.apart k hd⟩

theorem RefAt.below {D : Nat → Prop} {rb : Nat} {y : Rf} {w w' : World} (h : RefAt D rb y w) (hb : Below w.heap.size w w') : RefAt D rb y w' :=
  h.kept (Kd.of_below (D := D) (ts := []) hb) (by simp) (by simp) (by simp) (by simp)

theorem RAll.below {D : Nat → Prop} {w w' : World} {vA : Value} {A : List (List Pr)} (h : RAll D w vA A) (hb : Below w.heap.size w w') : RAll D w' vA A :=
  h.kept (Kd.of_below (D := D) (ts := []) hb) (by simp) (by simp)

/-- The cells of a batch. -/
theorem all_cells {D : Nat → Prop} {w : World} {vA : Value} {A : List (List Pr)} (h : RAll D w vA A) {i : Nat} {b : List Pr} (hb : A[i]? = some b) :
    ∃ g cap vi ci, vA = .slice (some ⟨g, 0, none⟩) A.length cap ∧ g < w.heap.size ∧ w.cell? ⟨g, i, none⟩ = some (.slice vi b.length ci) ∧
      (0 < b.length → ∃ gi, vi = some ⟨gi, 0, none⟩ ∧ gi < w.heap.size ∧ ∀ (k : Nat) p, b[k]? = some p → w.cell? ⟨gi, k * 3, none⟩ = some (.string p.k) ∧ w.cell? ⟨gi, k * 3 + 1, none⟩ = some (.string p.v) ∧ w.cell? ⟨gi, k * 3 + 2, none⟩ = some (.bool p.g)) := by
  obtain ⟨Ws, h3, h4⟩ := h
  obtain ⟨vi, h5, h6⟩ := h4 i b hb
  have hA : 0 < A.length := by have := (List.getElem?_eq_some_iff.1 hb).1; omega
  have hWl : Ws.length = A.length := by have := h3.own.1; omega
  have e : Ws.flatMap (fun v => [v]) = Ws := by induction Ws <;> simp_all
  obtain ⟨g, cap, rfl, _, hgl, _, hcell⟩ := row_cell (f := fun v => [v]) (size := 1) (l := Ws) (fun a => rfl) (by rw [hWl, e]; exact h3.own) (by omega)
  have hc := hcell i vi 0 h5 (by omega)
  rw [hWl]
  obtain ⟨ao, ci, rfl⟩ := slice_form h6.own
  refine ⟨g, cap, ao, ci, rfl, hgl, by simpa using hc, fun hl => ?_⟩
  obtain ⟨gi, ci', hv, _, hgi, _, hce⟩ := pr_cells h6.own (Below.refl _ _) hl
  simp only [Value.slice.injEq, true_and] at hv
  obtain ⟨rfl, rfl⟩ := hv
  exact ⟨gi, rfl, hgi, hce⟩

def atVal : Option Int → Value
  | some q => .int .i64 q
  | none => .int .i64 (-1)

theorem snq_hit {S : List Sn} {n : Int} {k : Nat} {s : Sn} (hs : S[k]? = some s) (hn : s.n = n) (hno : ∀ j s', j < k → S[j]? = some s' → s'.n ≠ n) : snq S n = some s.q := by
  rw [snq_idx, sidx_hit hs hn hno]
  simp [hs]

theorem snq_none {S : List Sn} {n : Int} (hno : ∀ j s', j < S.length → S[j]? = some s' → s'.n ≠ n) : snq S n = none := by
  rw [snq_idx, sidx_none hno]
  rfl

set_option maxHeartbeats 1000000 in
theorem refAt_any (D : Nat → Prop) (rb : Nat) (y : Rf) (n : Int) (w : World) (hy : RefAt D rb y w) (h4 : y.S.length ≤ 4) :
    Calls Tryz.prog 60 #[.pointer (some ⟨rb, 0, none⟩), .int .i64 n] w fun e w' => e = .returned (atVal (seqOf y.S y.A.length n)) ∧ w' = w := by
  obtain ⟨vA, vS, vT, la, sy, hB, hs, hA, hS⟩ := hy
  obtain ⟨Ws, hW, _⟩ := hA
  obtain ⟨aoA, capA, rfl⟩ := slice_form hW.own
  obtain ⟨aoS, capS, rfl⟩ := slice_form hS.own
  have c0 : w.cell? ⟨rb, 0, none⟩ = some (.slice aoA y.A.length capA) := by simp [World.cell?, hs]
  have c3 : w.cell? ⟨rb, 3, none⟩ = some (.slice aoS y.S.length capS) := by simp [World.cell?, hs]
  have HS : Hid (OwnsIn w D 138 2 (.slice aoS y.S.length capS) y.S.length (scells y.S)) := hS
  clear hs hW hS
  unfold seqOf
  by_cases hn : n = 0
  · subst hn
    rw [if_pos rfl]
    go_enter Tryz.func60, Tryz.ntmps60
    go_wp2
    go_ret
    exact ⟨rfl, rfl⟩
  · have hnb : (n == 0) = false := by simp [hn]
    rw [if_neg hn]
    go_enter Tryz.func60, Tryz.ntmps60
    go_wp2
    go_loopw [5] (fun i wr => ∃ k : Nat, k ≤ y.S.length ∧ i = .int .i64 k ∧ wr = w ∧ Hid (∀ j s', j < k → y.S[j]? = some s' → s'.n ≠ n)) (fun i _ => y.S.length - (intOf i).toNat)
    case atStart => exact ⟨0, Nat.zero_le _, rfl, rfl, fun j s' h => absurd h (Nat.not_lt_zero _)⟩
    case round =>
      obtain ⟨k, hk, rfl, rfl, HN⟩ := hrel
      by_cases hlt : k < y.S.length
      · obtain ⟨g, cap', hv', hbg, hgl, hcap, hcell⟩ := row_cell (fun a => by rfl) HS.out.own (by omega)
        simp only [Value.slice.injEq, true_and] at hv'
        obtain ⟨rfl, rfl⟩ := hv'
        obtain ⟨s, hs⟩ : ∃ s, y.S[k]? = some s := ⟨_, List.getElem?_eq_getElem hlt⟩
        have d0 := show wr.cell? ⟨g, k * 2, none⟩ = some (Value.int .i64 s.n) from hcell k s 0 hs (by omega)
        have d1 := show wr.cell? ⟨g, k * 2 + 1, none⟩ = some (Value.int .i64 s.q) from hcell k s 1 hs (by omega)
        have HE : Hid (y.S[k]? = some s) := hs
        clear hs hcell
        by_cases hsn : s.n = n
        · have hfin : Hid (snq y.S n = some s.q) := snq_hit HE.out hsn HN.out
          have hnb : (s.n == n) = true := by simp [hsn]
          go_wp2
          go_ret
          exact ⟨by rw [hfin.out]; rfl, rfl⟩
        · have hnb : (s.n == n) = false := by simp [hsn]
          go_wp2
          go_roundw
          case rel => exact ⟨k + 1, by omega, by go_num, by first | rfl | trivial, fun j s' hj hs' => by
            rcases Nat.lt_succ_iff_lt_or_eq.1 hj with h | rfl
            · exact HN.out j s' h hs'
            · rw [HE.out] at hs'; cases hs'; exact hsn⟩
          case measure => simp [intOf]; omega
      · obtain rfl : k = y.S.length := by omega
        have hfin : Hid (snq y.S n = none) := snq_none HN.out
        go_wp2
        go_ret
        exact ⟨by rw [hfin.out]; rfl, rfl⟩

/-- What seen answers. -/
def seenAns (A : List (List Pr)) (k : ByteArray) (n : Nat) : ByteArray × Bool :=
  match val A k n with
  | some p => (p.v, !p.g)
  | none => (⟨#[]⟩, false)

def accOf (o : Option Pr) : ByteArray × Bool :=
  match o with
  | some p => (p.v, !p.g)
  | none => (⟨#[]⟩, false)

/-- What the first i batches, and of the next one the first r pairs, make of a key. -/
def valUp (A : List (List Pr)) (k : ByteArray) (i : Nat) (b : List Pr) (r : Nat) : Option Pr :=
  match lastP (b.take r) k with
  | some p => some p
  | none => val A k i

set_option maxHeartbeats 1000000 in
set_option maxRecDepth 100000 in
theorem refSeen_any (D : Nat → Prop) (rb : Nat) (y : Rf) (k : ByteArray) (n : Nat) (w : World) (hy : RefAt D rb y w) (hn : n ≤ y.A.length) (hA : y.A.length < 1100000000000) (hb : ∀ b ∈ y.A, b.length ≤ 4) :
    Calls Tryz.prog 61 #[.pointer (some ⟨rb, 0, none⟩), .string k, .int .i64 n] w fun e w' => e = .returned (.tuple #[.string (seenAns y.A k n).1, .bool (seenAns y.A k n).2]) ∧ Below w.heap.size w w' := by
  obtain ⟨vA, vS, vT, la, sy, hB, hs, hall, _⟩ := hy
  have c0 : w.cell? ⟨rb, 0, none⟩ = some vA := by simp [World.cell?, hs]
  have hbl : rb < w.heap.size := lt_of_block hs
  have HALL : Hid (RAll D w vA y.A) := hall
  have HB4 : Hid (∀ b ∈ y.A, b.length ≤ 4) := hb
  clear hall hs hb
  go_enter Tryz.func61, Tryz.ntmps61
  go_wp2
  go_loopg [8, 9, 10, 11, 12] n (fun kx s8 s9 s10 s11 s12 wr => ∃ i : Nat, i ≤ n ∧ n - i ≤ kx ∧ s10 = .int .i64 i ∧ s8 = .string (accOf (val y.A k i)).1 ∧ s9 = .bool (accOf (val y.A k i)).2 ∧ Hid (Below w.heap.size w wr))
  case atStart => exact ⟨0, Nat.zero_le _, Nat.le_refl _, rfl, rfl, rfl, Below.refl _ _⟩
  case round =>
    obtain ⟨i, hin, hik, rfl, rfl, rfl, HB⟩ := hrel
    by_cases hlt : i < n
    · obtain ⟨b, hbi⟩ : ∃ b, y.A[i]? = some b := ⟨_, List.getElem?_eq_getElem (by omega)⟩
      have hb4 := HB4.out b (List.mem_of_getElem? hbi)
      obtain ⟨g, cap, vi, ci, rfl, hgl, cg, hce⟩ := all_cells HALL.out hbi
      have HCE : Hid _ := hce
      have HBI : Hid (y.A[i]? = some b) := hbi
      have c0' := cell_later HB.out c0
      clear hce hbi
      go_wp2
      go_loopg [8, 9, 11, 12] b.length (fun kx s8 s9 s11 s12 wx => ∃ r : Nat, r ≤ b.length ∧ b.length - r ≤ kx ∧ s11 = .int .i64 r ∧ s8 = .string (accOf (valUp y.A k i b r)).1 ∧ s9 = .bool (accOf (valUp y.A k i b r)).2 ∧ Hid (Below w.heap.size w wx))
      case atStart => exact ⟨0, Nat.zero_le _, by omega, rfl, by simp [valUp, lastP], by simp [valUp, lastP], HB.out⟩
      case round =>
        obtain ⟨r, hrb, hrk, rfl, rfl, rfl, HBx⟩ := hrel
        have c0x := cell_later HBx.out c0
        have cgx := cell_later HBx.out cg
        by_cases hrlt : r < b.length
        · obtain ⟨gi, rfl, hgil, hce⟩ := HCE.out (by omega)
          obtain ⟨p, hp⟩ : ∃ p, b[r]? = some p := ⟨_, List.getElem?_eq_getElem hrlt⟩
          obtain ⟨d0, d1, d2⟩ := hce r p hp
          have d0 := cell_later HBx.out d0
          have d1 := cell_later HBx.out d1
          have d2 := cell_later HBx.out d2
          have HT : Hid (valUp y.A k i b (r + 1) = if p.k = k then some p else valUp y.A k i b r) := by
            show _ = _
            unfold valUp
            rw [lastP_take k hp]
            by_cases h : p.k = k <;> simp [h]
          have hgx : gi < wr.heap.size := Nat.lt_of_lt_of_le hgil HBx.out.size
          have HF : Hid (Below w.heap.size w (wr.alloc (.cells #[.string p.k, .string p.v, .bool p.g] 57))) := HBx.out.alloc HBx.out.size _
          clear hce hp
          by_cases hk : p.k = k
          · subst hk
            go_wp2
            go_region
            all_goals (
              go_wp2
              go_roundg (b.length - (r + 1))
              case measure => omega
              case rel => exact ⟨r + 1, by omega, Nat.le_refl _, by go_num, by rw [HT.out]; simp [accOf], by rw [HT.out]; simp [accOf], by exact HF.out.drew⟩)
          · have hnb := str_ne hk
            go_wp2
            go_roundg (b.length - (r + 1))
            case measure => omega
            case rel => exact ⟨r + 1, by omega, Nat.le_refl _, by go_num, by rw [HT.out, if_neg hk], by rw [HT.out, if_neg hk], HF.out⟩
        · obtain rfl : r = b.length := by omega
          have HE : Hid (valUp y.A k i b b.length = val y.A k (i + 1)) := by
            show _ = _
            unfold valUp
            rw [val_succ HBI.out, List.take_of_length_le (Nat.le_refl _)]
            try rfl
          go_wp2
          go_roundg (n - (i + 1))
          case measure => omega
          case rel => exact ⟨i + 1, by omega, Nat.le_refl _, by go_num, by rw [HE.out], by rw [HE.out], HBx.out⟩
    · obtain rfl : i = n := by omega
      go_wp2
      go_ret2
      exact ⟨rfl, HB.out⟩

/-- What Get answers, by the document. -/
def rgetVal (y : Rf) (k : ByteArray) (n : Int) : Value :=
  if 1 ≤ k.size ∧ k.size ≤ 6 then
    match seqOf y.S y.A.length n with
    | none => .tuple #[.string ⟨#[]⟩, .int .i64 5]
    | some q => match vk y.A k q.toNat with
      | some v => .tuple #[.string v, .int .i64 0]
      | none => .tuple #[.string ⟨#[]⟩, .int .i64 6]
  else .tuple #[.string ⟨#[]⟩, .int .i64 1]

/-- What is true of the document's store. -/
structure RfOk (y : Rf) : Prop where
  snaps : y.S.length ≤ 4
  few : y.A.length < 1100000000000
  four : ∀ b ∈ y.A, b.length ≤ 4
  ats : ∀ s ∈ y.S, 0 ≤ s.q ∧ s.q ≤ y.A.length

theorem seqOf_le {y : Rf} (ok : RfOk y) {n q : Int} (h : seqOf y.S y.A.length n = some q) : 0 ≤ q ∧ q.toNat ≤ y.A.length := by
  unfold seqOf at h
  split at h
  · cases h; omega
  · unfold snq at h
    cases hf : y.S.find? fun s => decide (s.n = n) with
    | none => rw [hf] at h; cases h
    | some s =>
      rw [hf] at h
      simp only [Option.map_some, Option.some.injEq] at h
      have := ok.ats s (List.mem_of_find?_eq_some hf)
      omega

set_option maxHeartbeats 1000000 in
theorem refGet_any (D : Nat → Prop) (rb : Nat) (y : Rf) (k : ByteArray) (n : Int) (w : World) (hy : RefAt D rb y w) (ok : RfOk y) (hk : k.size ≤ maxLen) :
    Calls Tryz.prog 24 #[.pointer (some ⟨rb, 0, none⟩), .string k, .int .i64 n] w fun e w' => e = .returned (rgetVal y k n) ∧ Below w.heap.size w w' := by
  have hat := refAt_any D rb y n w hy ok.snaps
  have hq := @seqOf_le y ok n
  unfold maxLen at hk
  have HSN : Hid (∀ q, q ≤ y.A.length → Calls Tryz.prog 61 #[.pointer (some ⟨rb, 0, none⟩), .string k, .int .i64 q] w fun e w' => e = .returned (.tuple #[.string (seenAns y.A k q).1, .bool (seenAns y.A k q).2]) ∧ Below w.heap.size w w') := fun q hq => refSeen_any D rb y k q w hy hq ok.few ok.four
  unfold rgetVal
  generalize seqOf y.S y.A.length n = r at hat hq
  have HAT : Hid _ := hat
  clear hat hy ok
  by_cases hkk : 1 ≤ k.size ∧ k.size ≤ 6
  · obtain ⟨h1, h6⟩ := hkk
    rw [if_pos ⟨h1, h6⟩]
    cases r with
    | none =>
      go_enter Tryz.func24, Tryz.ntmps24
      go_wp2_with fail
      refine Calls.mono HAT.out ?_
      rintro e w1 ⟨rfl, rfl⟩
      unfold atVal
      go_wp2
      go_ret2
      exact ⟨rfl, Below.refl _ _⟩
    | some q =>
      obtain ⟨h0, hqn⟩ := hq rfl
      obtain ⟨m, rfl⟩ : ∃ m : Nat, q = m := ⟨q.toNat, by omega⟩
      have HS : Hid _ := HSN.out m (by omega)
      simp only [Int.toNat_natCast]
      have HV : Hid (vk y.A k m = if (seenAns y.A k m).2 then some (seenAns y.A k m).1 else none) := by
        show _ = _
        unfold vk seenAns
        cases val y.A k m with
        | none => rfl
        | some p => cases hg : p.g <;> simp [hg]
      generalize seenAns y.A k m = sa at HS HV
      obtain ⟨sv, sb⟩ := sa
      simp only at HS HV
      rw [HV.out]
      clear hq HSN
      cases sb with
      | true =>
        go_enter Tryz.func24, Tryz.ntmps24
        go_wp2_with fail
        refine Calls.mono HAT.out ?_
        rintro e w1 ⟨rfl, rfl⟩
        unfold atVal
        go_wp2_with fail
        refine Calls.mono HS.out ?_
        rintro e w2 ⟨rfl, hb⟩
        have HB : Hid (Below w1.heap.size w1 w2) := hb
        clear hb
        go_wp2
        go_ret2
        exact ⟨rfl, HB.out⟩
      | false =>
        go_enter Tryz.func24, Tryz.ntmps24
        go_wp2_with fail
        refine Calls.mono HAT.out ?_
        rintro e w1 ⟨rfl, rfl⟩
        unfold atVal
        go_wp2_with fail
        refine Calls.mono HS.out ?_
        rintro e w2 ⟨rfl, hb⟩
        have HB : Hid (Below w1.heap.size w1 w2) := hb
        clear hb
        go_wp2
        go_ret2
        exact ⟨rfl, HB.out⟩
  · rw [if_neg hkk]
    clear HSN hq
    obtain ⟨qv, hqv⟩ : ∃ qv : Int, atVal r = .int .i64 qv := by cases r <;> exact ⟨_, rfl⟩
    rw [hqv] at HAT
    by_cases h1 : k.size < 1
    · go_enter Tryz.func24, Tryz.ntmps24
      go_wp2_with fail
      refine Calls.mono HAT.out ?_
      rintro e w1 ⟨rfl, rfl⟩
      go_wp2
      go_ret2
      exact ⟨rfl, Below.refl _ _⟩
    · have h6 : 6 < k.size := by omega
      go_enter Tryz.func24, Tryz.ntmps24
      go_wp2_with fail
      refine Calls.mono HAT.out ?_
      rintro e w1 ⟨rfl, rfl⟩
      go_wp2
      go_ret2
      exact ⟨rfl, Below.refl _ _⟩
end Go.Proofs.YtakipjofboipmaaGreatDoor

/- The walks of this proof: the document's store: the next key, Scan. -/
namespace Go.Proofs.YtakipjofboipmaaGreatDoor
open Go.RowKit Go.Sort

theorem bytesLess_cb : ∀ x y : List UInt8, Op.bytesLess x y = decide (Lib.compareBytes x y < 0)
  | [], [] => by simp [Op.bytesLess, Lib.compareBytes]
  | [], _ :: _ => by simp [Op.bytesLess, Lib.compareBytes]
  | _ :: _, [] => by simp [Op.bytesLess, Lib.compareBytes]
  | a :: x, b :: y => by
    unfold Op.bytesLess Lib.compareBytes
    by_cases h1 : a < b
    · simp [h1]
    · by_cases h2 : b < a
      · have h3 : a ≠ b := fun e => by subst e; exact h1 h2
        simp [h1, h2, h3]
      · have h3 : a = b := UInt8.le_antisymm (UInt8.not_lt.1 h2) (UInt8.not_lt.1 h1)
        simp [h3, bytesLess_cb x y]

/-- Go's '<' on strings, as the walk writes it. -/
theorem str_lt (a b : ByteArray) : Op.bytesLess a.toList b.toList = decide (kc a b < 0) := by
  rw [bytesLess_cb, ByteArray.toList_eq, ByteArray.toList_eq]; rfl

theorem str_gt (a b : ByteArray) : (!(Op.bytesLess a.toList b.toList || a.toList == b.toList)) = decide (kc b a < 0) := by
  rw [str_lt]
  by_cases h : a = b
  · subst h
    simp [kc_self]
  · rw [str_ne h, kc_neg a b]
    have : kc a b ≠ 0 := fun e => h (kc_zero e)
    by_cases h2 : kc a b < 0
    · simp [h2]; omega
    · simp [h2]; omega

/-- A key that next may tell. -/
def Above (key : ByteArray) (it : Bool) (k : ByteArray) : Prop := kc key k < 0 ∨ (it = true ∧ k = key)

/-- The least of keys that next may tell. -/
def IsNext (ks : ByteArray → Prop) (key : ByteArray) (it : Bool) : Option ByteArray → Prop
  | none => ∀ k, ks k → ¬ Above key it k
  | some x => ks x ∧ Above key it x ∧ ∀ k, ks k → Above key it k → 0 ≤ kc k x

/-- The keys of the first i batches, and of the next one the first r pairs. -/
def KeysUp (A : List (List Pr)) (i : Nat) (b : List Pr) (r : Nat) (k : ByteArray) : Prop := (∃ (j : Nat) (c : List Pr) (p : Pr), j < i ∧ A[j]? = some c ∧ p ∈ c ∧ p.k = k) ∨ ∃ p ∈ b.take r, p.k = k

def KeysOf (A : List (List Pr)) (k : ByteArray) : Prop := ∃ b ∈ A, ∃ p ∈ b, p.k = k

theorem next_skip {ks ks' : ByteArray → Prop} {key : ByteArray} {it : Bool} {o : Option ByteArray} {x : ByteArray} (h : IsNext ks key it o) (hk : ∀ k, ks' k ↔ ks k ∨ k = x) (hn : ¬ (Above key it x ∧ ∀ y, o = some y → kc x y < 0)) : IsNext ks' key it o := by
  cases o with
  | none =>
    intro k hk' ha
    rcases (hk k).1 hk' with h1 | rfl
    · exact h k h1 ha
    · exact hn ⟨ha, fun y hy => by cases hy⟩
  | some y =>
    obtain ⟨h1, h2, h3⟩ := h
    refine ⟨(hk y).2 (.inl h1), h2, fun k hk' ha => ?_⟩
    rcases (hk k).1 hk' with h4 | rfl
    · exact h3 k h4 ha
    · exact Int.not_lt.1 fun hlt => hn ⟨ha, fun y' hy => by cases hy; exact hlt⟩

theorem next_take {ks ks' : ByteArray → Prop} {key : ByteArray} {it : Bool} {o : Option ByteArray} {x : ByteArray} (h : IsNext ks key it o) (hk : ∀ k, ks' k ↔ ks k ∨ k = x) (ha : Above key it x) (hn : ∀ y, o = some y → kc x y < 0) : IsNext ks' key it (some x) := by
  refine ⟨(hk x).2 (.inr rfl), ha, fun k hk' hak => ?_⟩
  rcases (hk k).1 hk' with h1 | rfl
  · cases o with
    | none => exact absurd hak (h k h1)
    | some y =>
      have h2 := h.2.2 k h1 hak
      have h3 := hn y rfl
      refine Int.not_lt.1 fun hlt => ?_
      have := kc_trans hlt h3
      omega
  · rw [kc_self]; omega

theorem next_congr {ks ks' : ByteArray → Prop} {key : ByteArray} {it : Bool} {o : Option ByteArray} (h : IsNext ks key it o) (hk : ∀ k, ks' k ↔ ks k) : IsNext ks' key it o := by
  have : ks' = ks := funext fun k => propext (hk k)
  rw [this]; exact h

theorem keysUp_succ {A : List (List Pr)} {i : Nat} {b : List Pr} {r : Nat} {p : Pr} (hp : b[r]? = some p) (k : ByteArray) : KeysUp A i b (r + 1) k ↔ KeysUp A i b r k ∨ k = p.k := by
  unfold KeysUp
  rw [List.take_add_one, hp]
  simp only [Option.toList_some, List.mem_append, List.mem_singleton]
  constructor
  · rintro (h | ⟨q, h | rfl, rfl⟩)
    · exact .inl (.inl h)
    · exact .inl (.inr ⟨q, h, rfl⟩)
    · exact .inr rfl
  · rintro ((h | ⟨q, h, rfl⟩) | rfl)
    · exact .inl h
    · exact .inr ⟨q, .inl h, rfl⟩
    · exact .inr ⟨p, .inr rfl, rfl⟩

theorem keysUp_next {A : List (List Pr)} {i : Nat} {b : List Pr} (hb : A[i]? = some b) (c : List Pr) (k : ByteArray) : KeysUp A (i + 1) c 0 k ↔ KeysUp A i b b.length k := by
  unfold KeysUp
  rw [List.take_of_length_le (Nat.le_refl _)]
  simp only [List.take_zero, List.not_mem_nil, false_and, exists_false, or_false]
  constructor
  · rintro ⟨j, c, p, h1, h2, h3, h4⟩
    rcases Nat.lt_succ_iff_lt_or_eq.1 h1 with h | rfl
    · exact .inl ⟨j, c, p, h, h2, h3, h4⟩
    · rw [hb] at h2; cases h2; exact .inr ⟨p, h3, h4⟩
  · rintro (⟨j, c, p, h1, h2, h3, h4⟩ | ⟨p, h3, h4⟩)
    · exact ⟨j, c, p, by omega, h2, h3, h4⟩
    · exact ⟨i, b, p, by omega, hb, h3, h4⟩

theorem keysUp_all {A : List (List Pr)} {n : Nat} (hn : n = A.length) (c : List Pr) (k : ByteArray) : KeysOf A k ↔ KeysUp A n c 0 k := by
  subst hn
  unfold KeysUp KeysOf
  simp only [List.take_zero, List.not_mem_nil, false_and, exists_false, or_false]
  constructor
  · rintro ⟨b, hb, p, hp, h⟩
    obtain ⟨j, hj, rfl⟩ := List.getElem_of_mem hb
    exact ⟨j, _, p, hj, List.getElem?_eq_getElem hj, hp, h⟩
  · rintro ⟨j, c, p, _, h2, h3, h4⟩
    exact ⟨c, List.mem_of_getElem? h2, p, h3, h4⟩

def oVal (o : Option ByteArray) : ByteArray := o.getD ⟨#[]⟩

set_option maxHeartbeats 1000000 in
set_option maxRecDepth 100000 in
theorem refNext_any (D : Nat → Prop) (rb : Nat) (y : Rf) (key : ByteArray) (it : Bool) (w : World) (hy : RefAt D rb y w) (hA : y.A.length < 1100000000000) (hb : ∀ b ∈ y.A, b.length ≤ 4) :
    Calls Tryz.prog 109 #[.pointer (some ⟨rb, 0, none⟩), .string key, .bool it] w fun e w' => ∃ o : Option ByteArray, e = .returned (.tuple #[.string (oVal o), .bool o.isSome]) ∧ IsNext (KeysOf y.A) key it o ∧ w' = w := by
  obtain ⟨vA, vS, vT, la, sy, hB, hs, hall, _⟩ := hy
  have c0 : w.cell? ⟨rb, 0, none⟩ = some vA := by simp [World.cell?, hs]
  have HALL : Hid (RAll D w vA y.A) := hall
  obtain ⟨Ws, hW, _⟩ := hall
  obtain ⟨aoA, capA, rfl⟩ := slice_form hW.own
  have HB4 : Hid (∀ b ∈ y.A, b.length ≤ 4) := hb
  clear hs hb hW
  go_enter Tryz.func109, Tryz.ntmps109
  go_wp2
  go_loopg [8, 9, 10, 11, 12] y.A.length (fun kx s8 s9 s10 s11 s12 wr => ∃ (i : Nat) (o : Option ByteArray), i ≤ y.A.length ∧ y.A.length - i ≤ kx ∧ s10 = .int .i64 i ∧ s8 = .string (oVal o) ∧ s9 = .bool o.isSome ∧ wr = w ∧ Hid (IsNext (KeysUp y.A i [] 0) key it o))
  case atStart => exact ⟨0, none, Nat.zero_le _, Nat.le_refl _, rfl, rfl, rfl, rfl, fun k hk => by
    rcases hk with ⟨j, c, p, h, _⟩ | ⟨p, h, _⟩
    · exact absurd h (Nat.not_lt_zero _)
    · simp at h⟩
  case round =>
    obtain ⟨i, o, hin, hik, rfl, rfl, rfl, rfl, HI⟩ := hrel
    by_cases hlt : i < y.A.length
    · obtain ⟨b, hbi⟩ : ∃ b, y.A[i]? = some b := ⟨_, List.getElem?_eq_getElem (by omega)⟩
      have hb4 := HB4.out b (List.mem_of_getElem? hbi)
      obtain ⟨g, cap, vi, ci, hv, hgl, cg, hce⟩ := all_cells HALL.out hbi
      simp only [Value.slice.injEq, true_and] at hv
      obtain ⟨rfl, rfl⟩ := hv
      have HCE : Hid _ := hce
      have HBI : Hid (y.A[i]? = some b) := hbi
      have HI0 : Hid (IsNext (KeysUp y.A i b 0) key it o) := next_congr HI.out fun k => by unfold KeysUp; simp
      clear hce hbi
      go_wp2
      go_loopg [8, 9, 11, 12] b.length (fun kx s8 s9 s11 s12 wx => ∃ (r : Nat) (o : Option ByteArray), r ≤ b.length ∧ b.length - r ≤ kx ∧ s11 = .int .i64 r ∧ s8 = .string (oVal o) ∧ s9 = .bool o.isSome ∧ wx = wr ∧ Hid (IsNext (KeysUp y.A i b r) key it o))
      case atStart => exact ⟨0, o, Nat.zero_le _, by omega, rfl, rfl, rfl, rfl, HI0.out⟩
      case round =>
        clear HI HI0
        obtain ⟨r, o, hrb, hrk, rfl, rfl, rfl, rfl, HI⟩ := hrel
        by_cases hrlt : r < b.length
        · obtain ⟨gi, rfl, hgil, hce⟩ := HCE.out (by omega)
          obtain ⟨p, hp⟩ : ∃ p, b[r]? = some p := ⟨_, List.getElem?_eq_getElem hrlt⟩
          obtain ⟨d0, d1, d2⟩ := hce r p hp
          have HP : Hid (b[r]? = some p) := hp
          clear hce hp
          have e2 := str_lt p.k (oVal o)
          have e1 := str_lt p.k key
          have HA : Hid (Above key it p.k ↔ kc key p.k < 0 ∨ (it = true ∧ p.k = key)) := Iff.rfl
          have hcase : (kc p.k key < 0 ∧ (p.k.toList == key.toList) = false ∧ (Above key it p.k ↔ False)) ∨ (p.k = key ∧ (Above key it p.k ↔ it = true)) ∨ (¬ kc p.k key < 0 ∧ (p.k.toList == key.toList) = false ∧ (Above key it p.k ↔ True)) := by
            have hneg := kc_neg p.k key
            by_cases he : p.k = key
            · refine .inr (.inl ⟨he, ?_⟩)
              rw [HA.out, he, kc_self]
              simp
            · have h0 : kc p.k key ≠ 0 := fun h => he (kc_zero h)
              by_cases hl : kc p.k key < 0
              · exact .inl ⟨hl, str_ne he, by rw [HA.out]; simp [he]; omega⟩
              · exact .inr (.inr ⟨hl, str_ne he, by rw [HA.out]; simp [he]; omega⟩)
          have hless : (∃ x, o = some x ∧ ((kc p.k x < 0 ∧ ((∀ y, o = some y → kc p.k y < 0) ↔ True)) ∨ (¬ kc p.k x < 0 ∧ ((∀ y, o = some y → kc p.k y < 0) ↔ False)))) ∨ (o = none ∧ ((∀ y, o = some y → kc p.k y < 0) ↔ True)) := by
            cases o with
            | none => exact .inr ⟨rfl, by simp⟩
            | some x =>
              refine .inl ⟨x, rfl, ?_⟩
              by_cases h : kc p.k x < 0
              · exact .inl ⟨h, by simp [h]⟩
              · exact .inr ⟨h, by simp; omega⟩
          clear HA
          rcases hless with ⟨x, rfl, ⟨hx, hl⟩ | ⟨hx, hl⟩⟩ | ⟨rfl, hl⟩ <;> rcases hcase with ⟨hk, hke, ha⟩ | ⟨hk, ha⟩ | ⟨hk, hke, ha⟩
          all_goals (
            have HL : Hid _ := hl
            have HA : Hid _ := ha
            clear hl ha
            first | (subst hk; have hke := str_same p.k; rw [kc_self] at e1; simp only [Int.lt_irrefl, decide_false] at e1) | simp only [hk, decide_true, decide_false] at e1
            try replace e2 : Op.bytesLess p.k.toList (oVal (some x)).toList = decide (kc p.k x < 0) := e2
            try simp only [hx, decide_true, decide_false] at e2
            cases it <;> (
              go_wp2
              go_roundg (b.length - (r + 1))
              case measure => omega
              case rel => first
                | exact ⟨r + 1, some p.k, by omega, Nat.le_refl _, by go_num, rfl, rfl, rfl, next_take HI.out (keysUp_succ HP.out) (HA.out.2 (by trivial)) (HL.out.2 (by trivial))⟩
                | exact ⟨r + 1, _, by omega, Nat.le_refl _, by go_num, rfl, rfl, rfl, next_skip HI.out (keysUp_succ HP.out) (fun h => by have := HA.out.1 h.1; simp at this)⟩
                | exact ⟨r + 1, _, by omega, Nat.le_refl _, by go_num, rfl, rfl, rfl, next_skip HI.out (keysUp_succ HP.out) (fun h => by have := HL.out.1 h.2; simp at this)⟩))
        · obtain rfl : r = b.length := by omega
          have HI2 : Hid (IsNext (KeysUp y.A (i + 1) [] 0) key it o) := next_congr HI.out fun k => keysUp_next HBI.out [] k
          go_wp2
          go_roundg (y.A.length - (i + 1))
          case measure => omega
          case rel => exact ⟨i + 1, o, by omega, Nat.le_refl _, by go_num, rfl, rfl, rfl, HI2.out⟩
    · obtain rfl : i = y.A.length := by omega
      have HI2 : Hid (IsNext (KeysOf y.A) key it o) := next_congr HI.out fun k => keysUp_all rfl [] k
      go_wp2
      go_ret2
      exact ⟨o, rfl, HI2.out, rfl⟩
end Go.Proofs.YtakipjofboipmaaGreatDoor
