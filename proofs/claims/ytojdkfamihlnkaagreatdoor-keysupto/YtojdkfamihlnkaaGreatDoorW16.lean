/- The walks of this proof: a record. -/
import Derived.Test.YtojdkfamihlnkaaGreatDoorW15
import Derived.Laws.Closers25b
namespace Go.Proofs.YtojdkfamihlnkaaGreatDoor
open Go.RowKit Go.Sort

set_option maxHeartbeats 1000000 in
set_option maxRecDepth 100000 in
theorem shiftByte_any (x : Int) (w : World) (h0 : 0 ≤ x) (h1 : x ≤ 4294967295) :
    Calls Tryz.prog 131 #[.int .u32 x] w fun e w' => ∃ y : Int, e = .returned (.int .u32 y) ∧ 0 ≤ y ∧ y ≤ 4294967295 ∧ w' = w := by
  go_enter Tryz.func131, Tryz.ntmps131
  go_wp2
  go_loop [0, 4] (fun s0 i => ∃ (k : Nat) (y : Int), k ≤ 8 ∧ i = .int .i64 k ∧ s0 = .int .u32 y ∧ 0 ≤ y ∧ y ≤ 4294967295) (fun _ i => 8 - (intOf i).toNat)
  case atStart => exact ⟨0, x, by omega, rfl, rfl, h0, h1⟩
  case round =>
    obtain ⟨k, y, hk, rfl, rfl, hy0, hy1⟩ := hrel
    by_cases hlt : k < 8
    · go_wp2
      · refine ⟨⟨k + 1, _, by omega, by go_num, rfl, ?_, ?_⟩, by simp [intOf]; omega⟩
        · exact bits_lo_u32 _ _ _
        · exact bits_hi_u32 _ _ _
      · exact ⟨⟨k + 1, _, by omega, by go_num, rfl, by omega, by omega⟩, by simp [intOf]; omega⟩
    · go_wp2
      go_ret
      exact ⟨y, rfl, hy0, hy1, rfl⟩

set_option maxHeartbeats 1000000 in
set_option maxRecDepth 100000 in
theorem appendNumber_any (base : Nat) (v : Value) (n : Nat) (x : Int) (w : World) (h : BR base v n w) (hb : base ≤ w.heap.size) (hn : n + 4 ≤ 1000000) (h0 : 0 ≤ x) (h1 : x ≤ 4294967295) :
    Calls Tryz.prog 117 #[v, .int .u32 x] w fun e w' => AppPost base (n + 4) w e w' := by
  obtain ⟨i0, hi, hz0, hz1, hz2⟩ := info_parts Tryz.info5
  obtain ⟨R, hown, hR⟩ := h
  have HR : Hid (∀ u ∈ R, ∃ x : Int, u = .int .u8 x) := hR
  clear hR
  obtain ⟨ao, cap, rfl⟩ := slice_form hown
  go_enter Tryz.func117, Tryz.ntmps117
  go_wp2_with (at_builtin; refine wpList_append_own _ rfl (.tmp 5) (.tmp 17) 74 rfl base 5 i0 _ 1 1 Tryz.underlying74 hi hz0 hz1 hz2 rfl (by decide) _ _ _ rfl (hown.alloc _) ⟨w.heap.size, 0, none⟩ 4 4 (Array.toList _) rfl rfl (World.news_of_block (heap_alloc_new _ _)) ?c2 ?c3 ?c4 ?c5 ?_)
  case c2 => exact ⟨rfl, rfl, rfl, rfl⟩
  case c3 => unfold maxLen; omega
  case c4 => omega
  case c5 => simp; omega
  intro v1 w1 ho1 hg1 _
  have HF : Hid (BR base v1 (n + 4) w1 ∧ Kp base [5] w w1) := by
    refine ⟨⟨_, ho1, fun u hu => ?_⟩, ((Kp.refl base [5] w).alloc _).grown (hown.alloc _) hg1 (Nat.le_refl _) (by simp)⟩
    rcases List.mem_append.1 hu with hu | hu
    · exact HR.out u hu
    · simp at hu; rcases hu with rfl | rfl | rfl | rfl <;> exact ⟨_, rfl⟩
  clear ho1 hg1 hown
  go_wp2
  go_ret
  exact ⟨_, rfl, HF.out⟩

set_option maxHeartbeats 1000000 in
set_option maxRecDepth 100000 in
theorem ceiling_any (base : Nat) (v : Value) (n : Nat) (w : World) (h : BR base v n w) (hn : n ≤ 1000000) :
    Calls Tryz.prog 118 #[v] w fun e w' => ∃ y : Int, e = .returned (.int .u32 y) ∧ 0 ≤ y ∧ y ≤ 4294967295 ∧ w' = w := by
  obtain ⟨R, hown, hR⟩ := h
  have HR : Hid (∀ u ∈ R, ∃ x : Int, u = .int .u8 x) := hR
  obtain ⟨ao, cap, rfl⟩ := slice_form hown
  have HO : Hid (w.ownsRow base 5 1 (.slice ao n cap) n R) := hown
  clear hown hR
  go_enter Tryz.func118, Tryz.ntmps118
  go_wp2
  go_loop [3, 8] (fun s3 i => ∃ (k : Nat) (y : Int), k ≤ n ∧ i = .int .i64 k ∧ s3 = .int .u32 y ∧ 0 ≤ y ∧ y ≤ 4294967295) (fun _ i => n - (intOf i).toNat)
  case atStart => exact ⟨0, _, by omega, rfl, rfl, by omega, by omega⟩
  case round =>
    obtain ⟨k, y, hk, rfl, rfl, hy0, hy1⟩ := hrel
    by_cases hlt : k < n
    · obtain ⟨g, cap', hv', _, _⟩ := World.ownsRow.form HO.out (by omega)
      simp only [Value.slice.injEq, true_and] at hv'
      obtain ⟨rfl, rfl⟩ := hv'
      obtain ⟨x, hx⟩ : ∃ x : Int, w.cell? ⟨g, k, none⟩ = some (.int .u8 x) := by
        have hl : R.length = n := by have := HO.out.1; omega
        obtain ⟨x, hx⟩ := HR.out R[k] (List.getElem_mem (by omega))
        exact ⟨x, by rw [HO.out.cellAt k (by omega), List.getElem?_eq_getElem (by omega), hx]⟩
      go_wp2_with fail
      refine (shiftByte_any _ _ (bits_lo_u32 _ _ _) (bits_hi_u32 _ _ _)).mono ?_
      rintro e w1 ⟨y2, rfl, hy20, hy21, rfl⟩
      go_wp2
      go_round
      case rel => exact ⟨k + 1, y2, by omega, by go_num, rfl, hy20, hy21⟩
      case measure => simp [intOf]; omega
    · go_wp2
      go_ret
      exact ⟨_, rfl, bits_lo_u32 _ _ _, bits_hi_u32 _ _ _, rfl⟩

/-- What Record comes to. -/
def RecPost (w : World) (e : Ending) (w' : World) : Prop := ∃ (v : Value) (m : Nat), e = .returned v ∧ 1 ≤ m ∧ m ≤ 1000 ∧ BR w.heap.size v m w' ∧ Below w.heap.size w w'

set_option maxHeartbeats 1000000 in
set_option maxRecDepth 100000 in
theorem record_any (L : List Pr) (v : Value) (base : Nat) (w : World) (h : w.ownsRow base 57 3 v L.length (pcells L)) (h4 : L.length ≤ 4) (ok : ∀ p ∈ L, PrOk p) :
    Calls Tryz.prog 99 #[v] w fun e w' => RecPost w e w' := by
  have HPR : Hid (∀ w', 0 < L.length → Below w.heap.size w w' → ∃ g cap, v = .slice (some ⟨g, 0, none⟩) L.length cap ∧ base ≤ g ∧ g < w.heap.size ∧ L.length ≤ cap ∧ ∀ (k : Nat) p, L[k]? = some p → w'.cell? ⟨g, k * 3, none⟩ = some (.string p.k) ∧ w'.cell? ⟨g, k * 3 + 1, none⟩ = some (.string p.v) ∧ w'.cell? ⟨g, k * 3 + 2, none⟩ = some (.bool p.g)) := fun w' hl hb => pr_cells h hb hl
  obtain ⟨ao, cap, rfl⟩ := slice_form h
  have OK : Hid (∀ p ∈ L, PrOk p) := ok
  clear h ok
  have R0 : Hid (∀ x : Int, BR w.heap.size (.slice (some ⟨w.heap.size, 0, none⟩) 1 1) 1 (w.alloc (.cells #[.int .u8 x] 5))) := fun x => ⟨_, World.ownsRow_lit w #[.int .u8 x] 1 (Nat.le_refl _) (by unfold maxLen; omega) rfl, fun u hu => by simp at hu; exact ⟨_, hu⟩⟩
  have K0 : Hid (∀ o, Kp w.heap.size [5] w (w.alloc o)) := fun o => (Kp.refl _ _ _).alloc o
  go_enter Tryz.func99, Tryz.ntmps99
  go_wp2
  go_loopw [3, 12] (fun s3 i wr => ∃ (k m : Nat), k ≤ L.length ∧ i = .int .i64 k ∧ m ≤ 1 + 100 * k ∧ Hid (BR w.heap.size s3 m wr) ∧ Hid (Kp w.heap.size [5] w wr)) (fun _ i _ => L.length - (intOf i).toNat)
  case atStart => exact ⟨0, 1, Nat.zero_le _, rfl, Nat.le_refl _, R0.out _, K0.out _⟩
  case round =>
    clear R0 K0
    obtain ⟨k, m, hk, rfl, hm, HB, HK⟩ := hrel
    have hbel : Below w.heap.size w wr := HK.out.belowB (Nat.le_refl _)
    have hsz : w.heap.size ≤ wr.heap.size := hbel.size
    by_cases hlt : k < L.length
    · obtain ⟨g, cap', hv', _, hgl, hcap, hcell⟩ := HPR.out wr (by omega) hbel
      simp only [Value.slice.injEq, true_and] at hv'
      obtain ⟨rfl, rfl⟩ := hv'
      obtain ⟨p, hp⟩ : ∃ p, L[k]? = some p := ⟨_, List.getElem?_eq_getElem hlt⟩
      obtain ⟨c0, c1, c2⟩ := hcell k p hp
      have OKp : Hid (PrOk p) := OK.out p (List.mem_of_getElem? hp)
      have hgr : g < wr.heap.size := by omega
      clear hcell hp hbel
      go_wp2_with fail
      refine (appendPair_any w.heap.size _ m p _ (by exact HB.out.below ((Below.refl _ _).alloc (Nat.le_refl _) _)) (by simp; omega) (by omega) OKp.out).mono ?_
      rintro e w2 ⟨m2, hm2, v2, rfl, hbr, hkp⟩
      have HB2 : Hid (BR w.heap.size v2 m2 w2) := hbr
      have HK2 : Hid (Kp w.heap.size [5] w w2) := (HK.out.alloc _).trans hkp
      clear hbr hkp
      go_wp2
      go_roundw
      case rel => exact ⟨k + 1, m2, by omega, by go_num, by omega, HB2, HK2⟩
      case measure => simp [intOf]; omega
    · clear hbel
      go_wp2_with fail
      refine (ceiling_any w.heap.size _ m _ HB.out (by omega)).mono ?_
      rintro e w2 ⟨y, rfl, hy0, hy1, rfl⟩
      go_wp2_with fail
      refine (appendNumber_any w.heap.size _ m y _ HB.out hsz (by omega) hy0 hy1).mono ?_
      rintro e w3 ⟨v3, rfl, hbr, hkp⟩
      have HF : Hid (BR w.heap.size v3 (m + 4) w3 ∧ Kp w.heap.size [5] w w3) := ⟨hbr, HK.out.trans hkp⟩
      clear hbr hkp
      go_wp2
      go_ret
      exact ⟨_, m + 4, rfl, by omega, by omega, HF.out.1, HF.out.2.belowB (Nat.le_refl _)⟩
end Go.Proofs.YtojdkfamihlnkaaGreatDoor
