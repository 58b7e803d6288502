/- The walks of this proof: the bytes of a record . -/
import Derived.Lib.AppendStr
import Derived.Deep.RegionHeldLaw
import Derived.Test.YtakipjofboipmaaGreatDoorJ16
namespace Go.Proofs.YtakipjofboipmaaGreatDoor
open Go.RowKit Go.Sort

/-- A slice of these bytes, from block 'base' on. -/
def BR (base : Nat) (v : Value) (l : List UInt8) (w : World) : Prop := w.ownsRow base 5 1 v l.length (bcells l)

theorem BR.below {base : Nat} {v : Value} {l : List UInt8} {w w' : World} (h : BR base v l w) (hb : Below w.heap.size w w') : BR base v l w' :=
  (Kp.of_below (B := 0) (ts := []) hb).owns h (by simp)

theorem BR.form {base : Nat} {v : Value} {l : List UInt8} {w : World} (h : BR base v l w) : ∃ ao cap, v = .slice ao l.length cap := slice_form h

theorem byte_of {n : Nat} (h : n < 256) : (UInt8.ofNat n).toNat = n := by rw [UInt8.toNat_ofNat', Nat.mod_eq_of_lt h]

/-- What was appended. -/
theorem BR.of {base : Nat} {v : Value} {n : Nat} {xs : List Value} {l : List UInt8} {w : World} (h : w.ownsRow base 5 1 v n xs) (hn : n = l.length) (hx : xs = bcells l) : BR base v l w := by
  subst hn hx; exact h

theorem strCells_b (s : ByteArray) : Lib.strCells s = bcells s.data.toList := rfl

def AppPost (base : Nat) (l : List UInt8) (w : World) (e : Ending) (w' : World) : Prop := ∃ v', e = .returned v' ∧ BR base v' l w' ∧ Kp base [5] w w'

set_option maxHeartbeats 1000000 in
theorem appendText_any (base : Nat) (v : Value) (l : List UInt8) (s : ByteArray) (w : World) (h : BR base v l w) (hb : base ≤ w.heap.size) (hn : l.length + 1 + s.size ≤ 1000000) (hs : s.size ≤ 8) :
    Calls Tryz.prog 228 #[v, .string s] w fun e w' => AppPost base (l ++ txB s) w e w' := by
  obtain ⟨i0, hi, hz0, hz1, hz2⟩ := info_parts Tryz.info5
  have hown : w.ownsRow base 5 1 v l.length (bcells l) := h
  clear h
  obtain ⟨n, hn0⟩ : ∃ n, l.length = n := ⟨_, rfl⟩
  obtain ⟨R, hR0⟩ : ∃ R, bcells l = R := ⟨_, rfl⟩
  rw [hn0, hR0] at hown
  rw [hn0] at hn
  have HN : Hid (l.length = n) := hn0
  have HR : Hid (bcells l = R) := hR0
  clear hn0 hR0
  obtain ⟨ao, cap, rfl⟩ := slice_form hown
  go_enter Tryz.func228, Tryz.ntmps228
  go_wp2_with (at_builtin; refine wpList_append_own _ rfl (.tmp 5) (.tmp 9) 75 rfl base 5 i0 _ 1 1 Tryz.underlying75 hi hz0 hz1 hz2 rfl (by decide) _ _ _ rfl (hown.alloc _) ⟨w.heap.size, 0, none⟩ 1 1 [.int .u8 (s.size : Int)] rfl rfl ?c1 ?c2 ?c3 ?c4 ?c5 ?_)
  case c1 =>
    intro j u hj
    match j, hj with
    | 0, hj => simp at hj; subst hj; simp [Addr.add]
    | j + 1, hj => simp at hj
  case c2 => intro u hu; simp at hu; subst hu; rfl
  case c3 => unfold maxLen; omega
  case c4 => omega
  case c5 => simp; omega
  intro v1 w1 ho1 hg1 _
  have B1 : Kp base [5] w w1 := ((Kp.refl base [5] w).alloc _).grown (hown.alloc _) hg1 (Nat.le_refl _) (by simp)
  have HB1 : Hid (Kp base [5] w w1) := B1
  have hb1 : base ≤ w1.heap.size := Nat.le_trans hb B1.size
  obtain ⟨ao1, cap1, rfl⟩ := slice_form ho1
  clear hg1 B1 hown
  go_wp2_with (at_builtin; refine Lib.wpList_append_own_string _ rfl (.tmp 10) (.tmp 11) 75 9 rfl base 5 i0 Tryz.underlying75 Tryz.underlying9 hi hz0 hz1 hz2 _ _ _ rfl ho1 s rfl ?d1 ?d2 ?d3 ?_)
  case d1 => unfold maxLen; omega
  case d2 => omega
  case d3 => exact hb1
  intro v2 w2 ho2 hg2 _
  have HF : Hid (BR base v2 (l ++ txB s) w2 ∧ Kp base [5] w w2) := by
    refine ⟨BR.of ho2 ?_ ?_, HB1.out.grown ho1 hg2 (Nat.le_refl _) (by simp)⟩
    · rw [List.length_append, txB_len, HN.out]; omega
    · rw [bcells_append, HR.out, strCells_b]
      simp only [txB, bcells, List.map_cons]
      rw [byte_of (by omega)]
  clear ho2 hg2 ho1
  go_wp2
  go_ret
  exact ⟨_, rfl, HF.out⟩

/-- One byte appended, at a step of a region that draws. -/
theorem BR.push {base : Nat} {l : List UInt8} {b : UInt8} {x : Int} {g cap : Nat} {w1 : World} (hx : (b.toNat : Int) = x) (h : w1.ownsRow base 5 1 (.slice (some ⟨g, 0, none⟩) (l.length + 1) cap) (l.length + 1) (bcells l ++ [.int .u8 x])) : BR base (.slice (some ⟨g, 0, none⟩) (l.length + 1) cap) (l ++ [b]) w1 := by
  subst hx
  exact BR.of h (by simp) (by simp [bcells])

set_option maxHeartbeats 2000000 in
set_option maxRecDepth 100000 in
theorem appendPair_any (base : Nat) (v : Value) (l : List UInt8) (p : Pr) (w : World) (h : BR base v l w) (hb : base ≤ w.heap.size) (hn : l.length + 100 ≤ 1000000) (ok : PrOk p) :
    Calls Tryz.prog 194 #[v, .agg #[.string p.k, .string p.v, .bool p.g]] w fun e w' => AppPost base (l ++ prB p) w e w' := by
  obtain ⟨i0, hi, hz0, hz1, hz2⟩ := info_parts Tryz.info5
  have HOWN : Hid (w.ownsRow base 5 1 v l.length (bcells l)) := h
  have hk6 := ok.hi
  have hv8 := ok.val
  clear h ok
  obtain ⟨k, vv, g⟩ := p
  simp only at hk6 hv8 ⊢
  have KA : Hid (∀ o, Kp base [5] w (w.alloc o)) := fun o => (Kp.refl _ _ _).alloc o
  cases g with
  | true =>
    obtain ⟨fin, hfin⟩ : ∃ fin, l ++ prB ⟨k, vv, true⟩ = fin := ⟨_, rfl⟩
    have HFIN : Hid (l ++ [1] ++ txB k = fin) := (by rw [← hfin]; simp [prB] : _ = fin)
    rw [hfin]
    clear hfin
    have HLEN : Hid ((l ++ [(1 : UInt8)]).length = l.length + 1) := List.length_append
    go_enter Tryz.func194, Tryz.ntmps194
    go_wp2
    go_region_held_law (fun w' => w'.cell? ⟨w.heap.size, 0, none⟩ = some (.string k)) (first | go_keep | assumption) (first
      | (refine step_append_lies _ rfl (.tmp 7) (.tmp 8) 75 rfl base 5 i0 _ 1 1 Tryz.underlying75 hi hz0 hz1 hz2 rfl (by decide) v l.length (bcells l) rfl (by exact (HOWN.out.alloc _).alloc _) ⟨w.heap.size + 1, 0, none⟩ 1 1 [.int .u8 1] rfl rfl (by intro j u hj; match j, hj with | 0, hj => (simp at hj; subst hj; simp [Addr.add]) | j + 1, hj => (simp at hj)) (by intro u hu; simp at hu; subst hu; rfl) (by omega) (by unfold maxLen; omega) (by omega) (by simp; omega) _ rfl ?_; intro g1 cap1 w1 ho1 hg1 hat hlt; have K1 : Hid (BR base (.slice (some ⟨g1, 0, none⟩) (l.length + 1) cap1) (l ++ [1]) w1) := BR.push rfl ho1; have B1 : Hid (Kp base [5] (w.alloc (.cells #[.string k, .string vv, .bool true] 57)) w1) := Kp.grown ((Kp.refl _ _ _).alloc _).drew (by exact (HOWN.out.alloc _).alloc _) hg1 (Nat.le_refl _) (by simp); have k0 : w1.cell? ⟨w.heap.size, 0, none⟩ = some (.string k) := (by simp [World.cell?, B1.out.keep (heap_alloc_new w _) (by simp)]); have k1 : w1.cell? ⟨w.heap.size, 1, none⟩ = some (.string vv) := (by simp [World.cell?, B1.out.keep (heap_alloc_new w _) (by simp)]); have hsz1 : base ≤ w1.heap.size := Nat.le_trans hb (Nat.le_trans (Nat.le_trans (Nat.le_succ _) (by simp)) B1.out.size); clear ho1 hg1 hat hlt)
      | (go_at_call 228; refine (appendText_any base _ (l ++ [1]) k _ K1.out hsz1 (by rw [HLEN.out]; omega) (by omega)).mono ?_; rintro e w2 ⟨v2, rfl, hbr2, hbl2⟩; have B2 := B1.out.trans hbl2; have HF : Hid (BR base v2 (l ++ [1] ++ txB k) w2 ∧ Kp base [5] w w2) := ⟨hbr2, (KA.out _).trans B2⟩; have m0 : w2.cell? ⟨w.heap.size, 0, none⟩ = some (.string k) := (by simp [World.cell?, B2.keep (heap_alloc_new w _) (by simp)]); clear hbr2 hbl2 B2))
    all_goals go_wp2
    all_goals go_ret
    all_goals (rw [← HFIN.out]; exact ⟨_, rfl, Hid.out (by assumption)⟩)
  | false =>
    obtain ⟨fin, hfin⟩ : ∃ fin, l ++ prB ⟨k, vv, false⟩ = fin := ⟨_, rfl⟩
    have HFIN : Hid (l ++ [0] ++ txB k ++ txB vv = fin) := (by rw [← hfin]; simp [prB] : _ = fin)
    rw [hfin]
    clear hfin
    have HLEN : Hid ((l ++ [(0 : UInt8)]).length = l.length + 1 ∧ (l ++ [(0 : UInt8)] ++ txB k).length = l.length + 1 + (k.size + 1)) := ⟨List.length_append, by rw [List.length_append, List.length_append, txB_len]; rfl⟩
    go_enter Tryz.func194, Tryz.ntmps194
    go_wp2
    go_region_held_law (fun w' => w'.cell? ⟨w.heap.size, 0, none⟩ = some (.string k) ∧ w'.cell? ⟨w.heap.size, 1, none⟩ = some (.string vv)) (first | go_keep | (constructor <;> assumption)) (first
      | (refine step_append_lies _ rfl (.tmp 13) (.tmp 14) 75 rfl base 5 i0 _ 1 1 Tryz.underlying75 hi hz0 hz1 hz2 rfl (by decide) v l.length (bcells l) rfl (by exact (HOWN.out.alloc _).alloc _) ⟨w.heap.size + 1, 0, none⟩ 1 1 [.int .u8 0] rfl rfl (by intro j u hj; match j, hj with | 0, hj => (simp at hj; subst hj; simp [Addr.add]) | j + 1, hj => (simp at hj)) (by intro u hu; simp at hu; subst hu; rfl) (by omega) (by unfold maxLen; omega) (by omega) (by simp; omega) _ rfl ?_; intro g1 cap1 w1 ho1 hg1 hat hlt; have K1 : Hid (BR base (.slice (some ⟨g1, 0, none⟩) (l.length + 1) cap1) (l ++ [0]) w1) := BR.push rfl ho1; have B1 : Hid (Kp base [5] (w.alloc (.cells #[.string k, .string vv, .bool false] 57)) w1) := Kp.grown ((Kp.refl _ _ _).alloc _).drew (by exact (HOWN.out.alloc _).alloc _) hg1 (Nat.le_refl _) (by simp); have k0 : w1.cell? ⟨w.heap.size, 0, none⟩ = some (.string k) := (by simp [World.cell?, B1.out.keep (heap_alloc_new w _) (by simp)]); have k1 : w1.cell? ⟨w.heap.size, 1, none⟩ = some (.string vv) := (by simp [World.cell?, B1.out.keep (heap_alloc_new w _) (by simp)]); have hsz1 : base ≤ w1.heap.size := Nat.le_trans hb (Nat.le_trans (Nat.le_trans (Nat.le_succ _) (by simp)) B1.out.size); clear ho1 hg1 hat hlt)
      | (go_at_call_of 228 (Value.string k); refine (appendText_any base _ (l ++ [0]) k _ K1.out hsz1 (by rw [HLEN.out.1]; omega) (by omega)).mono ?_; rintro e w2 ⟨v2, rfl, hbr2, hbl2⟩; have B2 : Hid _ := B1.out.trans hbl2; have K2 : Hid (BR base v2 (l ++ [0] ++ txB k) w2) := hbr2; have hsz2 : base ≤ w2.heap.size := Nat.le_trans hsz1 hbl2.size; have m0 : w2.cell? ⟨w.heap.size, 0, none⟩ = some (.string k) := (by simp [World.cell?, B2.out.keep (heap_alloc_new w _) (by simp)]); have m1 : w2.cell? ⟨w.heap.size, 1, none⟩ = some (.string vv) := (by simp [World.cell?, B2.out.keep (heap_alloc_new w _) (by simp)]); clear hbr2 hbl2)
      | (go_at_call_of 228 (Value.string vv); refine (appendText_any base _ (l ++ [0] ++ txB k) vv _ K2.out hsz2 (by rw [HLEN.out.2]; omega) (by omega)).mono ?_; rintro e w3 ⟨v3, rfl, hbr3, hbl3⟩; have B3 := B2.out.trans hbl3; have HF : Hid (BR base v3 (l ++ [0] ++ txB k ++ txB vv) w3 ∧ Kp base [5] w w3) := ⟨hbr3, (KA.out _).trans B3⟩; have m0 : w3.cell? ⟨w.heap.size, 0, none⟩ = some (.string k) := (by simp [World.cell?, B3.keep (heap_alloc_new w _) (by simp)]); have m1 : w3.cell? ⟨w.heap.size, 1, none⟩ = some (.string vv) := (by simp [World.cell?, B3.keep (heap_alloc_new w _) (by simp)]); clear hbr3 hbl3 B3))
    all_goals go_wp2
    all_goals go_ret
    all_goals (rw [← HFIN.out]; exact ⟨_, rfl, Hid.out (by assumption)⟩)
end Go.Proofs.YtakipjofboipmaaGreatDoor
