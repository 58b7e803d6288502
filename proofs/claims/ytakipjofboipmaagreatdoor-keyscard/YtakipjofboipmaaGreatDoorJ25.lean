/- The walks of this proof: a list that is lent. -/
import Derived.Test.YtakipjofboipmaaGreatDoorJ23
import Derived.Test.YtakipjofboipmaaGreatDoorJ24
namespace Go.Proofs.YtakipjofboipmaaGreatDoor
open Go.RowKit Go.Sort

/-- What lies behind a list that is lent. -/
def bh (i : Nat) : Pr := ⟨⟨#[98, 101, 104, 105, 110, 100]⟩, ⟨(Lib.decDigits i).toArray⟩, true⟩
def bhs (n : Nat) : List Pr := (List.range n).map bh

theorem bhs_succ (n : Nat) : bhs (n + 1) = bhs n ++ [bh n] := by simp [bhs, List.range_succ]
theorem bhs_len (n : Nat) : (bhs n).length = n := by simp [bhs]
theorem bhs_get {i n : Nat} (h : i < n) : (bhs n)[i]? = some (bh i) := by simp [bhs, h]


set_option maxHeartbeats 400000 in
theorem behind2_any (i : Nat) (hi : i < 8) (w : World) :
    Calls Tryz.prog 102 #[.int .i64 i] w fun e w' => e = .returned (bh i).val ∧ Below w.heap.size w w' := by
  have HI : Hid (∀ w, Calls Tryz.prog 47 #[.int .i64 i] w fun e w' => e = .returned (.string ⟨(Lib.decDigits i).toArray⟩) ∧ w' = w) := fun w => Tryz.strconv_Itoa_small i (by omega) w
  unfold Pr.val bh
  simp only
  generalize (⟨(Lib.decDigits i).toArray⟩ : ByteArray) = s at HI
  go_enter Tryz.func102, Tryz.ntmps102
  go_wp2_with fail
  refine Calls.mono (HI.out _) ?_
  rintro e w1 ⟨rfl, rfl⟩
  go_wp2
  exact bodyPost_ret (v := .agg #[.string ⟨#[98, 101, 104, 105, 110, 100]⟩, .string s, .bool true]) (by simp [results, Tryz.results102, go_sem]) rfl ⟨rfl, (Below.refl _ _).alloc (Nat.le_refl _) _⟩

theorem behind2_in (i : Nat) (hi : i < 8) (w : World) (d : Nat) (os : Array Obj) :
    Calls Tryz.prog 102 #[.int .i64 i] (grow (redrawn w d) os) fun e w'' => e = .returned (bh i).val ∧ ∃ p : Regrown, w'' = grow (redrawn w p.d) p.os :=
  Calls.regrown_of (behind2_any i hi _)

/-- The cells of pairs, one behind the other. -/
theorem pairs_src {w : World} {L : List Pr} {b : Addr} {cap : Nat} (h : PairsAt w (.slice (some b) L.length cap) L) : ∀ j u, (pcells L)[j]? = some u → w.cell? (b.add j) = some u := by
  obtain ⟨ao, cap', hv, _, _, hc⟩ := h
  simp only [Value.slice.injEq, true_and] at hv
  obtain ⟨rfl, rfl⟩ := hv
  intro j u hj
  have hjl : j < L.length * 3 := by rw [← pcells_len]; exact (List.getElem?_eq_some_iff.1 hj).1
  obtain ⟨p, hp⟩ : ∃ p, L[j / 3]? = some p := ⟨_, List.getElem?_eq_getElem (by omega)⟩
  obtain ⟨b', hb', hsp, c0, c1, c2⟩ := hc _ _ hp
  cases hb'
  have hg := flat_get Pr.cells 3 (fun a => by rfl) L (j / 3) p (j % 3) hp (by omega)
  rw [show j / 3 * 3 + j % 3 = j by omega] at hg
  rw [show pcells L = L.flatMap Pr.cells from rfl, hg] at hj
  have hadd : b.add j = ⟨b.block, b.off + j, none⟩ := by
    obtain ⟨bb, bo, bs⟩ := b
    simp only at hsp
    subst hsp
    unfold Addr.add; split <;> simp_all
  rw [hadd]
  have hm : j % 3 = 0 ∨ j % 3 = 1 ∨ j % 3 = 2 := by omega
  rcases hm with h3 | h3 | h3
  · rw [h3] at hj
    simp [Pr.cells] at hj
    subst hj
    rw [show b.off + j = b.off + j / 3 * 3 by omega]; exact c0
  · rw [h3] at hj
    simp [Pr.cells] at hj
    subst hj
    rw [show b.off + j = b.off + j / 3 * 3 + 1 by omega]; exact c1
  · rw [h3] at hj
    simp [Pr.cells] at hj
    subst hj
    rw [show b.off + j = b.off + j / 3 * 3 + 2 by omega]; exact c2

theorem pcells_ones (L : List Pr) : ∀ u ∈ pcells L, u.oneCell' = true := by
  intro u hu
  obtain ⟨p, _, hp⟩ := List.mem_flatMap.1 hu
  exact ones_pair p u hp

theorem pcells_app (L M : List Pr) : pcells (L ++ M) = pcells L ++ pcells M := by simp [pcells]

/-- A pair stored into raw cells. -/
theorem put_raw {w : World} {base g n cap : Nat} {A : List Pr} {rest : List Value} (h : w.ownsRow base 57 3 (.slice (some ⟨g, 0, none⟩) n cap) n (pcells A ++ rest)) (hr : 3 ≤ rest.length) (p : Pr) :
    (((w.setCell ⟨g, A.length * 3, none⟩ (.string p.k)).setCell ⟨g, A.length * 3 + 1, none⟩ (.string p.v)).setCell ⟨g, A.length * 3 + 2, none⟩ (.bool p.g)).ownsRow base 57 3 (.slice (some ⟨g, 0, none⟩) n cap) n (pcells (A ++ [p]) ++ rest.drop 3) := by
  have h3 := (((h.stored (A.length * 3) (.string p.k)).1.stored (A.length * 3 + 1) (.string p.v)).1.stored (A.length * 3 + 2) (.bool p.g)).1
  have hl := pcells_len A
  rw [set3 _ _ _ _ _ (by rw [List.length_append, hl]; omega)] at h3
  have e : (pcells A ++ rest).take (A.length * 3) ++ [.string p.k, .string p.v, .bool p.g] ++ (pcells A ++ rest).drop (A.length * 3 + 3) = pcells (A ++ [p]) ++ rest.drop 3 := by
    rw [← hl, List.take_left, List.drop_append, List.drop_of_length_le (Nat.le_add_right _ _), pcells_app]
    simp [pcells, Pr.cells]
  rw [e] at h3
  exact h3

def LentPost (L : List Pr) (w : World) (e : Ending) (w' : World) : Prop :=
  e = .returned (.slice (some ⟨w.heap.size, 0, none⟩) (L.length + 8) (L.length + 8)) ∧ w'.ownsRow w.heap.size 57 3 (.slice (some ⟨w.heap.size, 0, none⟩) (L.length + 8) (L.length + 8)) (L.length + 8) (pcells (L ++ bhs 8)) ∧ Below w.heap.size w w'

set_option maxHeartbeats 2000000 in
set_option maxRecDepth 100000 in
theorem lent_any (L : List Pr) (v : Value) (w : World) (h : PairsAt w v L) : Calls Tryz.prog 53 #[v] w fun e w' => LentPost L w e w' := by
  obtain ⟨i0, hi, hz0, hz1, hz2⟩ := info_parts Tryz.info57
  have hP := h
  obtain ⟨ao, cap, rfl, hl, _, hc⟩ := h
  obtain ⟨M, hM⟩ : ∃ M, madeCells (Value.agg #[.string ⟨#[]⟩, .string ⟨#[]⟩, .bool false]).cells (((L.length : Int) + 8).toNat * i0.size) = M := ⟨_, rfl⟩
  have hMs : M.size = (L.length + 8) * 3 := by rw [← hM, size_madeCells, hz1]; omega
  have mk : ∀ W : World, (Instr.makeSlice 38 (.int .i64 ((L.length : Int) + 8)) (.int .i64 ((L.length : Int) + 8))).run Tryz.prog W = .ok (.slice (some ⟨W.heap.size, 0, none⟩) (L.length + 8) (L.length + 8)) (W.alloc (.cells M 57)) := fun W => by
    have h := run_make (P := Tryz.prog) W 38 57 i0 (.agg #[.string ⟨#[]⟩, .string ⟨#[]⟩, .bool false]) Tryz.underlying38 hi hz0 .i64 .i64 ((L.length : Int) + 8) ((L.length : Int) + 8) (by omega) (by omega) (by rw [hz2]; omega) (by omega)
    rw [hM] at h
    rw [show ((L.length : Int) + 8).toNat = L.length + 8 by omega] at h
    exact h
  have cp : ∀ ty, (Builtin.copy_ #[38, 38] ty #[.slice (some ⟨w.heap.size, 0, none⟩) (L.length + 8) (L.length + 8), .slice ao L.length cap]).run Tryz.prog (w.alloc (.cells M 57)) = .ok (goInt L.length) ((w.alloc (.cells M 57)).setRow w.heap.size (M.toList.take 0 ++ pcells L ++ M.toList.drop (0 + (pcells L).length)).toArray) := fun ty => by
    by_cases h0 : 0 < L.length
    · obtain ⟨p, hp⟩ : ∃ p, L[0]? = some p := ⟨_, List.getElem?_eq_getElem h0⟩
      obtain ⟨b, rfl, _⟩ := hc 0 p hp
      exact run_copy_rows (w.alloc (.cells M 57)) 38 38 ty 57 i0 w.heap.size 0 _ _ _ _ L.length _ _ b M 57 (pcells L) Tryz.underlying38 hi (heap_alloc_new w _) (Nat.min_eq_left (by omega)) (by rw [pcells_len, hz1]) (fun _ => ⟨rfl, rfl⟩) (fun j u hj => by
        have := pairs_src hP j u hj
        rw [World.cell?_alloc_lt _ _ _ (World.block_lt_of_cell? _ _ this)]; exact this) (by rw [pcells_len, hMs]; omega) (pcells_ones L)
    · have hL : L = [] := List.eq_nil_of_length_eq_zero (by omega)
      subst hL
      exact run_copy_rows (w.alloc (.cells M 57)) 38 38 ty 57 i0 w.heap.size 0 _ _ _ _ 0 _ _ ⟨0, 0, none⟩ M 57 (pcells []) Tryz.underlying38 hi (heap_alloc_new w _) (Nat.min_eq_left (by simp)) (by simp [pcells]) (fun h => absurd h (by simp)) (fun j u hj => by simp [pcells] at hj) (by simp [pcells]) (pcells_ones [])
  have OWN1 : Hid (((w.alloc (.cells M 57)).setRow w.heap.size (M.toList.take 0 ++ pcells L ++ M.toList.drop (0 + (pcells L).length)).toArray).ownsRow w.heap.size 57 3 (.slice (some ⟨w.heap.size, 0, none⟩) (L.length + 8) (L.length + 8)) (L.length + 8) (pcells (L ++ bhs 0) ++ M.toList.drop (L.length * 3))) := by
    refine ⟨?_, .inr ⟨w.heap.size, L.length + 8, _, rfl, Nat.le_refl _, setRow_heap _ w.heap.size M _ 57 _ (heap_alloc_new w _), Nat.le_refl _, by unfold maxLen; omega, ?_, ?_⟩⟩
    · have h5 : M.toList.length = M.size := Array.length_toList
      simp only [List.length_append, pcells_len, List.length_drop, h5, hMs, bhs_len]; omega
    · simp only [List.size_toArray, List.length_append, List.length_take, List.length_drop, Array.length_toList, hMs, pcells_len]; omega
    · rw [List.take_of_length_le]
      · simp [bhs, pcells_len]
      · simp only [List.length_append, List.length_take, List.length_drop, Array.length_toList, hMs, pcells_len]; omega
  have B1 : Hid (Below w.heap.size w ((w.alloc (.cells M 57)).setRow w.heap.size (M.toList.take 0 ++ pcells L ++ M.toList.drop (0 + (pcells L).length)).toArray)) := by
    refine ⟨rfl, rfl, rfl, by simp, fun k hk => ?_⟩
    rw [setRow_other _ _ _ _ (by omega)]
    exact heap_alloc_old w _ hk
  have hR : (M.toList.drop (L.length * 3)).length = 24 := by rw [List.length_drop, Array.length_toList, hMs]; omega
  generalize (w.alloc (.cells M 57)).setRow w.heap.size (M.toList.take 0 ++ pcells L ++ M.toList.drop (0 + (pcells L).length)).toArray = w1 at cp OWN1 B1
  generalize M.toList.drop (L.length * 3) = R at hR OWN1
  clear hM hMs hc hP
  go_enter Tryz.func53, Tryz.ntmps53
  go_wp2
  clear mk cp
  go_loopw [4] (fun i wr => ∃ (k : Nat) (rest : List Value), k ≤ 8 ∧ i = .int .i64 k ∧ rest.length = (8 - k) * 3 ∧ Hid (wr.ownsRow w.heap.size 57 3 (.slice (some ⟨w.heap.size, 0, none⟩) (L.length + 8) (L.length + 8)) (L.length + 8) (pcells (L ++ bhs k) ++ rest)) ∧ Hid (Below w.heap.size w wr)) (fun i _ => 8 - (intOf i).toNat)
  case atStart => exact ⟨0, R, by omega, rfl, by omega, OWN1.out, B1.out⟩
  case round =>
    clear OWN1 B1 hR
    obtain ⟨k, rest, hk, rfl, hrl, HO, HB⟩ := hrel
    by_cases hlt : k < 8
    · have HV := behind2_any k hlt
      have HBH : Hid (∀ w, Calls Tryz.prog 102 #[.int .i64 k] w fun e w' => e = .returned (.agg #[.string (bh k).k, .string (bh k).v, .bool (bh k).g]) ∧ Below w.heap.size w w') := HV
      clear HV
      have HBS : Hid (bhs (k + 1) = bhs k ++ [bh k]) := bhs_succ k
      have hAl : (L ++ bhs k).length = L.length + k := by rw [List.length_append, bhs_len]
      generalize bh k = q at HBH HBS
      go_wp2_with fail
      refine Calls.mono (HBH.out _) ?_
      rintro e w2 ⟨rfl, hb2⟩
      have HB2 : Hid (Below w.heap.size w w2) := below_trans' HB.out hb2
      have ho2 := (Kp.of_below (B := 0) (ts := []) hb2).owns HO.out (by simp)
      have hcur : ∃ cur, w2.heap[w.heap.size]? = some (.cells cur 57 (0, 0)) := by
        rcases ho2.2 with ⟨h, _⟩ | ⟨g', cap', cur, hv, _, hg, _⟩
        · cases h
        · simp only [Value.slice.injEq, Option.some.injEq, Addr.mk.injEq, and_true] at hv
          obtain ⟨rfl, _⟩ := hv
          exact ⟨cur, hg⟩
      have hput := put_raw ho2 (by omega) q
      rw [hAl, List.append_assoc, ← HBS.out] at hput
      have HF : Hid (_ ∧ Below w.heap.size w (((w2.setCell ⟨w.heap.size, (L.length + k) * 3, none⟩ (.string q.k)).setCell ⟨w.heap.size, (L.length + k) * 3 + 1, none⟩ (.string q.v)).setCell ⟨w.heap.size, (L.length + k) * 3 + 2, none⟩ (.bool q.g))) := ⟨hput, ((HB2.out.setCell (Nat.le_refl _) _).setCell (Nat.le_refl _) _).setCell (Nat.le_refl _) _⟩
      have hce : ∀ o, o < (L.length + 8) * 3 → (w2.cell? ⟨w.heap.size, o, none⟩).isSome = true ∧ w2.frozen? ⟨w.heap.size, o, none⟩ = false := fun o ho => by
        obtain ⟨cur, hg⟩ := hcur
        refine ⟨?_, by simp [World.frozen?, hg]⟩
        rw [ho2.cellAt o ho]
        rw [List.getElem?_eq_getElem (by rw [ho2.1]; exact ho)]
        rfl
      obtain ⟨x0, y0⟩ := hce ((L.length + k) * 3) (by omega)
      obtain ⟨x1, y1⟩ := hce ((L.length + k) * 3 + 1) (by omega)
      obtain ⟨x2, y2⟩ := hce ((L.length + k) * 3 + 2) (by omega)
      obtain ⟨u0, x0⟩ := Option.isSome_iff_exists.1 x0
      obtain ⟨u1, x1⟩ := Option.isSome_iff_exists.1 x1
      obtain ⟨u2, x2⟩ := Option.isSome_iff_exists.1 x2
      clear hb2 ho2 hcur hput hce hAl
      have hkn : ((L.length : Int) + (k : Int)).toNat = L.length + k := by omega
      have hk0 : (0 : Int) ≤ (L.length : Int) + (k : Int) := by omega
      have hk8 : (L.length : Int) + (k : Int) < (L.length : Int) + 8 := by omega
      go_wp2
      go_roundw
      case rel => exact ⟨k + 1, rest.drop 3, by omega, by go_num, by rw [List.length_drop]; omega, HF.out.1, HF.out.2⟩
      case measure => simp [intOf]; omega
    · obtain rfl : k = 8 := by omega
      obtain rfl : rest = [] := List.eq_nil_of_length_eq_zero (by omega)
      have HF : Hid (LentPost L w (.returned (.slice (some ⟨w.heap.size, 0, none⟩) (L.length + 8) (L.length + 8))) wr) := ⟨rfl, by have := HO.out; rw [List.append_nil] at this; exact this, HB.out⟩
      rw [show (((8 : Nat) : Int)) = 8 from rfl]
      go_wp2
      go_ret
      exact HF.out
end Go.Proofs.YtakipjofboipmaaGreatDoor

/- The walks of this proof: whether a list that was lent is as it was. -/
namespace Go.Proofs.YtakipjofboipmaaGreatDoor
open Go.RowKit Go.Sort

def oth : Pr := ⟨⟨#[111, 116, 104, 101, 114]⟩, ⟨#[111, 116, 104, 101, 114, 115]⟩, false⟩

/-- The cells of a pair in an owned row of pairs. -/
theorem row_pair {w : World} {base g n cap : Nat} {A : List Pr} (h : w.ownsRow base 57 3 (.slice (some ⟨g, 0, none⟩) n cap) n (pcells A)) {k : Nat} {p : Pr} (hp : A[k]? = some p) (hn : n = A.length) :
    w.cell? ⟨g, k * 3, none⟩ = some (.string p.k) ∧ w.cell? ⟨g, k * 3 + 1, none⟩ = some (.string p.v) ∧ w.cell? ⟨g, k * 3 + 2, none⟩ = some (.bool p.g) := by
  subst hn
  have hk : k < A.length := (List.getElem?_eq_some_iff.1 hp).1
  obtain ⟨g', cap', hv, _, _, _, hcell⟩ := row_cell (fun a => by rfl) h (by omega)
  simp only [Value.slice.injEq, Option.some.injEq, Addr.mk.injEq, and_true, true_and] at hv
  obtain ⟨rfl, rfl⟩ := hv
  exact ⟨hcell k p 0 hp (by omega), hcell k p 1 hp (by omega), hcell k p 2 hp (by omega)⟩

set_option maxHeartbeats 2000000 in
set_option maxRecDepth 100000 in
theorem unspoilt_any (L : List Pr) (vl : Value) (base g : Nat) (w : World) (h : PairsAt w vl L) (ho : w.ownsRow base 57 3 (.slice (some ⟨g, 0, none⟩) (L.length + 8) (L.length + 8)) (L.length + 8) (pcells (L ++ bhs 8))) :
    Calls Tryz.prog 56 #[.slice (some ⟨g, 0, none⟩) (L.length + 8) (L.length + 8), vl] w fun e w' => e = .returned (.bool true) ∧ Kd (fun k => k = g ∨ w.heap.size ≤ k) [57] w w' := by
  obtain ⟨ao, cap, rfl, hl, _, hc⟩ := h
  have HC : Hid _ := hc
  have HO : Hid (w.ownsRow base 57 3 (.slice (some ⟨g, 0, none⟩) (L.length + 8) (L.length + 8)) (L.length + 8) (pcells (L ++ bhs 8))) := ho
  have hgl : g < w.heap.size := (ho.lt g rfl).2
  clear hc ho
  go_enter Tryz.func56, Tryz.ntmps56
  go_wp2
  go_loopw [5, 6] (fun s5 i wr => ∃ k : Nat, k ≤ 8 ∧ i = .int .i64 k ∧ s5 = .bool true ∧ Hid (Below w.heap.size w wr)) (fun _ i _ => 8 - (intOf i).toNat)
  case atStart => exact ⟨0, by omega, rfl, rfl, Below.refl _ _⟩
  case round =>
    obtain ⟨k, hk, rfl, rfl, HB⟩ := hrel
    by_cases hlt : k < 8
    · have HBH : Hid (∀ w d os, Calls Tryz.prog 102 #[.int .i64 k] (grow (redrawn w d) os) fun e w'' => e = .returned (.agg #[.string (bh k).k, .string (bh k).v, .bool (bh k).g]) ∧ ∃ p : Regrown, w'' = grow (redrawn w p.d) p.os) := behind2_in k hlt
      obtain ⟨c0, c1, c2⟩ := row_pair HO.out (k := L.length + k) (p := bh k) (by rw [List.getElem?_append_right (by omega), Nat.add_sub_cancel_left]; exact bhs_get hlt) (by simp [bhs_len])
      generalize bh k = q at HBH c0 c1 c2
      have c0 := cell_regrown (cell_later HB.out c0)
      have c1 := cell_regrown (cell_later HB.out c1)
      have c2 := cell_regrown (cell_later HB.out c2)
      have hkn : ((L.length : Int) + (k : Int)).toNat = L.length + k := by omega
      have hk0 : (0 : Int) ≤ (L.length : Int) + (k : Int) := by omega
      have hk8 : (L.length : Int) + (k : Int) < (L.length : Int) + 8 := by omega
      go_wp2
      refine wp_region_quiet_below (by kernel_rfl) (by kernel_rfl) ?_
      repeat (first | go_big_quiet_step (exact HBH.out _ _ _) | quiet_step (exact HBH.out _ _ _))
      refine wpQuiet_nil ?_
      intro w2 hw'
      have hb := below_of_regrown hw'
      have HB2 : Hid (Below w.heap.size w w2) := below_trans' HB.out hb
      clear hb hw'
      go_wp2
      go_roundw
      case rel => exact ⟨k + 1, by omega, by go_num, by simp, HB2.out⟩
      case measure => simp [intOf]; omega
    · obtain rfl : k = 8 := by omega
      rw [show (((8 : Nat) : Int)) = 8 from rfl]
      have HB0 := HB
      clear HB
      go_wp2
      go_loopw [5, 7] (fun s5 i wx => ∃ k : Nat, k ≤ L.length ∧ i = .int .i64 k ∧ s5 = .bool true ∧ Hid (Below w.heap.size w wx)) (fun _ i _ => L.length - (intOf i).toNat)
      case atStart => exact ⟨0, by omega, rfl, rfl, HB0.out⟩
      case round =>
        obtain ⟨k, hk, rfl, rfl, HB⟩ := hrel
        by_cases hlt : k < L.length
        · obtain ⟨q, hq⟩ : ∃ q, L[k]? = some q := ⟨_, List.getElem?_eq_getElem hlt⟩
          obtain ⟨c0, c1, c2⟩ := row_pair HO.out (k := k) (p := q) (by rw [List.getElem?_append_left hlt]; exact hq) (by simp [bhs_len])
          obtain ⟨⟨gs, off, spot⟩, rfl, hsp, d0, d1, d2⟩ := HC.out k q hq
          simp only at hsp d0 d1 d2
          subst hsp
          have c0 := cell_regrown (cell_later HB.out c0)
          have c1 := cell_regrown (cell_later HB.out c1)
          have c2 := cell_regrown (cell_later HB.out c2)
          have d0 := cell_regrown (cell_later HB.out d0)
          have d1 := cell_regrown (cell_later HB.out d1)
          have d2 := cell_regrown (cell_later HB.out d2)
          have hk8 : (k : Int) < (L.length : Int) + 8 := by omega
          have hkl : (k : Int) < (L.length : Int) := by omega
          clear hq
          go_wp2
          refine wp_region_quiet_below (by kernel_rfl) (by kernel_rfl) ?_
          repeat (first | go_big_quiet_step (fail) | quiet_step (fail))
          refine wpQuiet_nil ?_
          intro w2 hw'
          have hb := below_of_regrown hw'
          have HB2 : Hid (Below w.heap.size w w2) := below_trans' HB.out hb
          clear hb hw'
          go_wp2
          go_roundw
          case rel => exact ⟨k + 1, by omega, by go_num, by simp, HB2.out⟩
          case measure => simp [intOf]; omega
        · obtain rfl : k = L.length := by omega
          have HB1 := HB
          clear HB
          have HR : Hid (wr.ownsRow base 57 3 (.slice (some ⟨g, 0, none⟩) (L.length + 8) (L.length + 8)) (L.length + 8) (pcells (List.replicate 0 oth) ++ pcells (L ++ bhs 8))) := (Kp.of_below (B := 0) (ts := []) (show Below w.heap.size w wr from HB1.out)).owns HO.out (by simp)
          have hrl : (pcells (L ++ bhs 8)).length = (L.length + 8) * 3 := by rw [pcells_len, List.length_append, bhs_len]
          generalize pcells (L ++ bhs 8) = R0 at HR hrl
          go_wp2
          go_loopw [8] (fun i wx => ∃ (k : Nat) (rest : List Value), k ≤ L.length + 8 ∧ i = .int .i64 k ∧ rest.length = (L.length + 8 - k) * 3 ∧ Hid (wx.ownsRow base 57 3 (.slice (some ⟨g, 0, none⟩) (L.length + 8) (L.length + 8)) (L.length + 8) (pcells (List.replicate k oth) ++ rest)) ∧ Hid (Kd (fun k => k = g ∨ w.heap.size ≤ k) [57] w wx)) (fun i _ => L.length + 8 - (intOf i).toNat)
          case atStart => exact ⟨0, R0, by omega, rfl, by omega, HR.out, Kd.of_below HB1.out⟩
          case round =>
            clear HR hrl HB1
            obtain ⟨k, rest, hk, rfl, hrl, HO2, HK⟩ := hrel
            by_cases hlt : k < L.length + 8
            · have hput := put_raw HO2.out (by omega) oth
              rw [List.length_replicate, ← List.replicate_succ'] at hput
              have hcur : ∃ cur, wr.heap[g]? = some (.cells cur 57 (0, 0)) := by
                rcases HO2.out.2 with ⟨h, _⟩ | ⟨g', cap', cur, hv, _, hg, _⟩
                · cases h
                · simp only [Value.slice.injEq, Option.some.injEq, Addr.mk.injEq, and_true] at hv
                  obtain ⟨rfl, _⟩ := hv
                  exact ⟨cur, hg⟩
              have hce : ∀ o, o < (L.length + 8) * 3 → (wr.cell? ⟨g, o, none⟩).isSome = true ∧ wr.frozen? ⟨g, o, none⟩ = false := fun o ho => by
                obtain ⟨cur, hg⟩ := hcur
                refine ⟨?_, by simp [World.frozen?, hg]⟩
                rw [HO2.out.cellAt o ho]
                rw [List.getElem?_eq_getElem (by rw [HO2.out.1]; exact ho)]
                rfl
              have HF : Hid ((((wr.setCell ⟨g, k * 3, none⟩ (.string oth.k)).setCell ⟨g, k * 3 + 1, none⟩ (.string oth.v)).setCell ⟨g, k * 3 + 2, none⟩ (.bool oth.g)).ownsRow base 57 3 (.slice (some ⟨g, 0, none⟩) (L.length + 8) (L.length + 8)) (L.length + 8) (pcells (List.replicate (k + 1) oth) ++ rest.drop 3) ∧ Kd (fun k => k = g ∨ w.heap.size ≤ k) [57] w (((wr.setCell ⟨g, k * 3, none⟩ (.string oth.k)).setCell ⟨g, k * 3 + 1, none⟩ (.string oth.v)).setCell ⟨g, k * 3 + 2, none⟩ (.bool oth.g))) := by
                refine ⟨hput, ?_⟩
                obtain ⟨cur, hg⟩ := hcur
                have h1 := heap_setCell_same wr g (k * 3) cur 57 (.string oth.k) hg
                have h2 := heap_setCell_same _ g (k * 3 + 1) _ 57 (.string oth.v) h1
                exact ((HK.out.setCell (.inl rfl) hg (by simp) _).setCell (.inl rfl) h1 (by simp) _).setCell (.inl rfl) h2 (by simp) _
              obtain ⟨x0, y0⟩ := hce (k * 3) (by omega)
              obtain ⟨x1, y1⟩ := hce (k * 3 + 1) (by omega)
              obtain ⟨x2, y2⟩ := hce (k * 3 + 2) (by omega)
              obtain ⟨u0, x0⟩ := Option.isSome_iff_exists.1 x0
              obtain ⟨u1, x1⟩ := Option.isSome_iff_exists.1 x1
              obtain ⟨u2, x2⟩ := Option.isSome_iff_exists.1 x2
              clear hcur hput hce
              have hk8 : (k : Int) < (L.length : Int) + 8 := by omega
              go_wp2
              go_roundw
              case rel => exact ⟨k + 1, rest.drop 3, by omega, by go_num, by rw [List.length_drop]; omega, HF.out.1, HF.out.2⟩
              case measure => simp [intOf]; omega
            · obtain rfl : k = L.length + 8 := by omega
              rw [show (((L.length + 8 : Nat) : Int)) = (L.length : Int) + 8 by omega]
              go_wp2
              go_ret
              exact ⟨rfl, HK.out⟩
end Go.Proofs.YtakipjofboipmaaGreatDoor
