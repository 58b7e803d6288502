/- The walks of this proof: a list that is lent. -/
import Derived.Test.YtojdkfamihlnkaaGreatDoorR7
import Derived.Test.YtojdkfamihlnkaaGreatDoorX1
import Derived.Test.YtojdkfamihlnkaaGreatDoorShelf
namespace Go.Proofs.YtojdkfamihlnkaaGreatDoor
open Go.RowKit Go.Sort

/-- What lies behind a list that is lent. -/
def bh (i : Nat) : Pr := ⟨⟨#[98, 101, 104, 105, 110, 100]⟩, ⟨(Lib.decDigits i).toArray⟩, true⟩
def bhs (n : Nat) : List Pr := (List.range n).map bh

theorem bhs_succ (n : Nat) : bhs (n + 1) = bhs n ++ [bh n] := by simp [bhs, List.range_succ]
theorem bhs_len (n : Nat) : (bhs n).length = n := by simp [bhs]
theorem bhs_get {i n : Nat} (h : i < n) : (bhs n)[i]? = some (bh i) := by simp [bhs, h]

def Pr.val (p : Pr) : Value := .agg #[.string p.k, .string p.v, .bool p.g]

set_option maxHeartbeats 400000 in
theorem behind2_any (i : Nat) (hi : i < 8) (w : World) :
    Calls Tryz.prog 77 #[.int .i64 i] w fun e w' => e = .returned (bh i).val ∧ Below w.heap.size w w' := by
  have HI : Hid (∀ w, Calls Tryz.prog 44 #[.int .i64 i] w fun e w' => e = .returned (.string ⟨(Lib.decDigits i).toArray⟩) ∧ w' = w) := fun w => Tryz.strconv_Itoa_small i (by omega) w
  unfold Pr.val bh
  simp only
  generalize (⟨(Lib.decDigits i).toArray⟩ : ByteArray) = s at HI
  go_enter Tryz.func77, Tryz.ntmps77
  go_wp2_with fail
  refine Calls.mono (HI.out _) ?_
  rintro e w1 ⟨rfl, rfl⟩
  go_wp2
  exact bodyPost_ret (v := .agg #[.string ⟨#[98, 101, 104, 105, 110, 100]⟩, .string s, .bool true]) (by simp [results, Tryz.results77, go_sem]) rfl ⟨rfl, (Below.refl _ _).alloc (Nat.le_refl _) _⟩

theorem behind2_in (i : Nat) (hi : i < 8) (w : World) (d : Nat) (os : Array Obj) :
    Calls Tryz.prog 77 #[.int .i64 i] (grow (redrawn w d) os) fun e w'' => e = .returned (bh i).val ∧ ∃ p : Regrown, w'' = grow (redrawn w p.d) p.os :=
  Calls.regrown_of (behind2_any i hi _)

/-- The cells of pairs, one behind the other. -/
theorem pairs_src {w : World} {L : List Pr} {b : Addr} {cap : Nat} (h : PairsAt w (.slice (some b) L.length cap) L) : ∀ j u, (pcells L)[j]? = some u → w.cell? (b.add j) = some u := by
  obtain ⟨ao, cap', hv, _, _, hc⟩ := h
  simp only [Value.slice.injEq, true_and] at hv
  obtain ⟨rfl, rfl⟩ := hv
  intro j u hj
  have hjl : j < L.length * 3 := by rw [← pcells_len]; exact (List.getElem?_eq_some_iff.1 hj).1
  obtain ⟨p, hp⟩ : ∃ p, L[j / 3]? = some p := ⟨_, List.getElem?_eq_getElem (by omega)⟩
  obtain ⟨b', hb', hsp, c0, c1, c2⟩ := hc _ _ hp
  cases hb'
  have hg := flat_get Pr.cells 3 (fun a => by rfl) L (j / 3) p (j % 3) hp (by omega)
  rw [show j / 3 * 3 + j % 3 = j by omega] at hg
  rw [show pcells L = L.flatMap Pr.cells from rfl, hg] at hj
  have hadd : b.add j = ⟨b.block, b.off + j, none⟩ := by
    obtain ⟨bb, bo, bs⟩ := b
    simp only at hsp
    subst hsp
    unfold Addr.add; split <;> simp_all
  rw [hadd]
  have hm : j % 3 = 0 ∨ j % 3 = 1 ∨ j % 3 = 2 := by omega
  rcases hm with h3 | h3 | h3
  · rw [h3] at hj
    simp [Pr.cells] at hj
    subst hj
    rw [show b.off + j = b.off + j / 3 * 3 by omega]; exact c0
  · rw [h3] at hj
    simp [Pr.cells] at hj
    subst hj
    rw [show b.off + j = b.off + j / 3 * 3 + 1 by omega]; exact c1
  · rw [h3] at hj
    simp [Pr.cells] at hj
    subst hj
    rw [show b.off + j = b.off + j / 3 * 3 + 2 by omega]; exact c2

theorem pcells_ones (L : List Pr) : ∀ u ∈ pcells L, u.oneCell' = true := by
  intro u hu
  obtain ⟨p, _, hp⟩ := List.mem_flatMap.1 hu
  exact ones_pair p u hp

theorem pcells_app (L M : List Pr) : pcells (L ++ M) = pcells L ++ pcells M := by simp [pcells]

/-- A pair stored into raw cells. -/
theorem put_raw {w : World} {base g n cap : Nat} {A : List Pr} {rest : List Value} (h : w.ownsRow base 57 3 (.slice (some ⟨g, 0, none⟩) n cap) n (pcells A ++ rest)) (hr : 3 ≤ rest.length) (p : Pr) :
    (((w.setCell ⟨g, A.length * 3, none⟩ (.string p.k)).setCell ⟨g, A.length * 3 + 1, none⟩ (.string p.v)).setCell ⟨g, A.length * 3 + 2, none⟩ (.bool p.g)).ownsRow base 57 3 (.slice (some ⟨g, 0, none⟩) n cap) n (pcells (A ++ [p]) ++ rest.drop 3) := by
  have h3 := (((h.stored (A.length * 3) (.string p.k)).1.stored (A.length * 3 + 1) (.string p.v)).1.stored (A.length * 3 + 2) (.bool p.g)).1
  have hl := pcells_len A
  rw [set3 _ _ _ _ _ (by rw [List.length_append, hl]; omega)] at h3
  have e : (pcells A ++ rest).take (A.length * 3) ++ [.string p.k, .string p.v, .bool p.g] ++ (pcells A ++ rest).drop (A.length * 3 + 3) = pcells (A ++ [p]) ++ rest.drop 3 := by
    rw [← hl, List.take_left, List.drop_append, List.drop_of_length_le (Nat.le_add_right _ _), pcells_app]
    simp [pcells, Pr.cells]
  rw [e] at h3
  exact h3

def LentPost (L : List Pr) (w : World) (e : Ending) (w' : World) : Prop :=
  e = .returned (.slice (some ⟨w.heap.size, 0, none⟩) (L.length + 8) (L.length + 8)) ∧ w'.ownsRow w.heap.size 57 3 (.slice (some ⟨w.heap.size, 0, none⟩) (L.length + 8) (L.length + 8)) (L.length + 8) (pcells (L ++ bhs 8)) ∧ Below w.heap.size w w'

set_option maxHeartbeats 2000000 in
set_option maxRecDepth 100000 in
theorem lent_any (L : List Pr) (v : Value) (w : World) (h : PairsAt w v L) : Calls Tryz.prog 46 #[v] w fun e w' => LentPost L w e w' := by
  obtain ⟨i0, hi, hz0, hz1, hz2⟩ := info_parts Tryz.info57
  have hP := h
  obtain ⟨ao, cap, rfl, hl, _, hc⟩ := h
  obtain ⟨M, hM⟩ : ∃ M, madeCells (Value.agg #[.string ⟨#[]⟩, .string ⟨#[]⟩, .bool false]).cells (((L.length : Int) + 8).toNat * i0.size) = M := ⟨_, rfl⟩
  have hMs : M.size = (L.length + 8) * 3 := by rw [← hM, size_madeCells, hz1]; omega
  have mk : ∀ W : World, (Instr.makeSlice 38 (.int .i64 ((L.length : Int) + 8)) (.int .i64 ((L.length : Int) + 8))).run Tryz.prog W = .ok (.slice (some ⟨W.heap.size, 0, none⟩) (L.length + 8) (L.length + 8)) (W.alloc (.cells M 57)) := fun W => by
    have h := run_make (P := Tryz.prog) W 38 57 i0 (.agg #[.string ⟨#[]⟩, .string ⟨#[]⟩, .bool false]) Tryz.underlying38 hi hz0 .i64 .i64 ((L.length : Int) + 8) ((L.length : Int) + 8) (by omega) (by omega) (by rw [hz2]; omega) (by omega)
    rw [hM] at h
    rw [show ((L.length : Int) + 8).toNat = L.length + 8 by omega] at h
    exact h
  have cp : ∀ ty, (Builtin.copy_ #[38, 38] ty #[.slice (some ⟨w.heap.size, 0, none⟩) (L.length + 8) (L.length + 8), .slice ao L.length cap]).run Tryz.prog (w.alloc (.cells M 57)) = .ok (goInt L.length) ((w.alloc (.cells M 57)).setRow w.heap.size (M.toList.take 0 ++ pcells L ++ M.toList.drop (0 + (pcells L).length)).toArray) := fun ty => by
    by_cases h0 : 0 < L.length
    · obtain ⟨p, hp⟩ : ∃ p, L[0]? = some p := ⟨_, List.getElem?_eq_getElem h0⟩
      obtain ⟨b, rfl, _⟩ := hc 0 p hp
      exact run_copy_rows (w.alloc (.cells M 57)) 38 38 ty 57 i0 w.heap.size 0 _ _ _ _ L.length _ _ b M 57 (pcells L) Tryz.underlying38 hi (heap_alloc_new w _) (Nat.min_eq_left (by omega)) (by rw [pcells_len, hz1]) (fun _ => ⟨rfl, rfl⟩) (fun j u hj => by
        have := pairs_src hP j u hj
        rw [World.cell?_alloc_lt _ _ _ (World.block_lt_of_cell? _ _ this)]; exact this) (by rw [pcells_len, hMs]; omega) (pcells_ones L)
    · have hL : L = [] := List.eq_nil_of_length_eq_zero (by omega)
      subst hL
      exact run_copy_rows (w.alloc (.cells M 57)) 38 38 ty 57 i0 w.heap.size 0 _ _ _ _ 0 _ _ ⟨0, 0, none⟩ M 57 (pcells []) Tryz.underlying38 hi (heap_alloc_new w _) (Nat.min_eq_left (by simp)) (by simp [pcells]) (fun h => absurd h (by simp)) (fun j u hj => by simp [pcells] at hj) (by simp [pcells]) (pcells_ones [])
  have OWN1 : Hid (((w.alloc (.cells M 57)).setRow w.heap.size (M.toList.take 0 ++ pcells L ++ M.toList.drop (0 + (pcells L).length)).toArray).ownsRow w.heap.size 57 3 (.slice (some ⟨w.heap.size, 0, none⟩) (L.length + 8) (L.length + 8)) (L.length + 8) (pcells (L ++ bhs 0) ++ M.toList.drop (L.length * 3))) := by
    refine ⟨?_, .inr ⟨w.heap.size, L.length + 8, _, rfl, Nat.le_refl _, setRow_heap _ w.heap.size M _ 57 _ (heap_alloc_new w _), Nat.le_refl _, by unfold maxLen; omega, ?_, ?_⟩⟩
    · have h5 : M.toList.length = M.size := Array.length_toList
      simp only [List.length_append, pcells_len, List.length_drop, h5, hMs, bhs_len]; omega
    · simp only [List.size_toArray, List.length_append, List.length_take, List.length_drop, Array.length_toList, hMs, pcells_len]; omega
    · rw [List.take_of_length_le]
      · simp [bhs, pcells_len]
      · simp only [List.length_append, List.length_take, List.length_drop, Array.length_toList, hMs, pcells_len]; omega
  have B1 : Hid (Below w.heap.size w ((w.alloc (.cells M 57)).setRow w.heap.size (M.toList.take 0 ++ pcells L ++ M.toList.drop (0 + (pcells L).length)).toArray)) := by
    refine ⟨rfl, rfl, rfl, by simp, fun k hk => ?_⟩
    rw [setRow_other _ _ _ _ (by omega)]
    exact heap_alloc_old w _ hk
  have hR : (M.toList.drop (L.length * 3)).length = 24 := by rw [List.length_drop, Array.length_toList, hMs]; omega
  generalize (w.alloc (.cells M 57)).setRow w.heap.size (M.toList.take 0 ++ pcells L ++ M.toList.drop (0 + (pcells L).length)).toArray = w1 at cp OWN1 B1
  generalize M.toList.drop (L.length * 3) = R at hR OWN1
  clear hM hMs hc hP
  go_enter Tryz.func46, Tryz.ntmps46
  go_wp2
  clear mk cp
  go_loopw [4] (fun i wr => ∃ (k : Nat) (rest : List Value), k ≤ 8 ∧ i = .int .i64 k ∧ rest.length = (8 - k) * 3 ∧ Hid (wr.ownsRow w.heap.size 57 3 (.slice (some ⟨w.heap.size, 0, none⟩) (L.length + 8) (L.length + 8)) (L.length + 8) (pcells (L ++ bhs k) ++ rest)) ∧ Hid (Below w.heap.size w wr)) (fun i _ => 8 - (intOf i).toNat)
  case atStart => exact ⟨0, R, by omega, rfl, by omega, OWN1.out, B1.out⟩
  case round =>
    clear OWN1 B1 hR
    obtain ⟨k, rest, hk, rfl, hrl, HO, HB⟩ := hrel
    by_cases hlt : k < 8
    · have HV := behind2_any k hlt
      have HBH : Hid (∀ w, Calls Tryz.prog 77 #[.int .i64 k] w fun e w' => e = .returned (.agg #[.string (bh k).k, .string (bh k).v, .bool (bh k).g]) ∧ Below w.heap.size w w') := HV
      clear HV
      have HBS : Hid (bhs (k + 1) = bhs k ++ [bh k]) := bhs_succ k
      have hAl : (L ++ bhs k).length = L.length + k := by rw [List.length_append, bhs_len]
      generalize bh k = q at HBH HBS
      go_wp2_with fail
      refine Calls.mono (HBH.out _) ?_
      rintro e w2 ⟨rfl, hb2⟩
      have HB2 : Hid (Below w.heap.size w w2) := below_trans' HB.out hb2
      have ho2 := (Kp.of_below (B := 0) (ts := []) hb2).owns HO.out (by simp)
      have hcur : ∃ cur, w2.heap[w.heap.size]? = some (.cells cur 57 (0, 0)) := by
        rcases ho2.2 with ⟨h, _⟩ | ⟨g', cap', cur, hv, _, hg, _⟩
        · cases h
        · simp only [Value.slice.injEq, Option.some.injEq, Addr.mk.injEq, and_true] at hv
          obtain ⟨rfl, _⟩ := hv
          exact ⟨cur, hg⟩
      have hput := put_raw ho2 (by omega) q
      rw [hAl, List.append_assoc, ← HBS.out] at hput
      have HF : Hid (_ ∧ Below w.heap.size w (((w2.setCell ⟨w.heap.size, (L.length + k) * 3, none⟩ (.string q.k)).setCell ⟨w.heap.size, (L.length + k) * 3 + 1, none⟩ (.string q.v)).setCell ⟨w.heap.size, (L.length + k) * 3 + 2, none⟩ (.bool q.g))) := ⟨hput, ((HB2.out.setCell (Nat.le_refl _) _).setCell (Nat.le_refl _) _).setCell (Nat.le_refl _) _⟩
      have hce : ∀ o, o < (L.length + 8) * 3 → (w2.cell? ⟨w.heap.size, o, none⟩).isSome = true ∧ w2.frozen? ⟨w.heap.size, o, none⟩ = false := fun o ho => by
        obtain ⟨cur, hg⟩ := hcur
        refine ⟨?_, by simp [World.frozen?, hg]⟩
        rw [ho2.cellAt o ho]
        rw [List.getElem?_eq_getElem (by rw [ho2.1]; exact ho)]
        rfl
      obtain ⟨x0, y0⟩ := hce ((L.length + k) * 3) (by omega)
      obtain ⟨x1, y1⟩ := hce ((L.length + k) * 3 + 1) (by omega)
      obtain ⟨x2, y2⟩ := hce ((L.length + k) * 3 + 2) (by omega)
      obtain ⟨u0, x0⟩ := Option.isSome_iff_exists.1 x0
      obtain ⟨u1, x1⟩ := Option.isSome_iff_exists.1 x1
      obtain ⟨u2, x2⟩ := Option.isSome_iff_exists.1 x2
      clear hb2 ho2 hcur hput hce hAl
      have hkn : ((L.length : Int) + (k : Int)).toNat = L.length + k := by omega
      have hk0 : (0 : Int) ≤ (L.length : Int) + (k : Int) := by omega
      have hk8 : (L.length : Int) + (k : Int) < (L.length : Int) + 8 := by omega
      go_wp2
      go_roundw
      case rel => exact ⟨k + 1, rest.drop 3, by omega, by go_num, by rw [List.length_drop]; omega, HF.out.1, HF.out.2⟩
      case measure => simp [intOf]; omega
    · obtain rfl : k = 8 := by omega
      obtain rfl : rest = [] := List.eq_nil_of_length_eq_zero (by omega)
      have HF : Hid (LentPost L w (.returned (.slice (some ⟨w.heap.size, 0, none⟩) (L.length + 8) (L.length + 8))) wr) := ⟨rfl, by have := HO.out; rw [List.append_nil] at this; exact this, HB.out⟩
      rw [show (((8 : Nat) : Int)) = 8 from rfl]
      go_wp2
      go_ret
      exact HF.out
end Go.Proofs.YtojdkfamihlnkaaGreatDoor
