/- The walks of this proof: what is found and seen in the table in memory and the tables that were laid down. -/
import Derived.Test.YtakipjofboipmaaGreatDoorJ3
import Derived.Test.YtakipjofboipmaaGreatDoorJ4
namespace Go.Proofs.YtakipjofboipmaaGreatDoor
open Go.RowKit Go.Sort

/-- A table that was laid down: its level, its entries. -/
abbrev Lb := Int × List En

/-- A slice value that holds these tables. -/
def LdRow (w : World) (vL : Value) (T : List Lb) : Prop :=
  ∃ ao cap, vL = .slice ao T.length cap ∧ (0 < T.length → ∃ g, ao = some ⟨g, 0, none⟩ ∧ T.length ≤ cap ∧ ∀ (k : Nat) t, T[k]? = some t → ∃ v, w.cell? ⟨g, k * 2, none⟩ = some v ∧ EnRow w v t.2 ∧ w.cell? ⟨g, k * 2 + 1, none⟩ = some (.int .i64 t.1))

theorem LdRow.below {w w' : World} {vL : Value} {T : List Lb} (h : LdRow w vL T) (hb : Below w.heap.size w w') : LdRow w' vL T := by
  obtain ⟨ao, cap, hv, h⟩ := h
  refine ⟨ao, cap, hv, fun hl => ?_⟩
  obtain ⟨g, hg, hc, h⟩ := h hl
  refine ⟨g, hg, hc, fun k t ht => ?_⟩
  obtain ⟨v, h1, h2, h3⟩ := h k t ht
  exact ⟨v, cell_later hb h1, h2.below hb, cell_later hb h3⟩

/-- What is true of the runs of a store. -/
structure LvOk (E : List En) (T : List Lb) : Prop where
  few : E.length < 4500000000000
  sorted : Sorted E
  tfew : T.length < 4500000000000
  tabs : ∀ t ∈ T, t.2.length < 4500000000000 ∧ Sorted t.2

def runs (E : List En) (T : List Lb) : List (List En) := E :: T.map (·.2)

theorem runs_take (E : List En) (T : List Lb) (i : Nat) : (runs E T).take (i + 1) = E :: (T.take i).map (·.2) := by simp [runs, List.map_take]
theorem runs_get (E : List En) (T : List Lb) (i : Nat) (t : Lb) (h : T[i]? = some t) : (runs E T)[i + 1]? = some t.2 := by simp [runs, h]

def zEn : En := ⟨⟨#[]⟩, 0, false, ⟨#[]⟩⟩
def enCells (e : En) : Array Value := #[.string e.k, .int .i64 e.s, .bool e.g, .string e.v]
theorem foundVal_eq (r : Option En) : foundVal r = .tuple #[.agg (enCells (r.getD zEn)), .bool r.isSome] := by cases r <;> rfl

theorem new_block (w : World) (o : Obj) : (w.alloc o).heap[w.heap.size]? = some o := by
  show (w.heap.push o)[w.heap.size]? = some o
  exact Array.getElem?_push_size

/-- A block of one entry, written over. -/
theorem put_en {w : World} {m : Nat} {a : En} {t : TypeId} (h : w.heap[m]? = some (.cells (enCells a) t (0, 0))) (e : En) :
    ((((w.setCell ⟨m, 0, none⟩ (.string e.k)).setCell ⟨m, 1, none⟩ (.int .i64 e.s)).setCell ⟨m, 2, none⟩ (.bool e.g)).setCell ⟨m, 3, none⟩ (.string e.v)).heap[m]? = some (.cells (enCells e) t (0, 0)) := by
  have st : ∀ {w : World} {c : Array Value} (_ : w.heap[m]? = some (.cells c t (0, 0))) (i : Nat) (v : Value), (w.setCell ⟨m, i, none⟩ v).heap[m]? = some (.cells (c.setIfInBounds i v) t (0, 0)) := fun h i v => heap_setCell_same _ m i _ t v h
  rw [st (st (st (st h _ _) _ _) _ _) _ _]
  rfl

set_option maxHeartbeats 2000000 in
set_option maxRecDepth 100000 in
theorem lfind_any (E : List En) (T : List Lb) (vE vL : Value) (sb : Nat) (k : ByteArray) (q : Int) (w : World) (ok : LvOk E T) (hv : w.cell? ⟨sb, 0, none⟩ = some vE) (hE : EnRow w vE E) (hl : w.cell? ⟨sb, 1, none⟩ = some vL) (hL : LdRow w vL T) :
    Calls Tryz.prog 107 #[.pointer (some ⟨sb, 0, none⟩), .string k, .int .i64 q] w fun e w' => e = .returned (foundVal (fndL (runs E T) k q)) ∧ Below w.heap.size w w' := by
  have hsb : sb < w.heap.size := block_lt_of_cell hv
  have HOK : Hid (LvOk E T) := ok
  have HL : Hid (LdRow w vL T) := hL
  have HLC : Hid (w.cell? ⟨sb, 1, none⟩ = some vL) := hl
  have htf : T.length < 4500000000000 := ok.tfew
  have HF : Hid (∀ w1, Below w.heap.size w w1 → Calls Tryz.prog 161 #[.pointer (some ⟨sb, 0, none⟩), .string k, .int .i64 q] w1 fun e w' => e = .returned (.tuple #[.agg (enCells ((fnd E k q).getD zEn)), .bool (fnd E k q).isSome]) ∧ Below w1.heap.size w1 w') := fun w1 hb => by
    rw [← foundVal_eq]
    exact find_any E vE sb 0 k q w1 ok.few ok.sorted (cell_later hb hv) (hE.below hb)
  have HX : Hid (fndL ((runs E T).take 1) k q = fnd E k q) := by show _ = _; rw [runs_take, List.take_zero, List.map_nil, fndL_one]
  have HP : Hid (∀ r, fndL (runs E T) k q = r → foundVal (fndL (runs E T) k q) = .tuple #[.agg (enCells (r.getD zEn)), .bool r.isSome]) := fun r hr => by rw [hr, foundVal_eq]
  generalize hpost : (fun (e : Ending) (w' : World) => e = .returned (foundVal (fndL (runs E T) k q)) ∧ Below w.heap.size w w') = PP
  have HPP : Hid _ := hpost
  obtain ⟨ao, cap, rfl, _⟩ := hL
  clear hpost hv hE hl ok
  generalize fnd E k q = r0 at HF HX
  unfold enCells at HF
  go_enter Tryz.func107, Tryz.ntmps107
  go_wp2_with fail
  refine Calls.mono (HF.out _ ((Below.refl _ _).alloc (Nat.le_refl _) _)) ?_
  rintro e w1 ⟨rfl, hb⟩
  have hsz : w.heap.size < w1.heap.size := by have := hb.size; simp at this; omega
  have HB1 : Hid (Below w.heap.size w w1) := below_trans' ((Below.refl _ w).alloc (Nat.le_refl _) _) hb
  have HZ : Hid (w1.heap[w.heap.size]? = some (.cells (enCells zEn) 61 (0, 0))) := by
    show _ = _
    rw [hb.block _ (by simp)]
    exact new_block w _
  clear hb HF
  go_wp2
  go_loopw [9, 10] (fun s9 s10 wr => ∃ (i : Nat) (r : Option En), i ≤ T.length ∧ s10 = .int .i64 i ∧ s9 = .bool r.isSome ∧ Hid (fndL ((runs E T).take (i + 1)) k q = r) ∧ Hid (Below w1.heap.size w1 wr) ∧ Hid (wr.heap[w1.heap.size]? = some (.cells (enCells (r.getD zEn)) 61 (0, 0)))) (fun _ s10 _ => T.length - (intOf s10).toNat)
  case atStart =>
    refine ⟨0, r0, Nat.zero_le _, rfl, rfl, HX.out, ?_, ?_⟩
    · exact (Below.refl _ _).alloc (Nat.le_refl _) _
    · exact new_block w1 _
  case round =>
    obtain ⟨i, r, hi, rfl, rfl, HR, HB, HM⟩ := hrel
    have hlc : wr.cell? ⟨sb, 1, none⟩ = some (.slice ao T.length cap) := cell_later (below_trans' HB1.out HB.out) HLC.out
    have hm : w1.heap.size < wr.heap.size := lt_of_block HM.out
    have m0 : wr.cell? ⟨w1.heap.size, 0, none⟩ = some (.string (r.getD zEn).k) := by simp [World.cell?, HM.out, enCells]
    have m1 : wr.cell? ⟨w1.heap.size, 1, none⟩ = some (.int .i64 (r.getD zEn).s) := by simp [World.cell?, HM.out, enCells]
    have m2 : wr.cell? ⟨w1.heap.size, 2, none⟩ = some (.bool (r.getD zEn).g) := by simp [World.cell?, HM.out, enCells]
    have m3 : wr.cell? ⟨w1.heap.size, 3, none⟩ = some (.string (r.getD zEn).v) := by simp [World.cell?, HM.out, enCells]
    have hz : wr.heap[w.heap.size]? = some (.cells (enCells zEn) 61 (0, 0)) := by rw [HB.out.block _ (by omega)]; exact HZ.out
    have z0 : wr.cell? ⟨w.heap.size, 0, none⟩ = some (.string ⟨#[]⟩) := by simp [World.cell?, hz, enCells, zEn]
    have z1 : wr.cell? ⟨w.heap.size, 1, none⟩ = some (.int .i64 0) := by simp [World.cell?, hz, enCells, zEn]
    have z2 : wr.cell? ⟨w.heap.size, 2, none⟩ = some (.bool false) := by simp [World.cell?, hz, enCells, zEn]
    have z3 : wr.cell? ⟨w.heap.size, 3, none⟩ = some (.string ⟨#[]⟩) := by simp [World.cell?, hz, enCells, zEn]
    have y0 : wr.frozen? ⟨w.heap.size, 0, none⟩ = false := by simp [World.frozen?, hz]
    have y1 : wr.frozen? ⟨w.heap.size, 1, none⟩ = false := by simp [World.frozen?, hz]
    have y2 : wr.frozen? ⟨w.heap.size, 2, none⟩ = false := by simp [World.frozen?, hz]
    have y3 : wr.frozen? ⟨w.heap.size, 3, none⟩ = false := by simp [World.frozen?, hz]
    have HW : Hid (Below w.heap.size w wr) := below_trans' HB1.out HB.out
    clear hz
    have fin : ∀ v, v = Value.tuple #[.agg (enCells (r.getD zEn)), .bool r.isSome] → fndL (runs E T) k q = r → PP (.returned v) ((((wr.setCell ⟨w.heap.size, 0, none⟩ (.string (r.getD zEn).k)).setCell ⟨w.heap.size, 1, none⟩ (.int .i64 (r.getD zEn).s)).setCell ⟨w.heap.size, 2, none⟩ (.bool (r.getD zEn).g)).setCell ⟨w.heap.size, 3, none⟩ (.string (r.getD zEn).v)) := fun v hv hr => by
      rw [← HPP.out]
      exact ⟨by rw [HP.out r hr, hv], (((HW.out.setCell (Nat.le_refl _) _).setCell (Nat.le_refl _) _).setCell (Nat.le_refl _) _).setCell (Nat.le_refl _) _⟩
    have FIN : Hid _ := fin
    clear fin
    cases r with
    | some e =>
      have hdone : Hid (fndL (runs E T) k q = some e) := fndL_hit HR.out
      clear HP HX
      go_wp2
      refine bodyPost_ret (v := .tuple #[.agg (enCells e), .bool true]) (by simp [results, Tryz.results107, go_sem, enCells, z0, z1, z2, z3]) rfl ?_
      exact FIN.out _ rfl hdone.out
    | none =>
      by_cases hlt : i < T.length
      · obtain ⟨t, ht⟩ : ∃ t, T[i]? = some t := ⟨_, List.getElem?_eq_getElem hlt⟩
        obtain ⟨ao', cap', hv', hrow⟩ := HL.out.below HW.out
        simp only [Value.slice.injEq, true_and] at hv'
        obtain ⟨rfl, rfl⟩ := hv'
        obtain ⟨g, rfl, hcap, hrow⟩ := hrow (by omega)
        obtain ⟨v, c0, hEv, c1⟩ := hrow i t ht
        have HT := HOK.out.tabs t (List.mem_of_getElem? ht)
        have HF2 : Hid (Calls Tryz.prog 161 #[.pointer (some ⟨g, i * 2, none⟩), .string k, .int .i64 q] wr fun e w' => e = .returned (.tuple #[.agg (enCells ((fnd t.2 k q).getD zEn)), .bool (fnd t.2 k q).isSome]) ∧ Below wr.heap.size wr w') := by
          show Calls _ _ _ _ _
          rw [← foundVal_eq]
          exact find_any t.2 v g (i * 2) k q wr HT.1 HT.2 c0 hEv
        have HR2 : Hid (fndL ((runs E T).take (i + 1 + 1)) k q = fnd t.2 k q) := fndL_step HR.out (runs_get E T i t ht)
        clear hrow c0 c1 hEv HT ht HP HX FIN
        generalize fnd t.2 k q = r2 at HF2 HR2
        unfold enCells at HF2
        go_wp2_with fail
        refine Calls.mono HF2.out ?_
        rintro e w2 ⟨rfl, hb2⟩
        clear HF2
        have HB2 : Hid (Below w1.heap.size w1 w2) := below_trans' HB.out hb2
        have HM2 : Hid (w2.heap[w1.heap.size]? = some (.cells (enCells zEn) 61 (0, 0))) := by show _ = _; rw [hb2.block _ hm]; exact HM.out
        have n0 : w2.cell? ⟨w1.heap.size, 0, none⟩ = some (.string ⟨#[]⟩) := by simp [World.cell?, HM2.out, enCells, zEn]
        have n1 : w2.cell? ⟨w1.heap.size, 1, none⟩ = some (.int .i64 0) := by simp [World.cell?, HM2.out, enCells, zEn]
        have n2 : w2.cell? ⟨w1.heap.size, 2, none⟩ = some (.bool false) := by simp [World.cell?, HM2.out, enCells, zEn]
        have n3 : w2.cell? ⟨w1.heap.size, 3, none⟩ = some (.string ⟨#[]⟩) := by simp [World.cell?, HM2.out, enCells, zEn]
        have o0 : w2.frozen? ⟨w1.heap.size, 0, none⟩ = false := by simp [World.frozen?, HM2.out]
        have o1 : w2.frozen? ⟨w1.heap.size, 1, none⟩ = false := by simp [World.frozen?, HM2.out]
        have o2 : w2.frozen? ⟨w1.heap.size, 2, none⟩ = false := by simp [World.frozen?, HM2.out]
        have o3 : w2.frozen? ⟨w1.heap.size, 3, none⟩ = false := by simp [World.frozen?, HM2.out]
        clear hb2
        go_wp2
        go_roundw
        case rel => exact ⟨i + 1, r2, by omega, by go_num, rfl, HR2, (((HB2.out.setCell (Nat.le_refl _) _).setCell (Nat.le_refl _) _).setCell (Nat.le_refl _) _).setCell (Nat.le_refl _) _, put_en HM2.out _⟩
        case measure => simp [intOf]; omega
      · obtain rfl : i = T.length := by omega
        have hdone : Hid (fndL (runs E T) k q = none) := by
          show _ = _
          have := HR.out
          rwa [List.take_of_length_le (by simp [runs])] at this
        clear HP HX
        go_wp2
        refine bodyPost_ret (v := .tuple #[.agg (enCells zEn), .bool false]) (by simp [results, Tryz.results107, go_sem, enCells, zEn, z0, z1, z2, z3]) rfl ?_
        exact FIN.out _ rfl hdone.out
end Go.Proofs.YtakipjofboipmaaGreatDoor

/- The walks of this proof: the least key of all tables from a text on; what is seen. -/
namespace Go.Proofs.YtakipjofboipmaaGreatDoor
open Go.RowKit Go.Sort

def kVal (r : Option ByteArray) : Value := .tuple #[.string (r.getD ⟨#[]⟩), .bool r.isSome]
theorem nextVal_eq (r : Option En) : nextVal r = kVal (r.map (·.k)) := by cases r <;> rfl

theorem bytesLess_cb0 : ∀ x y : List UInt8, Op.bytesLess x y = decide (Lib.compareBytes x y < 0)
  | [], [] => by simp [Op.bytesLess, Lib.compareBytes]
  | [], _ :: _ => by simp [Op.bytesLess, Lib.compareBytes]
  | _ :: _, [] => by simp [Op.bytesLess, Lib.compareBytes]
  | a :: x, b :: y => by
    unfold Op.bytesLess Lib.compareBytes
    by_cases h1 : a < b
    · simp [h1]
    · by_cases h2 : b < a
      · have h3 : a ≠ b := fun e => by subst e; exact h1 h2
        simp [h1, h2, h3]
      · have h3 : a = b := UInt8.le_antisymm (UInt8.not_lt.1 h2) (UInt8.not_lt.1 h1)
        simp [h3, bytesLess_cb0 x y]

theorem bytesLess_kc (a b : ByteArray) : Op.bytesLess a.toList b.toList = decide (kc a b < 0) := by
  rw [bytesLess_cb0, ByteArray.toList_eq, ByteArray.toList_eq]; rfl

set_option maxHeartbeats 2000000 in
set_option maxRecDepth 100000 in
theorem lkeyFrom_any (E : List En) (T : List Lb) (vE vL : Value) (sb : Nat) (f : ByteArray) (w : World) (ok : LvOk E T) (hq : ∀ a ∈ runs E T, ∀ e ∈ a, e.s ≤ 9223372036854775807) (hv : w.cell? ⟨sb, 0, none⟩ = some vE) (hE : EnRow w vE E) (hl : w.cell? ⟨sb, 1, none⟩ = some vL) (hL : LdRow w vL T) :
    Calls Tryz.prog 162 #[.pointer (some ⟨sb, 0, none⟩), .string f] w fun e w' => ∃ r, e = .returned (kVal r) ∧ LeastK (runs E T) f r ∧ Below w.heap.size w w' := by
  have hsb : sb < w.heap.size := block_lt_of_cell hv
  have HOK : Hid (LvOk E T) := ok
  have HQ : Hid (∀ a ∈ runs E T, ∀ e ∈ a, e.s ≤ 9223372036854775807) := hq
  have HL : Hid (LdRow w vL T) := hL
  have HLC : Hid (w.cell? ⟨sb, 1, none⟩ = some vL) := hl
  have htf : T.length < 4500000000000 := ok.tfew
  have HF : Hid (Calls Tryz.prog 206 #[.pointer (some ⟨sb, 0, none⟩), .string f] w fun e w' => e = .returned (kVal ((nxt E f).map (·.k))) ∧ Below w.heap.size w w') := by
    show Calls _ _ _ _ _
    rw [← nextVal_eq]
    exact keyFrom_any E vE sb 0 f w ok.few ok.sorted (hq E (by simp [runs])) hv hE
  have HX : Hid (LeastK ((runs E T).take 1) f ((nxt E f).map (·.k))) := by
    show LeastK _ _ _
    rw [runs_take, List.take_zero, List.map_nil]
    exact least_one ok.sorted f
  obtain ⟨ao, cap, rfl, _⟩ := hL
  clear hv hE ok hq
  generalize (nxt E f).map (·.k) = r0 at HF HX
  unfold kVal at HF
  go_enter Tryz.func162, Tryz.ntmps162
  go_wp2_with fail
  refine Calls.mono HF.out ?_
  rintro e w1 ⟨rfl, hb⟩
  have hl1 : w1.cell? ⟨sb, 1, none⟩ = some (.slice ao T.length cap) := cell_later hb hl
  have HB1 : Hid (Below w.heap.size w w1) := hb
  clear hb HF hl
  go_wp2
  go_loopw [6, 7, 25] (fun s6 s7 s25 wr => ∃ (i : Nat) (r : Option ByteArray), i ≤ T.length ∧ s25 = .int .i64 i ∧ s7 = .bool r.isSome ∧ s6 = .string (r.getD ⟨#[]⟩) ∧ Hid (LeastK ((runs E T).take (i + 1)) f r) ∧ Hid (Below w.heap.size w wr)) (fun _ _ s25 _ => T.length - (intOf s25).toNat)
  case atStart => exact ⟨0, r0, Nat.zero_le _, rfl, rfl, rfl, HX, HB1⟩
  case round =>
    clear HX hl1
    obtain ⟨i, r, hi, rfl, rfl, rfl, HR, HB⟩ := hrel
    have hlc : wr.cell? ⟨sb, 1, none⟩ = some (.slice ao T.length cap) := cell_later HB.out HLC.out
    by_cases hlt : i < T.length
    · obtain ⟨t, ht⟩ : ∃ t, T[i]? = some t := ⟨_, List.getElem?_eq_getElem hlt⟩
      obtain ⟨ao', cap', hv', hrow⟩ := HL.out.below HB.out
      simp only [Value.slice.injEq, true_and] at hv'
      obtain ⟨rfl, rfl⟩ := hv'
      obtain ⟨g, rfl, hcap, hrow⟩ := hrow (by omega)
      obtain ⟨v, c0, hEv, c1⟩ := hrow i t ht
      have HT := HOK.out.tabs t (List.mem_of_getElem? ht)
      have HF2 : Hid (Calls Tryz.prog 206 #[.pointer (some ⟨g, i * 2, none⟩), .string f] wr fun e w' => e = .returned (kVal ((nxt t.2 f).map (·.k))) ∧ Below wr.heap.size wr w') := by
        show Calls _ _ _ _ _
        rw [← nextVal_eq]
        exact keyFrom_any t.2 v g (i * 2) f wr HT.1 HT.2 (HQ.out _ (List.mem_of_getElem? (runs_get E T i t ht))) c0 hEv
      have HR2 : Hid (LeastK ((runs E T).take (i + 1 + 1)) f (lesser r ((nxt t.2 f).map (·.k)))) := by
        show LeastK _ _ _
        rw [List.take_add_one, runs_get E T i t ht]
        exact HR.out.step HT.2
      clear hrow c0 c1 hEv HT ht
      generalize (nxt t.2 f).map (·.k) = r2 at HF2 HR2
      unfold kVal at HF2
      cases r2 with
      | none =>
        simp only [lesser] at HR2
        go_wp2_with fail
        refine Calls.mono HF2.out ?_
        rintro e w2 ⟨rfl, hb2⟩
        have HB2 : Hid (Below w.heap.size w w2) := below_trans' HB.out hb2
        clear hb2 HF2
        go_wp2
        go_roundw
        case rel => exact ⟨i + 1, r, by omega, by go_num, rfl, rfl, HR2, HB2⟩
        case measure => simp [intOf]; omega
      | some c =>
        cases r with
        | none =>
          simp only [lesser] at HR2
          go_wp2_with fail
          refine Calls.mono HF2.out ?_
          rintro e w2 ⟨rfl, hb2⟩
          have HB2 : Hid (Below w.heap.size w w2) := below_trans' HB.out hb2
          clear hb2 HF2
          go_wp2
          go_roundw
          case rel => exact ⟨i + 1, some c, by omega, by go_num, rfl, rfl, HR2, HB2⟩
          case measure => simp [intOf]; omega
        | some d =>
          have hbl := bytesLess_kc c d
          by_cases hcd : kc c d < 0
          · simp only [lesser, hcd, if_true] at HR2
            rw [decide_eq_true hcd] at hbl
            go_wp2_with fail
            refine Calls.mono HF2.out ?_
            rintro e w2 ⟨rfl, hb2⟩
            have HB2 : Hid (Below w.heap.size w w2) := below_trans' HB.out hb2
            clear hb2 HF2
            go_wp2
            go_roundw
            case rel => exact ⟨i + 1, some c, by omega, by go_num, rfl, rfl, HR2, HB2⟩
            case measure => simp [intOf]; omega
          · simp only [lesser, hcd, if_false] at HR2
            rw [decide_eq_false hcd] at hbl
            go_wp2_with fail
            refine Calls.mono HF2.out ?_
            rintro e w2 ⟨rfl, hb2⟩
            have HB2 : Hid (Below w.heap.size w w2) := below_trans' HB.out hb2
            clear hb2 HF2
            go_wp2
            go_roundw
            case rel => exact ⟨i + 1, some d, by omega, by go_num, rfl, rfl, HR2, HB2⟩
            case measure => simp [intOf]; omega
    · obtain rfl : i = T.length := by omega
      have hdone : Hid (LeastK (runs E T) f r) := by
        have := HR.out
        rwa [List.take_of_length_le (by simp [runs])] at this
      go_wp2
      go_ret2
      exact ⟨r, rfl, hdone.out, HB.out⟩

/-- What is seen of what was found. -/
def seenVal : Option En → Value
  | some e => if e.g then .tuple #[.string ⟨#[]⟩, .bool false] else .tuple #[.string e.v, .bool true]
  | none => .tuple #[.string ⟨#[]⟩, .bool false]

set_option maxHeartbeats 1000000 in
theorem seen_any (E : List En) (T : List Lb) (vE vL : Value) (sb : Nat) (k : ByteArray) (s : Int) (w : World) (ok : LvOk E T) (hv : w.cell? ⟨sb, 0, none⟩ = some vE) (hE : EnRow w vE E) (hl : w.cell? ⟨sb, 1, none⟩ = some vL) (hL : LdRow w vL T) :
    Calls Tryz.prog 59 #[.pointer (some ⟨sb, 0, none⟩), .string k, .int .i64 s] w fun e w' => e = .returned (seenVal (fndL (runs E T) k s)) ∧ Below w.heap.size w w' := by
  have hfi := lfind_any E T vE vL sb k s w ok hv hE hl hL
  clear ok hv hE hl hL
  generalize fndL (runs E T) k s = r at *
  cases r with
  | none =>
    have HF : Hid _ := hfi
    clear hfi
    go_enter Tryz.func59, Tryz.ntmps59
    go_wp2_with fail
    refine Calls.mono HF.out ?_
    rintro e w1 ⟨rfl, hb⟩
    have HB : Hid (Below w.heap.size w w1) := hb
    clear hb
    unfold foundVal
    go_wp2
    go_ret2
    exact ⟨rfl, HB.out.alloc HB.out.size _⟩
  | some e =>
    obtain ⟨k', s', g', v'⟩ := e
    have HF : Hid _ := hfi
    clear hfi
    cases g' <;>
    · go_enter Tryz.func59, Tryz.ntmps59
      go_wp2_with fail
      refine Calls.mono HF.out ?_
      rintro e w1 ⟨rfl, hb⟩
      have HB : Hid (Below w.heap.size w w1) := hb
      clear hb
      unfold foundVal
      go_wp2
      go_ret2
      exact ⟨rfl, HB.out.alloc HB.out.size _⟩
end Go.Proofs.YtakipjofboipmaaGreatDoor
