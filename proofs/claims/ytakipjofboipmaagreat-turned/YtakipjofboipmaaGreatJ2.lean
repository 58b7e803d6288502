/- The walks of this proof: what is found and seen in the table in memory and the tables that were laid down. -/
import Derived.Test.YtakipjofboipmaaGreatJ1
namespace Go.Proofs.YtakipjofboipmaaGreat
open Go.RowKit Go.Sort

/-- A table that was laid down: its level, its entries. -/
abbrev Lb := Int × List En

/-- A slice value that holds these tables. -/
def LdRow (w : World) (vL : Value) (T : List Lb) : Prop :=
  ∃ ao cap, vL = .slice ao T.length cap ∧ (0 < T.length → ∃ g, ao = some ⟨g, 0, none⟩ ∧ T.length ≤ cap ∧ ∀ (k : Nat) t, T[k]? = some t → ∃ v, w.cell? ⟨g, k * 2, none⟩ = some v ∧ EnRow w v t.2 ∧ w.cell? ⟨g, k * 2 + 1, none⟩ = some (.int .i64 t.1))

theorem LdRow.below {w w' : World} {vL : Value} {T : List Lb} (h : LdRow w vL T) (hb : Below w.heap.size w w') : LdRow w' vL T := by
  obtain ⟨ao, cap, hv, h⟩ := h
  refine ⟨ao, cap, hv, fun hl => ?_⟩
  obtain ⟨g, hg, hc, h⟩ := h hl
  refine ⟨g, hg, hc, fun k t ht => ?_⟩
  obtain ⟨v, h1, h2, h3⟩ := h k t ht
  exact ⟨v, cell_later hb h1, h2.below hb, cell_later hb h3⟩

/-- What is true of the runs of a store. -/
structure LvOk (E : List En) (T : List Lb) : Prop where
  few : E.length < 1000000000
  sorted : Sorted E
  tfew : T.length < 1000000000
  tabs : ∀ t ∈ T, t.2.length < 1000000000 ∧ Sorted t.2

def runs (E : List En) (T : List Lb) : List (List En) := E :: T.map (·.2)

theorem runs_take (E : List En) (T : List Lb) (i : Nat) : (runs E T).take (i + 1) = E :: (T.take i).map (·.2) := by simp [runs, List.map_take]
theorem runs_get (E : List En) (T : List Lb) (i : Nat) (t : Lb) (h : T[i]? = some t) : (runs E T)[i + 1]? = some t.2 := by simp [runs, h]

def zEn : En := ⟨⟨#[]⟩, 0, false, ⟨#[]⟩⟩
def enCells (e : En) : Array Value := #[.string e.k, .int .i64 e.s, .bool e.g, .string e.v]
theorem foundVal_eq (r : Option En) : foundVal r = .tuple #[.agg (enCells (r.getD zEn)), .bool r.isSome] := by cases r <;> rfl

theorem new_block (w : World) (o : Obj) : (w.alloc o).heap[w.heap.size]? = some o := by
  show (w.heap.push o)[w.heap.size]? = some o
  exact Array.getElem?_push_size

/-- A block of one entry, written over. -/
theorem put_en {w : World} {m : Nat} {a : En} {t : TypeId} (h : w.heap[m]? = some (.cells (enCells a) t (0, 0))) (e : En) :
    ((((w.setCell ⟨m, 0, none⟩ (.string e.k)).setCell ⟨m, 1, none⟩ (.int .i64 e.s)).setCell ⟨m, 2, none⟩ (.bool e.g)).setCell ⟨m, 3, none⟩ (.string e.v)).heap[m]? = some (.cells (enCells e) t (0, 0)) := by
  have st : ∀ {w : World} {c : Array Value} (_ : w.heap[m]? = some (.cells c t (0, 0))) (i : Nat) (v : Value), (w.setCell ⟨m, i, none⟩ v).heap[m]? = some (.cells (c.setIfInBounds i v) t (0, 0)) := fun h i v => heap_setCell_same _ m i _ t v h
  rw [st (st (st (st h _ _) _ _) _ _) _ _]
  rfl

set_option maxHeartbeats 2000000 in
set_option maxRecDepth 100000 in
theorem lfind_any (E : List En) (T : List Lb) (vE vL : Value) (sb : Nat) (k : ByteArray) (q : Int) (w : World) (ok : LvOk E T) (hv : w.cell? ⟨sb, 0, none⟩ = some vE) (hE : EnRow w vE E) (hl : w.cell? ⟨sb, 1, none⟩ = some vL) (hL : LdRow w vL T) :
    Calls Tryz.prog 104 #[.pointer (some ⟨sb, 0, none⟩), .string k, .int .i64 q] w fun e w' => e = .returned (foundVal (fndL (runs E T) k q)) ∧ Below w.heap.size w w' := by
  have hsb : sb < w.heap.size := block_lt_of_cell hv
  have HOK : Hid (LvOk E T) := ok
  have HL : Hid (LdRow w vL T) := hL
  have HLC : Hid (w.cell? ⟨sb, 1, none⟩ = some vL) := hl
  have htf : T.length < 1000000000 := ok.tfew
  have HF : Hid (∀ w1, Below w.heap.size w w1 → Calls Tryz.prog 147 #[.pointer (some ⟨sb, 0, none⟩), .string k, .int .i64 q] w1 fun e w' => e = .returned (.tuple #[.agg (enCells ((fnd E k q).getD zEn)), .bool (fnd E k q).isSome]) ∧ Below w1.heap.size w1 w') := fun w1 hb => by
    rw [← foundVal_eq]
    exact find_any E vE sb 0 k q w1 ok.few ok.sorted (cell_later hb hv) (hE.below hb)
  have HX : Hid (fndL ((runs E T).take 1) k q = fnd E k q) := by show _ = _; rw [runs_take, List.take_zero, List.map_nil, fndL_one]
  have HP : Hid (∀ r, fndL (runs E T) k q = r → foundVal (fndL (runs E T) k q) = .tuple #[.agg (enCells (r.getD zEn)), .bool r.isSome]) := fun r hr => by rw [hr, foundVal_eq]
  generalize hpost : (fun (e : Ending) (w' : World) => e = .returned (foundVal (fndL (runs E T) k q)) ∧ Below w.heap.size w w') = PP
  have HPP : Hid _ := hpost
  obtain ⟨ao, cap, rfl, _⟩ := hL
  clear hpost hv hE hl ok
  generalize fnd E k q = r0 at HF HX
  unfold enCells at HF
  go_enter Tryz.func104, Tryz.ntmps104
  go_wp2_with fail
  refine Calls.mono (HF.out _ ((Below.refl _ _).alloc (Nat.le_refl _) _)) ?_
  rintro e w1 ⟨rfl, hb⟩
  have hsz : w.heap.size < w1.heap.size := by have := hb.size; simp at this; omega
  have HB1 : Hid (Below w.heap.size w w1) := below_trans' ((Below.refl _ w).alloc (Nat.le_refl _) _) hb
  have HZ : Hid (w1.heap[w.heap.size]? = some (.cells (enCells zEn) 58 (0, 0))) := by
    show _ = _
    rw [hb.block _ (by simp)]
    exact new_block w _
  clear hb HF
  go_wp2
  go_loopw [9, 10] (fun s9 s10 wr => ∃ (i : Nat) (r : Option En), i ≤ T.length ∧ s10 = .int .i64 i ∧ s9 = .bool r.isSome ∧ Hid (fndL ((runs E T).take (i + 1)) k q = r) ∧ Hid (Below w1.heap.size w1 wr) ∧ Hid (wr.heap[w1.heap.size]? = some (.cells (enCells (r.getD zEn)) 58 (0, 0)))) (fun _ s10 _ => T.length - (intOf s10).toNat)
  case atStart =>
    refine ⟨0, r0, Nat.zero_le _, rfl, rfl, HX.out, ?_, ?_⟩
    · exact (Below.refl _ _).alloc (Nat.le_refl _) _
    · exact new_block w1 _
  case round =>
    obtain ⟨i, r, hi, rfl, rfl, HR, HB, HM⟩ := hrel
    have hlc : wr.cell? ⟨sb, 1, none⟩ = some (.slice ao T.length cap) := cell_later (below_trans' HB1.out HB.out) HLC.out
    have hm : w1.heap.size < wr.heap.size := lt_of_block HM.out
    have m0 : wr.cell? ⟨w1.heap.size, 0, none⟩ = some (.string (r.getD zEn).k) := by simp [World.cell?, HM.out, enCells]
    have m1 : wr.cell? ⟨w1.heap.size, 1, none⟩ = some (.int .i64 (r.getD zEn).s) := by simp [World.cell?, HM.out, enCells]
    have m2 : wr.cell? ⟨w1.heap.size, 2, none⟩ = some (.bool (r.getD zEn).g) := by simp [World.cell?, HM.out, enCells]
    have m3 : wr.cell? ⟨w1.heap.size, 3, none⟩ = some (.string (r.getD zEn).v) := by simp [World.cell?, HM.out, enCells]
    have hz : wr.heap[w.heap.size]? = some (.cells (enCells zEn) 58 (0, 0)) := by rw [HB.out.block _ (by omega)]; exact HZ.out
    have z0 : wr.cell? ⟨w.heap.size, 0, none⟩ = some (.string ⟨#[]⟩) := by simp [World.cell?, hz, enCells, zEn]
    have z1 : wr.cell? ⟨w.heap.size, 1, none⟩ = some (.int .i64 0) := by simp [World.cell?, hz, enCells, zEn]
    have z2 : wr.cell? ⟨w.heap.size, 2, none⟩ = some (.bool false) := by simp [World.cell?, hz, enCells, zEn]
    have z3 : wr.cell? ⟨w.heap.size, 3, none⟩ = some (.string ⟨#[]⟩) := by simp [World.cell?, hz, enCells, zEn]
    have y0 : wr.frozen? ⟨w.heap.size, 0, none⟩ = false := by simp [World.frozen?, hz]
    have y1 : wr.frozen? ⟨w.heap.size, 1, none⟩ = false := by simp [World.frozen?, hz]
    have y2 : wr.frozen? ⟨w.heap.size, 2, none⟩ = false := by simp [World.frozen?, hz]
    have y3 : wr.frozen? ⟨w.heap.size, 3, none⟩ = false := by simp [World.frozen?, hz]
    have HW : Hid (Below w.heap.size w wr) := below_trans' HB1.out HB.out
    clear hz
    have fin : ∀ v, v = Value.tuple #[.agg (enCells (r.getD zEn)), .bool r.isSome] → fndL (runs E T) k q = r → PP (.returned v) ((((wr.setCell ⟨w.heap.size, 0, none⟩ (.string (r.getD zEn).k)).setCell ⟨w.heap.size, 1, none⟩ (.int .i64 (r.getD zEn).s)).setCell ⟨w.heap.size, 2, none⟩ (.bool (r.getD zEn).g)).setCell ⟨w.heap.size, 3, none⟩ (.string (r.getD zEn).v)) := fun v hv hr => by
      rw [← HPP.out]
      exact ⟨by rw [HP.out r hr, hv], (((HW.out.setCell (Nat.le_refl _) _).setCell (Nat.le_refl _) _).setCell (Nat.le_refl _) _).setCell (Nat.le_refl _) _⟩
    have FIN : Hid _ := fin
    clear fin
    cases r with
    | some e =>
      have hdone : Hid (fndL (runs E T) k q = some e) := fndL_hit HR.out
      clear HP HX
      go_wp2
      refine bodyPost_ret (v := .tuple #[.agg (enCells e), .bool true]) (by simp [results, Tryz.results104, go_sem, enCells, z0, z1, z2, z3]) rfl ?_
      exact FIN.out _ rfl hdone.out
    | none =>
      by_cases hlt : i < T.length
      · obtain ⟨t, ht⟩ : ∃ t, T[i]? = some t := ⟨_, List.getElem?_eq_getElem hlt⟩
        obtain ⟨ao', cap', hv', hrow⟩ := HL.out.below HW.out
        simp only [Value.slice.injEq, true_and] at hv'
        obtain ⟨rfl, rfl⟩ := hv'
        obtain ⟨g, rfl, hcap, hrow⟩ := hrow (by omega)
        obtain ⟨v, c0, hEv, c1⟩ := hrow i t ht
        have HT := HOK.out.tabs t (List.mem_of_getElem? ht)
        have HF2 : Hid (Calls Tryz.prog 147 #[.pointer (some ⟨g, i * 2, none⟩), .string k, .int .i64 q] wr fun e w' => e = .returned (.tuple #[.agg (enCells ((fnd t.2 k q).getD zEn)), .bool (fnd t.2 k q).isSome]) ∧ Below wr.heap.size wr w') := by
          show Calls _ _ _ _ _
          rw [← foundVal_eq]
          exact find_any t.2 v g (i * 2) k q wr HT.1 HT.2 c0 hEv
        have HR2 : Hid (fndL ((runs E T).take (i + 1 + 1)) k q = fnd t.2 k q) := fndL_step HR.out (runs_get E T i t ht)
        clear hrow c0 c1 hEv HT ht HP HX FIN
        generalize fnd t.2 k q = r2 at HF2 HR2
        unfold enCells at HF2
        go_wp2_with fail
        refine Calls.mono HF2.out ?_
        rintro e w2 ⟨rfl, hb2⟩
        clear HF2
        have HB2 : Hid (Below w1.heap.size w1 w2) := below_trans' HB.out hb2
        have HM2 : Hid (w2.heap[w1.heap.size]? = some (.cells (enCells zEn) 58 (0, 0))) := by show _ = _; rw [hb2.block _ hm]; exact HM.out
        have n0 : w2.cell? ⟨w1.heap.size, 0, none⟩ = some (.string ⟨#[]⟩) := by simp [World.cell?, HM2.out, enCells, zEn]
        have n1 : w2.cell? ⟨w1.heap.size, 1, none⟩ = some (.int .i64 0) := by simp [World.cell?, HM2.out, enCells, zEn]
        have n2 : w2.cell? ⟨w1.heap.size, 2, none⟩ = some (.bool false) := by simp [World.cell?, HM2.out, enCells, zEn]
        have n3 : w2.cell? ⟨w1.heap.size, 3, none⟩ = some (.string ⟨#[]⟩) := by simp [World.cell?, HM2.out, enCells, zEn]
        have o0 : w2.frozen? ⟨w1.heap.size, 0, none⟩ = false := by simp [World.frozen?, HM2.out]
        have o1 : w2.frozen? ⟨w1.heap.size, 1, none⟩ = false := by simp [World.frozen?, HM2.out]
        have o2 : w2.frozen? ⟨w1.heap.size, 2, none⟩ = false := by simp [World.frozen?, HM2.out]
        have o3 : w2.frozen? ⟨w1.heap.size, 3, none⟩ = false := by simp [World.frozen?, HM2.out]
        clear hb2
        go_wp2
        go_roundw
        case rel => exact ⟨i + 1, r2, by omega, by go_num, rfl, HR2, (((HB2.out.setCell (Nat.le_refl _) _).setCell (Nat.le_refl _) _).setCell (Nat.le_refl _) _).setCell (Nat.le_refl _) _, put_en HM2.out _⟩
        case measure => simp [intOf]; omega
      · obtain rfl : i = T.length := by omega
        have hdone : Hid (fndL (runs E T) k q = none) := by
          show _ = _
          have := HR.out
          rwa [List.take_of_length_le (by simp [runs])] at this
        clear HP HX
        go_wp2
        refine bodyPost_ret (v := .tuple #[.agg (enCells zEn), .bool false]) (by simp [results, Tryz.results104, go_sem, enCells, zEn, z0, z1, z2, z3]) rfl ?_
        exact FIN.out _ rfl hdone.out
end Go.Proofs.YtakipjofboipmaaGreat

/- The walks of this proof: the least key of all tables from a text on; what is seen. -/
namespace Go.Proofs.YtakipjofboipmaaGreat
open Go.RowKit Go.Sort

def kVal (r : Option ByteArray) : Value := .tuple #[.string (r.getD ⟨#[]⟩), .bool r.isSome]
theorem nextVal_eq (r : Option En) : nextVal r = kVal (r.map (·.k)) := by cases r <;> rfl

theorem bytesLess_cb0 : ∀ x y : List UInt8, Op.bytesLess x y = decide (Lib.compareBytes x y < 0)
  | [], [] => by simp [Op.bytesLess, Lib.compareBytes]
  | [], _ :: _ => by simp [Op.bytesLess, Lib.compareBytes]
  | _ :: _, [] => by simp [Op.bytesLess, Lib.compareBytes]
  | a :: x, b :: y => by
    unfold Op.bytesLess Lib.compareBytes
    by_cases h1 : a < b
    · simp [h1]
    · by_cases h2 : b < a
      · have h3 : a ≠ b := fun e => by subst e; exact h1 h2
        simp [h1, h2, h3]
      · have h3 : a = b := UInt8.le_antisymm (UInt8.not_lt.1 h2) (UInt8.not_lt.1 h1)
        simp [h3, bytesLess_cb0 x y]

theorem bytesLess_kc (a b : ByteArray) : Op.bytesLess a.toList b.toList = decide (kc a b < 0) := by
  rw [bytesLess_cb0, ByteArray.toList_eq, ByteArray.toList_eq]; rfl

set_option maxHeartbeats 2000000 in
set_option maxRecDepth 100000 in
theorem lkeyFrom_any (E : List En) (T : List Lb) (vE vL : Value) (sb : Nat) (f : ByteArray) (w : World) (ok : LvOk E T) (hq : ∀ a ∈ runs E T, ∀ e ∈ a, e.s ≤ 9223372036854775807) (hv : w.cell? ⟨sb, 0, none⟩ = some vE) (hE : EnRow w vE E) (hl : w.cell? ⟨sb, 1, none⟩ = some vL) (hL : LdRow w vL T) :
    Calls Tryz.prog 126 #[.pointer (some ⟨sb, 0, none⟩), .string f] w fun e w' => ∃ r, e = .returned (kVal r) ∧ LeastK (runs E T) f r ∧ Below w.heap.size w w' := by
  have hsb : sb < w.heap.size := block_lt_of_cell hv
  have HOK : Hid (LvOk E T) := ok
  have HQ : Hid (∀ a ∈ runs E T, ∀ e ∈ a, e.s ≤ 9223372036854775807) := hq
  have HL : Hid (LdRow w vL T) := hL
  have HLC : Hid (w.cell? ⟨sb, 1, none⟩ = some vL) := hl
  have htf : T.length < 1000000000 := ok.tfew
  have HF : Hid (Calls Tryz.prog 164 #[.pointer (some ⟨sb, 0, none⟩), .string f] w fun e w' => e = .returned (kVal ((nxt E f).map (·.k))) ∧ Below w.heap.size w w') := by
    show Calls _ _ _ _ _
    rw [← nextVal_eq]
    exact keyFrom_any E vE sb 0 f w ok.few ok.sorted (hq E (by simp [runs])) hv hE
  have HX : Hid (LeastK ((runs E T).take 1) f ((nxt E f).map (·.k))) := by
    show LeastK _ _ _
    rw [runs_take, List.take_zero, List.map_nil]
    exact least_one ok.sorted f
  obtain ⟨ao, cap, rfl, _⟩ := hL
  clear hv hE ok hq
  generalize (nxt E f).map (·.k) = r0 at HF HX
  unfold kVal at HF
  go_enter Tryz.func126, Tryz.ntmps126
  go_wp2_with fail
  refine Calls.mono HF.out ?_
  rintro e w1 ⟨rfl, hb⟩
  have hl1 : w1.cell? ⟨sb, 1, none⟩ = some (.slice ao T.length cap) := cell_later hb hl
  have HB1 : Hid (Below w.heap.size w w1) := hb
  clear hb HF hl
  go_wp2
  go_loopw [6, 7, 25] (fun s6 s7 s25 wr => ∃ (i : Nat) (r : Option ByteArray), i ≤ T.length ∧ s25 = .int .i64 i ∧ s7 = .bool r.isSome ∧ s6 = .string (r.getD ⟨#[]⟩) ∧ Hid (LeastK ((runs E T).take (i + 1)) f r) ∧ Hid (Below w.heap.size w wr)) (fun _ _ s25 _ => T.length - (intOf s25).toNat)
  case atStart => exact ⟨0, r0, Nat.zero_le _, rfl, rfl, rfl, HX, HB1⟩
  case round =>
    clear HX hl1
    obtain ⟨i, r, hi, rfl, rfl, rfl, HR, HB⟩ := hrel
    have hlc : wr.cell? ⟨sb, 1, none⟩ = some (.slice ao T.length cap) := cell_later HB.out HLC.out
    by_cases hlt : i < T.length
    · obtain ⟨t, ht⟩ : ∃ t, T[i]? = some t := ⟨_, List.getElem?_eq_getElem hlt⟩
      obtain ⟨ao', cap', hv', hrow⟩ := HL.out.below HB.out
      simp only [Value.slice.injEq, true_and] at hv'
      obtain ⟨rfl, rfl⟩ := hv'
      obtain ⟨g, rfl, hcap, hrow⟩ := hrow (by omega)
      obtain ⟨v, c0, hEv, c1⟩ := hrow i t ht
      have HT := HOK.out.tabs t (List.mem_of_getElem? ht)
      have HF2 : Hid (Calls Tryz.prog 164 #[.pointer (some ⟨g, i * 2, none⟩), .string f] wr fun e w' => e = .returned (kVal ((nxt t.2 f).map (·.k))) ∧ Below wr.heap.size wr w') := by
        show Calls _ _ _ _ _
        rw [← nextVal_eq]
        exact keyFrom_any t.2 v g (i * 2) f wr HT.1 HT.2 (HQ.out _ (List.mem_of_getElem? (runs_get E T i t ht))) c0 hEv
      have HR2 : Hid (LeastK ((runs E T).take (i + 1 + 1)) f (lesser r ((nxt t.2 f).map (·.k)))) := by
        show LeastK _ _ _
        rw [List.take_add_one, runs_get E T i t ht]
        exact HR.out.step HT.2
      clear hrow c0 c1 hEv HT ht
      generalize (nxt t.2 f).map (·.k) = r2 at HF2 HR2
      unfold kVal at HF2
      cases r2 with
      | none =>
        simp only [lesser] at HR2
        go_wp2_with fail
        refine Calls.mono HF2.out ?_
        rintro e w2 ⟨rfl, hb2⟩
        have HB2 : Hid (Below w.heap.size w w2) := below_trans' HB.out hb2
        clear hb2 HF2
        go_wp2
        go_roundw
        case rel => exact ⟨i + 1, r, by omega, by go_num, rfl, rfl, HR2, HB2⟩
        case measure => simp [intOf]; omega
      | some c =>
        cases r with
        | none =>
          simp only [lesser] at HR2
          go_wp2_with fail
          refine Calls.mono HF2.out ?_
          rintro e w2 ⟨rfl, hb2⟩
          have HB2 : Hid (Below w.heap.size w w2) := below_trans' HB.out hb2
          clear hb2 HF2
          go_wp2
          go_roundw
          case rel => exact ⟨i + 1, some c, by omega, by go_num, rfl, rfl, HR2, HB2⟩
          case measure => simp [intOf]; omega
        | some d =>
          have hbl := bytesLess_kc c d
          by_cases hcd : kc c d < 0
          · simp only [lesser, hcd, if_true] at HR2
            rw [decide_eq_true hcd] at hbl
            go_wp2_with fail
            refine Calls.mono HF2.out ?_
            rintro e w2 ⟨rfl, hb2⟩
            have HB2 : Hid (Below w.heap.size w w2) := below_trans' HB.out hb2
            clear hb2 HF2
            go_wp2
            go_roundw
            case rel => exact ⟨i + 1, some c, by omega, by go_num, rfl, rfl, HR2, HB2⟩
            case measure => simp [intOf]; omega
          · simp only [lesser, hcd, if_false] at HR2
            rw [decide_eq_false hcd] at hbl
            go_wp2_with fail
            refine Calls.mono HF2.out ?_
            rintro e w2 ⟨rfl, hb2⟩
            have HB2 : Hid (Below w.heap.size w w2) := below_trans' HB.out hb2
            clear hb2 HF2
            go_wp2
            go_roundw
            case rel => exact ⟨i + 1, some d, by omega, by go_num, rfl, rfl, HR2, HB2⟩
            case measure => simp [intOf]; omega
    · obtain rfl : i = T.length := by omega
      have hdone : Hid (LeastK (runs E T) f r) := by
        have := HR.out
        rwa [List.take_of_length_le (by simp [runs])] at this
      go_wp2
      go_ret2
      exact ⟨r, rfl, hdone.out, HB.out⟩

/-- What is seen of what was found. -/
def seenVal : Option En → Value
  | some e => if e.g then .tuple #[.string ⟨#[]⟩, .bool false] else .tuple #[.string e.v, .bool true]
  | none => .tuple #[.string ⟨#[]⟩, .bool false]

set_option maxHeartbeats 1000000 in
theorem seen_any (E : List En) (T : List Lb) (vE vL : Value) (sb : Nat) (k : ByteArray) (s : Int) (w : World) (ok : LvOk E T) (hv : w.cell? ⟨sb, 0, none⟩ = some vE) (hE : EnRow w vE E) (hl : w.cell? ⟨sb, 1, none⟩ = some vL) (hL : LdRow w vL T) :
    Calls Tryz.prog 66 #[.pointer (some ⟨sb, 0, none⟩), .string k, .int .i64 s] w fun e w' => e = .returned (seenVal (fndL (runs E T) k s)) ∧ Below w.heap.size w w' := by
  have hfi := lfind_any E T vE vL sb k s w ok hv hE hl hL
  clear ok hv hE hl hL
  generalize fndL (runs E T) k s = r at *
  cases r with
  | none =>
    have HF : Hid _ := hfi
    clear hfi
    go_enter Tryz.func66, Tryz.ntmps66
    go_wp2_with fail
    refine Calls.mono HF.out ?_
    rintro e w1 ⟨rfl, hb⟩
    have HB : Hid (Below w.heap.size w w1) := hb
    clear hb
    unfold foundVal
    go_wp2
    go_ret2
    exact ⟨rfl, HB.out.alloc HB.out.size _⟩
  | some e =>
    obtain ⟨k', s', g', v'⟩ := e
    have HF : Hid _ := hfi
    clear hfi
    cases g' <;>
    · go_enter Tryz.func66, Tryz.ntmps66
      go_wp2_with fail
      refine Calls.mono HF.out ?_
      rintro e w1 ⟨rfl, hb⟩
      have HB : Hid (Below w.heap.size w w1) := hb
      clear hb
      unfold foundVal
      go_wp2
      go_ret2
      exact ⟨rfl, HB.out.alloc HB.out.size _⟩
end Go.Proofs.YtakipjofboipmaaGreat

/- The walks of this proof: what is seen from a text on. -/
namespace Go.Proofs.YtakipjofboipmaaGreat
open Go.RowKit Go.Sort

theorem Tryz.info48 : (Tryz.prog.info? 48).map (fun i => (i.zero, i.size, i.bytes)) = some (some (.agg #[.string ⟨#[]⟩, .string ⟨#[]⟩, .bool false]), 3, 40) := by kernel_rfl

/-- What 'seen' hands back, in the words of 'sk'. -/
def skVal : Option ByteArray → Value
  | some x => .tuple #[.string x, .bool true]
  | none => .tuple #[.string ⟨#[]⟩, .bool false]

theorem seenVal_sk (E : List En) (k : ByteArray) (q : Int) : seenVal (fnd E k q) = skVal (sk E k q) := by
  unfold sk
  cases fnd E k q with
  | none => rfl
  | some e =>
    simp only [seenVal]
    cases e.g <;> rfl

theorem slice_form {w : World} {base : Nat} {e : TypeId} {size : Nat} {v : Value} {n : Nat} {xs : List Value} (h : w.ownsRow base e size v n xs) : ∃ ao cap, v = .slice ao n cap := by
  rcases h.2 with ⟨rfl, rfl⟩ | ⟨g, cap, cur, rfl, _⟩
  · exact ⟨_, _, rfl⟩
  · exact ⟨_, _, rfl⟩

/-- What a round of the scan does to memory. -/
theorem app_below {w wr w1 : World} {v : Value} {n : Nat} {xs : List Value} {e : TypeId} {size : Nat} {o : Obj} (hb : Below w.heap.size w wr) (ho : wr.ownsRow w.heap.size e size v n xs) (hg : (wr.alloc o).grownBy w1 v.ownBlock) : Below w.heap.size w w1 :=
  (hb.alloc hb.size o).grown hg (by have := hb.size; simp; omega) fun k hk => (ho.lt k hk).1

/-- What a scan comes to. -/
def ScanPost (E : List En) (f : ByteArray) (most q : Int) (w : World) (e : Ending) (w' : World) : Prop :=
  ∃ (vl : Value) (L : List Pr) (cur : Option ByteArray), e = .returned vl ∧ w'.ownsRow w.heap.size 48 3 vl L.length (pcells L) ∧ Below w.heap.size w w' ∧ ScanInv E f q L cur ∧ (cur = none ∨ most ≤ L.length) ∧ (0 ≤ most → L.length ≤ most)

/-- All entries of a store's runs, in one order. -/
structure Gh (M E : List En) (T : List Lb) : Prop where
  sorted : Sorted M
  mem : ∀ e, e ∈ M ↔ ∃ a ∈ runs E T, e ∈ a
  fnd : ∀ k q, fnd M k q = fndL (runs E T) k q
  few : M.length < 1000000000
  seqs : ∀ e ∈ M, e.s ≤ 9223372036854775807
  keys : ∀ e ∈ M, e.k.size ≤ 1000

set_option maxHeartbeats 2000000 in
set_option maxRecDepth 100000 in
theorem seenFrom_any (M E : List En) (T : List Lb) (vE vL : Value) (sb : Nat) (f : ByteArray) (most q : Int) (w : World) (gh : Gh M E T) (ok : LvOk E T) (hv : w.cell? ⟨sb, 0, none⟩ = some vE) (hE : EnRow w vE E) (hl : w.cell? ⟨sb, 1, none⟩ = some vL) (hL : LdRow w vL T) :
    Calls Tryz.prog 77 #[.pointer (some ⟨sb, 0, none⟩), .string f, .int .i64 most, .int .i64 q] w fun e w' => ScanPost M f most q w e w' := by
  have hsb : sb < w.heap.size := block_lt_of_cell hv
  have hn : M.length < 1000000000 := gh.few
  have HS : Hid (Sorted M) := gh.sorted
  have HK : Hid (∀ e ∈ M, e.k.size ≤ 1000) := gh.keys
  have HKF : Hid (∀ f' w1, Below w.heap.size w w1 → Calls Tryz.prog 126 #[.pointer (some ⟨sb, 0, none⟩), .string f'] w1 fun e w' => e = .returned (kVal ((nxt M f').map (·.k))) ∧ Below w1.heap.size w1 w') := fun f' w1 hb => by
    refine (lkeyFrom_any E T vE vL sb f' w1 ok (fun a ha e he => gh.seqs e ((gh.mem e).2 ⟨a, ha, he⟩)) (cell_later hb hv) (hE.below hb) (cell_later hb hl) (hL.below hb)).mono ?_
    rintro e w' ⟨r, rfl, hr, hb'⟩
    exact ⟨by rw [hr.same gh.sorted gh.mem], hb'⟩
  have HSN : Hid (∀ c w1, Below w.heap.size w w1 → Calls Tryz.prog 66 #[.pointer (some ⟨sb, 0, none⟩), .string c, .int .i64 q] w1 fun e w' => e = .returned (skVal (sk M c q)) ∧ Below w1.heap.size w1 w') := fun c w1 hb => by
    rw [← seenVal_sk, gh.fnd]
    exact seen_any E T vE vL sb c q w1 ok (cell_later hb hv) (hE.below hb) (cell_later hb hl) (hL.below hb)
  clear gh ok hv hE hl hL
  obtain ⟨i0, hi, hz0, hz1, hz2⟩ := info_parts Tryz.info48
  have kf := HKF.out f w (Below.refl _ _)
  have st := scan_start HS.out f q
  generalize (nxt M f).map (·.k) = r at kf st
  have KF : Hid _ := kf
  have ST : Hid _ := st
  clear kf st
  unfold kVal at KF
  go_enter Tryz.func77, Tryz.ntmps77
  go_wp2_with fail
  refine Calls.mono KF.out ?_
  rintro e w1 ⟨rfl, hb⟩
  clear KF
  have HB : Hid (Below w.heap.size w w1) := hb
  clear hb
  go_wp2
  go_loopg [9, 10, 11] M.length (fun kx s9 s10 s11 wr => ∃ (L : List Pr) (cur : Option ByteArray), s11 = .bool cur.isSome ∧ s10 = .string (cur.getD ⟨#[]⟩) ∧ Hid (wr.ownsRow w.heap.size 48 3 s9 L.length (pcells L)) ∧ Hid (Below w.heap.size w wr) ∧ Hid (ScanInv M f q L cur) ∧ cnt M cur ≤ kx ∧ Hid (0 ≤ most → L.length ≤ most))
  case atStart => exact ⟨[], r, rfl, rfl, World.ownsRow_nil _ _ _ _, HB.out, ST.out, by have := ST.out.len; simp at this; omega, fun h => h⟩
  case round =>
    clear ST
    obtain ⟨L, cur, rfl, rfl, hown, HBr, HI, hcn, HL⟩ := hrel
    obtain ⟨ao, cap, rfl⟩ := slice_form hown.out
    cases cur with
    | none =>
      go_wp2
      go_ret
      unfold ScanPost
      exact ⟨_, L, none, rfl, hown.out, HBr.out, HI.out, .inl rfl, HL.out⟩
    | some c =>
      by_cases hm : (L.length : Int) < most
      · have hck : c.size ≤ 1000 := by obtain ⟨e, he, rfl⟩ := (HI.out.here c rfl).2; exact HK.out e he
        have hll : L.length ≤ M.length := by have := HI.out.len; omega
        have sn := HSN.out c wr HBr.out
        have stp := scan_step HS.out HI.out
        have HP : Hid (1 ≤ cnt M (some c)) := by
          obtain ⟨e, he, hk⟩ := (HI.out.here c rfl).2
          exact List.countP_pos_iff.2 ⟨e, he, by simp [hk, kc_self]⟩
        have HLT : Hid (∀ c', (nxt M (c ++ nul)).map (·.k) = some c' → cnt M (some c') < cnt M (some c)) := by
          intro c' hc'
          cases hnn : nxt M (c ++ nul) with
          | none => simp [hnn] at hc'
          | some y =>
            simp [hnn] at hc'; subst hc'
            obtain ⟨e, he, hk⟩ := (HI.out.here c rfl).2
            have g := nxt_some HS.out hnn
            have hlt := (kc_nul c y.k).1 g.2.1
            exact countP_less _ _ M (fun x hx hp => by
              simp at hp ⊢
              by_cases g : 0 ≤ kc x.k c
              · exact g
              · have := kc_trans (show kc x.k c < 0 by omega) hlt; omega) ⟨e, he, by simp [hk, kc_self], by simp [hk]; exact hlt⟩
        have HKF2 : Hid (∀ w1, Below w.heap.size w w1 → Calls Tryz.prog 126 #[.pointer (some ⟨sb, 0, none⟩), .string (c ++ nul)] w1 fun e w' => e = .returned (kVal ((nxt M (c ++ nul)).map (·.k))) ∧ Below w1.heap.size w1 w') := fun w1 hb => HKF.out _ w1 hb
        generalize (nxt M (c ++ nul)).map (·.k) = r2 at HKF2 HLT stp
        have HMS : Hid (cnt M r2 < cnt M (some c)) := by
          cases r2 with
          | none => have := HP.out; simp only [cnt] at this ⊢; exact this
          | some c' => exact HLT.out c' rfl
        unfold kVal at HKF2
        have SN : Hid _ := sn
        have STP : Hid _ := stp
        clear sn stp HKF HSN HLT
        cases hsk : sk M c q with
        | none =>
          rw [hsk] at SN STP
          clear hsk
          go_wp2_with fail
          refine Calls.mono SN.out ?_
          rintro e w2 ⟨rfl, hb2⟩
          have HB2 : Hid (Below w.heap.size w w2) := below_trans' HBr.out hb2
          have hown2 : Hid (w2.ownsRow w.heap.size 48 3 (.slice ao L.length cap) L.length (pcells L)) := (Kp.of_below (B := 0) (ts := []) hb2).owns hown.out (by simp)
          clear hb2 SN
          unfold skVal
          go_wp2_with (go_at_call 127; refine (behind_any c _ hck).mono ?_; rintro e w3 ⟨rfl, rfl⟩)
          refine Calls.mono (HKF2.out _ HB2.out) ?_
          rintro e w4 ⟨rfl, hb4⟩
          have HB4 : Hid (Below w.heap.size w w4) := below_trans' HB2.out hb4
          have hown4 : Hid (w4.ownsRow w.heap.size 48 3 (.slice ao L.length cap) L.length (pcells L)) := (Kp.of_below (B := 0) (ts := []) hb4).owns hown2.out (by simp)
          clear hb4 HKF2
          go_wp2
          go_roundg (cnt M r2)
          case measure => have := HMS.out; omega
          case rel => exact ⟨L, r2, rfl, rfl, hown4.out, HB4.out, STP.out, Nat.le_refl _, HL.out⟩
        | some x =>
          rw [hsk] at SN STP
          clear hsk
          go_wp2_with fail
          refine Calls.mono SN.out ?_
          rintro e w3 ⟨rfl, hb2⟩
          have HB3 : Hid (Below w.heap.size w w3) := below_trans' HBr.out hb2
          have hown3 : w3.ownsRow w.heap.size 48 3 (.slice ao L.length cap) L.length (pcells L) := (Kp.of_below (B := 0) (ts := []) hb2).owns hown.out (by simp)
          clear hb2 SN
          unfold skVal
          go_wp2_with (at_builtin; refine wpList_append_own _ rfl _ _ 49 rfl w.heap.size 48 i0 _ 3 40 Tryz.underlying49 hi hz0 hz1 hz2 rfl (by decide) _ _ _ rfl (hown3.alloc _) ⟨w3.heap.size, 0, none⟩ 1 1 (Pr.cells (Pr.mk c x false)) rfl rfl ?c1 ?c2 ?c3 ?c4 ?c5 ?_)
          case c1 =>
            intro j u hj
            match j, hj with
            | 0, hj => simp [Pr.cells] at hj; subst hj; simp [Addr.add]
            | 1, hj => simp [Pr.cells] at hj; subst hj; simp [Addr.add]
            | 2, hj => simp [Pr.cells] at hj; subst hj; simp [Addr.add]
            | j + 3, hj => simp [Pr.cells] at hj
          case c2 => intro u hu; simp [Pr.cells] at hu; rcases hu with rfl | rfl | rfl <;> rfl
          case c3 => unfold maxLen; omega
          case c4 => omega
          case c5 => have := HB3.out.size; simp; omega
          intro v9 w2 ho2 hg2 _
          have HB2 : Hid (Below w.heap.size w w2) := app_below HB3.out hown3 hg2
          have hown2 : Hid (w2.ownsRow w.heap.size 48 3 v9 (L ++ [Pr.mk c x false]).length (pcells (L ++ [Pr.mk c x false]))) := by
            have : pcells (L ++ [Pr.mk c x false]) = pcells L ++ Pr.cells (Pr.mk c x false) := by simp [pcells]
            rw [this, List.length_append]; exact ho2
          have HL2 : Hid (0 ≤ most → (((L ++ [Pr.mk c x false]).length : Nat) : Int) ≤ most) := fun _ => by simp; omega
          clear ho2 hg2 hown3
          go_wp2_with (go_at_call 127; refine (behind_any c _ hck).mono ?_; rintro e w5 ⟨rfl, rfl⟩)
          refine Calls.mono (HKF2.out _ HB2.out) ?_
          rintro e w4 ⟨rfl, hb4⟩
          have HB4 : Hid (Below w.heap.size w w4) := below_trans' HB2.out hb4
          have hown4 : Hid (w4.ownsRow w.heap.size 48 3 v9 (L ++ [Pr.mk c x false]).length (pcells (L ++ [Pr.mk c x false]))) := (Kp.of_below (B := 0) (ts := []) hb4).owns hown2.out (by simp)
          clear hb4 HKF2
          go_wp2
          go_roundg (cnt M r2)
          case measure => have := HMS.out; omega
          case rel => exact ⟨L ++ [Pr.mk c x false], r2, rfl, rfl, hown4.out, HB4.out, STP.out, Nat.le_refl _, HL2.out⟩
      · go_wp2
        go_ret
        unfold ScanPost
        exact ⟨_, L, some c, rfl, hown.out, HBr.out, HI.out, .inr (by omega), HL.out⟩
end Go.Proofs.YtakipjofboipmaaGreat

/- The walks of this proof: snapshots by their numbers; Get and Scan. -/
namespace Go.Proofs.YtakipjofboipmaaGreat
open Go.RowKit Go.Sort

/-- What lies in a row, by its places. -/
theorem row_cell {α : Type} {w : World} {base : Nat} {e : TypeId} {size : Nat} {v : Value} {l : List α} {f : α → List Value} (hf : ∀ a, (f a).length = size) (h : w.ownsRow base e size v l.length (l.flatMap f)) (hl : 0 < l.length) :
    ∃ g cap, v = .slice (some ⟨g, 0, none⟩) l.length cap ∧ base ≤ g ∧ g < w.heap.size ∧ l.length ≤ cap ∧ ∀ j a i, l[j]? = some a → i < size → w.cell? ⟨g, j * size + i, none⟩ = (f a)[i]? := by
  rcases h.2 with ⟨_, h0⟩ | ⟨g, cap, cur, rfl, hb, hg, hnc, _⟩
  · omega
  · refine ⟨g, cap, rfl, hb, lt_of_block hg, hnc, fun j a i hj hi => ?_⟩
    have hj' : j < l.length := (List.getElem?_eq_some_iff.1 hj).1
    rw [h.cellAt _ (by have := Nat.mul_le_mul_right size hj'; simp only [Nat.succ_eq_add_one, Nat.add_mul] at this; omega), flat_get f size hf l j a i hj hi]

theorem enrow_of_owns {w : World} {base : Nat} {v : Value} {E : List En} (h : w.ownsRow base 58 4 v E.length (ecells E)) : EnRow w v E := by
  by_cases hl : 0 < E.length
  · obtain ⟨g, cap, rfl, _, _, hc, hcell⟩ := row_cell (fun a => by rfl) h hl
    exact .inr ⟨g, cap, rfl, hc, fun j e he => ⟨hcell j e 0 he (by omega), hcell j e 1 he (by omega), hcell j e 2 he (by omega), hcell j e 3 he (by omega)⟩⟩
  · have : E = [] := List.eq_nil_of_length_eq_zero (by omega)
    subst this
    rcases h.2 with ⟨rfl, _⟩ | ⟨g, cap, cur, rfl, _, _, hc, _⟩
    · exact .inl ⟨rfl, rfl⟩
    · exact .inr ⟨g, cap, rfl, hc, fun j e he => by simp at he⟩

/-- A snapshot: its number, and the batch number at which it sees. -/
structure Sn where
  n : Int
  q : Int
def Sn.cells (s : Sn) : List Value := [.int .i64 s.n, .int .i64 s.q]
def scells (l : List Sn) : List Value := l.flatMap Sn.cells

/-- Where a number stands among snapshots. -/
def sidx (S : List Sn) (n : Int) : Option Nat := S.findIdx? fun s => decide (s.n = n)

theorem sidx_hit {S : List Sn} {n : Int} {k : Nat} {s : Sn} (hs : S[k]? = some s) (hn : s.n = n) (hno : ∀ j s', j < k → S[j]? = some s' → s'.n ≠ n) : sidx S n = some k := by
  obtain ⟨hk, rfl⟩ := List.getElem?_eq_some_iff.1 hs
  refine List.findIdx?_eq_some_iff_getElem.2 ⟨hk, by simp [hn], fun j hj => ?_⟩
  simpa using hno j _ hj (List.getElem?_eq_getElem (by omega))

theorem sidx_none {S : List Sn} {n : Int} (hno : ∀ j s', j < S.length → S[j]? = some s' → s'.n ≠ n) : sidx S n = none := by
  refine List.findIdx?_eq_none_iff.2 fun x hx => ?_
  obtain ⟨j, hj, rfl⟩ := List.getElem_of_mem hx
  simpa using hno j _ hj (List.getElem?_eq_getElem hj)

def idxVal : Option Nat → Value
  | some i => .tuple #[.int .i64 i, .bool true]
  | none => .tuple #[.int .i64 0, .bool false]

set_option maxHeartbeats 1000000 in
theorem indexSnap_any (S : List Sn) (v : Value) (base sb : Nat) (n : Int) (w : World) (hl : S.length ≤ 4) (hv : w.cell? ⟨sb, 5, none⟩ = some v) (hS : w.ownsRow base 174 2 v S.length (scells S)) :
    Calls Tryz.prog 79 #[.pointer (some ⟨sb, 5, none⟩), .int .i64 n] w fun e w' => e = .returned (idxVal (sidx S n)) ∧ Below w.heap.size w w' := by
  obtain ⟨ao, cap, rfl⟩ := slice_form hS
  have HS : Hid _ := hS
  clear hS
  go_enter Tryz.func79, Tryz.ntmps79
  go_wp2
  go_loopw [13] (fun i wr => ∃ k : Nat, k ≤ S.length ∧ i = .int .i64 k ∧ Hid (Below w.heap.size w wr) ∧ Hid (∀ j s', j < k → S[j]? = some s' → s'.n ≠ n)) (fun i _ => S.length - (intOf i).toNat)
  case atStart => exact ⟨0, Nat.zero_le _, rfl, Below.refl _ _, fun j s' h => absurd h (Nat.not_lt_zero _)⟩
  case round =>
    obtain ⟨k, hk, rfl, HB, HN⟩ := hrel
    by_cases hlt : k < S.length
    · obtain ⟨g, cap', hv', hbg, hgl, hcap, hcell⟩ := row_cell (fun a => by rfl) HS.out (by omega)
      simp only [Value.slice.injEq, true_and] at hv'
      obtain ⟨rfl, rfl⟩ := hv'
      obtain ⟨s, hs⟩ : ∃ s, S[k]? = some s := ⟨_, List.getElem?_eq_getElem hlt⟩
      have c0 := cell_later HB.out (show w.cell? ⟨g, k * 2, none⟩ = some (Value.int .i64 s.n) from hcell k s 0 hs (by omega))
      have c1 := cell_later HB.out (show w.cell? ⟨g, k * 2 + 1, none⟩ = some (Value.int .i64 s.q) from hcell k s 1 hs (by omega))
      have HE : Hid (S[k]? = some s) := hs
      have hsz : g < wr.heap.size := Nat.lt_of_lt_of_le hgl HB.out.size
      clear hs hcell
      by_cases hn : s.n = n
      · have hfin : Hid (sidx S n = some k) := sidx_hit HE.out hn HN.out
        have hnb : (s.n == n) = true := by simp [hn]
        go_wp2
        go_ret2
        exact ⟨by rw [hfin.out]; rfl, HB.out.alloc HB.out.size _⟩
      · have hnb : (s.n == n) = false := by simp [hn]
        go_wp2
        go_roundw
        case rel => exact ⟨k + 1, by omega, by go_num, HB.out.alloc HB.out.size _, fun j s' hj hs' => by
          rcases Nat.lt_succ_iff_lt_or_eq.1 hj with h | rfl
          · exact HN.out j s' h hs'
          · rw [HE.out] at hs'; cases hs'; exact hn⟩
        case measure => simp [intOf]; omega
    · obtain rfl : k = S.length := by omega
      have hfin : Hid (sidx S n = none) := sidx_none HN.out
      go_wp2
      go_ret2
      exact ⟨by rw [hfin.out]; rfl, HB.out⟩

/-- The batch number at which a number sees; none: there is no such snapshot. -/
def snq (S : List Sn) (n : Int) : Option Int := (S.find? fun s => decide (s.n = n)).map (·.q)

theorem snq_idx {S : List Sn} {n : Int} : snq S n = (sidx S n).bind fun i => S[i]?.map (·.q) := by
  unfold snq sidx
  induction S with
  | nil => rfl
  | cons s S ih =>
    by_cases h : s.n = n
    · simp [List.findIdx?_cons, h]
    · simp only [List.find?_cons, List.findIdx?_cons, h, decide_false, Bool.false_eq_true, if_false, ih]
      cases S.findIdx? fun s => decide (s.n = n) <;> simp

def seqVal : Option Int → Value
  | some q => .tuple #[.int .i64 q, .bool true]
  | none => .tuple #[.int .i64 0, .bool false]

set_option maxHeartbeats 1000000 in
theorem snapSeq_any (S : List Sn) (v : Value) (base sb : Nat) (n : Int) (w : World) (hl : S.length ≤ 4) (hv : w.cell? ⟨sb, 5, none⟩ = some v) (hS : w.ownsRow base 174 2 v S.length (scells S)) :
    Calls Tryz.prog 103 #[.pointer (some ⟨sb, 5, none⟩), .int .i64 n] w fun e w' => e = .returned (seqVal (snq S n)) ∧ Below w.heap.size w w' := by
  have hi := indexSnap_any S v base sb n w hl hv hS
  rw [snq_idx]
  generalize hr : sidx S n = r at hi
  cases r with
  | none =>
    have HI : Hid _ := hi
    clear hi hS hr
    go_enter Tryz.func103, Tryz.ntmps103
    go_wp2_with fail
    refine Calls.mono HI.out ?_
    rintro e w1 ⟨rfl, hb⟩
    have HB : Hid (Below w.heap.size w w1) := hb
    clear hb
    unfold idxVal
    go_wp2
    go_ret2
    exact ⟨rfl, HB.out⟩
  | some i =>
    have hil : i < S.length := (List.findIdx?_eq_some_iff_getElem.1 hr).1
    obtain ⟨g, cap, rfl, hbg, hgl, hcap, hcell⟩ := row_cell (fun a => by rfl) hS (by omega)
    obtain ⟨s, hs⟩ : ∃ s, S[i]? = some s := ⟨_, List.getElem?_eq_getElem hil⟩
    have c1 := show w.cell? ⟨g, i * 2 + 1, none⟩ = some (Value.int .i64 s.q) from hcell i s 1 hs (by omega)
    have HI : Hid _ := hi
    have HE : Hid (S[i]? = some s) := hs
    clear hi hS hr hcell hs
    go_enter Tryz.func103, Tryz.ntmps103
    go_wp2_with fail
    refine Calls.mono HI.out ?_
    rintro e w1 ⟨rfl, hb⟩
    have HB : Hid (Below w.heap.size w w1) := hb
    have hv1 := cell_later hb hv
    have c1 := cell_later hb c1
    clear hb
    unfold idxVal
    go_wp2
    go_ret2
    exact ⟨by simp [HE.out, seqVal], HB.out⟩

/-- At which number is seen: the latest (0), or a snapshot's. -/
def seqOf (S : List Sn) (last : Int) (at_ : Int) : Option Int := if at_ = 0 then some last else snq S at_

set_option maxHeartbeats 1000000 in
theorem seqAt_any (S : List Sn) (v : Value) (base sb : Nat) (n last : Int) (w : World) (hl : S.length ≤ 4) (hv : w.cell? ⟨sb, 5, none⟩ = some v) (hlast : w.cell? ⟨sb, 7, none⟩ = some (.int .i64 last)) (hS : w.ownsRow base 174 2 v S.length (scells S)) :
    Calls Tryz.prog 65 #[.pointer (some ⟨sb, 0, none⟩), .int .i64 n] w fun e w' => e = .returned (seqVal (seqOf S last n)) ∧ Below w.heap.size w w' := by
  unfold seqOf
  by_cases hn : n = 0
  · subst hn
    clear hS
    rw [if_pos rfl]
    go_enter Tryz.func65, Tryz.ntmps65
    go_wp2
    go_ret2
    exact ⟨rfl, Below.refl _ _⟩
  · have hnb : (n == 0) = false := by simp [hn]
    rw [if_neg hn]
    have hi := snapSeq_any S v base sb n w hl hv hS
    generalize snq S n = r at hi
    have HI : Hid _ := hi
    clear hi hS
    cases r with
    | none =>
      go_enter Tryz.func65, Tryz.ntmps65
      go_wp2_with fail
      refine Calls.mono HI.out ?_
      rintro e w1 ⟨rfl, hb⟩
      have HB : Hid (Below w.heap.size w w1) := hb
      clear hb
      unfold seqVal
      go_wp2
      go_ret2
      exact ⟨rfl, HB.out⟩
    | some q =>
      go_enter Tryz.func65, Tryz.ntmps65
      go_wp2_with fail
      refine Calls.mono HI.out ?_
      rintro e w1 ⟨rfl, hb⟩
      have HB : Hid (Below w.heap.size w w1) := hb
      clear hb
      unfold seqVal
      go_wp2
      go_ret2
      exact ⟨rfl, HB.out⟩
end Go.Proofs.YtakipjofboipmaaGreat

/- The kit of this proof: the frame 'Kd' of a call that may turn blocks of a set D alone, and rows that lie in D. -/
namespace Go.Proofs.YtakipjofboipmaaGreat
open Go.RowKit

/-- Of what was there, only blocks of D whose elements are of one of the types ts may have turned. -/
structure Kd (D : Nat → Prop) (ts : List Nat) (w w' : World) : Prop where
  os : w'.os = w.os
  tape : w'.tape = w.tape
  output : w'.output = w.output
  size : w.heap.size ≤ w'.heap.size
  block : ∀ k, k < w.heap.size → (¬ D k ∨ ∀ c e f, w.heap[k]? = some (.cells c e f) → e ∉ ts) → w'.heap[k]? = w.heap[k]?

/-- All blocks that are not there yet are D's. -/
def Opn (D : Nat → Prop) (w : World) : Prop := ∀ k, w.heap.size ≤ k → D k

theorem Opn.later {D : Nat → Prop} {w w' : World} (h : Opn D w) (hs : w.heap.size ≤ w'.heap.size) : Opn D w' := fun k hk => h k (Nat.le_trans hs hk)

/-- An owned row that lies in D. -/
def OwnsIn (w : World) (D : Nat → Prop) (e : TypeId) (size : Nat) (v : Value) (n : Nat) (xs : List Value) : Prop :=
  w.ownsRow 0 e size v n xs ∧ ∀ g, v.ownBlock = some g → D g

theorem OwnsIn.own {w : World} {D : Nat → Prop} {e : TypeId} {size : Nat} {v : Value} {n : Nat} {xs : List Value} (h : OwnsIn w D e size v n xs) : w.ownsRow 0 e size v n xs := h.1

theorem OwnsIn.dom {w : World} {D : Nat → Prop} {e : TypeId} {size : Nat} {v : Value} {n : Nat} {xs : List Value} (h : OwnsIn w D e size v n xs) : ∀ g, v.ownBlock = some g → D g := h.2

theorem Kd.refl (D : Nat → Prop) (ts : List Nat) (w : World) : Kd D ts w w := ⟨rfl, rfl, rfl, Nat.le_refl _, fun _ _ _ => rfl⟩

theorem Kd.trans {D : Nat → Prop} {ts : List Nat} {a b c : World} (h : Kd D ts a b) (k : Kd D ts b c) : Kd D ts a c :=
  ⟨k.os.trans h.os, k.tape.trans h.tape, k.output.trans h.output, Nat.le_trans h.size k.size, fun i hi hor => by
    have e1 := h.block i hi hor
    rw [k.block i (Nat.lt_of_lt_of_le hi h.size) (by rw [e1]; exact hor), e1]⟩

theorem Kd.mono {D : Nat → Prop} {ts ts' : List Nat} {w w' : World} (h : Kd D ts w w') (hs : ∀ t, t ∈ ts → t ∈ ts') : Kd D ts' w w' :=
  ⟨h.os, h.tape, h.output, h.size, fun k hk hor => h.block k hk (hor.imp id fun g c e f hc hm => g c e f hc (hs e hm))⟩

theorem Kd.wider {D D' : Nat → Prop} {ts : List Nat} {w w' : World} (h : Kd D ts w w') (hs : ∀ k, k < w.heap.size → D k → D' k) : Kd D' ts w w' :=
  ⟨h.os, h.tape, h.output, h.size, fun k hk hor => h.block k hk (hor.imp (fun g d => g (hs k hk d)) id)⟩

theorem Kd.of_below {D : Nat → Prop} {ts : List Nat} {w w' : World} (h : Below w.heap.size w w') : Kd D ts w w' :=
  ⟨h.os, h.tape, h.output, h.size, fun k hk _ => h.block k hk⟩

theorem Kd.of_belowB {D : Nat → Prop} {ts : List Nat} {B : Nat} {w w' : World} (h : Below B w w') (hB : B = w.heap.size) : Kd D ts w w' :=
  ⟨h.os, h.tape, h.output, h.size, fun k hk _ => h.block k (by omega)⟩

theorem Kd.of_kp {D : Nat → Prop} {ts : List Nat} {B : Nat} {w w' : World} (h : Kp B ts w w') (hB : w.heap.size ≤ B) : Kd D [] w w' :=
  ⟨h.os, h.tape, h.output, h.size, fun k hk _ => h.block k hk (.inl (by omega))⟩

/-- Nothing of what was there below N has turned, where D lies from N on. -/
theorem Kd.belowN {D : Nat → Prop} {ts : List Nat} {N : Nat} {w w' : World} (h : Kd D ts w w') (hN : N ≤ w.heap.size) (hD : ∀ k, D k → N ≤ k) : Below N w w' :=
  ⟨h.os, h.tape, h.output, h.size, fun k hk => h.block k (by omega) (.inl fun d => by have := hD k d; omega)⟩

theorem Kd.drew {D : Nat → Prop} {ts : List Nat} {a w : World} (h : Kd D ts a w) : Kd D ts a w.drew := ⟨h.os, h.tape, h.output, h.size, h.block⟩

theorem Kd.drewN {D : Nat → Prop} {ts : List Nat} {a w : World} (h : Kd D ts a w) (n : Nat) : Kd D ts a (w.drewN n) := ⟨h.os, h.tape, h.output, h.size, h.block⟩

theorem Kd.alloc {D : Nat → Prop} {ts : List Nat} {a w : World} (h : Kd D ts a w) (o : Obj) : Kd D ts a (w.alloc o) :=
  h.trans (Kd.of_below ((Below.refl _ _).alloc (Nat.le_refl _) o))

/-- A block that may not have turned. -/
theorem Kd.keep {D : Nat → Prop} {ts : List Nat} {w w' : World} (h : Kd D ts w w') {k : Nat} {c : Array Value} {e : TypeId} {f : Nat × Nat} (hk : w.heap[k]? = some (.cells c e f)) (he : e ∉ ts) : w'.heap[k]? = some (.cells c e f) := by
  rw [h.block k (lt_of_block hk) (.inr fun c' e' f' hc => by rw [hk] at hc; simp only [Option.some.injEq, Obj.cells.injEq] at hc; rw [← hc.2.1]; exact he)]
  exact hk

/-- A block that is not D's. -/
theorem Kd.keepN {D : Nat → Prop} {ts : List Nat} {w w' : World} (h : Kd D ts w w') {k : Nat} {o : Obj} (hk : w.heap[k]? = some o) (he : ¬ D k) : w'.heap[k]? = some o := by
  rw [h.block k (Array.getElem?_eq_some_iff.1 hk).1 (.inl he)]
  exact hk

theorem Kd.owns {D : Nat → Prop} {ts : List Nat} {w w' : World} (h : Kd D ts w w') {base : Nat} {e : TypeId} {size : Nat} {v : Value} {n : Nat} {xs : List Value} (ho : w.ownsRow base e size v n xs) (he : e ∉ ts) : w'.ownsRow base e size v n xs := by
  refine ⟨ho.1, ?_⟩
  rcases ho.2 with hn | ⟨g, cap, cur, rfl, hb, hg, r⟩
  · exact .inl hn
  · exact .inr ⟨g, cap, cur, rfl, hb, h.keep hg he, r⟩

theorem Kd.ownsN {D : Nat → Prop} {ts : List Nat} {w w' : World} (h : Kd D ts w w') {base : Nat} {e : TypeId} {size : Nat} {v : Value} {n : Nat} {xs : List Value} (ho : w.ownsRow base e size v n xs) (he : ∀ g, v.ownBlock = some g → ¬ D g) : w'.ownsRow base e size v n xs := by
  refine ⟨ho.1, ?_⟩
  rcases ho.2 with hn | ⟨g, cap, cur, rfl, hb, hg, r⟩
  · exact .inl hn
  · exact .inr ⟨g, cap, cur, rfl, hb, h.keepN hg (he g rfl), r⟩

theorem Kd.ownsIn {D D' : Nat → Prop} {ts : List Nat} {w w' : World} (h : Kd D ts w w') {e : TypeId} {size : Nat} {v : Value} {n : Nat} {xs : List Value} (ho : OwnsIn w D' e size v n xs) (he : e ∉ ts) : OwnsIn w' D' e size v n xs :=
  ⟨h.owns ho.own he, ho.dom⟩

theorem OwnsIn.alloc {w : World} {D : Nat → Prop} {e : TypeId} {size : Nat} {v : Value} {n : Nat} {xs : List Value} (ho : OwnsIn w D e size v n xs) (o : Obj) : OwnsIn (w.alloc o) D e size v n xs := ⟨ho.own.alloc o, ho.dom⟩

theorem OwnsIn.below {w w' : World} {D : Nat → Prop} {e : TypeId} {size : Nat} {v : Value} {n : Nat} {xs : List Value} (ho : OwnsIn w D e size v n xs) (hb : Below w.heap.size w w') : OwnsIn w' D e size v n xs :=
  (Kd.of_below (D := D) (ts := []) hb).ownsIn ho (by simp)

theorem Kd.setCell {D : Nat → Prop} {ts : List Nat} {a w : World} (h : Kd D ts a w) {k o : Nat} {c : Array Value} {e : TypeId} {f : Nat × Nat} (hB : D k) (hk : w.heap[k]? = some (.cells c e f)) (he : e ∈ ts) (v : Value) : Kd D ts a (w.setCell ⟨k, o, none⟩ v) :=
  h.trans ⟨rfl, rfl, rfl, by simp [World.setCell], fun i hi hor => by
    refine Below.heap_setCell _ _ _ _ (fun hik => ?_)
    have hik' : i = k := hik
    subst hik'
    rcases hor with h1 | h1
    · exact h1 hB
    · exact h1 _ _ _ hk he⟩

/-- Behind a law that ends in 'grownBy'. -/
theorem Kd.grown {D : Nat → Prop} {ts : List Nat} {a w w' : World} (h : Kd D ts a w) {e : TypeId} {size : Nat} {v : Value} {n : Nat} {xs : List Value} (ho : OwnsIn w D e size v n xs) (hg : w.grownBy w' v.ownBlock) (he : e ∈ ts) : Kd D ts a w' :=
  h.trans ⟨hg.os, hg.tape, hg.output, hg.size, fun i hi hor => by
    refine hg.block i hi (fun hik => ?_)
    have hd := ho.dom i hik.symm
    rcases ho.own.2 with ⟨rfl, _⟩ | ⟨g, cap, cur, rfl, hb, hgg, _⟩
    · simp [Value.ownBlock] at hik
    · simp only [Value.ownBlock, Option.some.injEq] at hik
      subst hik
      rcases hor with h1 | h1
      · exact h1 hd
      · exact h1 _ _ _ hgg he⟩

/-- What append left lies in D. -/
theorem OwnsIn.lies {w w' : World} {D : Nat → Prop} {e : TypeId} {size : Nat} {v : Value} {n : Nat} {xs : List Value} (ho : OwnsIn w D e size v n xs) (hD : Opn D w) {g cap m : Nat} {ys : List Value}
    (h : w'.ownsRow 0 e size (.slice (some ⟨g, 0, none⟩) m cap) m ys) (hat : v.ownBlock = some g ∨ g = w.heap.size) : OwnsIn w' D e size (.slice (some ⟨g, 0, none⟩) m cap) m ys :=
  ⟨h, fun g' hg' => by
    simp only [Value.ownBlock, Option.some.injEq] at hg'
    subst hg'
    rcases hat with h1 | h1
    · exact ho.dom _ h1
    · exact hD _ (by omega)⟩

/-- The same, the row's place said otherwise. -/
theorem OwnsIn.put {w0 w w' : World} {D : Nat → Prop} {e : TypeId} {size : Nat} {v : Value} {n : Nat} {xs : List Value} (ho : OwnsIn w0 D e size v n xs) (hD : Opn D w) {g cap m : Nat} {ys : List Value}
    (h : w'.ownsRow 0 e size (.slice (some ⟨g, 0, none⟩) m cap) m ys) (hat : v.ownBlock = some g ∨ w.heap.size ≤ g) : OwnsIn w' D e size (.slice (some ⟨g, 0, none⟩) m cap) m ys :=
  ⟨h, fun g' hg' => by
    simp only [Value.ownBlock, Option.some.injEq] at hg'
    subst hg'
    rcases hat with h1 | h1
    · exact ho.dom _ h1
    · exact hD _ h1⟩

/-- A new row. -/
theorem OwnsIn.fresh {w w' : World} {D : Nat → Prop} {base : Nat} {e : TypeId} {size : Nat} {v : Value} {n : Nat} {xs : List Value} (h : w'.ownsRow base e size v n xs) (hD : Opn D w) (hb : w.heap.size ≤ base) : OwnsIn w' D e size v n xs :=
  ⟨owns_base h (Nat.zero_le _), fun g hg => hD g (by have := (h.lt g hg).1; omega)⟩

theorem Kd.field {D : Nat → Prop} {w : World} {sb : Nat} {a : Array Value} {t : TypeId} (hB : D sb) (h : w.heap[sb]? = some (.cells a t (0, 0))) (i : Nat) (v : Value) : Kd D [t] w (w.setCell ⟨sb, i, none⟩ v) :=
  (Kd.refl D [t] w).setCell hB h (by simp) v

end Go.Proofs.YtakipjofboipmaaGreat
