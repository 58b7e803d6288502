/- The kit of this proof: a row of bytes that may bear a mark behind its last cell (what '[]byte(s)' makes), and append onto it. -/
import Derived.Test.YtakipjofboipmaaGreatJ2
import Derived.Laws.IdiomCopy
import Derived.Laws.IdiomStrings
import Derived.Deep.AppendLies
import Derived.Deep.RegionLaw
import Derived.Laws.CopyRow
import Derived.Lib.BufferWrite
import Derived.Lib.UnsafeStr
import Derived.StillTail
import Derived.Lib.QuietBelow
namespace Go.Proofs.YtakipjofboipmaaGreat
open Go.RowKit

/-- A row of bytes; none of its cells is frozen. -/
def BRow (w : World) (v : Value) (l : List UInt8) : Prop :=
  (v = .slice none 0 0 ∧ l = []) ∨
  ∃ g cap cur fz, v = .slice (some ⟨g, 0, none⟩) l.length cap ∧ w.heap[g]? = some (.cells cur 5 fz) ∧ (fz = (0, 0) ∨ cap ≤ fz.1) ∧ l.length ≤ cap ∧ cap ≤ maxLen ∧ cur.size = cap ∧ cur.toList.take l.length = bcells l

/-- One that lies in D. -/
def OwnsJ (w : World) (D : Nat → Prop) (v : Value) (l : List UInt8) : Prop := BRow w v l ∧ ∀ g, v.ownBlock = some g → D g

theorem BRow.form {w : World} {v : Value} {l : List UInt8} (h : BRow w v l) : ∃ ao cap, v = .slice ao l.length cap := by
  rcases h with ⟨rfl, rfl⟩ | ⟨g, cap, cur, fz, rfl, _⟩
  · exact ⟨_, _, rfl⟩
  · exact ⟨_, _, rfl⟩

theorem BRow.lt {w : World} {v : Value} {l : List UInt8} (h : BRow w v l) {g : Nat} (hg : v.ownBlock = some g) : g < w.heap.size := by
  rcases h with ⟨rfl, _⟩ | ⟨g', cap, cur, fz, rfl, hb, _⟩
  · simp [Value.ownBlock] at hg
  · simp [Value.ownBlock] at hg
    subst hg
    exact lt_of_block hb

theorem BRow.of {w : World} {base : Nat} {v : Value} {l : List UInt8} (h : w.ownsRow base 5 1 v l.length (bcells l)) : BRow w v l := by
  rcases h.2 with ⟨rfl, h0⟩ | ⟨g, cap, cur, rfl, _, hg, h1, h2, h3, h4⟩
  · exact .inl ⟨rfl, List.length_eq_zero_iff.1 h0⟩
  · exact .inr ⟨g, cap, cur, (0, 0), rfl, hg, .inl rfl, h1, h2, by simpa using h3, by simpa using h4⟩

theorem BRow.keep {w w' : World} {v : Value} {l : List UInt8} (h : BRow w v l) (hk : ∀ g, v.ownBlock = some g → ∀ o, w.heap[g]? = some o → w'.heap[g]? = some o) : BRow w' v l := by
  rcases h with h | ⟨g, cap, cur, fz, rfl, hb, r⟩
  · exact .inl h
  · exact .inr ⟨g, cap, cur, fz, rfl, hk g rfl _ hb, r⟩

theorem BRow.kept {w w' : World} {N : Nat} {ts : List Nat} {v : Value} {l : List UInt8} (h : BRow w v l) (k : Kp N ts w w') (ht : 5 ∉ ts) : BRow w' v l := by
  rcases h with h | ⟨g, cap, cur, fz, rfl, hb, r⟩
  · exact .inl h
  · exact .inr ⟨g, cap, cur, fz, rfl, k.keep hb ht, r⟩

theorem OwnsJ.form {w : World} {D : Nat → Prop} {v : Value} {l : List UInt8} (h : OwnsJ w D v l) : ∃ ao cap, v = .slice ao l.length cap := h.1.form

theorem OwnsJ.nil (w : World) (D : Nat → Prop) : OwnsJ w D (.slice none 0 0) [] := ⟨.inl ⟨rfl, rfl⟩, fun g e => by simp [Value.ownBlock] at e⟩

theorem Kd.ownsJ {D D' : Nat → Prop} {ts : List Nat} {w w' : World} {v : Value} {l : List UInt8} (k : Kd D' ts w w') (h : OwnsJ w D v l) (ht : 5 ∉ ts) : OwnsJ w' D v l := by
  refine ⟨?_, h.2⟩
  rcases h.1 with h | ⟨g, cap, cur, fz, rfl, hb, r⟩
  · exact .inl h
  · exact .inr ⟨g, cap, cur, fz, rfl, k.keep hb ht, r⟩

theorem Kd.ownsJN {D D' : Nat → Prop} {ts : List Nat} {w w' : World} {v : Value} {l : List UInt8} (k : Kd D' ts w w') (h : OwnsJ w D v l) (hd : ∀ b, D b → b < w.heap.size → ¬ D' b) : OwnsJ w' D v l := by
  refine ⟨?_, h.2⟩
  rcases h.1 with h1 | ⟨g, cap, cur, fz, rfl, hb, r⟩
  · exact .inl h1
  · exact .inr ⟨g, cap, cur, fz, rfl, k.keepN hb (hd g (h.2 g rfl) (lt_of_block hb)), r⟩

theorem OwnsJ.less {w : World} {D : Nat → Prop} {v : Value} {l : List UInt8} {g : Nat} {c : Array Value} {e : TypeId} {f : Nat × Nat} (h : OwnsJ w D v l) (hg : w.heap[g]? = some (.cells c e f)) (he : e ≠ 5) : OwnsJ w (fun k => D k ∧ k ≠ g) v l := by
  refine ⟨h.1, fun g' hg' => ⟨h.2 g' hg', ?_⟩⟩
  rintro rfl
  rcases h.1 with ⟨rfl, _⟩ | ⟨g2, cap, cur, fz, rfl, hb, _⟩
  · simp [Value.ownBlock] at hg'
  · simp [Value.ownBlock] at hg'
    subst hg'
    rw [hg] at hb
    simp only [Option.some.injEq, Obj.cells.injEq] at hb
    exact he hb.2.1

/-- The cells of a row of bytes. -/
theorem BRow.cells {w : World} {l : List UInt8} {g n cap : Nat} (h : BRow w (.slice (some ⟨g, 0, none⟩) n cap) l) : ∀ j u, (bcells l)[j]? = some u → w.cell? ((⟨g, 0, none⟩ : Addr).add j) = some u := by
  intro j u hj
  rcases h with ⟨h, _⟩ | ⟨g', cap', cur, fz, hv, hb, _, hl, _, hs, ht⟩
  · cases h
  · simp only [Value.slice.injEq, Option.some.injEq, Addr.mk.injEq, and_true] at hv
    obtain ⟨rfl, _, rfl⟩ := hv
    have hadd : (⟨g, 0, none⟩ : Addr).add j = ⟨g, j, none⟩ := by unfold Addr.add; split <;> simp_all
    rw [hadd, cell_of_row w g j cur 5 fz hb]
    rw [← ht, List.getElem?_take] at hj
    split at hj
    · simpa using hj
    · cases hj

theorem setCells_heap (g : Nat) (t : TypeId) (fz : Nat × Nat) : ∀ (vs : List Value) (o : Nat) (w : World) (cur : Array Value), w.heap[g]? = some (.cells cur t fz) → o + vs.length ≤ cur.size →
    (w.setCells g o vs).heap[g]? = some (.cells (cur.toList.take o ++ vs ++ cur.toList.drop (o + vs.length)).toArray t fz) ∧ (∀ k, k ≠ g → (w.setCells g o vs).heap[k]? = w.heap[k]?) ∧ (w.setCells g o vs).os = w.os ∧ (w.setCells g o vs).tape = w.tape ∧ (w.setCells g o vs).output = w.output ∧ (w.setCells g o vs).heap.size = w.heap.size
  | [], o, w, cur, hg, _ => by
    refine ⟨?_, fun _ _ => rfl, rfl, rfl, rfl, rfl⟩
    show w.heap[g]? = _
    rw [hg]
    simp
  | v :: r, o, w, cur, hg, hl => by
    simp only [List.length_cons] at hl
    have hg' : (w.setCell ⟨g, o, none⟩ v).heap[g]? = some (.cells (cur.setIfInBounds o v) t fz) := by rw [setCell_eq_setRow w g o cur t fz v hg]; exact setRow_heap w g cur _ t fz hg
    obtain ⟨h1, h2, h3, h4, h5, h6⟩ := setCells_heap g t fz r (o + 1) (w.setCell ⟨g, o, none⟩ v) (cur.setIfInBounds o v) hg' (by simp; omega)
    refine ⟨?_, fun k hk => ?_, h3, h4, h5, ?_⟩
    · rw [World.setCells, h1]
      have e := list_seg_step cur.toList o v r (by simp; omega)
      simp only [Array.toList_setIfInBounds, List.length_cons] at e ⊢
      rw [e]
    · rw [World.setCells, h2 k hk]
      exact Below.heap_setCell _ _ _ _ hk
    · rw [World.setCells, h6]
      simp [World.setCell]

theorem bc_one (l : List UInt8) : ∀ u ∈ bcells l, u.oneCell' = true := fun u hu => by obtain ⟨x, _, rfl⟩ := List.mem_map.1 hu; rfl

/-- append onto such a row. -/
theorem run_append_mark (P : Program) (w : World) (t ty : TypeId) (i : TypeInfo) (ht : P.underlying t = some (.slice 5)) (hi : P.info? 5 = some i) (hz : i.zero = some (.int .u8 0)) (h1 : i.size = 1) (h2 : i.bytes = 1)
    (v : Value) (l r : List UInt8) (h : BRow w v l) (ad : Addr) (c : Nat) (hr : ∀ j u, (bcells r)[j]? = some u → w.cell? (ad.add j) = some u) (hm : 0 < r.length) (hb : l.length + r.length ≤ 140737488355328) :
    ∃ g cap w', (Builtin.append_ #[t, t] ty #[v, .slice (some ad) r.length c]).run P w = .ok (.slice (some ⟨g, 0, none⟩) (l.length + r.length) cap) w' ∧ BRow w' (.slice (some ⟨g, 0, none⟩) (l.length + r.length) cap) (l ++ r) ∧ w.grownBy w' v.ownBlock ∧ (v.ownBlock = some g ∨ w.heap.size ≤ g) := by
  have hlr : (bcells r).length = r.length := bcells_len r
  have old : ∀ hown : w.ownsRow 0 5 1 v l.length (bcells l), ∃ g cap w', (Builtin.append_ #[t, t] ty #[v, .slice (some ad) r.length c]).run P w = .ok (.slice (some ⟨g, 0, none⟩) (l.length + r.length) cap) w' ∧ BRow w' (.slice (some ⟨g, 0, none⟩) (l.length + r.length) cap) (l ++ r) ∧ w.grownBy w' v.ownBlock ∧ (v.ownBlock = some g ∨ w.heap.size ≤ g) := fun hown => by
    obtain ⟨g, cap, w', a1, a2, a3, a4, _⟩ := run_append_lies (P := P) w t ty 0 5 i (.int .u8 0) 1 1 ht hi hz h1 h2 rfl (by decide) v l.length (bcells l) hown ad r.length c (bcells r) (by rw [hlr, Nat.mul_one]) hr (bc_one r) hm (by unfold maxLen; omega) (by omega) (Nat.zero_le _) w.heap.size rfl
    refine ⟨g, cap, w', a1, ?_, a3, a4.imp id fun e => by omega⟩
    rw [← bcells_append, ← List.length_append] at a2
    rw [← List.length_append]
    exact BRow.of a2
  rcases h with ⟨rfl, rfl⟩ | ⟨g, cap, cur, fz, rfl, hg, hfz, hl, hcm, hcs, htk⟩
  · exact old (World.ownsRow_nil _ _ _ _)
  · rcases hfz with rfl | hfz
    · exact old ⟨by rw [bcells_len, Nat.mul_one], .inr ⟨g, cap, cur, rfl, Nat.zero_le _, hg, hl, hcm, by rw [hcs, Nat.mul_one], by rw [Nat.mul_one]; exact htk⟩⟩
    · by_cases hroom : l.length + r.length ≤ cap
      · have hf := run_firstCells_some (P := P) w 1 r.length ad r.length c (bcells r) (by rw [hlr, Nat.mul_one]) hr
        have hst := run_storeCells_cells (P := P) g l.length (bcells r) 0 w (fun j hj => by
            rw [cell_of_row w g _ cur 5 fz hg]
            rw [hlr] at hj
            simp; omega) (fun j hj => by
            rw [hlr] at hj
            obtain ⟨lo, hi'⟩ := fz
            simp only [World.frozen?, hg, Bool.and_eq_false_iff, decide_eq_false_iff_not]
            left
            simp only at hfz
            omega) (bc_one r)
        simp only [Nat.add_zero] at hst
        obtain ⟨e1, e2, e3, e4, e5, e6⟩ := setCells_heap g 5 fz (bcells r) l.length w cur hg (by rw [hlr]; omega)
        refine ⟨g, cap, _, ?_, .inr ⟨g, cap, _, fz, by rw [List.length_append], e1, .inr hfz, by rw [List.length_append]; exact hroom, hcm, ?_, ?_⟩, ⟨e3, e4, e5, by rw [e6]; exact Nat.le_refl _, fun k _ hk => e2 k (fun e => hk (by simp [Value.ownBlock, e]))⟩, .inl rfl⟩
        · simp [Builtin.append_, run_underlying ht, sizeOf, typeInfo, hi, h1, Builtin.lenOf, hroom, hf, Addr.add_lit, hst]
        · simp only [List.size_toArray, List.length_append, List.length_take, List.length_drop, Array.length_toList, hlr]
          omega
        · rw [htk, List.length_append, bcells_append]
          have e : l.length + r.length = (bcells l ++ bcells r).length := by rw [List.length_append, bcells_len, bcells_len]
          rw [e]
          exact List.take_left
      · have holds : ∀ j u, (bcells l)[j]? = some u → w.cell? ((⟨g, 0, none⟩ : Addr).add j) = some u := BRow.cells (l := l) (n := l.length) (cap := cap) (.inr ⟨g, cap, cur, fz, rfl, hg, .inr hfz, hl, hcm, hcs, htk⟩)
        have hr' := run_append_grow (P := P) w t ty 5 i (.int .u8 0) ht hi hz ⟨g, 0, none⟩ l.length cap (bcells l) (by rw [bcells_len, h1, Nat.mul_one]) holds ad r.length c (bcells r) (by rw [hlr, h1, Nat.mul_one]) hr (by omega) (by omega) (by rw [h2]; exact growslice_fits (by omega) (by omega))
        have hge := grownCap_ge w (l.length + r.length) cap 5
        have hcm2 : grownCap w (l.length + r.length) cap 5 ≤ maxLen := grownCap_le_maxLen w (l.length + r.length) cap 5 (by unfold maxLen; omega)
        refine ⟨w.heap.size, _, _, hr', .inr ⟨w.heap.size, _, _, (0, 0), by rw [List.length_append], heap_alloc_new w.drew _, .inl rfl, by rw [List.length_append]; exact hge, hcm2, ?_, ?_⟩, ⟨rfl, rfl, rfl, by simp, fun k hk _ => (Below.heap_alloc w.drew _ k hk)⟩, .inr (Nat.le_refl _)⟩
        · have hz1 : (Value.int IntKind.u8 0).cells.size = 1 := rfl
          simp only [Array.size_append, List.size_toArray, size_zeroCells, hz1, bcells_len]
          omega
        · simp only [Array.toList_append, List.append_assoc]
          rw [← List.append_assoc, bcells_append]
          have e : (l ++ r).length = (bcells l ++ bcells r).length := by rw [List.length_append, List.length_append, bcells_len, bcells_len]
          rw [e]
          exact List.take_left

theorem wpList_appB {P : Program} (w : World) {ops : Array Oper} {rest : List Oper} {o : Oper} {a : Act} {Q : Exit → Act → World → Prop} (hgd : o.guard = none) (d s : Operand) (t t' : TypeId)
    (ho : o.op = .call { callee := .builtin .append, args := #[d, s], argTypes := #[t, t'] }) (v u : Value) (hd : a.eval d = v) (hs : a.eval s = u) {v' : Value} {w' : World}
    (hr : (Builtin.append_ #[t, t'] o.type #[v, u]).run P w = .ok v' w') (h : wpList P ops Q rest (a.put o.dst v') w') : wpList P ops Q (o :: rest) a w :=
  wpList_plain hgd fun _ hK => by
    unfold Oper.wp execOp
    simp only [ho, resolve, invoke, builtin, Sem.run_bind, Sem.run_pure, Result.andThen_ok, List.map_toArray, List.map_cons, List.map_nil, hd, hs, hr]
    exact hK _ _ h

/-- What append left lies in D. -/
theorem OwnsJ.lies {w w' : World} {D : Nat → Prop} {v : Value} {l l' : List UInt8} (h : OwnsJ w D v l) (hD : Opn D w) {g cap n : Nat} (hb : BRow w' (.slice (some ⟨g, 0, none⟩) n cap) l') (hat : v.ownBlock = some g ∨ w.heap.size ≤ g) : OwnsJ w' D (.slice (some ⟨g, 0, none⟩) n cap) l' :=
  ⟨hb, fun g' hg' => by
    simp only [Value.ownBlock, Option.some.injEq] at hg'
    subst hg'
    rcases hat with h1 | h1
    · exact h.2 _ h1
    · exact hD _ h1⟩

/-- Behind such an append. -/
theorem Kd.grownJ {D : Nat → Prop} {w w' : World} {v : Value} {l : List UInt8} (h : OwnsJ w D v l) (hg : w.grownBy w' v.ownBlock) : Kd D [5] w w' :=
  ⟨hg.os, hg.tape, hg.output, hg.size, fun i hi hor => by
    refine hg.block i hi (fun hik => ?_)
    have hd := h.2 i hik.symm
    rcases h.1 with ⟨rfl, _⟩ | ⟨g, cap, cur, fz, rfl, hgg, _⟩
    · simp [Value.ownBlock] at hik
    · simp only [Value.ownBlock, Option.some.injEq] at hik
      subst hik
      rcases hor with h1 | h1
      · exact h1 hd
      · exact h1 _ _ _ hgg (by simp)⟩
end Go.Proofs.YtakipjofboipmaaGreat

/- The walks of this proof: a store in memory; Get and Scan. -/
namespace Go.Proofs.YtakipjofboipmaaGreat
open Go.RowKit Go.Sort

/-- What a store holds: all entries that batches ever made (they need not lie there any more); the batches, as they count, since the last one that was laid down, and how many of them are synced; the entries of the table in memory; the tables that were laid down; the last batch that was; snapshots; the last snapshot's number; the last batch's. -/
structure St where
  E : List En
  B : List (List Pr)
  sy : Nat
  M : List En
  T : List Lb
  la : Int
  S : List Sn
  lastSnap : Int
  last : Int

/-- The journal's bytes. -/
def St.J (x : St) : List UInt8 := x.B.flatMap recB

/-- Tables as cells: entries, level. -/
def lcells (T : List Lb) (Vs : List Value) : List Value := (T.zip Vs).flatMap fun x => [x.2, .int .i64 x.1.1]

/-- The row of tables lies in D, their entries in F. -/
def TabsIn (w : World) (D F : Nat → Prop) (vL : Value) (T : List Lb) : Prop :=
  ∃ Vs : List Value, Vs.length = T.length ∧ OwnsIn w D 169 2 vL T.length (lcells T Vs) ∧ ∀ (k : Nat) t v, T[k]? = some t → Vs[k]? = some v → OwnsIn w F 58 4 v t.2.length (ecells t.2)

/-- A store that lies in block sb, its rows in D, its tables' entries in F. -/
def StoreAt (D F : Nat → Prop) (sb : Nat) (x : St) (w : World) : Prop :=
  ∃ (vE vL vR vS : Value), D sb ∧ w.heap[sb]? = some (.cells #[vE, vL, vR, .int .i64 (rl (x.B.take x.sy)), .int .i64 x.la, vS, .int .i64 x.lastSnap, .int .i64 x.last] 118 (0, 0)) ∧
    OwnsIn w D 58 4 vE x.M.length (ecells x.M) ∧ TabsIn w D F vL x.T ∧ OwnsJ w D vR x.J ∧ OwnsIn w D 174 2 vS x.S.length (scells x.S)

/-- What is true of a store's levels. -/
structure Lv (x : St) : Prop where
  msorted : Sorted x.M
  mem : ∀ e, e ∈ x.M ↔ e ∈ x.E ∧ x.la < e.s
  tsub : ∀ t ∈ x.T, ∀ e ∈ t.2, e ∈ x.E ∧ e.s ≤ x.la
  tsorted : ∀ t ∈ x.T, Sorted t.2
  tne : ∀ t ∈ x.T, t.2 ≠ []
  lay : LayX (x.T.map (·.2))
  lev : x.T.Pairwise fun a b => a.1 < b.1 ∨ (a.1 = 0 ∧ b.1 = 0)
  lev2 : ∀ t ∈ x.T, 0 ≤ t.1 ∧ t.1 ≤ 2
  view : ∀ q, (x.la ≤ q ∨ ∃ s ∈ x.S, s.q = q) → ∀ k, skO (fndL (x.T.map (·.2)) k q) = skO (fnd (x.E.filter fun e => decide (e.s ≤ x.la)) k q)
  tfew : x.T.length < 1000000000
  la0 : 0 ≤ x.la
  la1 : x.last = x.la + x.B.length
  bok : ∀ b ∈ x.B, Bt b
  bsy : x.sy ≤ x.B.length
  bent : ∀ e, (e ∈ x.E ∧ x.la < e.s) ↔ ∃ (i : Nat) (b : List Pr) (p : Pr), x.B[i]? = some b ∧ p ∈ b ∧ e = toEn (x.la + 1 + i) p

theorem Lv.la2 {x : St} (h : Lv x) : x.la ≤ x.last := by have := h.la1; omega

theorem flat_le {B : List (List Pr)} (h : ∀ b ∈ B, Bt b) : rl B ≤ B.length * 73 := by
  have := flat_bounds recB 8 73 B fun b hb => recB_len (h b hb)
  unfold rl
  omega

theorem Lv.jl {x : St} (h : Lv x) (hl : x.last < 1000000000) : x.J.length + 1000 ≤ 140737488355328 := by
  have := flat_le h.bok
  have h1 := h.la1
  have h0 := h.la0
  have : x.B.length < 1000000000 := by omega
  show rl x.B + 1000 ≤ _
  omega

/-- What is true of every store. -/
structure StOk (x : St) : Prop where
  slast : ∀ e ∈ x.E, e.s ≤ x.last
  sorted : Sorted x.E
  few : x.E.length < 1000000000
  seqs : ∀ e ∈ x.E, e.s ≤ 9223372036854775807
  keys : ∀ e ∈ x.E, e.k.size ≤ 1000
  snaps : x.S.length ≤ 4
  lv : Lv x

theorem sorted_nodup {E : List En} (h : Sorted E) : E.Nodup := by
  refine List.Pairwise.imp ?_ h
  intro a b hab he
  subst he
  unfold elt at hab
  rw [oc_lt, kc_self] at hab
  rcases hab with h | h <;> omega

open Classical in
theorem sub_len {A E : List En} (hA : Sorted A) (hE : Sorted E) (hs : ∀ e ∈ A, e ∈ E) : A.length ≤ E.length := by
  have h : A.Perm (E.filter fun e => decide (e ∈ A)) := by
    rw [List.perm_ext_iff_of_nodup (sorted_nodup hA) ((sorted_nodup hE).sublist List.filter_sublist)]
    intro e
    simp only [List.mem_filter, decide_eq_true_eq]
    exact ⟨fun h => ⟨hs e h, h⟩, fun h => h.2⟩
  rw [h.length_eq]
  exact List.length_filter_le _ _

theorem TabsIn.kd {D' : Nat → Prop} {w w' : World} {D F : Nat → Prop} {vL : Value} {T : List Lb} {ts : List Nat} (h : TabsIn w D F vL T) (k : Kd D' ts w w') (h1 : 169 ∉ ts) (h2 : 58 ∉ ts) : TabsIn w' D F vL T := by
  obtain ⟨Vs, hl, ho, hr⟩ := h
  exact ⟨Vs, hl, k.ownsIn ho h1, fun i t v ht hv => k.ownsIn (hr i t v ht hv) h2⟩

/-- Entries that nobody writes any more. -/
theorem TabsIn.kept {D' : Nat → Prop} {w w' : World} {D F : Nat → Prop} {vL : Value} {T : List Lb} {ts : List Nat} (h : TabsIn w D F vL T) (k : Kd D' ts w w') (h1 : 169 ∉ ts) (hF : ∀ b, b < w.heap.size → F b → ¬ D' b) : TabsIn w' D F vL T := by
  obtain ⟨Vs, hl, ho, hr⟩ := h
  refine ⟨Vs, hl, k.ownsIn ho h1, fun i t v ht hv => ?_⟩
  have := hr i t v ht hv
  exact ⟨k.ownsN this.own fun g hg => hF g (this.own.lt g hg).2 (this.dom g hg), this.dom⟩

theorem lcells_get {T : List Lb} {Vs : List Value} {k : Nat} {t : Lb} {v : Value} (ht : T[k]? = some t) (hv : Vs[k]? = some v) : (lcells T Vs)[k * 2]? = some v ∧ (lcells T Vs)[k * 2 + 1]? = some (.int .i64 t.1) := by
  have hz : (T.zip Vs)[k]? = some (t, v) := by rw [List.getElem?_zip_eq_some]; exact ⟨ht, hv⟩
  exact ⟨flat_get _ 2 (fun _ => rfl) _ k (t, v) 0 hz (by omega), flat_get _ 2 (fun _ => rfl) _ k (t, v) 1 hz (by omega)⟩

theorem lcells_len {T : List Lb} {Vs : List Value} (h : Vs.length = T.length) : (lcells T Vs).length = T.length * 2 := by
  unfold lcells
  rw [flat_len _ 2 (fun _ => rfl), List.length_zip]
  rw [h, Nat.min_self]

theorem TabsIn.row {w : World} {D F : Nat → Prop} {vL : Value} {T : List Lb} (h : TabsIn w D F vL T) : LdRow w vL T := by
  obtain ⟨Vs, hl, ho, hr⟩ := h
  obtain ⟨ao, cap, rfl⟩ := slice_form ho.own
  refine ⟨ao, cap, rfl, fun hpos => ?_⟩
  rcases ho.own.2 with ⟨h0, _⟩ | ⟨g, cap', cur, hv, hb, hg, hnc, _⟩
  · simp only [Value.slice.injEq] at h0; omega
  · simp only [Value.slice.injEq] at hv
    obtain ⟨rfl, _, rfl⟩ := hv
    refine ⟨g, rfl, hnc, fun k t ht => ?_⟩
    have hk : k < T.length := (List.getElem?_eq_some_iff.1 ht).1
    obtain ⟨v, hv⟩ : ∃ v, Vs[k]? = some v := ⟨_, List.getElem?_eq_getElem (by omega)⟩
    obtain ⟨g1, g2⟩ := lcells_get ht hv
    have hlen := lcells_len hl
    refine ⟨v, ?_, enrow_of_owns (hr k t v ht hv).own, ?_⟩
    · rw [ho.own.cellAt _ (by omega)]; exact g1
    · rw [ho.own.cellAt _ (by omega)]; exact g2

theorem Lv.ok {x : St} (h : Lv x) (hs : Sorted x.E) (hf : x.E.length < 1000000000) : LvOk x.M x.T where
  few := Nat.lt_of_le_of_lt (sub_len h.msorted hs fun e he => ((h.mem e).1 he).1) hf
  sorted := h.msorted
  tfew := h.tfew
  tabs t ht := ⟨Nat.lt_of_le_of_lt (sub_len (h.tsorted t ht) hs fun e he => (h.tsub t ht e he).1) hf, h.tsorted t ht⟩

theorem Lv.layX {x : St} (h : Lv x) : LayX (runs x.M x.T) := by
  unfold runs LayX
  refine List.pairwise_cons.2 ⟨fun b hb e he e' he' _ => ?_, h.lay⟩
  obtain ⟨t, ht, rfl⟩ := List.mem_map.1 hb
  have h1 := ((h.mem e).1 he).2
  have h2 := (h.tsub t ht e' he').2
  omega

open Classical in
/-- The entries that lie there, in one order. -/
noncomputable def there (x : St) : List En := x.E.filter fun e => decide (∃ a ∈ runs x.M x.T, e ∈ a)

theorem there_sub (x : St) : (there x).Sublist x.E := List.filter_sublist

theorem StOk.gh {x : St} (h : StOk x) : Gh (there x) x.M x.T := by
  have hs : Sorted (there x) := h.sorted.sublist (there_sub x)
  have hm : ∀ e, e ∈ there x ↔ ∃ a ∈ runs x.M x.T, e ∈ a := fun e => by
    unfold there
    simp only [List.mem_filter, decide_eq_true_eq]
    constructor
    · exact fun g => g.2
    · rintro ⟨a, ha, he⟩
      refine ⟨?_, a, ha, he⟩
      unfold runs at ha
      rcases List.mem_cons.1 ha with rfl | ha
      · exact ((h.lv.mem e).1 he).1
      · obtain ⟨t, ht, rfl⟩ := List.mem_map.1 ha
        exact (h.lv.tsub t ht e he).1
  refine ⟨hs, hm, fun k q => fnd_layers hs hm h.lv.layX (fun a ha => ?_) k q, Nat.lt_of_le_of_lt (there_sub x).length_le h.few, fun e he => h.seqs e ((there_sub x).subset he), fun e he => h.keys e ((there_sub x).subset he)⟩
  unfold runs at ha
  rcases List.mem_cons.1 ha with rfl | ha
  · exact h.lv.msorted
  · obtain ⟨t, ht, rfl⟩ := List.mem_map.1 ha
    exact h.lv.tsorted t ht

/-- What is seen of all entries is what is seen of those that lie there. -/
theorem StOk.sees {x : St} (h : StOk x) {q : Int} (hq : x.la ≤ q ∨ ∃ s ∈ x.S, s.q = q) (k : ByteArray) : skO (fndL (runs x.M x.T) k q) = sk x.E k q := by
  have h1 : fnd x.E k q = fndL [x.M, x.E.filter fun e => decide (e.s ≤ x.la)] k q := by
    refine fnd_layers h.sorted (fun e => ?_) ?_ ?_ k q
    · simp only [List.mem_cons, List.not_mem_nil, or_false, exists_eq_or_imp, exists_eq_left, List.mem_filter, decide_eq_true_eq, h.lv.mem]
      constructor
      · intro he
        by_cases hl : x.la < e.s
        · exact .inl ⟨he, hl⟩
        · exact .inr ⟨he, by omega⟩
      · rintro (g | g) <;> exact g.1
    · refine List.pairwise_cons.2 ⟨fun b hb e he e' he' _ => ?_, List.pairwise_singleton _ _⟩
      rw [List.mem_singleton] at hb
      subst hb
      have h1 := ((h.lv.mem e).1 he).2
      have h2 := (List.mem_filter.1 he').2
      simp only [decide_eq_true_eq] at h2
      omega
    · intro a ha
      rcases List.mem_cons.1 ha with rfl | ha
      · exact h.lv.msorted
      · rw [List.mem_singleton] at ha
        subst ha
        exact h.sorted.sublist List.filter_sublist
  rw [sk_eq, h1]
  unfold runs
  rw [fndL_cons, fndL_cons, fndL_one]
  cases fnd x.M k q with
  | some e => rfl
  | none => exact h.lv.view q hq k

theorem StoreAt.below {D F : Nat → Prop} {sb : Nat} {x : St} {w w' : World} (h : StoreAt D F sb x w) (hb : Below w.heap.size w w') : StoreAt D F sb x w' := by
  obtain ⟨vE, vL, vR, vS, hB, hs, hE, hT, hR, hS⟩ := h
  have k := Kd.of_below (D := D) (ts := []) hb
  exact ⟨vE, vL, vR, vS, hB, k.keep hs (by simp), k.ownsIn hE (by simp), hT.kd k (by simp) (by simp), k.ownsJ hR (by simp), k.ownsIn hS (by simp)⟩

/-- A store that a call upon other blocks leaves alone. -/
theorem StoreAt.apart {D F D' : Nat → Prop} {sb : Nat} {ts : List Nat} {x : St} {w w' : World} (h : StoreAt D F sb x w) (k : Kd D' ts w w') (hd : ∀ b, D b → b < w.heap.size → ¬ D' b) (hf : ∀ b, F b → b < w.heap.size → ¬ D' b) : StoreAt D F sb x w' := by
  obtain ⟨vE, vL, vR, vS, hB, hs, hE, ⟨Vs, hv, hT, hr⟩, hR, hS⟩ := h
  have f : ∀ {D0 : Nat → Prop} {e size v n xs}, (∀ b, D0 b → b < w.heap.size → ¬ D' b) → OwnsIn w D0 e size v n xs → OwnsIn w' D0 e size v n xs := fun hd ho => ⟨k.ownsN ho.own fun g hg => hd g (ho.dom g hg) (ho.own.lt g hg).2, ho.dom⟩
  exact ⟨vE, vL, vR, vS, hB, k.keepN hs (hd sb hB (lt_of_block hs)), f hd hE, ⟨Vs, hv, f hd hT, fun i t v ht hv => f hf (hr i t v ht hv)⟩, k.ownsJN hR hd, f hd hS⟩

theorem seqOf_seen {x : St} {n q : Int} (h : seqOf x.S x.last n = some q) (hl : x.la ≤ x.last) : x.la ≤ q ∨ ∃ s ∈ x.S, s.q = q := by
  unfold seqOf at h
  split at h
  · cases h; exact .inl hl
  · unfold snq at h
    obtain ⟨s, hs, rfl⟩ := Option.map_eq_some_iff.1 h
    exact .inr ⟨s, List.mem_of_find?_eq_some hs, rfl⟩

theorem scan_there {x : St} (h : StOk x) {f : ByteArray} {q : Int} {L : List Pr} {cur : Option ByteArray} (hq : x.la ≤ q ∨ ∃ s ∈ x.S, s.q = q) (hi : ScanInv (there x) f q L cur) : ScanInv x.E f q L cur := by
  have gh := h.gh
  have hsk : ∀ k, sk (there x) k q = sk x.E k q := fun k => by rw [← h.sees hq k, sk_eq, gh.fnd]
  have hsub := there_sub x
  refine ⟨hi.ord, fun p hp => ?_, fun e he hf hc y hy => ?_, fun c hc => ?_, ?_⟩
  · obtain ⟨a, b, c⟩ := hi.seen p hp
    exact ⟨a, by rw [← hsk]; exact b, c⟩
  · rw [← hsk] at hy
    have hy' := hy
    rw [sk_eq] at hy
    cases hfn : fnd (there x) e.k q with
    | none => rw [hfn] at hy; simp [skO] at hy
    | some e' =>
      obtain ⟨h1, h2, h3⟩ := fnd_some hfn
      have := hi.all e' h1 (by rw [h2]; exact hf) (fun c hc' => by rw [h2]; exact hc c hc') y (by rw [h2]; exact hy')
      rwa [h2] at this
  · obtain ⟨a, e, he, hk⟩ := hi.here c hc
    exact ⟨a, e, hsub.subset he, hk⟩
  · have h1 := hi.len
    cases cur with
    | none => simp only [cnt] at h1 ⊢; have := hsub.length_le; omega
    | some c =>
      simp only [cnt] at h1 ⊢
      have e1 := List.length_eq_countP_add_countP (fun e : En => decide (0 ≤ kc e.k c)) (l := there x)
      have e2 := List.length_eq_countP_add_countP (fun e : En => decide (0 ≤ kc e.k c)) (l := x.E)
      have e3 := hsub.countP_le (p := fun a : En => decide ¬(decide (0 ≤ kc a.k c) = true))
      omega

set_option maxHeartbeats 400000 in
theorem isKey_any (s : ByteArray) (w : World) (hs : s.size ≤ maxLen) :
    Calls Tryz.prog 64 #[.string s] w fun e w' => e = .returned (.bool (decide (1 ≤ s.size) && decide (s.size ≤ 6))) ∧ w' = w := by
  unfold maxLen at hs
  by_cases h1 : 1 ≤ s.size
  · have e : decide ((s.size : Int) ≤ 6) = (decide (1 ≤ s.size) && decide (s.size ≤ 6)) := by
      simp only [h1, decide_true, Bool.true_and, decide_eq_decide]; omega
    rw [← e]
    clear e
    go_enter Tryz.func64, Tryz.ntmps64
    go_wp2
    go_ret
    exact ⟨rfl, rfl⟩
  · simp only [h1, decide_false, Bool.false_and]
    go_enter Tryz.func64, Tryz.ntmps64
    go_wp2
    go_ret
    exact ⟨rfl, rfl⟩

theorem seenVal_skO (r : Option En) : seenVal r = skVal (skO r) := by
  cases r with
  | none => rfl
  | some e => simp only [seenVal, skO]; cases e.g <;> rfl

/-- What Get answers. -/
def getVal (x : St) (k : ByteArray) (n : Int) : Value :=
  if 1 ≤ k.size ∧ k.size ≤ 6 then
    match seqOf x.S x.last n with
    | none => .tuple #[.string ⟨#[]⟩, .int .i64 5]
    | some q => match sk x.E k q with
      | some v => .tuple #[.string v, .int .i64 0]
      | none => .tuple #[.string ⟨#[]⟩, .int .i64 6]
  else .tuple #[.string ⟨#[]⟩, .int .i64 1]

set_option maxHeartbeats 1000000 in
theorem get_any (x : St) (D F : Nat → Prop) (sb : Nat) (k : ByteArray) (n : Int) (w : World) (hx : StoreAt D F sb x w) (ok : StOk x) (hk : k.size ≤ maxLen) :
    Calls Tryz.prog 27 #[.pointer (some ⟨sb, 0, none⟩), .string k, .int .i64 n] w fun e w' => e = .returned (getVal x k n) ∧ Below w.heap.size w w' := by
  have hkey := isKey_any k w hk
  unfold getVal
  by_cases hkk : 1 ≤ k.size ∧ k.size ≤ 6
  · rw [if_pos hkk]
    simp only [hkk.1, hkk.2, decide_true, Bool.and_self] at hkey
    have HK : Hid _ := hkey
    clear hkey hk
    obtain ⟨vE, vL, vR, vS, hB, hs, hE, hT, hR, hS⟩ := id hx
    have c0 : w.cell? ⟨sb, 0, none⟩ = some vE := by simp [World.cell?, hs]
    have c1 : w.cell? ⟨sb, 1, none⟩ = some vL := by simp [World.cell?, hs]
    have c3 : w.cell? ⟨sb, 5, none⟩ = some vS := by simp [World.cell?, hs]
    have c5 : w.cell? ⟨sb, 7, none⟩ = some (.int .i64 x.last) := by simp [World.cell?, hs]
    have hq := seqAt_any x.S vS 0 sb n x.last w ok.snaps c3 c5 hS.own
    generalize hsq : seqOf x.S x.last n = r at hq
    have HQ : Hid _ := hq
    cases r with
    | none =>
      clear hx hs hE hT hR hS hq c0 c1 c3 c5
      simp only
      go_enter Tryz.func27, Tryz.ntmps27
      go_wp2_with fail
      refine Calls.mono HK.out ?_
      rintro e w0 ⟨rfl, rfl⟩
      go_wp2_with fail
      refine Calls.mono HQ.out ?_
      rintro e w1 ⟨rfl, hb⟩
      have HB : Hid (Below w0.heap.size w0 w1) := hb
      clear hb
      unfold seqVal
      go_wp2
      go_ret2
      exact ⟨rfl, HB.out⟩
    | some q =>
      simp only
      have hsn : ∀ w1, Below w.heap.size w w1 → Calls Tryz.prog 66 #[.pointer (some ⟨sb, 0, none⟩), .string k, .int .i64 q] w1 fun e w' => e = .returned (skVal (sk x.E k q)) ∧ Below w1.heap.size w1 w' := fun w1 hb => by
        rw [← ok.sees (seqOf_seen hsq ok.lv.la2) k, ← seenVal_skO]
        exact seen_any x.M x.T vE vL sb k q w1 (ok.lv.ok ok.sorted ok.few) (cell_later hb c0) ((enrow_of_owns hE.own).below hb) (cell_later hb c1) (hT.row.below hb)
      generalize sk x.E k q = r2 at hsn
      have HSN : Hid _ := hsn
      clear hx hs hE hT hR hS hq hsn c0 c1 c3 c5
      cases r2 with
      | none =>
        go_enter Tryz.func27, Tryz.ntmps27
        go_wp2_with fail
        refine Calls.mono HK.out ?_
        rintro e w0 ⟨rfl, rfl⟩
        go_wp2_with fail
        refine Calls.mono HQ.out ?_
        rintro e w1 ⟨rfl, hb⟩
        have HB : Hid (Below w0.heap.size w0 w1) := hb
        clear hb
        unfold seqVal
        go_wp2_with fail
        refine Calls.mono (HSN.out _ HB.out) ?_
        rintro e w2 ⟨rfl, hb⟩
        have HB2 : Hid (Below w0.heap.size w0 w2) := below_trans' HB.out hb
        clear hb
        unfold skVal
        go_wp2
        go_ret2
        exact ⟨rfl, HB2.out⟩
      | some v =>
        go_enter Tryz.func27, Tryz.ntmps27
        go_wp2_with fail
        refine Calls.mono HK.out ?_
        rintro e w0 ⟨rfl, rfl⟩
        go_wp2_with fail
        refine Calls.mono HQ.out ?_
        rintro e w1 ⟨rfl, hb⟩
        have HB : Hid (Below w0.heap.size w0 w1) := hb
        clear hb
        unfold seqVal
        go_wp2_with fail
        refine Calls.mono (HSN.out _ HB.out) ?_
        rintro e w2 ⟨rfl, hb⟩
        have HB2 : Hid (Below w0.heap.size w0 w2) := below_trans' HB.out hb
        clear hb
        unfold skVal
        go_wp2
        go_ret2
        exact ⟨rfl, HB2.out⟩
  · rw [if_neg hkk]
    have hf : (decide (1 ≤ k.size) && decide (k.size ≤ 6)) = false := by
      rw [Bool.and_eq_false_iff]
      by_cases h1 : 1 ≤ k.size
      · exact .inr (decide_eq_false_iff_not.2 fun h => hkk ⟨h1, h⟩)
      · exact .inl (decide_eq_false_iff_not.2 h1)
    rw [hf] at hkey
    have HK : Hid _ := hkey
    clear hkey hk hx
    go_enter Tryz.func27, Tryz.ntmps27
    go_wp2_with fail
    refine Calls.mono HK.out ?_
    rintro e w0 ⟨rfl, rfl⟩
    go_wp2
    go_ret2
    exact ⟨rfl, Below.refl _ _⟩

/-- What Scan answers. -/
def ScanAns (x : St) (f : ByteArray) (most n : Int) (w : World) (e : Ending) (w' : World) : Prop :=
  match seqOf x.S x.last n with
  | none => e = .returned (.tuple #[.slice none 0 0, .int .i64 5]) ∧ Below w.heap.size w w'
  | some q => if most < 0 then e = .returned (.tuple #[.slice none 0 0, .int .i64 4]) ∧ Below w.heap.size w w' else
      ∃ (vl : Value) (L : List Pr) (cur : Option ByteArray), e = .returned (.tuple #[vl, .int .i64 0]) ∧ w'.ownsRow w.heap.size 48 3 vl L.length (pcells L) ∧ Below w.heap.size w w' ∧ ScanInv x.E f q L cur ∧ (cur = none ∨ most ≤ L.length) ∧ L.length ≤ most

set_option maxHeartbeats 1000000 in
theorem scan_any (x : St) (D F : Nat → Prop) (sb : Nat) (f : ByteArray) (most n : Int) (w : World) (hx : StoreAt D F sb x w) (ok : StOk x) :
    Calls Tryz.prog 46 #[.pointer (some ⟨sb, 0, none⟩), .string f, .int .i64 most, .int .i64 n] w fun e w' => ScanAns x f most n w e w' := by
  obtain ⟨vE, vL, vR, vS, hB, hs, hE, hT, hR, hS⟩ := id hx
  have c0 : w.cell? ⟨sb, 0, none⟩ = some vE := by simp [World.cell?, hs]
  have c1 : w.cell? ⟨sb, 1, none⟩ = some vL := by simp [World.cell?, hs]
  have c3 : w.cell? ⟨sb, 5, none⟩ = some vS := by simp [World.cell?, hs]
  have c5 : w.cell? ⟨sb, 7, none⟩ = some (.int .i64 x.last) := by simp [World.cell?, hs]
  have hq := seqAt_any x.S vS 0 sb n x.last w ok.snaps c3 c5 hS.own
  unfold ScanAns
  generalize hsq : seqOf x.S x.last n = r at hq
  have HQ : Hid _ := hq
  cases r with
  | none =>
    clear hx hs hE hT hR hS hq c0 c1 c3 c5
    simp only
    go_enter Tryz.func46, Tryz.ntmps46
    go_wp2_with fail
    refine Calls.mono HQ.out ?_
    rintro e w1 ⟨rfl, hb⟩
    have HB : Hid (Below w.heap.size w w1) := hb
    clear hb
    unfold seqVal
    go_wp2
    go_ret2
    exact ⟨rfl, HB.out⟩
  | some q =>
    simp only
    by_cases hm : most < 0
    · simp only [hm, if_true]
      clear hx hs hE hT hR hS hq c0 c1 c3 c5
      go_enter Tryz.func46, Tryz.ntmps46
      go_wp2_with fail
      refine Calls.mono HQ.out ?_
      rintro e w1 ⟨rfl, hb⟩
      have HB : Hid (Below w.heap.size w w1) := hb
      clear hb
      unfold seqVal
      go_wp2
      go_ret2
      exact ⟨rfl, HB.out⟩
    · simp only [hm, if_false]
      have HSF : Hid (∀ w1, Below w.heap.size w w1 → Calls Tryz.prog 77 #[.pointer (some ⟨sb, 0, none⟩), .string f, .int .i64 most, .int .i64 q] w1 fun e w' => ScanPost x.E f most q w1 e w') := fun w1 hb =>
        (seenFrom_any (there x) x.M x.T vE vL sb f most q w1 ok.gh (ok.lv.ok ok.sorted ok.few) (cell_later hb c0) ((enrow_of_owns hE.own).below hb) (cell_later hb c1) (hT.row.below hb)).mono fun e w' ⟨vl, L, cur, h1, h2, h3, h4, h5⟩ => ⟨vl, L, cur, h1, h2, h3, scan_there ok (seqOf_seen hsq ok.lv.la2) h4, h5⟩
      clear hx hs hE hT hR hS hq c0 c1 c3 c5
      generalize hpost : (fun (e : Ending) (w' : World) => ∃ (vl : Value) (L : List Pr) (cur : Option ByteArray), e = .returned (.tuple #[vl, .int .i64 0]) ∧ w'.ownsRow w.heap.size 48 3 vl L.length (pcells L) ∧ Below w.heap.size w w' ∧ ScanInv x.E f q L cur ∧ (cur = none ∨ most ≤ L.length) ∧ L.length ≤ most) = PP
      have HPP : Hid _ := hpost
      clear hpost
      go_enter Tryz.func46, Tryz.ntmps46
      go_wp2_with fail
      refine Calls.mono HQ.out ?_
      rintro e w1 ⟨rfl, hb⟩
      have HB : Hid (Below w.heap.size w w1) := hb
      clear hb
      unfold seqVal
      go_wp2_with fail
      refine Calls.mono (HSF.out _ HB.out) ?_
      rintro e w2 ⟨vl, L, cur, rfl, ho, hb2, hI, hc, hlm⟩
      have R1 : Hid (w2.ownsRow w.heap.size 48 3 vl L.length (pcells L) ∧ Below w.heap.size w w2 ∧ ScanInv x.E f q L cur ∧ (cur = none ∨ most ≤ L.length) ∧ (L.length : Int) ≤ most) := ⟨owns_base ho HB.out.size, below_trans' HB.out hb2, hI, hc, hlm (by omega)⟩
      clear ho hb2 hI hc hlm
      go_wp2
      rw [← HPP.out]
      exact ⟨vl, L, cur, rfl, R1.out⟩
end Go.Proofs.YtakipjofboipmaaGreat

/- The walks of this proof: making a snapshot. -/
namespace Go.Proofs.YtakipjofboipmaaGreat
open Go.RowKit Go.Sort

theorem Tryz.info174 : (Tryz.prog.info? 174).map (fun i => (i.zero, i.size, i.bytes)) = some (some (.agg #[.int .i64 0, .int .i64 0]), 2, 16) := by kernel_rfl

theorem StoreAt.drew {D F : Nat → Prop} {sb : Nat} {x : St} {w : World} (h : StoreAt D F sb x w) : StoreAt D F sb x w.drew := h

/-- A field of a store that is written. -/
theorem set_field {w : World} {sb : Nat} {a0 a1 a2 a3 a4 a5 a6 a7 : Value} {t : TypeId} (h : w.heap[sb]? = some (.cells #[a0, a1, a2, a3, a4, a5, a6, a7] t (0, 0))) (i : Nat) (v : Value) :
    (w.setCell ⟨sb, i, none⟩ v).heap[sb]? = some (.cells (#[a0, a1, a2, a3, a4, a5, a6, a7].setIfInBounds i v) t (0, 0)) := heap_setCell_same w sb i _ t v h

/-- What a store holds besides its snapshots. -/
def Rest (D F : Nat → Prop) (x : St) (vE vL vR : Value) (w : World) : Prop :=
  OwnsIn w D 58 4 vE x.M.length (ecells x.M) ∧ TabsIn w D F vL x.T ∧ OwnsJ w D vR x.J

theorem Rest.kd {D F D' : Nat → Prop} {x : St} {vE vL vR : Value} {w w' : World} {ts : List Nat} (h : Rest D F x vE vL vR w) (k : Kd D' ts w w') (h1 : 58 ∉ ts) (h2 : 169 ∉ ts) (h3 : 5 ∉ ts) : Rest D F x vE vL vR w' :=
  ⟨k.ownsIn h.1 h1, h.2.1.kd k h2 h1, k.ownsJ h.2.2 h3⟩

/-- The snapshots' row put into its field. -/
theorem put_snaps {D F : Nat → Prop} {sb : Nat} {x : St} {w : World} {vE vL vR vS vS' : Value} {ls : Int} {S' : List Sn} (hs : w.heap[sb]? = some (.cells #[vE, vL, vR, .int .i64 (rl (x.B.take x.sy)), .int .i64 x.la, vS, .int .i64 ls, .int .i64 x.last] 118 (0, 0))) (hB : D sb)
    (hE : Rest D F x vE vL vR w) (hS : OwnsIn w D 174 2 vS' S'.length (scells S')) :
    StoreAt D F sb { x with S := S', lastSnap := ls } (w.setCell ⟨sb, 5, none⟩ vS') := by
  have k := Kd.field hB hs 5 vS'
  have r := hE.kd k (by simp) (by simp) (by simp)
  refine ⟨vE, vL, vR, vS', hB, ?_, r.1, r.2.1, r.2.2, k.ownsIn hS (by simp)⟩
  rw [set_field hs 5 vS']
  simp

theorem snaps_snoc {w : World} {D : Nat → Prop} {v : Value} {S : List Sn} {s : Sn} (h : OwnsIn w D 174 2 v (S.length + 1) (scells S ++ Sn.cells s)) : OwnsIn w D 174 2 v (S ++ [s]).length (scells (S ++ [s])) := by
  have e : scells (S ++ [s]) = scells S ++ Sn.cells s := by simp [scells]
  rw [e, List.length_append]
  exact h

set_option maxHeartbeats 1000000 in
theorem isFull_any (x : St) (D F : Nat → Prop) (sb : Nat) (w : World) (hx : StoreAt D F sb x w) (ok : StOk x) :
    Calls Tryz.prog 105 #[.pointer (some ⟨sb, 5, none⟩)] w fun e w' => e = .returned (.bool (decide (4 ≤ x.S.length))) ∧ w' = w := by
  obtain ⟨vE, vL, vR, vS, hB, hs, hE, hT, hR, hS⟩ := hx
  obtain ⟨ao, cap, rfl⟩ := slice_form hS.own
  have c3 : w.cell? ⟨sb, 5, none⟩ = some (.slice ao x.S.length cap) := by simp [World.cell?, hs]
  have hl4 := ok.snaps
  have e : decide ((4 : Int) ≤ (x.S.length : Int)) = decide (4 ≤ x.S.length) := by simp only [decide_eq_decide]; omega
  rw [← e]
  clear e hs hE hT hR hS
  go_enter Tryz.func105, Tryz.ntmps105
  go_wp2
  go_ret
  exact ⟨rfl, rfl⟩

set_option maxHeartbeats 2000000 in
theorem addSnap_any (x : St) (D F : Nat → Prop) (sb : Nat) (q : Int) (w : World) (hx : StoreAt D F sb x w) (ok : StOk x) (hBw : Opn D w) (h0 : 0 ≤ x.lastSnap) (h1 : x.lastSnap < 1000000000) :
    Calls Tryz.prog 106 #[.pointer (some ⟨sb, 5, none⟩), .int .i64 q] w fun e w' => e = .returned (.int .i64 (x.lastSnap + 1)) ∧ StoreAt D F sb { x with S := x.S ++ [⟨x.lastSnap + 1, q⟩], lastSnap := x.lastSnap + 1 } w' ∧ Kd D [118, 174] w w' := by
  obtain ⟨vE, vL, vR, vS, hB, hs, hE, hT, hR, hS⟩ := hx
  obtain ⟨i0, hi, hz0, hz1, hz2⟩ := info_parts Tryz.info174
  obtain ⟨ls, hls⟩ : ∃ ls, x.lastSnap = ls := ⟨_, rfl⟩
  have hl4 := ok.snaps
  rw [hls] at hs h0 h1 ⊢
  have c4 : w.cell? ⟨sb, 6, none⟩ = some (.int .i64 ls) := by simp [World.cell?, hs]
  have f4 : w.frozen? ⟨sb, 6, none⟩ = false := by simp [World.frozen?, hs]
  have k1 := Kd.field hB hs 6 (.int .i64 (ls + 1))
  have s1 := set_field hs 6 (.int .i64 (ls + 1))
  have r1 : Rest D F x vE vL vR _ := Rest.kd ⟨hE, hT, hR⟩ k1 (by simp) (by simp) (by simp)
  have o1 := k1.ownsIn hS (by simp)
  generalize hw1 : w.setCell ⟨sb, 6, none⟩ (.int .i64 (ls + 1)) = w1 at k1 s1 r1 o1
  simp only [List.setIfInBounds_toArray, List.set_cons_succ, List.set_cons_zero] at s1
  have H : Hid (StOk x ∧ Kd D [118] w w1 ∧ w1.heap[sb]? = some (.cells #[vE, vL, vR, .int .i64 (rl (x.B.take x.sy)), .int .i64 x.la, vS, .int .i64 (ls + 1), .int .i64 x.last] 118 (0, 0)) ∧ Rest D F x vE vL vR w1 ∧ D sb) := ⟨ok, k1, s1, r1, hB⟩
  have c3 : w1.cell? ⟨sb, 5, none⟩ = some vS := by simp [World.cell?, s1]
  have c4' : w1.cell? ⟨sb, 6, none⟩ = some (.int .i64 (ls + 1)) := by simp [World.cell?, s1]
  have hsz1 : sb < w1.heap.size := lt_of_block s1
  have HD1 : Hid (Opn D w1) := hBw.later k1.size
  have HW : Hid (w.setCell ⟨sb, 6, none⟩ (.int .i64 (ls + 1)) = w1) := hw1
  have HO : Hid (OwnsIn w1 D 174 2 vS x.S.length (scells x.S)) := o1
  clear hBw hs hE hT hR hS ok k1 s1 r1 o1 hw1
  go_enter Tryz.func106, Tryz.ntmps106
  go_wp2
  rw [HW.out]
  go_region_law (refine step_append_lies _ rfl _ _ 114 rfl 0 174 i0 _ 2 16 Tryz.underlying114 hi hz0 hz1 hz2 rfl (by decide) vS x.S.length (scells x.S) rfl (by exact HO.out.own.alloc _) ⟨w1.heap.size, 0, none⟩ 1 1 (Sn.cells ⟨ls + 1, q⟩) rfl rfl (by intro j u hj; match j, hj with | 0, hj => (simp [Sn.cells] at hj; subst hj; simp [Addr.add]) | 1, hj => (simp [Sn.cells] at hj; subst hj; simp [Addr.add]) | j + 2, hj => (simp [Sn.cells] at hj)) (by intro u hu; simp [Sn.cells] at hu; rcases hu with rfl | rfl <;> rfl) (by omega) (by unfold maxLen; omega) (by omega) (Nat.zero_le _) _ rfl ?_; intro g cap w2 hown hgrow hat hlt; have K2 : Hid (Kd D [174] w1 w2) := Kd.grown ((Kd.refl _ _ _).alloc _).drew (by exact HO.out.alloc _) hgrow (by simp); have c3b : w2.cell? ⟨sb, 5, none⟩ = some vS := (by simp [World.cell?, K2.out.keep H.out.2.2.1 (by simp)]); have f3b : w2.frozen? ⟨sb, 5, none⟩ = false := (by simp [World.frozen?, K2.out.keep H.out.2.2.1 (by simp)]); have c4b : w2.cell? ⟨sb, 6, none⟩ = some (.int .i64 (ls + 1)) := (by simp [World.cell?, K2.out.keep H.out.2.2.1 (by simp)]); have HN : Hid (OwnsIn w2 D 174 2 (.slice (some ⟨g, 0, none⟩) (x.S.length + 1) cap) (x.S.length + 1) (scells x.S ++ Sn.cells ⟨ls + 1, q⟩)) := HO.out.put HD1.out hown (hat.imp id fun e => by rw [e]; simp); clear hown hgrow hat hlt)
  all_goals go_wp2
  all_goals go_ret
  all_goals exact ⟨rfl, put_snaps (K2.out.keep H.out.2.2.1 (by simp)) H.out.2.2.2.2 (H.out.2.2.2.1.kd K2.out (by simp) (by simp) (by simp)) (snaps_snoc HN.out), ((H.out.2.1.mono (by simp)).trans (K2.out.mono (by simp))).trans ((Kd.field H.out.2.2.2.2 (K2.out.keep H.out.2.2.1 (by simp)) 5 _).mono (by simp))⟩

set_option maxHeartbeats 1000000 in
theorem snap_any (x : St) (D F : Nat → Prop) (sb : Nat) (w : World) (hx : StoreAt D F sb x w) (ok : StOk x) (hBw : Opn D w) (h0 : 0 ≤ x.lastSnap) (h1 : x.lastSnap < 1000000000) :
    Calls Tryz.prog 68 #[.pointer (some ⟨sb, 0, none⟩)] w fun e w' =>
      (x.S.length = 4 ∧ e = .returned (.tuple #[.int .i64 0, .int .i64 7]) ∧ w' = w) ∨
      (x.S.length < 4 ∧ e = .returned (.tuple #[.int .i64 (x.lastSnap + 1), .int .i64 0]) ∧ StoreAt D F sb { x with S := x.S ++ [⟨x.lastSnap + 1, x.last⟩], lastSnap := x.lastSnap + 1 } w' ∧ Kd D [118, 174] w w') := by
  have hf := isFull_any x D F sb w hx ok
  have hl4 := ok.snaps
  by_cases h4 : 4 ≤ x.S.length
  · simp only [h4, decide_true] at hf
    have HF : Hid _ := hf
    clear hf hx
    go_enter Tryz.func68, Tryz.ntmps68
    go_wp2_with fail
    refine Calls.mono HF.out ?_
    rintro e w0 ⟨rfl, rfl⟩
    go_wp2
    go_ret2
    exact .inl ⟨by omega, rfl, rfl⟩
  · simp only [h4, decide_false] at hf
    have HF : Hid _ := hf
    have HA : Hid (∀ w', StoreAt D F sb x w' → Opn D w' → Calls Tryz.prog 106 #[.pointer (some ⟨sb, 5, none⟩), .int .i64 x.last] w' fun e w'' => e = .returned (.int .i64 (x.lastSnap + 1)) ∧ StoreAt D F sb { x with S := x.S ++ [⟨x.lastSnap + 1, x.last⟩], lastSnap := x.lastSnap + 1 } w'' ∧ Kd D [118, 174] w' w'') := fun w' hw hb => addSnap_any x D F sb x.last w' hw ok hb h0 h1
    have HX : Hid (StoreAt D F sb x w) := hx
    obtain ⟨vE, vL, vR, vS, hB, hs, hE, hT, hR, hS⟩ := hx
    have c5 : w.cell? ⟨sb, 7, none⟩ = some (.int .i64 x.last) := by simp [World.cell?, hs]
    have HBW : Hid (Opn D w) := hBw
    clear hBw hf hs hE hT hR hS
    go_enter Tryz.func68, Tryz.ntmps68
    go_wp2_with fail
    refine Calls.mono HF.out ?_
    rintro e w0 ⟨rfl, rfl⟩
    go_wp2
    go_region_with (go_at_call 106; refine Calls.mono (HA.out _ (by exact HX.out.drew) HBW.out) ?_; rintro e w2 ⟨rfl, hst, hkp⟩; have HR2 : Hid (StoreAt D F sb { x with S := x.S ++ [⟨x.lastSnap + 1, x.last⟩], lastSnap := x.lastSnap + 1 } w2 ∧ Kd D [118, 174] w0 w2) := ⟨hst, (Kd.refl _ _ _).drew.trans hkp⟩; clear hst hkp)
    all_goals go_wp2
    all_goals go_ret2
    all_goals exact .inr ⟨by omega, rfl, Hid.out (by assumption)⟩
end Go.Proofs.YtakipjofboipmaaGreat

/- The walks of this proof: letting a snapshot go. -/
namespace Go.Proofs.YtakipjofboipmaaGreat
open Go.RowKit Go.Sort

/-- append within one row, as one step of a region that draws: the row written out. -/
theorem step_append_row {P : Program} {ops : Array Oper} {o : Oper} {a : Act} {w : World} {K : Act → World → Prop} {Q : Exit → Act → World → Prop} {E : Prop}
    (hgd : o.guard = none) (s x : Operand) (t : TypeId) (hop : o.op = Op.call { callee := Callee.builtin Builtin.append, args := #[s, x], argTypes := #[t, t] })
    (e : TypeId) (i : TypeInfo) (size : Nat) (ht : P.underlying t = some (.slice e)) (hi : P.info? e = some i) (hsz : i.size = size)
    (g n cap : Nat) (hs : a.eval s = .slice (some ⟨g, 0, none⟩) n cap)
    (ad : Addr) (m c : Nat) (news : List Value) (hx : a.eval x = .slice (some ad) m c) (cur : Array Value) (hg : w.heap[g]? = some (.cells cur e (0, 0))) (hl : news.length = m * size) (hnews : ∀ j u, news[j]? = some u → w.cell? (ad.add j) = some u) (h1 : ∀ u ∈ news, u.oneCell' = true)
    (hroom : n + m ≤ cap) (hfit : n * size + news.length ≤ cur.size)
    (hK : K (a.put o.dst (.slice (some ⟨g, 0, none⟩) (n + m) cap)) (w.setRow g (cur.toList.take (n * size) ++ news ++ cur.toList.drop (n * size + news.length)).toArray)) :
    if Region.wanted o (yielded ops a.tmps) = true then Oper.wp P o a w K Q else E := by
  have hw : Region.wanted o (yielded ops a.tmps) = true := by simp [Region.wanted, hgd]
  rw [if_pos hw]
  subst hsz
  have hrun := run_append_room (P := P) w t o.type e i ht hi g n cap cur hg ad m c news hl hnews h1 hroom hfit
  unfold Oper.wp
  simp only [execOp, hop, resolve, invoke, builtin, Sem.run_bind, Sem.run_pure, Result.andThen_ok, List.map_toArray, List.map_cons, List.map_nil, hs, hx, hrun]
  exact hK

/-- clear of elements in a row, the row written out. -/
theorem run_clear_row {P : Program} (w : World) (t ty e : TypeId) (z : Value) (ht : P.underlying t = some (.slice e)) (hz : (zeroValue e).run P w = .ok z w)
    (g off n c : Nat) (cur : Array Value) (hg : w.heap[g]? = some (.cells cur e (0, 0))) (cs : List Value) (hcs : (Builtin.zeroCells z.cells (n + 1)).toList = cs) (hfit : off + cs.length ≤ cur.size) (h1 : ∀ v ∈ cs, v.oneCell' = true) :
    (Builtin.clear_ #[t] ty #[.slice (some ⟨g, off, none⟩) (n + 1) c]).run P w = .ok (.tuple #[]) (w.setRow g (cur.toList.take off ++ cs ++ cur.toList.drop (off + cs.length)).toArray) := by
  have hst := run_storeCells_at P g off e cs 0 cur w hg (by simpa using hfit) h1
  simp only [Nat.add_zero] at hst
  simp [Builtin.clear_, run_underlying ht, hz, hcs, hst]

/-- What Delete leaves of a row. -/
def DelPost (g cap i m : Nat) (cur : Array Value) (w : World) (e : Ending) (w' : World) : Prop :=
  e = .returned (.slice (some ⟨g, 0, none⟩) (i + m) cap) ∧ w.grownBy w' (some g) ∧ ∃ cur' : Array Value, w'.heap[g]? = some (.cells cur' 174 (0, 0)) ∧ cur'.size = cur.size ∧ cur'.toList.take ((i + m) * 2) = cur.toList.take (i * 2) ++ (cur.toList.drop ((i + 1) * 2)).take (m * 2)

set_option maxHeartbeats 1000000 in
set_option maxRecDepth 100000 in
theorem delete_any (g cap i m : Nat) (cur : Array Value) (w : World) (hg : w.heap[g]? = some (.cells cur 174 (0, 0))) (hc : i + m + 1 ≤ cap) (hs : cur.size = cap * 2) (h4 : i + m + 1 ≤ 4) (h1c : ∀ u ∈ cur.toList.take ((i + m + 1) * 2), u.oneCell' = true) :
    Calls Tryz.prog 80 #[.slice (some ⟨g, 0, none⟩) (i + m + 1) cap, .int .i64 i, .int .i64 (i + 1)] w fun e w' => DelPost g cap i m cur w e w' := by
  obtain ⟨i0, hi, hz0, hz1, hz2⟩ := info_parts Tryz.info174
  obtain ⟨news, hnews⟩ : ∃ news, (cur.toList.drop ((i + 1) * 2)).take (m * 2) = news := ⟨_, rfl⟩
  have hnl : news.length = m * 2 := by rw [← hnews]; simp; omega
  have hn1 : Hid (∀ u ∈ news, u.oneCell' = true) := fun u hu => h1c u (by
    rw [← hnews] at hu
    obtain ⟨j, hj, rfl⟩ := List.getElem_of_mem hu
    simp only [List.getElem_take, List.getElem_drop]
    refine List.mem_iff_getElem.2 ⟨(i + 1) * 2 + j, by simp at hj ⊢; omega, by simp⟩)
  have hcel : Hid (∀ j u, news[j]? = some u → w.cell? ((⟨g, (i + 1) * 2, none⟩ : Addr).add j) = some u) := fun j u hj => by
    rw [← hnews, List.getElem?_take] at hj
    split at hj
    · rw [List.getElem?_drop] at hj
      have hadd : (⟨g, (i + 1) * 2, none⟩ : Addr).add j = ⟨g, (i + 1) * 2 + j, none⟩ := by unfold Addr.add; split <;> simp_all
      rw [hadd, cell_of_row w g _ cur 174 (0, 0) hg]
      simpa using hj
    · cases hj
  have HG : Hid (w.heap[g]? = some (.cells cur 174 (0, 0))) := hg
  have HN : Hid ((cur.toList.drop ((i + 1) * 2)).take (m * 2) = news) := hnews
  have HS : Hid (cur.size = cap * 2) := hs
  have hic : i ≤ cap := by omega
  have hi1 : (i : Int) + 1 ≤ (i : Int) + (m : Int) + 1 := by omega
  have h00 : (0 : Int) ≤ (i : Int) + 1 := by omega
  have hne : ((i : Int) == (i : Int) + 1) = false := by simp; omega
  clear hg hnews hs h1c
  generalize hrow : (cur.toList.take (i * 2) ++ news ++ cur.toList.drop (i * 2 + news.length)).toArray = row1
  have HR1 : Hid _ := hrow
  clear hrow
  have HNL : Hid (news.length = m * 2) := hnl
  clear hnl
  have hr1 : Hid ((w.drew.setRow g row1).heap[g]? = some (.cells row1 174 (0, 0))) := setRow_heap w.drew g cur _ 174 _ HG.out
  have hz128 : Hid (∀ w : World, (zeroValue 174).run Tryz.prog w = .ok (.agg #[.int .i64 0, .int .i64 0]) w) := fun w => by simp [zeroValue, typeInfo, hi, hz0]
  have hrs0 : row1.size = cap * 2 := by
    rw [← HR1.out]
    simp only [List.size_toArray, List.length_append, List.length_take, List.length_drop, Array.length_toList, HNL.out, HS.out]
    omega
  have hrs : Hid (row1.size = cap * 2) := hrs0
  clear hrs0
  obtain ⟨row2, hrow2⟩ : ∃ row2, (row1.toList.take ((i + m) * 2) ++ [Value.int .i64 0, .int .i64 0] ++ row1.toList.drop ((i + m) * 2 + 2)).toArray = row2 := ⟨_, rfl⟩
  have HR2 : Hid _ := hrow2
  have hclr : ∀ c, (Builtin.clear_ #[114] 0 #[.slice (some ⟨g, (i + m) * 2, none⟩) 1 c]).run Tryz.prog (w.drew.setRow g row1) = .ok (.tuple #[]) ((w.drew.setRow g row1).setRow g row2) := fun c => by
    rw [← hrow2]
    exact run_clear_row (w.drew.setRow g row1) 114 0 174 (.agg #[.int .i64 0, .int .i64 0]) Tryz.underlying114 (hz128.out _) g ((i + m) * 2) 0 c row1 hr1.out [.int .i64 0, .int .i64 0] (by kernel_rfl) (by have := hrs.out; simp; omega) (by intro v hv; simp at hv; subst hv; rfl)
  have FIN : Hid (w.grownBy ((w.drew.setRow g row1).setRow g row2) (some g) ∧ ∃ cur' : Array Value, ((w.drew.setRow g row1).setRow g row2).heap[g]? = some (.cells cur' 174 (0, 0)) ∧ cur'.size = cur.size ∧ cur'.toList.take ((i + m) * 2) = cur.toList.take (i * 2) ++ (cur.toList.drop ((i + 1) * 2)).take (m * 2)) := by
    refine ⟨⟨rfl, rfl, rfl, by simp, fun k _ hk => ?_⟩, row2, setRow_heap _ g row1 _ 174 _ hr1.out, ?_, ?_⟩
    · have hk' : k ≠ g := fun e => hk (by rw [e])
      rw [setRow_other _ _ _ _ hk', setRow_other _ _ _ _ hk']
      rfl
    · rw [← hrow2]
      simp only [List.size_toArray, List.length_append, List.length_take, List.length_drop, Array.length_toList, HS.out, hrs.out, List.length_cons, List.length_nil]
      omega
    · have hl1 : (row1.toList.take ((i + m) * 2)).length = (i + m) * 2 := by simp only [List.length_take, Array.length_toList, hrs.out]; omega
      have hl2 : (cur.toList.take (i * 2)).length = i * 2 := by simp only [List.length_take, Array.length_toList, HS.out]; omega
      rw [← hrow2, HN.out]
      show List.take _ (_ ++ _ ++ _) = _
      rw [List.append_assoc, List.take_left' hl1, ← HR1.out]
      show List.take _ (_ ++ _ ++ _) = _
      rw [List.take_left' (by rw [List.length_append, hl2, HNL.out]; omega)]
  clear hrow2
  by_cases hce : cap = i + 1
  · obtain rfl : m = 0 := by omega
    have hn0 : news = [] := List.eq_nil_of_length_eq_zero (by have := HNL.out; omega)
    have HN0 : Hid (news = []) := hn0
    clear hn0
    subst hce
    simp only [Nat.add_zero] at hclr
    have hii : (i : Int) ≤ (i : Int) + 1 := by omega
    go_enter Tryz.func80, Tryz.ntmps80
    go_wp2
    go_region_law (refine step_append_row rfl (.tmp 22) (.tmp 25) 114 rfl 174 i0 2 Tryz.underlying114 hi hz1 g i (i + 1) (by simp [Act.eval, Act.put]) ⟨g, 0, none⟩ 0 0 news (by simp [Act.eval, Act.put]) cur (by exact HG.out) HNL.out (by rw [HN0.out]; simp) hn1.out (by omega) (by rw [HS.out, HNL.out]; omega) ?_; rw [HR1.out])
    go_wp2
    go_ret
    exact ⟨rfl, FIN.out⟩
  · go_enter Tryz.func80, Tryz.ntmps80
    go_wp2
    go_region_law (refine step_append_row rfl (.tmp 22) (.tmp 25) 114 rfl 174 i0 2 Tryz.underlying114 hi hz1 g i cap (by simp [Act.eval, Act.put]) ⟨g, (i + 1) * 2, none⟩ m (cap - (i + 1)) news (by simp [Act.eval, Act.put]) cur (by exact HG.out) HNL.out (by exact hcel.out) hn1.out (by omega) (by rw [HS.out, HNL.out]; omega) ?_; rw [HR1.out])
    go_wp2
    go_ret
    exact ⟨rfl, FIN.out⟩

theorem scells_len (S : List Sn) : (scells S).length = S.length * 2 := flat_len _ 2 (fun a => by rfl) S

theorem flat_take {α β : Type} (f : α → List β) (n : Nat) (hf : ∀ a, (f a).length = n) (l : List α) (k : Nat) : (l.flatMap f).take (k * n) = (l.take k).flatMap f := by
  induction l generalizing k with
  | nil => simp
  | cons a l ih =>
    cases k with
    | zero => simp
    | succ k =>
      rw [List.flatMap_cons, List.take_append, hf, List.take_of_length_le (by rw [hf, Nat.add_mul]; omega), show (k + 1) * n - n = k * n by rw [Nat.add_mul]; omega, ih, List.take_succ_cons, List.flatMap_cons]

theorem flat_drop {α β : Type} (f : α → List β) (n : Nat) (hf : ∀ a, (f a).length = n) (l : List α) (k : Nat) : (l.flatMap f).drop (k * n) = (l.drop k).flatMap f := by
  induction l generalizing k with
  | nil => simp
  | cons a l ih =>
    cases k with
    | zero => simp
    | succ k =>
      rw [List.flatMap_cons, List.drop_append, hf, List.drop_of_length_le (by rw [hf, Nat.add_mul]; omega), show (k + 1) * n - n = k * n by rw [Nat.add_mul]; omega, ih, List.drop_succ_cons, List.nil_append]

/-- A snapshot's row behind Delete. -/
theorem del_owns {w w' : World} {D : Nat → Prop} {g cap i m : Nat} {S : List Sn} {cur : Array Value} (hS : S.length = i + m + 1) (hB : D g) (hcm : cap ≤ maxLen) (hle : i + m + 1 ≤ cap) (hs : cur.size = cap * 2) (htake : cur.toList.take (S.length * 2) = scells S)
    (h : DelPost g cap i m cur w (.returned (.slice (some ⟨g, 0, none⟩) (i + m) cap)) w') : OwnsIn w' D 174 2 (.slice (some ⟨g, 0, none⟩) (i + m) cap) (S.eraseIdx i).length (scells (S.eraseIdx i)) := by
  obtain ⟨_, _, cur', hg', hsz, ht⟩ := h
  have hl : (S.eraseIdx i).length = i + m := by rw [List.length_eraseIdx, if_pos (by omega)]; omega
  rw [hl]
  have e : scells (S.eraseIdx i) = scells (S.take i) ++ scells (S.drop (i + 1)) := by rw [List.eraseIdx_eq_take_drop_succ]; simp [scells]
  have e1 : cur.toList.take (i * 2) = scells (S.take i) := by
    have : (cur.toList.take (S.length * 2)).take (i * 2) = cur.toList.take (i * 2) := by rw [List.take_take, Nat.min_eq_left (by omega)]
    rw [← this, htake]
    exact flat_take _ 2 (fun a => by rfl) S i
  have e2 : (cur.toList.drop ((i + 1) * 2)).take (m * 2) = scells (S.drop (i + 1)) := by
    have : (cur.toList.take (S.length * 2)).drop ((i + 1) * 2) = (cur.toList.drop ((i + 1) * 2)).take (m * 2) := by rw [List.drop_take]; congr 1; omega
    rw [← this, htake]
    exact flat_drop _ 2 (fun a => by rfl) S (i + 1)
  refine ⟨⟨by rw [scells_len, hl], .inr ⟨g, cap, cur', rfl, Nat.zero_le _, hg', by omega, hcm, by rw [hsz, hs], ?_⟩⟩, fun g' hg => by simp only [Value.ownBlock, Option.some.injEq] at hg; subst hg; exact hB⟩
  rw [ht, e1, e2, e]

set_option maxHeartbeats 1000000 in
theorem dropSnap_any (x : St) (D F : Nat → Prop) (sb : Nat) (n : Int) (w : World) (hx : StoreAt D F sb x w) (ok : StOk x) :
    Calls Tryz.prog 51 #[.pointer (some ⟨sb, 5, none⟩), .int .i64 n] w fun e w' =>
      (sidx x.S n = none ∧ e = .returned (.bool false) ∧ Below w.heap.size w w') ∨
      (∃ i, sidx x.S n = some i ∧ e = .returned (.bool true) ∧ StoreAt D F sb { x with S := x.S.eraseIdx i } w' ∧ Kd D [118, 174] w w') := by
  have HX : Hid (StoreAt D F sb x w) := hx
  obtain ⟨vE, vL, vR, vS, hB, hs, hE, hT, hR, hS⟩ := hx
  have c3 : w.cell? ⟨sb, 5, none⟩ = some vS := by simp [World.cell?, hs]
  have hi := indexSnap_any x.S vS 0 sb n w ok.snaps c3 hS.own
  generalize hr : sidx x.S n = r at hi
  have HI : Hid _ := hi
  cases r with
  | none =>
    clear hi hs hE hT hR hS hr c3
    go_enter Tryz.func51, Tryz.ntmps51
    go_wp2_with fail
    refine Calls.mono HI.out ?_
    rintro e w1 ⟨rfl, hb⟩
    have HB : Hid (Below w.heap.size w w1) := hb
    clear hb
    unfold idxVal
    go_wp2
    go_ret
    first | exact .inl ⟨rfl, rfl, HB.out⟩ | exact .inl ⟨trivial, rfl, HB.out⟩
  | some i =>
    have hil : i < x.S.length := (List.findIdx?_eq_some_iff_getElem.1 hr).1
    obtain ⟨m, hm⟩ : ∃ m, x.S.length = i + m + 1 := ⟨x.S.length - i - 1, by omega⟩
    have hl4 := ok.snaps
    have hSd := hS.dom
    rcases hS.own.2 with ⟨_, h0⟩ | ⟨g, cap, cur, rfl, _, hg, hnc, hcm, hsz, htake⟩
    · omega
    have hBg : D g := hSd g rfl
    have h1c : ∀ u ∈ cur.toList.take ((i + m + 1) * 2), u.oneCell' = true := by
      rw [← hm, htake]
      intro u hu
      simp only [scells, List.mem_flatMap, Sn.cells, List.mem_cons, List.not_mem_nil, or_false] at hu
      obtain ⟨a, _, rfl | rfl⟩ := hu <;> rfl
    rw [hm] at hnc
    have HD : Hid (∀ w1, Below w.heap.size w w1 → Calls Tryz.prog 80 #[.slice (some ⟨g, 0, none⟩) (i + m + 1) cap, .int .i64 i, .int .i64 (i + 1)] w1 fun e w' => DelPost g cap i m cur w1 e w') := fun w1 hb =>
      delete_any g cap i m cur w1 ((hb.block g (lt_of_block hg)).trans hg) hnc hsz (by omega) h1c
    have HDO : Hid (∀ w1 w2, DelPost g cap i m cur w1 (.returned (.slice (some ⟨g, 0, none⟩) (i + m) cap)) w2 → OwnsIn w2 D 174 2 (.slice (some ⟨g, 0, none⟩) (i + m) cap) (x.S.eraseIdx i).length (scells (x.S.eraseIdx i))) := fun w1 w2 h =>
      del_owns hm hBg hcm hnc hsz htake h
    have HG : Hid (w.heap[g]? = some (.cells cur 174 (0, 0))) := hg
    have HF : Hid (w.heap[sb]? = some (.cells #[vE, vL, vR, .int .i64 (rl (x.B.take x.sy)), .int .i64 x.la, .slice (some ⟨g, 0, none⟩) (i + m + 1) cap, .int .i64 x.lastSnap, .int .i64 x.last] 118 (0, 0)) ∧ Rest D F x vE vL vR w ∧ D sb ∧ D g) := ⟨by rw [hs, hm], ⟨hE, hT, hR⟩, hB, hBg⟩
    rw [hm] at c3
    clear hi hs hE hT hR hS hSd hBg hg htake h1c hr
    go_enter Tryz.func51, Tryz.ntmps51
    go_wp2_with fail
    refine Calls.mono HI.out ?_
    rintro e w1 ⟨rfl, hb⟩
    have HB : Hid (Below w.heap.size w w1) := hb
    have c3' := cell_later hb c3
    clear hb
    unfold idxVal
    go_wp2_with fail
    refine Calls.mono (HD.out _ HB.out) ?_
    rintro e w2 hdp
    obtain ⟨rfl, hgr, hrest⟩ := id hdp
    have K2 : Hid (Kd D [174] w w2) := (Kd.of_below HB.out).trans ⟨hgr.os, hgr.tape, hgr.output, hgr.size, fun k hk hor => hgr.block k hk (fun e => by
      simp only [Option.some.injEq] at e
      subst e
      have hgk := (HB.out.block k (lt_of_block HG.out)).trans HG.out
      rcases hor with h1 | h1
      · exact h1 HF.out.2.2.2
      · exact h1 _ _ _ hgk (by simp))⟩
    have HO : Hid (OwnsIn w2 D 174 2 (.slice (some ⟨g, 0, none⟩) (i + m) cap) (x.S.eraseIdx i).length (scells (x.S.eraseIdx i))) := HDO.out _ _ hdp
    have hs2 : Hid (w2.heap[sb]? = some (.cells #[vE, vL, vR, .int .i64 (rl (x.B.take x.sy)), .int .i64 x.la, .slice (some ⟨g, 0, none⟩) (i + m + 1) cap, .int .i64 x.lastSnap, .int .i64 x.last] 118 (0, 0))) := K2.out.keep HF.out.1 (by simp)
    have c3b : w2.cell? ⟨sb, 5, none⟩ = some (.slice (some ⟨g, 0, none⟩) (i + m + 1) cap) := by simp [World.cell?, hs2.out]
    have f3b : w2.frozen? ⟨sb, 5, none⟩ = false := by simp [World.frozen?, hs2.out]
    clear hdp hgr hrest
    go_wp2
    go_ret
    exact .inr ⟨i, rfl, rfl, put_snaps hs2.out HF.out.2.2.1 (HF.out.2.1.kd K2.out (by simp) (by simp) (by simp)) HO.out, (K2.out.mono (by simp)).trans ((Kd.field HF.out.2.2.1 hs2.out 5 _).mono (by simp))⟩

set_option maxHeartbeats 1000000 in
theorem drop_any (x : St) (D F : Nat → Prop) (sb : Nat) (n : Int) (w : World) (hx : StoreAt D F sb x w) (ok : StOk x) :
    Calls Tryz.prog 17 #[.pointer (some ⟨sb, 0, none⟩), .int .i64 n] w fun e w' =>
      (sidx x.S n = none ∧ e = .returned (.int .i64 5) ∧ Below w.heap.size w w') ∨
      (∃ i, sidx x.S n = some i ∧ e = .returned (.int .i64 0) ∧ StoreAt D F sb { x with S := x.S.eraseIdx i } w' ∧ Kd D [118, 174] w w') := by
  have hd := dropSnap_any x D F sb n w hx ok
  have HD : Hid _ := hd
  clear hd hx
  go_enter Tryz.func17, Tryz.ntmps17
  go_wp2_with fail
  refine Calls.mono HD.out ?_
  rintro e w1 (⟨h1, rfl, h2⟩ | ⟨i, h1, rfl, h2, h3⟩)
  · have R1 : Hid _ := And.intro h1 h2
    clear h1 h2
    go_wp2
    go_ret
    exact .inl ⟨R1.out.1, rfl, R1.out.2⟩
  · have R1 : Hid _ := And.intro h1 (And.intro h2 h3)
    clear h1 h2 h3
    go_wp2
    go_ret
    exact .inr ⟨i, R1.out.1, rfl, R1.out.2⟩
end Go.Proofs.YtakipjofboipmaaGreat

/- The walks of this proof: whether pairs are a batch. -/
namespace Go.Proofs.YtakipjofboipmaaGreat
open Go.RowKit Go.Sort

set_option maxHeartbeats 400000 in
theorem hasNoKey_any (p : Pr) (w : World) (ok : PrOk p) :
    Calls Tryz.prog 82 #[.agg #[.string p.k, .string p.v, .bool p.g]] w fun e w' => e = .returned (.bool false) ∧ Below w.heap.size w w' := by
  have hk : ∀ w, Calls Tryz.prog 64 #[.string p.k] w fun e w' => e = .returned (.bool true) ∧ w' = w := fun w => by
    have h := isKey_any p.k w (by have := ok.hi; unfold maxLen; omega)
    simpa only [ok.lo, ok.hi, decide_true, Bool.and_self] using h
  have HK : Hid _ := hk
  clear hk
  go_enter Tryz.func82, Tryz.ntmps82
  go_wp2_with fail
  refine Calls.mono (HK.out _) ?_
  rintro e w0 ⟨rfl, rfl⟩
  go_wp2
  go_ret
  exact ⟨rfl, (Below.refl _ _).alloc (Nat.le_refl _) _⟩

set_option maxHeartbeats 400000 in
theorem isLong_any (p : Pr) (w : World) (ok : PrOk p) :
    Calls Tryz.prog 83 #[.agg #[.string p.k, .string p.v, .bool p.g]] w fun e w' => e = .returned (.bool false) ∧ Below w.heap.size w w' := by
  have hv := ok.val
  have hd : decide ((8 : Int) < (p.v.size : Int)) = false := by simp; omega
  go_enter Tryz.func83, Tryz.ntmps83
  go_wp2
  go_ret
  exact ⟨by simp, (Below.refl _ _).alloc (Nat.le_refl _) _⟩

set_option maxHeartbeats 400000 in
theorem goneWith_any (p : Pr) (w : World) (ok : PrOk p) :
    Calls Tryz.prog 84 #[.agg #[.string p.k, .string p.v, .bool p.g]] w fun e w' => e = .returned (.bool false) ∧ Below w.heap.size w w' := by
  have hg := ok.gone
  obtain ⟨k, v, g⟩ := p
  cases g with
  | false =>
    clear hg ok
    go_enter Tryz.func84, Tryz.ntmps84
    go_wp2
    go_ret
    exact ⟨rfl, (Below.refl _ _).alloc (Nat.le_refl _) _⟩
  | true =>
    obtain rfl : v = ⟨#[]⟩ := hg rfl
    clear hg ok
    go_enter Tryz.func84, Tryz.ntmps84
    go_wp2
    go_ret
    exact ⟨rfl, (Below.refl _ _).alloc (Nat.le_refl _) _⟩

/-- The cells of pairs in a row. -/
theorem pr_cells {w w' : World} {base : Nat} {v : Value} {L : List Pr} (h : w.ownsRow base 48 3 v L.length (pcells L)) (hb : Below w.heap.size w w') (hl : 0 < L.length) :
    ∃ g cap, v = .slice (some ⟨g, 0, none⟩) L.length cap ∧ base ≤ g ∧ g < w.heap.size ∧ L.length ≤ cap ∧ ∀ (k : Nat) p, L[k]? = some p → w'.cell? ⟨g, k * 3, none⟩ = some (.string p.k) ∧ w'.cell? ⟨g, k * 3 + 1, none⟩ = some (.string p.v) ∧ w'.cell? ⟨g, k * 3 + 2, none⟩ = some (.bool p.g) := by
  obtain ⟨g, cap, rfl, hbg, hgl, hcap, hcell⟩ := row_cell (fun a => by rfl) h hl
  exact ⟨g, cap, rfl, hbg, hgl, hcap, fun k p hp => ⟨cell_later hb (hcell k p 0 hp (by omega)), cell_later hb (hcell k p 1 hp (by omega)), cell_later hb (hcell k p 2 hp (by omega))⟩⟩

set_option maxHeartbeats 1000000 in
theorem index55 (L : List Pr) (v : Value) (base : Nat) (w : World) (h : w.ownsRow base 48 3 v L.length (pcells L)) (h4 : L.length ≤ 4) (ok : ∀ p ∈ L, PrOk p) :
    Calls Tryz.prog 129 #[v, .func (.func 82) #[] #[]] w fun e w' => e = .returned (.int .i64 (-1)) ∧ Below w.heap.size w w' := by
  obtain ⟨ao, cap, rfl⟩ := slice_form h
  have H : Hid _ := h
  have OK : Hid (∀ p ∈ L, PrOk p) := ok
  clear h ok
  go_enter Tryz.func129, Tryz.ntmps129
  go_wp2
  go_loopw [8] (fun i wr => ∃ k : Nat, k ≤ L.length ∧ i = .int .i64 k ∧ Hid (Below w.heap.size w wr)) (fun i _ => L.length - (intOf i).toNat)
  case atStart => exact ⟨0, Nat.zero_le _, rfl, Below.refl _ _⟩
  case round =>
    obtain ⟨k, hk, rfl, HB⟩ := hrel
    by_cases hlt : k < L.length
    · obtain ⟨g, cap', hv', hbg, hgl, hcap, hcell⟩ := pr_cells H.out HB.out (by omega)
      simp only [Value.slice.injEq, true_and] at hv'
      obtain ⟨rfl, rfl⟩ := hv'
      obtain ⟨p, hp⟩ : ∃ p, L[k]? = some p := ⟨_, List.getElem?_eq_getElem hlt⟩
      obtain ⟨c0, c1, c2⟩ := hcell k p hp
      have OKp : Hid (PrOk p) := OK.out p (List.mem_of_getElem? hp)
      clear hp hcell
      go_wp2_with (go_at_call 82; refine (hasNoKey_any p _ OKp.out).mono ?_; rintro e w2 ⟨rfl, hb2⟩; have HB2 : Hid (Below w.heap.size w w2) := below_trans' HB.out hb2; clear hb2)
      go_roundw
      case rel => exact ⟨k + 1, by omega, by go_num, by assumption⟩
      case measure => simp [intOf]; omega
    · go_wp2
      go_ret
      exact ⟨rfl, HB.out⟩

set_option maxHeartbeats 1000000 in
theorem contains55 (L : List Pr) (v : Value) (base : Nat) (w : World) (h : w.ownsRow base 48 3 v L.length (pcells L)) (h4 : L.length ≤ 4) (ok : ∀ p ∈ L, PrOk p) :
    Calls Tryz.prog 81 #[v, .func (.func 82) #[] #[]] w fun e w' => e = .returned (.bool false) ∧ Below w.heap.size w w' := by
  have hi := index55 L v base w h h4 ok
  have HI : Hid _ := hi
  clear hi h ok
  go_enter Tryz.func81, Tryz.ntmps81
  go_wp2_with fail
  refine Calls.mono HI.out ?_
  rintro e w0 ⟨rfl, hb⟩
  have HB : Hid (Below w.heap.size w w0) := hb
  clear hb
  go_wp2
  go_ret
  exact ⟨rfl, HB.out⟩

set_option maxHeartbeats 1000000 in
theorem index56 (L : List Pr) (v : Value) (base : Nat) (w : World) (h : w.ownsRow base 48 3 v L.length (pcells L)) (h4 : L.length ≤ 4) (ok : ∀ p ∈ L, PrOk p) :
    Calls Tryz.prog 129 #[v, .func (.func 83) #[] #[]] w fun e w' => e = .returned (.int .i64 (-1)) ∧ Below w.heap.size w w' := by
  obtain ⟨ao, cap, rfl⟩ := slice_form h
  have H : Hid _ := h
  have OK : Hid (∀ p ∈ L, PrOk p) := ok
  clear h ok
  go_enter Tryz.func129, Tryz.ntmps129
  go_wp2
  go_loopw [8] (fun i wr => ∃ k : Nat, k ≤ L.length ∧ i = .int .i64 k ∧ Hid (Below w.heap.size w wr)) (fun i _ => L.length - (intOf i).toNat)
  case atStart => exact ⟨0, Nat.zero_le _, rfl, Below.refl _ _⟩
  case round =>
    obtain ⟨k, hk, rfl, HB⟩ := hrel
    by_cases hlt : k < L.length
    · obtain ⟨g, cap', hv', hbg, hgl, hcap, hcell⟩ := pr_cells H.out HB.out (by omega)
      simp only [Value.slice.injEq, true_and] at hv'
      obtain ⟨rfl, rfl⟩ := hv'
      obtain ⟨p, hp⟩ : ∃ p, L[k]? = some p := ⟨_, List.getElem?_eq_getElem hlt⟩
      obtain ⟨c0, c1, c2⟩ := hcell k p hp
      have OKp : Hid (PrOk p) := OK.out p (List.mem_of_getElem? hp)
      clear hp hcell
      go_wp2_with (go_at_call 83; refine (isLong_any p _ OKp.out).mono ?_; rintro e w2 ⟨rfl, hb2⟩; have HB2 : Hid (Below w.heap.size w w2) := below_trans' HB.out hb2; clear hb2)
      go_roundw
      case rel => exact ⟨k + 1, by omega, by go_num, by assumption⟩
      case measure => simp [intOf]; omega
    · go_wp2
      go_ret
      exact ⟨rfl, HB.out⟩

set_option maxHeartbeats 1000000 in
theorem contains56 (L : List Pr) (v : Value) (base : Nat) (w : World) (h : w.ownsRow base 48 3 v L.length (pcells L)) (h4 : L.length ≤ 4) (ok : ∀ p ∈ L, PrOk p) :
    Calls Tryz.prog 81 #[v, .func (.func 83) #[] #[]] w fun e w' => e = .returned (.bool false) ∧ Below w.heap.size w w' := by
  have hi := index56 L v base w h h4 ok
  have HI : Hid _ := hi
  clear hi h ok
  go_enter Tryz.func81, Tryz.ntmps81
  go_wp2_with fail
  refine Calls.mono HI.out ?_
  rintro e w0 ⟨rfl, hb⟩
  have HB : Hid (Below w.heap.size w w0) := hb
  clear hb
  go_wp2
  go_ret
  exact ⟨rfl, HB.out⟩

set_option maxHeartbeats 1000000 in
theorem index57 (L : List Pr) (v : Value) (base : Nat) (w : World) (h : w.ownsRow base 48 3 v L.length (pcells L)) (h4 : L.length ≤ 4) (ok : ∀ p ∈ L, PrOk p) :
    Calls Tryz.prog 129 #[v, .func (.func 84) #[] #[]] w fun e w' => e = .returned (.int .i64 (-1)) ∧ Below w.heap.size w w' := by
  obtain ⟨ao, cap, rfl⟩ := slice_form h
  have H : Hid _ := h
  have OK : Hid (∀ p ∈ L, PrOk p) := ok
  clear h ok
  go_enter Tryz.func129, Tryz.ntmps129
  go_wp2
  go_loopw [8] (fun i wr => ∃ k : Nat, k ≤ L.length ∧ i = .int .i64 k ∧ Hid (Below w.heap.size w wr)) (fun i _ => L.length - (intOf i).toNat)
  case atStart => exact ⟨0, Nat.zero_le _, rfl, Below.refl _ _⟩
  case round =>
    obtain ⟨k, hk, rfl, HB⟩ := hrel
    by_cases hlt : k < L.length
    · obtain ⟨g, cap', hv', hbg, hgl, hcap, hcell⟩ := pr_cells H.out HB.out (by omega)
      simp only [Value.slice.injEq, true_and] at hv'
      obtain ⟨rfl, rfl⟩ := hv'
      obtain ⟨p, hp⟩ : ∃ p, L[k]? = some p := ⟨_, List.getElem?_eq_getElem hlt⟩
      obtain ⟨c0, c1, c2⟩ := hcell k p hp
      have OKp : Hid (PrOk p) := OK.out p (List.mem_of_getElem? hp)
      clear hp hcell
      go_wp2_with (go_at_call 84; refine (goneWith_any p _ OKp.out).mono ?_; rintro e w2 ⟨rfl, hb2⟩; have HB2 : Hid (Below w.heap.size w w2) := below_trans' HB.out hb2; clear hb2)
      go_roundw
      case rel => exact ⟨k + 1, by omega, by go_num, by assumption⟩
      case measure => simp [intOf]; omega
    · go_wp2
      go_ret
      exact ⟨rfl, HB.out⟩

set_option maxHeartbeats 1000000 in
theorem contains57 (L : List Pr) (v : Value) (base : Nat) (w : World) (h : w.ownsRow base 48 3 v L.length (pcells L)) (h4 : L.length ≤ 4) (ok : ∀ p ∈ L, PrOk p) :
    Calls Tryz.prog 81 #[v, .func (.func 84) #[] #[]] w fun e w' => e = .returned (.bool false) ∧ Below w.heap.size w w' := by
  have hi := index57 L v base w h h4 ok
  have HI : Hid _ := hi
  clear hi h ok
  go_enter Tryz.func81, Tryz.ntmps81
  go_wp2_with fail
  refine Calls.mono HI.out ?_
  rintro e w0 ⟨rfl, hb⟩
  have HB : Hid (Below w.heap.size w w0) := hb
  clear hb
  go_wp2
  go_ret
  exact ⟨rfl, HB.out⟩

set_option maxHeartbeats 1000000 in
theorem check_any (L : List Pr) (v : Value) (base : Nat) (w : World) (h : w.ownsRow base 48 3 v L.length (pcells L)) (h1 : 1 ≤ L.length) (h4 : L.length ≤ 4) (ok : ∀ p ∈ L, PrOk p) :
    Calls Tryz.prog 52 #[v] w fun e w' => e = .returned (.int .i64 0) ∧ Below w.heap.size w w' := by
  have H5 : Hid (∀ w1, Below w.heap.size w w1 → Calls Tryz.prog 81 #[v, .func (.func 82) #[] #[]] w1 fun e w' => e = .returned (.bool false) ∧ Below w1.heap.size w1 w') := fun w1 hb => contains55 L v base w1 ((Kp.of_below (B := 0) (ts := []) hb).owns h (by simp)) h4 ok
  have H6 : Hid (∀ w1, Below w.heap.size w w1 → Calls Tryz.prog 81 #[v, .func (.func 83) #[] #[]] w1 fun e w' => e = .returned (.bool false) ∧ Below w1.heap.size w1 w') := fun w1 hb => contains56 L v base w1 ((Kp.of_below (B := 0) (ts := []) hb).owns h (by simp)) h4 ok
  have H7 : Hid (∀ w1, Below w.heap.size w w1 → Calls Tryz.prog 81 #[v, .func (.func 84) #[] #[]] w1 fun e w' => e = .returned (.bool false) ∧ Below w1.heap.size w1 w') := fun w1 hb => contains57 L v base w1 ((Kp.of_below (B := 0) (ts := []) hb).owns h (by simp)) h4 ok
  obtain ⟨ao, cap, rfl⟩ := slice_form h
  clear h ok
  have hd0 : ((L.length : Int) == 0) = false := by rw [beq_eq_false_iff_ne]; omega
  go_enter Tryz.func52, Tryz.ntmps52
  go_wp2_with fail
  refine Calls.mono (H5.out _ (Below.refl _ _)) ?_
  rintro e wa ⟨rfl, hb⟩
  have HA : Hid (Below w.heap.size w wa) := hb
  clear hb
  go_wp2_with fail
  refine Calls.mono (H6.out _ HA.out) ?_
  rintro e wb ⟨rfl, hb⟩
  have HB : Hid (Below w.heap.size w wb) := below_trans' HA.out hb
  clear hb
  go_wp2_with fail
  refine Calls.mono (H7.out _ HB.out) ?_
  rintro e wc ⟨rfl, hb⟩
  have HC : Hid (Below w.heap.size w wc) := below_trans' HB.out hb
  clear hb
  go_wp2
  go_ret
  exact ⟨rfl, HC.out⟩
end Go.Proofs.YtakipjofboipmaaGreat

/- The walks of this proof: pairs of one's own. -/
namespace Go.Proofs.YtakipjofboipmaaGreat
open Go.RowKit Go.Sort

theorem Tryz.info5 : (Tryz.prog.info? 5).map (fun i => (i.zero, i.size, i.bytes)) = some (some (.int .u8 0), 1, 1) := by kernel_rfl

set_option maxHeartbeats 2000000 in
set_option maxRecDepth 100000 in
theorem sclone_any (s : ByteArray) (w : World) (hs : s.size ≤ 1000) :
    Calls Tryz.prog 168 #[.string s] w fun e w' => e = .returned (.string s) ∧ Below w.heap.size w w' := by
  by_cases h0 : s.size = 0
  · obtain rfl : s = ⟨#[]⟩ := by
      apply ByteArray.ext
      exact Array.eq_empty_of_size_eq_zero h0
    go_enter Tryz.func168, Tryz.ntmps168
    go_wp2
    go_ret
    exact ⟨rfl, Below.refl _ _⟩
  · obtain ⟨i0, hi, hz0, hz1, hz2⟩ := info_parts Tryz.info5
    obtain ⟨M, hM⟩ : ∃ M, madeCells (Value.int .u8 0).cells (((s.size : Nat) : Int).toNat * i0.size) = M := ⟨_, rfl⟩
    have hMs : M.size = s.size := by rw [← hM, size_madeCells, hz1]; simp
    have mk : ∀ W : World, (Instr.makeSlice 71 (.int .i64 (s.size : Int)) (.int .i64 (s.size : Int))).run Tryz.prog W = .ok (.slice (some ⟨W.heap.size, 0, none⟩) s.size s.size) (W.alloc (.cells M 5)) := fun W => by
      have h := run_make (P := Tryz.prog) W 71 5 i0 (.int .u8 0) Tryz.underlying71 hi hz0 .i64 .i64 (s.size : Int) (s.size : Int) (by omega) (by omega) (by rw [hz2]; omega) (by omega)
      rw [hM] at h
      simpa using h
    clear hM
    obtain ⟨Y, hY⟩ : ∃ Y, (M.toList.take 0 ++ Lib.byteCells s.data.toList ++ M.toList.drop (0 + s.size)).toArray = Y := ⟨_, rfl⟩
    have cp := Lib.run_copy_row_string (P := Tryz.prog) (w.alloc (.cells M 5)) 71 9 3 5 w.heap.size 0 s.size s.size s M 5 Tryz.underlying71 (by rw [hi]; simp [hz1]) (heap_alloc_new w _) (Nat.le_refl _) (by omega)
    rw [hY] at cp
    have hYl : Y.toList = Lib.byteCells s.data.toList := by
      rw [← hY, List.take_zero, List.nil_append, List.drop_of_length_le (by rw [Array.length_toList]; omega), List.append_nil]
    have row : ((w.alloc (.cells M 5)).setRow w.heap.size Y).heap[w.heap.size]? = some (.cells Y 5 (0, 0)) := setRow_heap _ _ M _ 5 (0, 0) (heap_alloc_new w _)
    have hYs : Y.size = s.size := by rw [← Array.length_toList, hYl, Lib.byteCells_length, ← Lib.size_eq]
    have us := Lib.run_unsafeString_row (P := Tryz.prog) ((w.alloc (.cells M 5)).setRow w.heap.size Y) 277 3 9 5 Tryz.underlying277 (by simp [Program.cellsOf, hi, hz1]) w.heap.size Y.size (by unfold World.shape?; rw [row]) s.data.toList
      (fun e => h0 (by rw [Lib.size_eq, e]; rfl)) (by rw [← Lib.size_eq]; omega) (by rw [← Lib.size_eq]; omega)
      (fun j x hx => Lib.cells_of_row row Y.size j _ (by rw [List.take_of_length_le (by rw [Array.length_toList]; exact Nat.le_refl _), hYl]; simp [Lib.byteCells, hx]))
    rw [← Lib.size_eq] at us
    have hz : ((s.size : Int) == 0) = false := by rw [beq_eq_false_iff_ne]; omega
    have hpos : 0 < s.size := by omega
    have B1 : Hid (Below w.heap.size w ((w.alloc (.cells M 5)).setRow w.heap.size Y)) := ((Below.refl _ w).alloc (Nat.le_refl _) _).trans ⟨rfl, rfl, rfl, by simp, fun k hk => setRow_other _ _ _ _ (by omega)⟩
    clear hY hYl row hMs
    go_enter Tryz.func168, Tryz.ntmps168
    go_wp2
    go_ret
    exact ⟨rfl, Lib.below_freeze B1.out (p := ⟨w.heap.size, 0, none⟩) (Nat.le_refl _) _⟩

set_option maxHeartbeats 400000 in
theorem clone_any (s : ByteArray) (w : World) (hs : s.size ≤ 1000) :
    Calls Tryz.prog 134 #[.string s] w fun e w' => e = .returned (.string s) ∧ Below w.heap.size w w' := by
  go_enter Tryz.func134, Tryz.ntmps134
  go_wp2_with (go_at_call 168; refine (sclone_any _ _ hs).mono ?_; rintro e w' ⟨rfl, hb⟩; have HB : Hid (Below w.heap.size w w') := hb; clear hb)
  go_ret
  exact ⟨rfl, by assumption⟩
end Go.Proofs.YtakipjofboipmaaGreat

/- A region that draws its order: operations that are quiet in a class of worlds, then a forced tail that may write: one walk serves every order. -/
namespace Go.Proofs.YtakipjofboipmaaGreat
open Go Go.Sort Go.RowKit

section
variable {P : Program} {ops : Array Oper} {md : Region.Mode} {C : World → Prop}

/-- The quiet head in whatever order, down to L. -/
def headQ (P : Program) (md : Region.Mode) (ops : Array Oper) (C : World → Prop) (n : Nat) (L : Array Bool → Act → Prop) : Nat → Array Bool → Act → Prop
  | 0, listed, a => L listed a
  | f + 1, listed, a => Region.ready md ops listed ≠ [] ∧ ∀ i ∈ Region.ready md ops listed, i < n ∧ qOp P ops C i (headQ P md ops C n L f (listed.setIfInBounds i true)) a

theorem headQ_any {n g : Nat} {L : Array Bool → Act → Prop} {Q : Exit → Act → World → Prop} (hL : ∀ listed a w, C w → L listed a → wpAny P md ops Q g listed a w) :
    ∀ (f : Nat) (listed : Array Bool) (a : Act) (w : World), C w → headQ P md ops C n L f listed a → wpAny P md ops Q (f + g) listed a w
  | 0, listed, a, w, hw, h => by rw [Nat.zero_add]; exact hL _ _ _ hw h
  | f + 1, listed, a, w, hw, h => by
    rw [Nat.add_right_comm]
    exact ⟨fun h0 => absurd h0 h.1, fun i hi => wpOp_of_qOp hw (fun a' w' hw' h' => headQ_any hL f _ a' w' hw' h') (h.2 i hi).2⟩

theorem headQ_first {n i : Nat} {oi : Oper} {v : Value} {L : Array Bool → Act → Prop} (hi : ops[i]? = some oi) (hsel : ∀ (j : Nat) (o : Oper) cs b, ops[j]? = some o → o.op ≠ .select cs b)
    (hs : Region.sinkB md ops n = true) (hc : Region.chainB md ops n = true) (hn : n < ops.size) (hin : i < n) (hend : ∀ listed a, L listed a → ∀ j ∈ Region.ready md ops listed, n ≤ j) :
    ∀ (f : Nat) (listed : Array Bool) (a : Act), HeadInv md ops n listed →
      (∀ j oj, ops[j]? = some oj → j ≠ i → listed.getD j true = false → (∀ e ∈ oj.after, Region.binds md e = true → e.on ≠ i) → oi.apart ops oj = true) →
      i ∈ Region.ready md ops listed → YieldsIn P ops C oi v a → headQ P md ops C n L f (listed.setIfInBounds i true) (a.put oi.dst v) → headQ P md ops C n L (f + 1) listed a := by
  intro f
  induction f with
  | zero =>
    intro listed a inv _ hr hy H
    have hun := (mem_ready.1 hr).1
    refine ⟨List.ne_nil_of_mem hr, fun j hj => ?_⟩
    have hjn : j < n := Nat.lt_of_not_le fun h => tail_waits hs hc hn inv _ i rfl hin hun j h hj
    refine ⟨hjn, ?_⟩
    by_cases hji : j = i
    · subst hji; exact hy.qOp hi H
    · have := hend _ _ H j (ready_mono hj hji); omega
  | succ f ih =>
    intro listed a inv hfree hr hy H
    have hun := (mem_ready.1 hr).1
    refine ⟨List.ne_nil_of_mem hr, fun j hj => ?_⟩
    have hjn : j < n := Nat.lt_of_not_le fun h => tail_waits hs hc hn inv _ i rfl hin hun j h hj
    refine ⟨hjn, ?_⟩
    by_cases hji : j = i
    · subst hji; exact hy.qOp hi H
    · obtain ⟨hjun, oj, hoj, hall⟩ := mem_ready.1 hj
      have hnot : ∀ e ∈ oj.after, Region.binds md e = true → e.on ≠ i := fun e he hb heq => by
        have g := hall e he hb
        rw [heq, getD_both hun] at g
        cases g
      have h2 := qOp_put hoj (hfree j oj hoj hji hjun hnot) (fun cs b => hsel i oi cs b hi) (fun cs b => hsel j oj cs b hoj) hy (H.2 j (ready_mono hj hji)).2
      refine qOp_mono (fun a' h3 => ih (listed.setIfInBounds j true) a' (inv.set hj hjn) (fun k ok hk hki hu hno => hfree k ok hk hki ?_ hno) (ready_mono hr (Ne.symm hji)) h3.1 ?_) h2
      · by_cases hjk : j = k
        · subst hjk; exact hjun
        · rw [getD_set_ne true hjk] at hu; exact hu
      · rw [Array.setIfInBounds_comm _ _ hji]
        exact h3.2

theorem headQ_lex {n g : Nat} {Lq : Act → Prop} (hsel : Region.noSelect ops = true) (hs : Region.sinkB md ops n = true) (hc : Region.chainB md ops n = true) (hn : n < ops.size) :
    ∀ (l : List Oper) (k : Nat) (listed : Array Bool) (a : Act), (∀ j, j < l.length → l[j]? = ops[k + j]?) → k + l.length = n → HeadInv md ops n listed → Region.lexHead md ops g l.length k listed = true → wpQuiet P ops C Lq l a →
    headQ P md ops C n (fun listed' a' => Region.seqB md ops g n listed' = true ∧ Lq a') l.length listed a
  | [], k, listed, a, _, hk, _, hB, h => by
    obtain rfl : k = n := by simpa using hk
    exact ⟨by simpa [Region.lexHead] using hB, h⟩
  | o :: l, k, listed, a, hl, hk, inv, hB, h => by
    have h0 : ops[k]? = some o := by simpa using (hl 0 (by simp)).symm
    simp only [List.length_cons, Region.lexHead, Bool.and_eq_true] at hB
    have hkn : k < n := by simp only [List.length_cons] at hk; omega
    have hr : k ∈ Region.ready md ops listed := by simpa using hB.1.1
    have hq : qOp P ops C k (wpQuiet P ops C Lq l) a := by unfold qOp; simp only [h0]; exact h
    obtain ⟨v, hy, hK⟩ := yieldsIn_of_qOp h0 hq
    exact headQ_first h0 (Region.noSelect_spec hsel) hs hc hn hkn (fun listed' a' hL => seqB_ready hL.1) l.length listed a inv (Region.free_spec h0 hB.1.2) hr hy
      (headQ_lex hsel hs hc hn l (k + 1) _ _ (fun j hj => by have := hl (j + 1) (by simp; omega); simpa [Nat.add_assoc, Nat.add_comm 1 j] using this) (by simp only [List.length_cons] at hk; omega) (inv.set hr hkn) hB.2 hK)

/-- The head quiet in the class 'some blocks laid, some draws', the tail as it stands in the text. -/
theorem wp_region_quiet_tail {id : Nat} {Q : Exit → Act → World → Prop} {a : Act} {w : World} {l : List Oper} (n : Nat) (hm : P.follows .mixedOrders = true) (hB : Region.lexTailB .any l.toArray n = true)
    (h : wpQuiet P l.toArray (fun w' => ∃ p : Regrown, w' = grow (redrawn w p.d) p.os) (fun a' => ∀ w', (∃ p : Regrown, w' = grow (redrawn w p.d) p.os) → wpList P l.toArray Q (l.drop n) a' w') (l.take n) a) : (Code.region id l.toArray true).wp P Q a w := by
  simp only [Region.lexTailB, Bool.and_eq_true, decide_eq_true_eq] at hB
  obtain ⟨⟨⟨⟨hsel, hn⟩, hs⟩, hc⟩, hlex⟩ := hB
  have hn' : n < l.length := by simpa using hn
  have htl : (l.take n).length = n := by simp; omega
  have hdl : (l.drop n).length = l.toArray.size - n := by simp
  have inv0 : HeadInv .any l.toArray n (Array.replicate l.toArray.size false) :=
    ⟨by simp, fun j oj _ hl => (by rw [getD_replicate_false] at hl; cases hl), fun t _ ht => getD_in (by simpa using ht) (getD_replicate_false _ _)⟩
  have H := headQ_lex (md := .any) (g := l.toArray.size - n) hsel hs hc hn (l.take n) 0 _ a (fun j hj => by
    have hj' : j < n := by rw [htl] at hj; exact hj
    simp [hj']) (by simpa using htl) inv0 (by rw [htl]; exact hlex) h
  refine wp_region_any hm ?_
  have := headQ_any (Q := Q) (g := l.toArray.size - n) (fun listed a' w' hw' hL => by
    have := wpAny_of_seq (md := .any) (Q' := Q) (l.drop n) n listed a' w' (fun j => by simp [List.getElem?_drop]) (by rw [hdl]; exact hL.1) (hL.2 w' hw')
    rwa [hdl] at this) _ _ _ { w with drawn := w.drawn + 1 } ⟨⟨w.drawn + 1, #[]⟩, by rw [grow_empty]; rfl⟩ H
  rw [htl, show n + (l.toArray.size - n) = l.toArray.size by omega] at this
  exact this
end
end Go.Proofs.YtakipjofboipmaaGreat
