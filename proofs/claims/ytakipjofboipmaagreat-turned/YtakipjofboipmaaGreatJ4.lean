/- The kit of this proof: a row of bytes that may bear a mark behind its last cell (what '[]byte(s)' makes), and append onto it. -/
import Derived.Test.YtakipjofboipmaaGreatJ2
import Derived.Test.YtakipjofboipmaaGreatJ3
import Derived.Laws.IdiomCopy
import Derived.Laws.IdiomStrings
import Derived.Deep.AppendLies
import Derived.Deep.RegionLaw
namespace Go.Proofs.YtakipjofboipmaaGreat
open Go.RowKit

/-- A row of bytes; none of its cells is frozen. -/
def BRow (w : World) (v : Value) (l : List UInt8) : Prop :=
  (v = .slice none 0 0 ∧ l = []) ∨
  ∃ g cap cur fz, v = .slice (some ⟨g, 0, none⟩) l.length cap ∧ w.heap[g]? = some (.cells cur 5 fz) ∧ (fz = (0, 0) ∨ cap ≤ fz.1) ∧ l.length ≤ cap ∧ cap ≤ maxLen ∧ cur.size = cap ∧ cur.toList.take l.length = bcells l

/-- One that lies in D. -/
def OwnsJ (w : World) (D : Nat → Prop) (v : Value) (l : List UInt8) : Prop := BRow w v l ∧ ∀ g, v.ownBlock = some g → D g

theorem BRow.form {w : World} {v : Value} {l : List UInt8} (h : BRow w v l) : ∃ ao cap, v = .slice ao l.length cap := by
  rcases h with ⟨rfl, rfl⟩ | ⟨g, cap, cur, fz, rfl, _⟩
  · exact ⟨_, _, rfl⟩
  · exact ⟨_, _, rfl⟩

theorem BRow.lt {w : World} {v : Value} {l : List UInt8} (h : BRow w v l) {g : Nat} (hg : v.ownBlock = some g) : g < w.heap.size := by
  rcases h with ⟨rfl, _⟩ | ⟨g', cap, cur, fz, rfl, hb, _⟩
  · simp [Value.ownBlock] at hg
  · simp [Value.ownBlock] at hg
    subst hg
    exact lt_of_block hb

theorem BRow.of {w : World} {base : Nat} {v : Value} {l : List UInt8} (h : w.ownsRow base 5 1 v l.length (bcells l)) : BRow w v l := by
  rcases h.2 with ⟨rfl, h0⟩ | ⟨g, cap, cur, rfl, _, hg, h1, h2, h3, h4⟩
  · exact .inl ⟨rfl, List.length_eq_zero_iff.1 h0⟩
  · exact .inr ⟨g, cap, cur, (0, 0), rfl, hg, .inl rfl, h1, h2, by simpa using h3, by simpa using h4⟩

theorem BRow.keep {w w' : World} {v : Value} {l : List UInt8} (h : BRow w v l) (hk : ∀ g, v.ownBlock = some g → ∀ o, w.heap[g]? = some o → w'.heap[g]? = some o) : BRow w' v l := by
  rcases h with h | ⟨g, cap, cur, fz, rfl, hb, r⟩
  · exact .inl h
  · exact .inr ⟨g, cap, cur, fz, rfl, hk g rfl _ hb, r⟩

theorem BRow.kept {w w' : World} {N : Nat} {ts : List Nat} {v : Value} {l : List UInt8} (h : BRow w v l) (k : Kp N ts w w') (ht : 5 ∉ ts) : BRow w' v l := by
  rcases h with h | ⟨g, cap, cur, fz, rfl, hb, r⟩
  · exact .inl h
  · exact .inr ⟨g, cap, cur, fz, rfl, k.keep hb ht, r⟩

theorem OwnsJ.form {w : World} {D : Nat → Prop} {v : Value} {l : List UInt8} (h : OwnsJ w D v l) : ∃ ao cap, v = .slice ao l.length cap := h.1.form

theorem OwnsJ.nil (w : World) (D : Nat → Prop) : OwnsJ w D (.slice none 0 0) [] := ⟨.inl ⟨rfl, rfl⟩, fun g e => by simp [Value.ownBlock] at e⟩

theorem Kd.ownsJ {D D' : Nat → Prop} {ts : List Nat} {w w' : World} {v : Value} {l : List UInt8} (k : Kd D' ts w w') (h : OwnsJ w D v l) (ht : 5 ∉ ts) : OwnsJ w' D v l := by
  refine ⟨?_, h.2⟩
  rcases h.1 with h | ⟨g, cap, cur, fz, rfl, hb, r⟩
  · exact .inl h
  · exact .inr ⟨g, cap, cur, fz, rfl, k.keep hb ht, r⟩

theorem Kd.ownsJN {D D' : Nat → Prop} {ts : List Nat} {w w' : World} {v : Value} {l : List UInt8} (k : Kd D' ts w w') (h : OwnsJ w D v l) (hd : ∀ b, D b → b < w.heap.size → ¬ D' b) : OwnsJ w' D v l := by
  refine ⟨?_, h.2⟩
  rcases h.1 with h1 | ⟨g, cap, cur, fz, rfl, hb, r⟩
  · exact .inl h1
  · exact .inr ⟨g, cap, cur, fz, rfl, k.keepN hb (hd g (h.2 g rfl) (lt_of_block hb)), r⟩

theorem OwnsJ.less {w : World} {D : Nat → Prop} {v : Value} {l : List UInt8} {g : Nat} {c : Array Value} {e : TypeId} {f : Nat × Nat} (h : OwnsJ w D v l) (hg : w.heap[g]? = some (.cells c e f)) (he : e ≠ 5) : OwnsJ w (fun k => D k ∧ k ≠ g) v l := by
  refine ⟨h.1, fun g' hg' => ⟨h.2 g' hg', ?_⟩⟩
  rintro rfl
  rcases h.1 with ⟨rfl, _⟩ | ⟨g2, cap, cur, fz, rfl, hb, _⟩
  · simp [Value.ownBlock] at hg'
  · simp [Value.ownBlock] at hg'
    subst hg'
    rw [hg] at hb
    simp only [Option.some.injEq, Obj.cells.injEq] at hb
    exact he hb.2.1

/-- The cells of a row of bytes. -/
theorem BRow.cells {w : World} {l : List UInt8} {g n cap : Nat} (h : BRow w (.slice (some ⟨g, 0, none⟩) n cap) l) : ∀ j u, (bcells l)[j]? = some u → w.cell? ((⟨g, 0, none⟩ : Addr).add j) = some u := by
  intro j u hj
  rcases h with ⟨h, _⟩ | ⟨g', cap', cur, fz, hv, hb, _, hl, _, hs, ht⟩
  · cases h
  · simp only [Value.slice.injEq, Option.some.injEq, Addr.mk.injEq, and_true] at hv
    obtain ⟨rfl, _, rfl⟩ := hv
    have hadd : (⟨g, 0, none⟩ : Addr).add j = ⟨g, j, none⟩ := by unfold Addr.add; split <;> simp_all
    rw [hadd, cell_of_row w g j cur 5 fz hb]
    rw [← ht, List.getElem?_take] at hj
    split at hj
    · simpa using hj
    · cases hj

theorem setCells_heap (g : Nat) (t : TypeId) (fz : Nat × Nat) : ∀ (vs : List Value) (o : Nat) (w : World) (cur : Array Value), w.heap[g]? = some (.cells cur t fz) → o + vs.length ≤ cur.size →
    (w.setCells g o vs).heap[g]? = some (.cells (cur.toList.take o ++ vs ++ cur.toList.drop (o + vs.length)).toArray t fz) ∧ (∀ k, k ≠ g → (w.setCells g o vs).heap[k]? = w.heap[k]?) ∧ (w.setCells g o vs).os = w.os ∧ (w.setCells g o vs).tape = w.tape ∧ (w.setCells g o vs).output = w.output ∧ (w.setCells g o vs).heap.size = w.heap.size
  | [], o, w, cur, hg, _ => by
    refine ⟨?_, fun _ _ => rfl, rfl, rfl, rfl, rfl⟩
    show w.heap[g]? = _
    rw [hg]
    simp
  | v :: r, o, w, cur, hg, hl => by
    simp only [List.length_cons] at hl
    have hg' : (w.setCell ⟨g, o, none⟩ v).heap[g]? = some (.cells (cur.setIfInBounds o v) t fz) := by rw [setCell_eq_setRow w g o cur t fz v hg]; exact setRow_heap w g cur _ t fz hg
    obtain ⟨h1, h2, h3, h4, h5, h6⟩ := setCells_heap g t fz r (o + 1) (w.setCell ⟨g, o, none⟩ v) (cur.setIfInBounds o v) hg' (by simp; omega)
    refine ⟨?_, fun k hk => ?_, h3, h4, h5, ?_⟩
    · rw [World.setCells, h1]
      have e := list_seg_step cur.toList o v r (by simp; omega)
      simp only [Array.toList_setIfInBounds, List.length_cons] at e ⊢
      rw [e]
    · rw [World.setCells, h2 k hk]
      exact Below.heap_setCell _ _ _ _ hk
    · rw [World.setCells, h6]
      simp [World.setCell]

theorem bc_one (l : List UInt8) : ∀ u ∈ bcells l, u.oneCell' = true := fun u hu => by obtain ⟨x, _, rfl⟩ := List.mem_map.1 hu; rfl

/-- append onto such a row. -/
theorem run_append_mark (P : Program) (w : World) (t ty : TypeId) (i : TypeInfo) (ht : P.underlying t = some (.slice 5)) (hi : P.info? 5 = some i) (hz : i.zero = some (.int .u8 0)) (h1 : i.size = 1) (h2 : i.bytes = 1)
    (v : Value) (l r : List UInt8) (h : BRow w v l) (ad : Addr) (c : Nat) (hr : ∀ j u, (bcells r)[j]? = some u → w.cell? (ad.add j) = some u) (hm : 0 < r.length) (hb : l.length + r.length ≤ 140737488355328) :
    ∃ g cap w', (Builtin.append_ #[t, t] ty #[v, .slice (some ad) r.length c]).run P w = .ok (.slice (some ⟨g, 0, none⟩) (l.length + r.length) cap) w' ∧ BRow w' (.slice (some ⟨g, 0, none⟩) (l.length + r.length) cap) (l ++ r) ∧ w.grownBy w' v.ownBlock ∧ (v.ownBlock = some g ∨ w.heap.size ≤ g) := by
  have hlr : (bcells r).length = r.length := bcells_len r
  have old : ∀ hown : w.ownsRow 0 5 1 v l.length (bcells l), ∃ g cap w', (Builtin.append_ #[t, t] ty #[v, .slice (some ad) r.length c]).run P w = .ok (.slice (some ⟨g, 0, none⟩) (l.length + r.length) cap) w' ∧ BRow w' (.slice (some ⟨g, 0, none⟩) (l.length + r.length) cap) (l ++ r) ∧ w.grownBy w' v.ownBlock ∧ (v.ownBlock = some g ∨ w.heap.size ≤ g) := fun hown => by
    obtain ⟨g, cap, w', a1, a2, a3, a4, _⟩ := run_append_lies (P := P) w t ty 0 5 i (.int .u8 0) 1 1 ht hi hz h1 h2 rfl (by decide) v l.length (bcells l) hown ad r.length c (bcells r) (by rw [hlr, Nat.mul_one]) hr (bc_one r) hm (by unfold maxLen; omega) (by omega) (Nat.zero_le _) w.heap.size rfl
    refine ⟨g, cap, w', a1, ?_, a3, a4.imp id fun e => by omega⟩
    rw [← bcells_append, ← List.length_append] at a2
    rw [← List.length_append]
    exact BRow.of a2
  rcases h with ⟨rfl, rfl⟩ | ⟨g, cap, cur, fz, rfl, hg, hfz, hl, hcm, hcs, htk⟩
  · exact old (World.ownsRow_nil _ _ _ _)
  · rcases hfz with rfl | hfz
    · exact old ⟨by rw [bcells_len, Nat.mul_one], .inr ⟨g, cap, cur, rfl, Nat.zero_le _, hg, hl, hcm, by rw [hcs, Nat.mul_one], by rw [Nat.mul_one]; exact htk⟩⟩
    · by_cases hroom : l.length + r.length ≤ cap
      · have hf := run_firstCells_some (P := P) w 1 r.length ad r.length c (bcells r) (by rw [hlr, Nat.mul_one]) hr
        have hst := run_storeCells_cells (P := P) g l.length (bcells r) 0 w (fun j hj => by
            rw [cell_of_row w g _ cur 5 fz hg]
            rw [hlr] at hj
            simp; omega) (fun j hj => by
            rw [hlr] at hj
            obtain ⟨lo, hi'⟩ := fz
            simp only [World.frozen?, hg, Bool.and_eq_false_iff, decide_eq_false_iff_not]
            left
            simp only at hfz
            omega) (bc_one r)
        simp only [Nat.add_zero] at hst
        obtain ⟨e1, e2, e3, e4, e5, e6⟩ := setCells_heap g 5 fz (bcells r) l.length w cur hg (by rw [hlr]; omega)
        refine ⟨g, cap, _, ?_, .inr ⟨g, cap, _, fz, by rw [List.length_append], e1, .inr hfz, by rw [List.length_append]; exact hroom, hcm, ?_, ?_⟩, ⟨e3, e4, e5, by rw [e6]; exact Nat.le_refl _, fun k _ hk => e2 k (fun e => hk (by simp [Value.ownBlock, e]))⟩, .inl rfl⟩
        · simp [Builtin.append_, run_underlying ht, sizeOf, typeInfo, hi, h1, Builtin.lenOf, hroom, hf, Addr.add_lit, hst]
        · simp only [List.size_toArray, List.length_append, List.length_take, List.length_drop, Array.length_toList, hlr]
          omega
        · rw [htk, List.length_append, bcells_append]
          have e : l.length + r.length = (bcells l ++ bcells r).length := by rw [List.length_append, bcells_len, bcells_len]
          rw [e]
          exact List.take_left
      · have holds : ∀ j u, (bcells l)[j]? = some u → w.cell? ((⟨g, 0, none⟩ : Addr).add j) = some u := BRow.cells (l := l) (n := l.length) (cap := cap) (.inr ⟨g, cap, cur, fz, rfl, hg, .inr hfz, hl, hcm, hcs, htk⟩)
        have hr' := run_append_grow (P := P) w t ty 5 i (.int .u8 0) ht hi hz ⟨g, 0, none⟩ l.length cap (bcells l) (by rw [bcells_len, h1, Nat.mul_one]) holds ad r.length c (bcells r) (by rw [hlr, h1, Nat.mul_one]) hr (by omega) (by omega) (by rw [h2]; exact growslice_fits (by omega) (by omega))
        have hge := grownCap_ge w (l.length + r.length) cap 5
        have hcm2 : grownCap w (l.length + r.length) cap 5 ≤ maxLen := grownCap_le_maxLen w (l.length + r.length) cap 5 (by unfold maxLen; omega)
        refine ⟨w.heap.size, _, _, hr', .inr ⟨w.heap.size, _, _, (0, 0), by rw [List.length_append], heap_alloc_new w.drew _, .inl rfl, by rw [List.length_append]; exact hge, hcm2, ?_, ?_⟩, ⟨rfl, rfl, rfl, by simp, fun k hk _ => (Below.heap_alloc w.drew _ k hk)⟩, .inr (Nat.le_refl _)⟩
        · have hz1 : (Value.int IntKind.u8 0).cells.size = 1 := rfl
          simp only [Array.size_append, List.size_toArray, size_zeroCells, hz1, bcells_len]
          omega
        · simp only [Array.toList_append, List.append_assoc]
          rw [← List.append_assoc, bcells_append]
          have e : (l ++ r).length = (bcells l ++ bcells r).length := by rw [List.length_append, List.length_append, bcells_len, bcells_len]
          rw [e]
          exact List.take_left

theorem wpList_appB {P : Program} (w : World) {ops : Array Oper} {rest : List Oper} {o : Oper} {a : Act} {Q : Exit → Act → World → Prop} (hgd : o.guard = none) (d s : Operand) (t t' : TypeId)
    (ho : o.op = .call { callee := .builtin .append, args := #[d, s], argTypes := #[t, t'] }) (v u : Value) (hd : a.eval d = v) (hs : a.eval s = u) {v' : Value} {w' : World}
    (hr : (Builtin.append_ #[t, t'] o.type #[v, u]).run P w = .ok v' w') (h : wpList P ops Q rest (a.put o.dst v') w') : wpList P ops Q (o :: rest) a w :=
  wpList_plain hgd fun _ hK => by
    unfold Oper.wp execOp
    simp only [ho, resolve, invoke, builtin, Sem.run_bind, Sem.run_pure, Result.andThen_ok, List.map_toArray, List.map_cons, List.map_nil, hd, hs, hr]
    exact hK _ _ h

/-- What append left lies in D. -/
theorem OwnsJ.lies {w w' : World} {D : Nat → Prop} {v : Value} {l l' : List UInt8} (h : OwnsJ w D v l) (hD : Opn D w) {g cap n : Nat} (hb : BRow w' (.slice (some ⟨g, 0, none⟩) n cap) l') (hat : v.ownBlock = some g ∨ w.heap.size ≤ g) : OwnsJ w' D (.slice (some ⟨g, 0, none⟩) n cap) l' :=
  ⟨hb, fun g' hg' => by
    simp only [Value.ownBlock, Option.some.injEq] at hg'
    subst hg'
    rcases hat with h1 | h1
    · exact h.2 _ h1
    · exact hD _ h1⟩

/-- Behind such an append. -/
theorem Kd.grownJ {D : Nat → Prop} {w w' : World} {v : Value} {l : List UInt8} (h : OwnsJ w D v l) (hg : w.grownBy w' v.ownBlock) : Kd D [5] w w' :=
  ⟨hg.os, hg.tape, hg.output, hg.size, fun i hi hor => by
    refine hg.block i hi (fun hik => ?_)
    have hd := h.2 i hik.symm
    rcases h.1 with ⟨rfl, _⟩ | ⟨g, cap, cur, fz, rfl, hgg, _⟩
    · simp [Value.ownBlock] at hik
    · simp only [Value.ownBlock, Option.some.injEq] at hik
      subst hik
      rcases hor with h1 | h1
      · exact h1 hd
      · exact h1 _ _ _ hgg (by simp)⟩
end Go.Proofs.YtakipjofboipmaaGreat

/- The walks of this proof: a store in memory; Get and Scan. -/
namespace Go.Proofs.YtakipjofboipmaaGreat
open Go.RowKit Go.Sort

/-- What a store holds: all entries that batches ever made (they need not lie there any more); the batches, as they count, since the last one that was laid down, and how many of them are synced; the entries of the table in memory; the tables that were laid down; the last batch that was; snapshots; the last snapshot's number; the last batch's. -/
structure St where
  E : List En
  B : List (List Pr)
  sy : Nat
  M : List En
  T : List Lb
  la : Int
  S : List Sn
  lastSnap : Int
  last : Int

/-- The journal's bytes. -/
def St.J (x : St) : List UInt8 := x.B.flatMap recB

/-- Tables as cells: entries, level. -/
def lcells (T : List Lb) (Vs : List Value) : List Value := (T.zip Vs).flatMap fun x => [x.2, .int .i64 x.1.1]

/-- The row of tables lies in D, their entries in F. -/
def TabsIn (w : World) (D F : Nat → Prop) (vL : Value) (T : List Lb) : Prop :=
  ∃ Vs : List Value, Vs.length = T.length ∧ OwnsIn w D 169 2 vL T.length (lcells T Vs) ∧ ∀ (k : Nat) t v, T[k]? = some t → Vs[k]? = some v → OwnsIn w F 58 4 v t.2.length (ecells t.2)

/-- A store that lies in block sb, its rows in D, its tables' entries in F. -/
def StoreAt (D F : Nat → Prop) (sb : Nat) (x : St) (w : World) : Prop :=
  ∃ (vE vL vR vS : Value), D sb ∧ w.heap[sb]? = some (.cells #[vE, vL, vR, .int .i64 (rl (x.B.take x.sy)), .int .i64 x.la, vS, .int .i64 x.lastSnap, .int .i64 x.last] 118 (0, 0)) ∧
    OwnsIn w D 58 4 vE x.M.length (ecells x.M) ∧ TabsIn w D F vL x.T ∧ OwnsJ w D vR x.J ∧ OwnsIn w D 174 2 vS x.S.length (scells x.S)

/-- What is true of a store's levels. -/
structure Lv (x : St) : Prop where
  msorted : Sorted x.M
  mem : ∀ e, e ∈ x.M ↔ e ∈ x.E ∧ x.la < e.s
  tsub : ∀ t ∈ x.T, ∀ e ∈ t.2, e ∈ x.E ∧ e.s ≤ x.la
  tsorted : ∀ t ∈ x.T, Sorted t.2
  tne : ∀ t ∈ x.T, t.2 ≠ []
  lay : LayX (x.T.map (·.2))
  lev : x.T.Pairwise fun a b => a.1 < b.1 ∨ (a.1 = 0 ∧ b.1 = 0)
  lev2 : ∀ t ∈ x.T, 0 ≤ t.1 ∧ t.1 ≤ 2
  view : ∀ q, (x.la ≤ q ∨ ∃ s ∈ x.S, s.q = q) → ∀ k, skO (fndL (x.T.map (·.2)) k q) = skO (fnd (x.E.filter fun e => decide (e.s ≤ x.la)) k q)
  tfew : x.T.length < 1000000000
  la0 : 0 ≤ x.la
  la1 : x.last = x.la + x.B.length
  bok : ∀ b ∈ x.B, Bt b
  bsy : x.sy ≤ x.B.length
  bent : ∀ e, (e ∈ x.E ∧ x.la < e.s) ↔ ∃ (i : Nat) (b : List Pr) (p : Pr), x.B[i]? = some b ∧ p ∈ b ∧ e = toEn (x.la + 1 + i) p

theorem Lv.la2 {x : St} (h : Lv x) : x.la ≤ x.last := by have := h.la1; omega

theorem flat_le {B : List (List Pr)} (h : ∀ b ∈ B, Bt b) : rl B ≤ B.length * 73 := by
  have := flat_bounds recB 8 73 B fun b hb => recB_len (h b hb)
  unfold rl
  omega

theorem Lv.jl {x : St} (h : Lv x) (hl : x.last < 1000000000) : x.J.length + 1000 ≤ 140737488355328 := by
  have := flat_le h.bok
  have h1 := h.la1
  have h0 := h.la0
  have : x.B.length < 1000000000 := by omega
  show rl x.B + 1000 ≤ _
  omega

/-- What is true of every store. -/
structure StOk (x : St) : Prop where
  slast : ∀ e ∈ x.E, e.s ≤ x.last
  sorted : Sorted x.E
  few : x.E.length < 1000000000
  seqs : ∀ e ∈ x.E, e.s ≤ 9223372036854775807
  keys : ∀ e ∈ x.E, e.k.size ≤ 1000
  snaps : x.S.length ≤ 4
  lv : Lv x

theorem sorted_nodup {E : List En} (h : Sorted E) : E.Nodup := by
  refine List.Pairwise.imp ?_ h
  intro a b hab he
  subst he
  unfold elt at hab
  rw [oc_lt, kc_self] at hab
  rcases hab with h | h <;> omega

open Classical in
theorem sub_len {A E : List En} (hA : Sorted A) (hE : Sorted E) (hs : ∀ e ∈ A, e ∈ E) : A.length ≤ E.length := by
  have h : A.Perm (E.filter fun e => decide (e ∈ A)) := by
    rw [List.perm_ext_iff_of_nodup (sorted_nodup hA) ((sorted_nodup hE).sublist List.filter_sublist)]
    intro e
    simp only [List.mem_filter, decide_eq_true_eq]
    exact ⟨fun h => ⟨hs e h, h⟩, fun h => h.2⟩
  rw [h.length_eq]
  exact List.length_filter_le _ _

theorem TabsIn.kd {D' : Nat → Prop} {w w' : World} {D F : Nat → Prop} {vL : Value} {T : List Lb} {ts : List Nat} (h : TabsIn w D F vL T) (k : Kd D' ts w w') (h1 : 169 ∉ ts) (h2 : 58 ∉ ts) : TabsIn w' D F vL T := by
  obtain ⟨Vs, hl, ho, hr⟩ := h
  exact ⟨Vs, hl, k.ownsIn ho h1, fun i t v ht hv => k.ownsIn (hr i t v ht hv) h2⟩

/-- Entries that nobody writes any more. -/
theorem TabsIn.kept {D' : Nat → Prop} {w w' : World} {D F : Nat → Prop} {vL : Value} {T : List Lb} {ts : List Nat} (h : TabsIn w D F vL T) (k : Kd D' ts w w') (h1 : 169 ∉ ts) (hF : ∀ b, b < w.heap.size → F b → ¬ D' b) : TabsIn w' D F vL T := by
  obtain ⟨Vs, hl, ho, hr⟩ := h
  refine ⟨Vs, hl, k.ownsIn ho h1, fun i t v ht hv => ?_⟩
  have := hr i t v ht hv
  exact ⟨k.ownsN this.own fun g hg => hF g (this.own.lt g hg).2 (this.dom g hg), this.dom⟩

theorem lcells_get {T : List Lb} {Vs : List Value} {k : Nat} {t : Lb} {v : Value} (ht : T[k]? = some t) (hv : Vs[k]? = some v) : (lcells T Vs)[k * 2]? = some v ∧ (lcells T Vs)[k * 2 + 1]? = some (.int .i64 t.1) := by
  have hz : (T.zip Vs)[k]? = some (t, v) := by rw [List.getElem?_zip_eq_some]; exact ⟨ht, hv⟩
  exact ⟨flat_get _ 2 (fun _ => rfl) _ k (t, v) 0 hz (by omega), flat_get _ 2 (fun _ => rfl) _ k (t, v) 1 hz (by omega)⟩

theorem lcells_len {T : List Lb} {Vs : List Value} (h : Vs.length = T.length) : (lcells T Vs).length = T.length * 2 := by
  unfold lcells
  rw [flat_len _ 2 (fun _ => rfl), List.length_zip]
  rw [h, Nat.min_self]

theorem TabsIn.row {w : World} {D F : Nat → Prop} {vL : Value} {T : List Lb} (h : TabsIn w D F vL T) : LdRow w vL T := by
  obtain ⟨Vs, hl, ho, hr⟩ := h
  obtain ⟨ao, cap, rfl⟩ := slice_form ho.own
  refine ⟨ao, cap, rfl, fun hpos => ?_⟩
  rcases ho.own.2 with ⟨h0, _⟩ | ⟨g, cap', cur, hv, hb, hg, hnc, _⟩
  · simp only [Value.slice.injEq] at h0; omega
  · simp only [Value.slice.injEq] at hv
    obtain ⟨rfl, _, rfl⟩ := hv
    refine ⟨g, rfl, hnc, fun k t ht => ?_⟩
    have hk : k < T.length := (List.getElem?_eq_some_iff.1 ht).1
    obtain ⟨v, hv⟩ : ∃ v, Vs[k]? = some v := ⟨_, List.getElem?_eq_getElem (by omega)⟩
    obtain ⟨g1, g2⟩ := lcells_get ht hv
    have hlen := lcells_len hl
    refine ⟨v, ?_, enrow_of_owns (hr k t v ht hv).own, ?_⟩
    · rw [ho.own.cellAt _ (by omega)]; exact g1
    · rw [ho.own.cellAt _ (by omega)]; exact g2

theorem Lv.ok {x : St} (h : Lv x) (hs : Sorted x.E) (hf : x.E.length < 1000000000) : LvOk x.M x.T where
  few := Nat.lt_of_le_of_lt (sub_len h.msorted hs fun e he => ((h.mem e).1 he).1) hf
  sorted := h.msorted
  tfew := h.tfew
  tabs t ht := ⟨Nat.lt_of_le_of_lt (sub_len (h.tsorted t ht) hs fun e he => (h.tsub t ht e he).1) hf, h.tsorted t ht⟩

theorem Lv.layX {x : St} (h : Lv x) : LayX (runs x.M x.T) := by
  unfold runs LayX
  refine List.pairwise_cons.2 ⟨fun b hb e he e' he' _ => ?_, h.lay⟩
  obtain ⟨t, ht, rfl⟩ := List.mem_map.1 hb
  have h1 := ((h.mem e).1 he).2
  have h2 := (h.tsub t ht e' he').2
  omega

/-- Are two entries one? -/
def sameE (a b : En) : Bool := decide (a.k = b.k) && decide (a.s = b.s) && decide (a.g = b.g) && decide (a.v = b.v)
theorem sameE_iff {a b : En} : sameE a b = true ↔ a = b := by
  obtain ⟨k, s, g, v⟩ := a
  obtain ⟨k', s', g', v'⟩ := b
  simp only [sameE, Bool.and_eq_true, decide_eq_true_eq, En.mk.injEq]
  exact ⟨fun h => ⟨h.1.1.1, h.1.1.2, h.1.2, h.2⟩, fun h => ⟨⟨⟨h.1, h.2.1⟩, h.2.2.1⟩, h.2.2.2⟩⟩

/-- The entries that lie there, in one order. -/
def there (x : St) : List En := x.E.filter fun e => (runs x.M x.T).any fun a => a.any fun b => sameE e b

theorem there_sub (x : St) : (there x).Sublist x.E := List.filter_sublist

theorem StOk.gh {x : St} (h : StOk x) : Gh (there x) x.M x.T := by
  have hs : Sorted (there x) := h.sorted.sublist (there_sub x)
  have hm : ∀ e, e ∈ there x ↔ ∃ a ∈ runs x.M x.T, e ∈ a := fun e => by
    have hany : ((runs x.M x.T).any fun a => a.any fun b => sameE e b) = true ↔ ∃ a ∈ runs x.M x.T, e ∈ a := by
      simp only [List.any_eq_true, sameE_iff]
      constructor
      · rintro ⟨a, ha, b, hb, rfl⟩
        exact ⟨a, ha, hb⟩
      · rintro ⟨a, ha, hb⟩
        exact ⟨a, ha, e, hb, rfl⟩
    unfold there
    rw [List.mem_filter, hany]
    constructor
    · exact fun g => g.2
    · rintro ⟨a, ha, he⟩
      refine ⟨?_, a, ha, he⟩
      unfold runs at ha
      rcases List.mem_cons.1 ha with rfl | ha
      · exact ((h.lv.mem e).1 he).1
      · obtain ⟨t, ht, rfl⟩ := List.mem_map.1 ha
        exact (h.lv.tsub t ht e he).1
  refine ⟨hs, hm, fun k q => fnd_layers hs hm h.lv.layX (fun a ha => ?_) k q, Nat.lt_of_le_of_lt (there_sub x).length_le h.few, fun e he => h.seqs e ((there_sub x).subset he), fun e he => h.keys e ((there_sub x).subset he)⟩
  unfold runs at ha
  rcases List.mem_cons.1 ha with rfl | ha
  · exact h.lv.msorted
  · obtain ⟨t, ht, rfl⟩ := List.mem_map.1 ha
    exact h.lv.tsorted t ht

/-- What is seen of all entries is what is seen of those that lie there. -/
theorem StOk.sees {x : St} (h : StOk x) {q : Int} (hq : x.la ≤ q ∨ ∃ s ∈ x.S, s.q = q) (k : ByteArray) : skO (fndL (runs x.M x.T) k q) = sk x.E k q := by
  have h1 : fnd x.E k q = fndL [x.M, x.E.filter fun e => decide (e.s ≤ x.la)] k q := by
    refine fnd_layers h.sorted (fun e => ?_) ?_ ?_ k q
    · simp only [List.mem_cons, List.not_mem_nil, or_false, exists_eq_or_imp, exists_eq_left, List.mem_filter, decide_eq_true_eq, h.lv.mem]
      constructor
      · intro he
        by_cases hl : x.la < e.s
        · exact .inl ⟨he, hl⟩
        · exact .inr ⟨he, by omega⟩
      · rintro (g | g) <;> exact g.1
    · refine List.pairwise_cons.2 ⟨fun b hb e he e' he' _ => ?_, List.pairwise_singleton _ _⟩
      rw [List.mem_singleton] at hb
      subst hb
      have h1 := ((h.lv.mem e).1 he).2
      have h2 := (List.mem_filter.1 he').2
      simp only [decide_eq_true_eq] at h2
      omega
    · intro a ha
      rcases List.mem_cons.1 ha with rfl | ha
      · exact h.lv.msorted
      · rw [List.mem_singleton] at ha
        subst ha
        exact h.sorted.sublist List.filter_sublist
  rw [sk_eq, h1]
  unfold runs
  rw [fndL_cons, fndL_cons, fndL_one]
  cases fnd x.M k q with
  | some e => rfl
  | none => exact h.lv.view q hq k

theorem StoreAt.below {D F : Nat → Prop} {sb : Nat} {x : St} {w w' : World} (h : StoreAt D F sb x w) (hb : Below w.heap.size w w') : StoreAt D F sb x w' := by
  obtain ⟨vE, vL, vR, vS, hB, hs, hE, hT, hR, hS⟩ := h
  have k := Kd.of_below (D := D) (ts := []) hb
  exact ⟨vE, vL, vR, vS, hB, k.keep hs (by simp), k.ownsIn hE (by simp), hT.kd k (by simp) (by simp), k.ownsJ hR (by simp), k.ownsIn hS (by simp)⟩

/-- A store that a call upon other blocks leaves alone. -/
theorem StoreAt.apart {D F D' : Nat → Prop} {sb : Nat} {ts : List Nat} {x : St} {w w' : World} (h : StoreAt D F sb x w) (k : Kd D' ts w w') (hd : ∀ b, D b → b < w.heap.size → ¬ D' b) (hf : ∀ b, F b → b < w.heap.size → ¬ D' b) : StoreAt D F sb x w' := by
  obtain ⟨vE, vL, vR, vS, hB, hs, hE, ⟨Vs, hv, hT, hr⟩, hR, hS⟩ := h
  have f : ∀ {D0 : Nat → Prop} {e size v n xs}, (∀ b, D0 b → b < w.heap.size → ¬ D' b) → OwnsIn w D0 e size v n xs → OwnsIn w' D0 e size v n xs := fun hd ho => ⟨k.ownsN ho.own fun g hg => hd g (ho.dom g hg) (ho.own.lt g hg).2, ho.dom⟩
  exact ⟨vE, vL, vR, vS, hB, k.keepN hs (hd sb hB (lt_of_block hs)), f hd hE, ⟨Vs, hv, f hd hT, fun i t v ht hv => f hf (hr i t v ht hv)⟩, k.ownsJN hR hd, f hd hS⟩

theorem seqOf_seen {x : St} {n q : Int} (h : seqOf x.S x.last n = some q) (hl : x.la ≤ x.last) : x.la ≤ q ∨ ∃ s ∈ x.S, s.q = q := by
  unfold seqOf at h
  split at h
  · cases h; exact .inl hl
  · unfold snq at h
    obtain ⟨s, hs, rfl⟩ := Option.map_eq_some_iff.1 h
    exact .inr ⟨s, List.mem_of_find?_eq_some hs, rfl⟩

theorem scan_there {x : St} (h : StOk x) {f : ByteArray} {q : Int} {L : List Pr} {cur : Option ByteArray} (hq : x.la ≤ q ∨ ∃ s ∈ x.S, s.q = q) (hi : ScanInv (there x) f q L cur) : ScanInv x.E f q L cur := by
  have gh := h.gh
  have hsk : ∀ k, sk (there x) k q = sk x.E k q := fun k => by rw [← h.sees hq k, sk_eq, gh.fnd]
  have hsub := there_sub x
  refine ⟨hi.ord, fun p hp => ?_, fun e he hf hc y hy => ?_, fun c hc => ?_, ?_⟩
  · obtain ⟨a, b, c⟩ := hi.seen p hp
    exact ⟨a, by rw [← hsk]; exact b, c⟩
  · rw [← hsk] at hy
    have hy' := hy
    rw [sk_eq] at hy
    cases hfn : fnd (there x) e.k q with
    | none => rw [hfn] at hy; simp [skO] at hy
    | some e' =>
      obtain ⟨h1, h2, h3⟩ := fnd_some hfn
      have := hi.all e' h1 (by rw [h2]; exact hf) (fun c hc' => by rw [h2]; exact hc c hc') y (by rw [h2]; exact hy')
      rwa [h2] at this
  · obtain ⟨a, e, he, hk⟩ := hi.here c hc
    exact ⟨a, e, hsub.subset he, hk⟩
  · have h1 := hi.len
    cases cur with
    | none => simp only [cnt] at h1 ⊢; have := hsub.length_le; omega
    | some c =>
      simp only [cnt] at h1 ⊢
      have e1 := List.length_eq_countP_add_countP (fun e : En => decide (0 ≤ kc e.k c)) (l := there x)
      have e2 := List.length_eq_countP_add_countP (fun e : En => decide (0 ≤ kc e.k c)) (l := x.E)
      have e3 := hsub.countP_le (p := fun a : En => decide ¬(decide (0 ≤ kc a.k c) = true))
      omega

set_option maxHeartbeats 400000 in
theorem isKey_any (s : ByteArray) (w : World) (hs : s.size ≤ maxLen) :
    Calls Tryz.prog 64 #[.string s] w fun e w' => e = .returned (.bool (decide (1 ≤ s.size) && decide (s.size ≤ 6))) ∧ w' = w := by
  unfold maxLen at hs
  by_cases h1 : 1 ≤ s.size
  · have e : decide ((s.size : Int) ≤ 6) = (decide (1 ≤ s.size) && decide (s.size ≤ 6)) := by
      simp only [h1, decide_true, Bool.true_and, decide_eq_decide]; omega
    rw [← e]
    clear e
    go_enter Tryz.func64, Tryz.ntmps64
    go_wp2
    go_ret
    exact ⟨rfl, rfl⟩
  · simp only [h1, decide_false, Bool.false_and]
    go_enter Tryz.func64, Tryz.ntmps64
    go_wp2
    go_ret
    exact ⟨rfl, rfl⟩

theorem seenVal_skO (r : Option En) : seenVal r = skVal (skO r) := by
  cases r with
  | none => rfl
  | some e => simp only [seenVal, skO]; cases e.g <;> rfl

/-- What Get answers. -/
def getVal (x : St) (k : ByteArray) (n : Int) : Value :=
  if 1 ≤ k.size ∧ k.size ≤ 6 then
    match seqOf x.S x.last n with
    | none => .tuple #[.string ⟨#[]⟩, .int .i64 5]
    | some q => match sk x.E k q with
      | some v => .tuple #[.string v, .int .i64 0]
      | none => .tuple #[.string ⟨#[]⟩, .int .i64 6]
  else .tuple #[.string ⟨#[]⟩, .int .i64 1]

set_option maxHeartbeats 1000000 in
theorem get_any (x : St) (D F : Nat → Prop) (sb : Nat) (k : ByteArray) (n : Int) (w : World) (hx : StoreAt D F sb x w) (ok : StOk x) (hk : k.size ≤ maxLen) :
    Calls Tryz.prog 27 #[.pointer (some ⟨sb, 0, none⟩), .string k, .int .i64 n] w fun e w' => e = .returned (getVal x k n) ∧ Below w.heap.size w w' := by
  have hkey := isKey_any k w hk
  unfold getVal
  by_cases hkk : 1 ≤ k.size ∧ k.size ≤ 6
  · rw [if_pos hkk]
    simp only [hkk.1, hkk.2, decide_true, Bool.and_self] at hkey
    have HK : Hid _ := hkey
    clear hkey hk
    obtain ⟨vE, vL, vR, vS, hB, hs, hE, hT, hR, hS⟩ := id hx
    have c0 : w.cell? ⟨sb, 0, none⟩ = some vE := by simp [World.cell?, hs]
    have c1 : w.cell? ⟨sb, 1, none⟩ = some vL := by simp [World.cell?, hs]
    have c3 : w.cell? ⟨sb, 5, none⟩ = some vS := by simp [World.cell?, hs]
    have c5 : w.cell? ⟨sb, 7, none⟩ = some (.int .i64 x.last) := by simp [World.cell?, hs]
    have hq := seqAt_any x.S vS 0 sb n x.last w ok.snaps c3 c5 hS.own
    generalize hsq : seqOf x.S x.last n = r at hq
    have HQ : Hid _ := hq
    cases r with
    | none =>
      clear hx hs hE hT hR hS hq c0 c1 c3 c5
      simp only
      go_enter Tryz.func27, Tryz.ntmps27
      go_wp2_with fail
      refine Calls.mono HK.out ?_
      rintro e w0 ⟨rfl, rfl⟩
      go_wp2_with fail
      refine Calls.mono HQ.out ?_
      rintro e w1 ⟨rfl, hb⟩
      have HB : Hid (Below w0.heap.size w0 w1) := hb
      clear hb
      unfold seqVal
      go_wp2
      go_ret2
      exact ⟨rfl, HB.out⟩
    | some q =>
      simp only
      have hsn : ∀ w1, Below w.heap.size w w1 → Calls Tryz.prog 66 #[.pointer (some ⟨sb, 0, none⟩), .string k, .int .i64 q] w1 fun e w' => e = .returned (skVal (sk x.E k q)) ∧ Below w1.heap.size w1 w' := fun w1 hb => by
        rw [← ok.sees (seqOf_seen hsq ok.lv.la2) k, ← seenVal_skO]
        exact seen_any x.M x.T vE vL sb k q w1 (ok.lv.ok ok.sorted ok.few) (cell_later hb c0) ((enrow_of_owns hE.own).below hb) (cell_later hb c1) (hT.row.below hb)
      generalize sk x.E k q = r2 at hsn
      have HSN : Hid _ := hsn
      clear hx hs hE hT hR hS hq hsn c0 c1 c3 c5
      cases r2 with
      | none =>
        go_enter Tryz.func27, Tryz.ntmps27
        go_wp2_with fail
        refine Calls.mono HK.out ?_
        rintro e w0 ⟨rfl, rfl⟩
        go_wp2_with fail
        refine Calls.mono HQ.out ?_
        rintro e w1 ⟨rfl, hb⟩
        have HB : Hid (Below w0.heap.size w0 w1) := hb
        clear hb
        unfold seqVal
        go_wp2_with fail
        refine Calls.mono (HSN.out _ HB.out) ?_
        rintro e w2 ⟨rfl, hb⟩
        have HB2 : Hid (Below w0.heap.size w0 w2) := below_trans' HB.out hb
        clear hb
        unfold skVal
        go_wp2
        go_ret2
        exact ⟨rfl, HB2.out⟩
      | some v =>
        go_enter Tryz.func27, Tryz.ntmps27
        go_wp2_with fail
        refine Calls.mono HK.out ?_
        rintro e w0 ⟨rfl, rfl⟩
        go_wp2_with fail
        refine Calls.mono HQ.out ?_
        rintro e w1 ⟨rfl, hb⟩
        have HB : Hid (Below w0.heap.size w0 w1) := hb
        clear hb
        unfold seqVal
        go_wp2_with fail
        refine Calls.mono (HSN.out _ HB.out) ?_
        rintro e w2 ⟨rfl, hb⟩
        have HB2 : Hid (Below w0.heap.size w0 w2) := below_trans' HB.out hb
        clear hb
        unfold skVal
        go_wp2
        go_ret2
        exact ⟨rfl, HB2.out⟩
  · rw [if_neg hkk]
    have hf : (decide (1 ≤ k.size) && decide (k.size ≤ 6)) = false := by
      rw [Bool.and_eq_false_iff]
      by_cases h1 : 1 ≤ k.size
      · exact .inr (decide_eq_false_iff_not.2 fun h => hkk ⟨h1, h⟩)
      · exact .inl (decide_eq_false_iff_not.2 h1)
    rw [hf] at hkey
    have HK : Hid _ := hkey
    clear hkey hk hx
    go_enter Tryz.func27, Tryz.ntmps27
    go_wp2_with fail
    refine Calls.mono HK.out ?_
    rintro e w0 ⟨rfl, rfl⟩
    go_wp2
    go_ret2
    exact ⟨rfl, Below.refl _ _⟩

/-- What Scan answers. -/
def ScanAns (x : St) (f : ByteArray) (most n : Int) (w : World) (e : Ending) (w' : World) : Prop :=
  match seqOf x.S x.last n with
  | none => e = .returned (.tuple #[.slice none 0 0, .int .i64 5]) ∧ Below w.heap.size w w'
  | some q => if most < 0 then e = .returned (.tuple #[.slice none 0 0, .int .i64 4]) ∧ Below w.heap.size w w' else
      ∃ (vl : Value) (L : List Pr) (cur : Option ByteArray), e = .returned (.tuple #[vl, .int .i64 0]) ∧ w'.ownsRow w.heap.size 48 3 vl L.length (pcells L) ∧ Below w.heap.size w w' ∧ ScanInv x.E f q L cur ∧ (cur = none ∨ most ≤ L.length) ∧ L.length ≤ most

set_option maxHeartbeats 1000000 in
theorem scan_any (x : St) (D F : Nat → Prop) (sb : Nat) (f : ByteArray) (most n : Int) (w : World) (hx : StoreAt D F sb x w) (ok : StOk x) :
    Calls Tryz.prog 46 #[.pointer (some ⟨sb, 0, none⟩), .string f, .int .i64 most, .int .i64 n] w fun e w' => ScanAns x f most n w e w' := by
  obtain ⟨vE, vL, vR, vS, hB, hs, hE, hT, hR, hS⟩ := id hx
  have c0 : w.cell? ⟨sb, 0, none⟩ = some vE := by simp [World.cell?, hs]
  have c1 : w.cell? ⟨sb, 1, none⟩ = some vL := by simp [World.cell?, hs]
  have c3 : w.cell? ⟨sb, 5, none⟩ = some vS := by simp [World.cell?, hs]
  have c5 : w.cell? ⟨sb, 7, none⟩ = some (.int .i64 x.last) := by simp [World.cell?, hs]
  have hq := seqAt_any x.S vS 0 sb n x.last w ok.snaps c3 c5 hS.own
  unfold ScanAns
  generalize hsq : seqOf x.S x.last n = r at hq
  have HQ : Hid _ := hq
  cases r with
  | none =>
    clear hx hs hE hT hR hS hq c0 c1 c3 c5
    simp only
    go_enter Tryz.func46, Tryz.ntmps46
    go_wp2_with fail
    refine Calls.mono HQ.out ?_
    rintro e w1 ⟨rfl, hb⟩
    have HB : Hid (Below w.heap.size w w1) := hb
    clear hb
    unfold seqVal
    go_wp2
    go_ret2
    exact ⟨rfl, HB.out⟩
  | some q =>
    simp only
    by_cases hm : most < 0
    · simp only [hm, if_true]
      clear hx hs hE hT hR hS hq c0 c1 c3 c5
      go_enter Tryz.func46, Tryz.ntmps46
      go_wp2_with fail
      refine Calls.mono HQ.out ?_
      rintro e w1 ⟨rfl, hb⟩
      have HB : Hid (Below w.heap.size w w1) := hb
      clear hb
      unfold seqVal
      go_wp2
      go_ret2
      exact ⟨rfl, HB.out⟩
    · simp only [hm, if_false]
      have HSF : Hid (∀ w1, Below w.heap.size w w1 → Calls Tryz.prog 77 #[.pointer (some ⟨sb, 0, none⟩), .string f, .int .i64 most, .int .i64 q] w1 fun e w' => ScanPost x.E f most q w1 e w') := fun w1 hb =>
        (seenFrom_any (there x) x.M x.T vE vL sb f most q w1 ok.gh (ok.lv.ok ok.sorted ok.few) (cell_later hb c0) ((enrow_of_owns hE.own).below hb) (cell_later hb c1) (hT.row.below hb)).mono fun e w' ⟨vl, L, cur, h1, h2, h3, h4, h5⟩ => ⟨vl, L, cur, h1, h2, h3, scan_there ok (seqOf_seen hsq ok.lv.la2) h4, h5⟩
      clear hx hs hE hT hR hS hq c0 c1 c3 c5
      generalize hpost : (fun (e : Ending) (w' : World) => ∃ (vl : Value) (L : List Pr) (cur : Option ByteArray), e = .returned (.tuple #[vl, .int .i64 0]) ∧ w'.ownsRow w.heap.size 48 3 vl L.length (pcells L) ∧ Below w.heap.size w w' ∧ ScanInv x.E f q L cur ∧ (cur = none ∨ most ≤ L.length) ∧ L.length ≤ most) = PP
      have HPP : Hid _ := hpost
      clear hpost
      go_enter Tryz.func46, Tryz.ntmps46
      go_wp2_with fail
      refine Calls.mono HQ.out ?_
      rintro e w1 ⟨rfl, hb⟩
      have HB : Hid (Below w.heap.size w w1) := hb
      clear hb
      unfold seqVal
      go_wp2_with fail
      refine Calls.mono (HSF.out _ HB.out) ?_
      rintro e w2 ⟨vl, L, cur, rfl, ho, hb2, hI, hc, hlm⟩
      have R1 : Hid (w2.ownsRow w.heap.size 48 3 vl L.length (pcells L) ∧ Below w.heap.size w w2 ∧ ScanInv x.E f q L cur ∧ (cur = none ∨ most ≤ L.length) ∧ (L.length : Int) ≤ most) := ⟨owns_base ho HB.out.size, below_trans' HB.out hb2, hI, hc, hlm (by omega)⟩
      clear ho hb2 hI hc hlm
      go_wp2
      rw [← HPP.out]
      exact ⟨vl, L, cur, rfl, R1.out⟩
end Go.Proofs.YtakipjofboipmaaGreat

/- The walks of this proof: making a snapshot. -/
namespace Go.Proofs.YtakipjofboipmaaGreat
open Go.RowKit Go.Sort

theorem Tryz.info174 : (Tryz.prog.info? 174).map (fun i => (i.zero, i.size, i.bytes)) = some (some (.agg #[.int .i64 0, .int .i64 0]), 2, 16) := by kernel_rfl

theorem StoreAt.drew {D F : Nat → Prop} {sb : Nat} {x : St} {w : World} (h : StoreAt D F sb x w) : StoreAt D F sb x w.drew := h

/-- A field of a store that is written. -/
theorem set_field {w : World} {sb : Nat} {a0 a1 a2 a3 a4 a5 a6 a7 : Value} {t : TypeId} (h : w.heap[sb]? = some (.cells #[a0, a1, a2, a3, a4, a5, a6, a7] t (0, 0))) (i : Nat) (v : Value) :
    (w.setCell ⟨sb, i, none⟩ v).heap[sb]? = some (.cells (#[a0, a1, a2, a3, a4, a5, a6, a7].setIfInBounds i v) t (0, 0)) := heap_setCell_same w sb i _ t v h

/-- What a store holds besides its snapshots. -/
def Rest (D F : Nat → Prop) (x : St) (vE vL vR : Value) (w : World) : Prop :=
  OwnsIn w D 58 4 vE x.M.length (ecells x.M) ∧ TabsIn w D F vL x.T ∧ OwnsJ w D vR x.J

theorem Rest.kd {D F D' : Nat → Prop} {x : St} {vE vL vR : Value} {w w' : World} {ts : List Nat} (h : Rest D F x vE vL vR w) (k : Kd D' ts w w') (h1 : 58 ∉ ts) (h2 : 169 ∉ ts) (h3 : 5 ∉ ts) : Rest D F x vE vL vR w' :=
  ⟨k.ownsIn h.1 h1, h.2.1.kd k h2 h1, k.ownsJ h.2.2 h3⟩

/-- The snapshots' row put into its field. -/
theorem put_snaps {D F : Nat → Prop} {sb : Nat} {x : St} {w : World} {vE vL vR vS vS' : Value} {ls : Int} {S' : List Sn} (hs : w.heap[sb]? = some (.cells #[vE, vL, vR, .int .i64 (rl (x.B.take x.sy)), .int .i64 x.la, vS, .int .i64 ls, .int .i64 x.last] 118 (0, 0))) (hB : D sb)
    (hE : Rest D F x vE vL vR w) (hS : OwnsIn w D 174 2 vS' S'.length (scells S')) :
    StoreAt D F sb { x with S := S', lastSnap := ls } (w.setCell ⟨sb, 5, none⟩ vS') := by
  have k := Kd.field hB hs 5 vS'
  have r := hE.kd k (by simp) (by simp) (by simp)
  refine ⟨vE, vL, vR, vS', hB, ?_, r.1, r.2.1, r.2.2, k.ownsIn hS (by simp)⟩
  rw [set_field hs 5 vS']
  simp

theorem snaps_snoc {w : World} {D : Nat → Prop} {v : Value} {S : List Sn} {s : Sn} (h : OwnsIn w D 174 2 v (S.length + 1) (scells S ++ Sn.cells s)) : OwnsIn w D 174 2 v (S ++ [s]).length (scells (S ++ [s])) := by
  have e : scells (S ++ [s]) = scells S ++ Sn.cells s := by simp [scells]
  rw [e, List.length_append]
  exact h

set_option maxHeartbeats 1000000 in
theorem isFull_any (x : St) (D F : Nat → Prop) (sb : Nat) (w : World) (hx : StoreAt D F sb x w) (ok : StOk x) :
    Calls Tryz.prog 105 #[.pointer (some ⟨sb, 5, none⟩)] w fun e w' => e = .returned (.bool (decide (4 ≤ x.S.length))) ∧ w' = w := by
  obtain ⟨vE, vL, vR, vS, hB, hs, hE, hT, hR, hS⟩ := hx
  obtain ⟨ao, cap, rfl⟩ := slice_form hS.own
  have c3 : w.cell? ⟨sb, 5, none⟩ = some (.slice ao x.S.length cap) := by simp [World.cell?, hs]
  have hl4 := ok.snaps
  have e : decide ((4 : Int) ≤ (x.S.length : Int)) = decide (4 ≤ x.S.length) := by simp only [decide_eq_decide]; omega
  rw [← e]
  clear e hs hE hT hR hS
  go_enter Tryz.func105, Tryz.ntmps105
  go_wp2
  go_ret
  exact ⟨rfl, rfl⟩

set_option maxHeartbeats 2000000 in
theorem addSnap_any (x : St) (D F : Nat → Prop) (sb : Nat) (q : Int) (w : World) (hx : StoreAt D F sb x w) (ok : StOk x) (hBw : Opn D w) (h0 : 0 ≤ x.lastSnap) (h1 : x.lastSnap < 1000000000) :
    Calls Tryz.prog 106 #[.pointer (some ⟨sb, 5, none⟩), .int .i64 q] w fun e w' => e = .returned (.int .i64 (x.lastSnap + 1)) ∧ StoreAt D F sb { x with S := x.S ++ [⟨x.lastSnap + 1, q⟩], lastSnap := x.lastSnap + 1 } w' ∧ Kd D [118, 174] w w' := by
  obtain ⟨vE, vL, vR, vS, hB, hs, hE, hT, hR, hS⟩ := hx
  obtain ⟨i0, hi, hz0, hz1, hz2⟩ := info_parts Tryz.info174
  obtain ⟨ls, hls⟩ : ∃ ls, x.lastSnap = ls := ⟨_, rfl⟩
  have hl4 := ok.snaps
  rw [hls] at hs h0 h1 ⊢
  have c4 : w.cell? ⟨sb, 6, none⟩ = some (.int .i64 ls) := by simp [World.cell?, hs]
  have f4 : w.frozen? ⟨sb, 6, none⟩ = false := by simp [World.frozen?, hs]
  have k1 := Kd.field hB hs 6 (.int .i64 (ls + 1))
  have s1 := set_field hs 6 (.int .i64 (ls + 1))
  have r1 : Rest D F x vE vL vR _ := Rest.kd ⟨hE, hT, hR⟩ k1 (by simp) (by simp) (by simp)
  have o1 := k1.ownsIn hS (by simp)
  generalize hw1 : w.setCell ⟨sb, 6, none⟩ (.int .i64 (ls + 1)) = w1 at k1 s1 r1 o1
  simp only [List.setIfInBounds_toArray, List.set_cons_succ, List.set_cons_zero] at s1
  have H : Hid (StOk x ∧ Kd D [118] w w1 ∧ w1.heap[sb]? = some (.cells #[vE, vL, vR, .int .i64 (rl (x.B.take x.sy)), .int .i64 x.la, vS, .int .i64 (ls + 1), .int .i64 x.last] 118 (0, 0)) ∧ Rest D F x vE vL vR w1 ∧ D sb) := ⟨ok, k1, s1, r1, hB⟩
  have c3 : w1.cell? ⟨sb, 5, none⟩ = some vS := by simp [World.cell?, s1]
  have c4' : w1.cell? ⟨sb, 6, none⟩ = some (.int .i64 (ls + 1)) := by simp [World.cell?, s1]
  have hsz1 : sb < w1.heap.size := lt_of_block s1
  have HD1 : Hid (Opn D w1) := hBw.later k1.size
  have HW : Hid (w.setCell ⟨sb, 6, none⟩ (.int .i64 (ls + 1)) = w1) := hw1
  have HO : Hid (OwnsIn w1 D 174 2 vS x.S.length (scells x.S)) := o1
  clear hBw hs hE hT hR hS ok k1 s1 r1 o1 hw1
  go_enter Tryz.func106, Tryz.ntmps106
  go_wp2
  rw [HW.out]
  go_region_law (refine step_append_lies _ rfl _ _ 114 rfl 0 174 i0 _ 2 16 Tryz.underlying114 hi hz0 hz1 hz2 rfl (by decide) vS x.S.length (scells x.S) rfl (by exact HO.out.own.alloc _) ⟨w1.heap.size, 0, none⟩ 1 1 (Sn.cells ⟨ls + 1, q⟩) rfl rfl (by intro j u hj; match j, hj with | 0, hj => (simp [Sn.cells] at hj; subst hj; simp [Addr.add]) | 1, hj => (simp [Sn.cells] at hj; subst hj; simp [Addr.add]) | j + 2, hj => (simp [Sn.cells] at hj)) (by intro u hu; simp [Sn.cells] at hu; rcases hu with rfl | rfl <;> rfl) (by omega) (by unfold maxLen; omega) (by omega) (Nat.zero_le _) _ rfl ?_; intro g cap w2 hown hgrow hat hlt; have K2 : Hid (Kd D [174] w1 w2) := Kd.grown ((Kd.refl _ _ _).alloc _).drew (by exact HO.out.alloc _) hgrow (by simp); have c3b : w2.cell? ⟨sb, 5, none⟩ = some vS := (by simp [World.cell?, K2.out.keep H.out.2.2.1 (by simp)]); have f3b : w2.frozen? ⟨sb, 5, none⟩ = false := (by simp [World.frozen?, K2.out.keep H.out.2.2.1 (by simp)]); have c4b : w2.cell? ⟨sb, 6, none⟩ = some (.int .i64 (ls + 1)) := (by simp [World.cell?, K2.out.keep H.out.2.2.1 (by simp)]); have HN : Hid (OwnsIn w2 D 174 2 (.slice (some ⟨g, 0, none⟩) (x.S.length + 1) cap) (x.S.length + 1) (scells x.S ++ Sn.cells ⟨ls + 1, q⟩)) := HO.out.put HD1.out hown (hat.imp id fun e => by rw [e]; simp); clear hown hgrow hat hlt)
  all_goals go_wp2
  all_goals go_ret
  all_goals exact ⟨rfl, put_snaps (K2.out.keep H.out.2.2.1 (by simp)) H.out.2.2.2.2 (H.out.2.2.2.1.kd K2.out (by simp) (by simp) (by simp)) (snaps_snoc HN.out), ((H.out.2.1.mono (by simp)).trans (K2.out.mono (by simp))).trans ((Kd.field H.out.2.2.2.2 (K2.out.keep H.out.2.2.1 (by simp)) 5 _).mono (by simp))⟩

set_option maxHeartbeats 1000000 in
theorem snap_any (x : St) (D F : Nat → Prop) (sb : Nat) (w : World) (hx : StoreAt D F sb x w) (ok : StOk x) (hBw : Opn D w) (h0 : 0 ≤ x.lastSnap) (h1 : x.lastSnap < 1000000000) :
    Calls Tryz.prog 68 #[.pointer (some ⟨sb, 0, none⟩)] w fun e w' =>
      (x.S.length = 4 ∧ e = .returned (.tuple #[.int .i64 0, .int .i64 7]) ∧ w' = w) ∨
      (x.S.length < 4 ∧ e = .returned (.tuple #[.int .i64 (x.lastSnap + 1), .int .i64 0]) ∧ StoreAt D F sb { x with S := x.S ++ [⟨x.lastSnap + 1, x.last⟩], lastSnap := x.lastSnap + 1 } w' ∧ Kd D [118, 174] w w') := by
  have hf := isFull_any x D F sb w hx ok
  have hl4 := ok.snaps
  by_cases h4 : 4 ≤ x.S.length
  · simp only [h4, decide_true] at hf
    have HF : Hid _ := hf
    clear hf hx
    go_enter Tryz.func68, Tryz.ntmps68
    go_wp2_with fail
    refine Calls.mono HF.out ?_
    rintro e w0 ⟨rfl, rfl⟩
    go_wp2
    go_ret2
    exact .inl ⟨by omega, rfl, rfl⟩
  · simp only [h4, decide_false] at hf
    have HF : Hid _ := hf
    have HA : Hid (∀ w', StoreAt D F sb x w' → Opn D w' → Calls Tryz.prog 106 #[.pointer (some ⟨sb, 5, none⟩), .int .i64 x.last] w' fun e w'' => e = .returned (.int .i64 (x.lastSnap + 1)) ∧ StoreAt D F sb { x with S := x.S ++ [⟨x.lastSnap + 1, x.last⟩], lastSnap := x.lastSnap + 1 } w'' ∧ Kd D [118, 174] w' w'') := fun w' hw hb => addSnap_any x D F sb x.last w' hw ok hb h0 h1
    have HX : Hid (StoreAt D F sb x w) := hx
    obtain ⟨vE, vL, vR, vS, hB, hs, hE, hT, hR, hS⟩ := hx
    have c5 : w.cell? ⟨sb, 7, none⟩ = some (.int .i64 x.last) := by simp [World.cell?, hs]
    have HBW : Hid (Opn D w) := hBw
    clear hBw hf hs hE hT hR hS
    go_enter Tryz.func68, Tryz.ntmps68
    go_wp2_with fail
    refine Calls.mono HF.out ?_
    rintro e w0 ⟨rfl, rfl⟩
    go_wp2
    go_region_with (go_at_call 106; refine Calls.mono (HA.out _ (by exact HX.out.drew) HBW.out) ?_; rintro e w2 ⟨rfl, hst, hkp⟩; have HR2 : Hid (StoreAt D F sb { x with S := x.S ++ [⟨x.lastSnap + 1, x.last⟩], lastSnap := x.lastSnap + 1 } w2 ∧ Kd D [118, 174] w0 w2) := ⟨hst, (Kd.refl _ _ _).drew.trans hkp⟩; clear hst hkp)
    all_goals go_wp2
    all_goals go_ret2
    all_goals exact .inr ⟨by omega, rfl, Hid.out (by assumption)⟩
end Go.Proofs.YtakipjofboipmaaGreat
