/- The kit of this proof: a row of bytes that may bear a mark behind its last cell (what '[]byte(s)' makes), and append onto it. -/
import Derived.Laws.IdiomCopy
import Derived.Laws.IdiomStrings
import Derived.Deep.AppendLies
import Derived.Test.YtakipjofboipmaaGreatDoorJ7
import Derived.Test.YtakipjofboipmaaGreatDoorJ8
namespace Go.Proofs.YtakipjofboipmaaGreatDoor
open Go.RowKit

/-- A row of bytes; none of its cells is frozen. -/
def BRow (w : World) (v : Value) (l : List UInt8) : Prop :=
  (v = .slice none 0 0 ∧ l = []) ∨
  ∃ g cap cur fz, v = .slice (some ⟨g, 0, none⟩) l.length cap ∧ w.heap[g]? = some (.cells cur 5 fz) ∧ (fz = (0, 0) ∨ cap ≤ fz.1) ∧ l.length ≤ cap ∧ cap ≤ maxLen ∧ cur.size = cap ∧ cur.toList.take l.length = bcells l

/-- One that lies in D. -/
def OwnsJ (w : World) (D : Nat → Prop) (v : Value) (l : List UInt8) : Prop := BRow w v l ∧ ∀ g, v.ownBlock = some g → D g

theorem BRow.form {w : World} {v : Value} {l : List UInt8} (h : BRow w v l) : ∃ ao cap, v = .slice ao l.length cap := by
  rcases h with ⟨rfl, rfl⟩ | ⟨g, cap, cur, fz, rfl, _⟩
  · exact ⟨_, _, rfl⟩
  · exact ⟨_, _, rfl⟩

theorem BRow.lt {w : World} {v : Value} {l : List UInt8} (h : BRow w v l) {g : Nat} (hg : v.ownBlock = some g) : g < w.heap.size := by
  rcases h with ⟨rfl, _⟩ | ⟨g', cap, cur, fz, rfl, hb, _⟩
  · simp [Value.ownBlock] at hg
  · simp [Value.ownBlock] at hg
    subst hg
    exact lt_of_block hb

theorem BRow.of {w : World} {base : Nat} {v : Value} {l : List UInt8} (h : w.ownsRow base 5 1 v l.length (bcells l)) : BRow w v l := by
  rcases h.2 with ⟨rfl, h0⟩ | ⟨g, cap, cur, rfl, _, hg, h1, h2, h3, h4⟩
  · exact .inl ⟨rfl, List.length_eq_zero_iff.1 h0⟩
  · exact .inr ⟨g, cap, cur, (0, 0), rfl, hg, .inl rfl, h1, h2, by simpa using h3, by simpa using h4⟩

theorem BRow.keep {w w' : World} {v : Value} {l : List UInt8} (h : BRow w v l) (hk : ∀ g, v.ownBlock = some g → ∀ o, w.heap[g]? = some o → w'.heap[g]? = some o) : BRow w' v l := by
  rcases h with h | ⟨g, cap, cur, fz, rfl, hb, r⟩
  · exact .inl h
  · exact .inr ⟨g, cap, cur, fz, rfl, hk g rfl _ hb, r⟩

theorem BRow.kept {w w' : World} {N : Nat} {ts : List Nat} {v : Value} {l : List UInt8} (h : BRow w v l) (k : Kp N ts w w') (ht : 5 ∉ ts) : BRow w' v l := by
  rcases h with h | ⟨g, cap, cur, fz, rfl, hb, r⟩
  · exact .inl h
  · exact .inr ⟨g, cap, cur, fz, rfl, k.keep hb ht, r⟩

theorem OwnsJ.form {w : World} {D : Nat → Prop} {v : Value} {l : List UInt8} (h : OwnsJ w D v l) : ∃ ao cap, v = .slice ao l.length cap := h.1.form

theorem OwnsJ.nil (w : World) (D : Nat → Prop) : OwnsJ w D (.slice none 0 0) [] := ⟨.inl ⟨rfl, rfl⟩, fun g e => by simp [Value.ownBlock] at e⟩

theorem Kd.ownsJ {D D' : Nat → Prop} {ts : List Nat} {w w' : World} {v : Value} {l : List UInt8} (k : Kd D' ts w w') (h : OwnsJ w D v l) (ht : 5 ∉ ts) : OwnsJ w' D v l := by
  refine ⟨?_, h.2⟩
  rcases h.1 with h | ⟨g, cap, cur, fz, rfl, hb, r⟩
  · exact .inl h
  · exact .inr ⟨g, cap, cur, fz, rfl, k.keep hb ht, r⟩

theorem Kd.ownsJN {D D' : Nat → Prop} {ts : List Nat} {w w' : World} {v : Value} {l : List UInt8} (k : Kd D' ts w w') (h : OwnsJ w D v l) (hd : ∀ b, D b → b < w.heap.size → ¬ D' b) : OwnsJ w' D v l := by
  refine ⟨?_, h.2⟩
  rcases h.1 with h1 | ⟨g, cap, cur, fz, rfl, hb, r⟩
  · exact .inl h1
  · exact .inr ⟨g, cap, cur, fz, rfl, k.keepN hb (hd g (h.2 g rfl) (lt_of_block hb)), r⟩

theorem OwnsJ.less {w : World} {D : Nat → Prop} {v : Value} {l : List UInt8} {g : Nat} {c : Array Value} {e : TypeId} {f : Nat × Nat} (h : OwnsJ w D v l) (hg : w.heap[g]? = some (.cells c e f)) (he : e ≠ 5) : OwnsJ w (fun k => D k ∧ k ≠ g) v l := by
  refine ⟨h.1, fun g' hg' => ⟨h.2 g' hg', ?_⟩⟩
  rintro rfl
  rcases h.1 with ⟨rfl, _⟩ | ⟨g2, cap, cur, fz, rfl, hb, _⟩
  · simp [Value.ownBlock] at hg'
  · simp [Value.ownBlock] at hg'
    subst hg'
    rw [hg] at hb
    simp only [Option.some.injEq, Obj.cells.injEq] at hb
    exact he hb.2.1

/-- The cells of a row of bytes. -/
theorem BRow.cells {w : World} {l : List UInt8} {g n cap : Nat} (h : BRow w (.slice (some ⟨g, 0, none⟩) n cap) l) : ∀ j u, (bcells l)[j]? = some u → w.cell? ((⟨g, 0, none⟩ : Addr).add j) = some u := by
  intro j u hj
  rcases h with ⟨h, _⟩ | ⟨g', cap', cur, fz, hv, hb, _, hl, _, hs, ht⟩
  · cases h
  · simp only [Value.slice.injEq, Option.some.injEq, Addr.mk.injEq, and_true] at hv
    obtain ⟨rfl, _, rfl⟩ := hv
    have hadd : (⟨g, 0, none⟩ : Addr).add j = ⟨g, j, none⟩ := by unfold Addr.add; split <;> simp_all
    rw [hadd, cell_of_row w g j cur 5 fz hb]
    rw [← ht, List.getElem?_take] at hj
    split at hj
    · simpa using hj
    · cases hj

theorem setCells_heap (g : Nat) (t : TypeId) (fz : Nat × Nat) : ∀ (vs : List Value) (o : Nat) (w : World) (cur : Array Value), w.heap[g]? = some (.cells cur t fz) → o + vs.length ≤ cur.size →
    (w.setCells g o vs).heap[g]? = some (.cells (cur.toList.take o ++ vs ++ cur.toList.drop (o + vs.length)).toArray t fz) ∧ (∀ k, k ≠ g → (w.setCells g o vs).heap[k]? = w.heap[k]?) ∧ (w.setCells g o vs).os = w.os ∧ (w.setCells g o vs).tape = w.tape ∧ (w.setCells g o vs).output = w.output ∧ (w.setCells g o vs).heap.size = w.heap.size
  | [], o, w, cur, hg, _ => by
    refine ⟨?_, fun _ _ => rfl, rfl, rfl, rfl, rfl⟩
    show w.heap[g]? = _
    rw [hg]
    simp
  | v :: r, o, w, cur, hg, hl => by
    simp only [List.length_cons] at hl
    have hg' : (w.setCell ⟨g, o, none⟩ v).heap[g]? = some (.cells (cur.setIfInBounds o v) t fz) := by rw [setCell_eq_setRow w g o cur t fz v hg]; exact setRow_heap w g cur _ t fz hg
    obtain ⟨h1, h2, h3, h4, h5, h6⟩ := setCells_heap g t fz r (o + 1) (w.setCell ⟨g, o, none⟩ v) (cur.setIfInBounds o v) hg' (by simp; omega)
    refine ⟨?_, fun k hk => ?_, h3, h4, h5, ?_⟩
    · rw [World.setCells, h1]
      have e := list_seg_step cur.toList o v r (by simp; omega)
      simp only [Array.toList_setIfInBounds, List.length_cons] at e ⊢
      rw [e]
    · rw [World.setCells, h2 k hk]
      exact Below.heap_setCell _ _ _ _ hk
    · rw [World.setCells, h6]
      simp [World.setCell]

theorem bc_one (l : List UInt8) : ∀ u ∈ bcells l, u.oneCell' = true := fun u hu => by obtain ⟨x, _, rfl⟩ := List.mem_map.1 hu; rfl

/-- append onto such a row. -/
theorem run_append_mark (P : Program) (w : World) (t ty : TypeId) (i : TypeInfo) (ht : P.underlying t = some (.slice 5)) (hi : P.info? 5 = some i) (hz : i.zero = some (.int .u8 0)) (h1 : i.size = 1) (h2 : i.bytes = 1)
    (v : Value) (l r : List UInt8) (h : BRow w v l) (ad : Addr) (c : Nat) (hr : ∀ j u, (bcells r)[j]? = some u → w.cell? (ad.add j) = some u) (hm : 0 < r.length) (hb : l.length + r.length ≤ 140737488355328) :
    ∃ g cap w', (Builtin.append_ #[t, t] ty #[v, .slice (some ad) r.length c]).run P w = .ok (.slice (some ⟨g, 0, none⟩) (l.length + r.length) cap) w' ∧ BRow w' (.slice (some ⟨g, 0, none⟩) (l.length + r.length) cap) (l ++ r) ∧ w.grownBy w' v.ownBlock ∧ (v.ownBlock = some g ∨ w.heap.size ≤ g) := by
  have hlr : (bcells r).length = r.length := bcells_len r
  have old : ∀ hown : w.ownsRow 0 5 1 v l.length (bcells l), ∃ g cap w', (Builtin.append_ #[t, t] ty #[v, .slice (some ad) r.length c]).run P w = .ok (.slice (some ⟨g, 0, none⟩) (l.length + r.length) cap) w' ∧ BRow w' (.slice (some ⟨g, 0, none⟩) (l.length + r.length) cap) (l ++ r) ∧ w.grownBy w' v.ownBlock ∧ (v.ownBlock = some g ∨ w.heap.size ≤ g) := fun hown => by
    obtain ⟨g, cap, w', a1, a2, a3, a4, _⟩ := run_append_lies (P := P) w t ty 0 5 i (.int .u8 0) 1 1 ht hi hz h1 h2 rfl (by decide) v l.length (bcells l) hown ad r.length c (bcells r) (by rw [hlr, Nat.mul_one]) hr (bc_one r) hm (by unfold maxLen; omega) (by omega) (Nat.zero_le _) w.heap.size rfl
    refine ⟨g, cap, w', a1, ?_, a3, a4.imp id fun e => by omega⟩
    rw [← bcells_append, ← List.length_append] at a2
    rw [← List.length_append]
    exact BRow.of a2
  rcases h with ⟨rfl, rfl⟩ | ⟨g, cap, cur, fz, rfl, hg, hfz, hl, hcm, hcs, htk⟩
  · exact old (World.ownsRow_nil _ _ _ _)
  · rcases hfz with rfl | hfz
    · exact old ⟨by rw [bcells_len, Nat.mul_one], .inr ⟨g, cap, cur, rfl, Nat.zero_le _, hg, hl, hcm, by rw [hcs, Nat.mul_one], by rw [Nat.mul_one]; exact htk⟩⟩
    · by_cases hroom : l.length + r.length ≤ cap
      · have hf := run_firstCells_some (P := P) w 1 r.length ad r.length c (bcells r) (by rw [hlr, Nat.mul_one]) hr
        have hst := run_storeCells_cells (P := P) g l.length (bcells r) 0 w (fun j hj => by
            rw [cell_of_row w g _ cur 5 fz hg]
            rw [hlr] at hj
            simp; omega) (fun j hj => by
            rw [hlr] at hj
            obtain ⟨lo, hi'⟩ := fz
            simp only [World.frozen?, hg, Bool.and_eq_false_iff, decide_eq_false_iff_not]
            left
            simp only at hfz
            omega) (bc_one r)
        simp only [Nat.add_zero] at hst
        obtain ⟨e1, e2, e3, e4, e5, e6⟩ := setCells_heap g 5 fz (bcells r) l.length w cur hg (by rw [hlr]; omega)
        refine ⟨g, cap, _, ?_, .inr ⟨g, cap, _, fz, by rw [List.length_append], e1, .inr hfz, by rw [List.length_append]; exact hroom, hcm, ?_, ?_⟩, ⟨e3, e4, e5, by rw [e6]; exact Nat.le_refl _, fun k _ hk => e2 k (fun e => hk (by simp [Value.ownBlock, e]))⟩, .inl rfl⟩
        · simp [Builtin.append_, run_underlying ht, sizeOf, typeInfo, hi, h1, Builtin.lenOf, hroom, hf, Addr.add_lit, hst]
        · simp only [List.size_toArray, List.length_append, List.length_take, List.length_drop, Array.length_toList, hlr]
          omega
        · rw [htk, List.length_append, bcells_append]
          have e : l.length + r.length = (bcells l ++ bcells r).length := by rw [List.length_append, bcells_len, bcells_len]
          rw [e]
          exact List.take_left
      · have holds : ∀ j u, (bcells l)[j]? = some u → w.cell? ((⟨g, 0, none⟩ : Addr).add j) = some u := BRow.cells (l := l) (n := l.length) (cap := cap) (.inr ⟨g, cap, cur, fz, rfl, hg, .inr hfz, hl, hcm, hcs, htk⟩)
        have hr' := run_append_grow (P := P) w t ty 5 i (.int .u8 0) ht hi hz ⟨g, 0, none⟩ l.length cap (bcells l) (by rw [bcells_len, h1, Nat.mul_one]) holds ad r.length c (bcells r) (by rw [hlr, h1, Nat.mul_one]) hr (by omega) (by omega) (by rw [h2]; exact growslice_fits (by omega) (by omega))
        have hge := grownCap_ge w (l.length + r.length) cap 5
        have hcm2 : grownCap w (l.length + r.length) cap 5 ≤ maxLen := grownCap_le_maxLen w (l.length + r.length) cap 5 (by unfold maxLen; omega)
        refine ⟨w.heap.size, _, _, hr', .inr ⟨w.heap.size, _, _, (0, 0), by rw [List.length_append], heap_alloc_new w.drew _, .inl rfl, by rw [List.length_append]; exact hge, hcm2, ?_, ?_⟩, ⟨rfl, rfl, rfl, by simp, fun k hk _ => (Below.heap_alloc w.drew _ k hk)⟩, .inr (Nat.le_refl _)⟩
        · have hz1 : (Value.int IntKind.u8 0).cells.size = 1 := rfl
          simp only [Array.size_append, List.size_toArray, size_zeroCells, hz1, bcells_len]
          omega
        · simp only [Array.toList_append, List.append_assoc]
          rw [← List.append_assoc, bcells_append]
          have e : (l ++ r).length = (bcells l ++ bcells r).length := by rw [List.length_append, List.length_append, bcells_len, bcells_len]
          rw [e]
          exact List.take_left

theorem wpList_appB {P : Program} (w : World) {ops : Array Oper} {rest : List Oper} {o : Oper} {a : Act} {Q : Exit → Act → World → Prop} (hgd : o.guard = none) (d s : Operand) (t t' : TypeId)
    (ho : o.op = .call { callee := .builtin .append, args := #[d, s], argTypes := #[t, t'] }) (v u : Value) (hd : a.eval d = v) (hs : a.eval s = u) {v' : Value} {w' : World}
    (hr : (Builtin.append_ #[t, t'] o.type #[v, u]).run P w = .ok v' w') (h : wpList P ops Q rest (a.put o.dst v') w') : wpList P ops Q (o :: rest) a w :=
  wpList_plain hgd fun _ hK => by
    unfold Oper.wp execOp
    simp only [ho, resolve, invoke, builtin, Sem.run_bind, Sem.run_pure, Result.andThen_ok, List.map_toArray, List.map_cons, List.map_nil, hd, hs, hr]
    exact hK _ _ h

/-- What append left lies in D. -/
theorem OwnsJ.lies {w w' : World} {D : Nat → Prop} {v : Value} {l l' : List UInt8} (h : OwnsJ w D v l) (hD : Opn D w) {g cap n : Nat} (hb : BRow w' (.slice (some ⟨g, 0, none⟩) n cap) l') (hat : v.ownBlock = some g ∨ w.heap.size ≤ g) : OwnsJ w' D (.slice (some ⟨g, 0, none⟩) n cap) l' :=
  ⟨hb, fun g' hg' => by
    simp only [Value.ownBlock, Option.some.injEq] at hg'
    subst hg'
    rcases hat with h1 | h1
    · exact h.2 _ h1
    · exact hD _ h1⟩

/-- Behind such an append. -/
theorem Kd.grownJ {D : Nat → Prop} {w w' : World} {v : Value} {l : List UInt8} (h : OwnsJ w D v l) (hg : w.grownBy w' v.ownBlock) : Kd D [5] w w' :=
  ⟨hg.os, hg.tape, hg.output, hg.size, fun i hi hor => by
    refine hg.block i hi (fun hik => ?_)
    have hd := h.2 i hik.symm
    rcases h.1 with ⟨rfl, _⟩ | ⟨g, cap, cur, fz, rfl, hgg, _⟩
    · simp [Value.ownBlock] at hik
    · simp only [Value.ownBlock, Option.some.injEq] at hik
      subst hik
      rcases hor with h1 | h1
      · exact h1 hd
      · exact h1 _ _ _ hgg (by simp)⟩
end Go.Proofs.YtakipjofboipmaaGreatDoor
