/- The walks of this proof: what a journal holds, what outlasts a stop. -/
import Derived.Lib.BufferRead
import Derived.Test.YtakipjofboipmaaJ4
import Derived.Test.YtakipjofboipmaaJ3
namespace Go.Proofs.Ytakipjofboipmaa
open Go.RowKit Go.Sort

theorem brow_new (w : World) (t : List UInt8) (ht : t.length < 1000000000) :
    BRow (w.drew.alloc (.cells (bytesRow (bs t) (grownCap w t.length 0 5)) 5 ((bytesRow (bs t) (grownCap w t.length 0 5)).size, (bytesRow (bs t) (grownCap w t.length 0 5)).size + 1))) (.slice (some ⟨w.heap.size, 0, none⟩) t.length (grownCap w t.length 0 5)) t := by
  have hge : t.length ≤ grownCap w t.length 0 5 := grownCap_ge w t.length 0 5
  have hm : grownCap w t.length 0 5 ≤ maxLen := grownCap_le_maxLen w t.length 0 5 (by unfold maxLen; omega)
  generalize grownCap w t.length 0 5 = c at *
  have hsz : (bytesRow (bs t) c).size = c := by simp [bytesRow, bs, ByteArray.size]; omega
  refine .inr ⟨w.heap.size, c, _, _, rfl, heap_alloc_new w.drew _, .inr (by rw [hsz]; exact Nat.le_refl _), hge, hm, hsz, ?_⟩
  have e : (bytesRow (bs t) c).toList = bcells t ++ List.replicate (c - t.length) (.int .u8 0) := by simp [bytesRow, bs, bcells, ByteArray.size]
  rw [e, show t.length = (bcells t).length by rw [bcells_len]]
  exact List.take_left

set_option maxHeartbeats 400000 in
theorem sync_raw (sb n cap : Nat) (ao : Option Addr) (a0 a1 a3 a4 a5 a6 a7 : Value) (w : World) (hs : w.heap[sb]? = some (.cells #[a0, a1, .slice ao n cap, a3, a4, a5, a6, a7] 50 (0, 0))) :
    Calls Try.prog 12 #[.pointer (some ⟨sb, 2, none⟩)] w fun e w' => e = .returned (.tuple #[]) ∧ w' = w.setCell ⟨sb, 3, none⟩ (.int .i64 (n : Int)) := by
  have c1 : w.cell? ⟨sb, 2, none⟩ = some (.slice ao n cap) := by simp [World.cell?, hs]
  have c2 : w.cell? ⟨sb, 3, none⟩ = some a3 := by simp [World.cell?, hs]
  have f2 : w.frozen? ⟨sb, 3, none⟩ = false := by simp [World.frozen?, hs]
  clear hs
  go_enter Try.func12, Try.ntmps12
  go_wp2
  go_end0
  exact ⟨rfl, rfl⟩

set_option maxHeartbeats 1000000 in
theorem hold_any (D : Nat → Prop) (sb : Nat) (a0 a1 a2 a4 a5 a6 a7 : Value) (a3 : Int) (t : List UInt8) (w : World) (hs : w.heap[sb]? = some (.cells #[a0, a1, a2, .int .i64 a3, a4, a5, a6, a7] 50 (0, 0))) (hB : D sb) (hD : Opn D w) (ht : t.length < 1000000000) :
    Calls Try.prog 16 #[.pointer (some ⟨sb, 2, none⟩), .string (bs t)] w fun e w' => e = .returned (.tuple #[]) ∧ ∃ vR, w'.heap[sb]? = some (.cells #[a0, a1, vR, .int .i64 (t.length : Int), a4, a5, a6, a7] 50 (0, 0)) ∧ OwnsJ w' D vR t ∧ Kd D [50] w w' := by
  have hbs : (bs t).size = t.length := bs_size t
  have hcv := run_bytes_of_string (P := Try.prog) w 9 43 5 (bs t) Try.underlying9 Try.underlying43 Try.underlying5
  rw [hbs] at hcv
  have hrow := brow_new w t ht
  have hlt := lt_of_block hs
  generalize grownCap w t.length 0 5 = c at hcv hrow
  generalize hw1 : w.drew.alloc (.cells (bytesRow (bs t) c) 5 ((bytesRow (bs t) c).size, (bytesRow (bs t) c).size + 1)) = w1 at hcv hrow
  have kb : Below w.heap.size w w1 := by rw [← hw1]; exact ((Below.refl _ _).drew).alloc (Nat.le_refl _) _
  have hs1 : w1.heap[sb]? = some (.cells #[a0, a1, a2, .int .i64 a3, a4, a5, a6, a7] 50 (0, 0)) := by rw [kb.block sb hlt]; exact hs
  have k1 : Kd D [50] w w1 := Kd.of_below kb
  have hJ : OwnsJ w1 D (.slice (some ⟨w.heap.size, 0, none⟩) t.length c) t := ⟨hrow, fun g hg => by simp only [Value.ownBlock, Option.some.injEq] at hg; exact hD g (by omega)⟩
  have k2 := Kd.field hB hs1 2 (.slice (some ⟨w.heap.size, 0, none⟩) t.length c)
  have s2 := set_field hs1 2 (.slice (some ⟨w.heap.size, 0, none⟩) t.length c)
  simp only [List.setIfInBounds_toArray, List.set_cons_succ, List.set_cons_zero] at s2
  have j2 := k2.ownsJ hJ (by simp)
  have f1 : w1.frozen? ⟨sb, 2, none⟩ = false := by simp [World.frozen?, hs1]
  have hk3 : ∀ u, w1.cell? ⟨sb, 2, none⟩ = some u ↔ a2 = u := fun u => by simp [World.cell?, hs1]
  have c1 : w1.cell? ⟨sb, 2, none⟩ = some a2 := (hk3 _).2 rfl
  generalize hw2 : w1.setCell ⟨sb, 2, none⟩ (.slice (some ⟨w.heap.size, 0, none⟩) t.length c) = w2 at k2 s2 j2
  have k3 := Kd.field hB s2 3 (.int .i64 (t.length : Int))
  have s3 := set_field s2 3 (.int .i64 (t.length : Int))
  simp only [List.setIfInBounds_toArray, List.set_cons_succ, List.set_cons_zero] at s3
  have FIN : Hid (∃ vR, (w2.setCell ⟨sb, 3, none⟩ (.int .i64 (t.length : Int))).heap[sb]? = some (.cells #[a0, a1, vR, .int .i64 (t.length : Int), a4, a5, a6, a7] 50 (0, 0)) ∧ OwnsJ (w2.setCell ⟨sb, 3, none⟩ (.int .i64 (t.length : Int))) D vR t ∧ Kd D [50] w (w2.setCell ⟨sb, 3, none⟩ (.int .i64 (t.length : Int)))) :=
    ⟨_, s3, k3.ownsJ j2 (by simp), (k1.trans k2).trans k3⟩
  have HSY : Hid _ := sync_raw sb _ _ _ _ _ _ _ _ _ _ _ s2
  have HW2 : Hid _ := hw2
  clear hs hD hrow kb hs1 k1 hJ k2 s2 j2 k3 s3 hw1 hw2 hk3
  go_enter Try.func16, Try.ntmps16
  go_wp2_with fail
  rw [HW2.out]
  refine Calls.mono HSY.out ?_
  rintro e w3 ⟨rfl, rfl⟩
  go_wp2
  go_end0
  exact ⟨rfl, FIN.out⟩

/-- How many bytes are left of a journal of n bytes, of which sy are synced. -/
def lft (n sy : Nat) (keep : Int) : Nat := sy + (pk keep ((n : Int) - sy + 1)).toNat

theorem lft_le {n sy : Nat} (h : sy ≤ n) (keep : Int) : sy ≤ lft n sy keep ∧ lft n sy keep ≤ n := by
  have := pk_lt (c := keep) (n := (n : Int) - sy + 1) (by omega)
  unfold lft
  omega

end Go.Proofs.Ytakipjofboipmaa

/- Plain mathematics of this proof: a store made anew out of records. -/
namespace Go.Proofs.Ytakipjofboipmaa
open Go.Sort

/-- The entries of batches, the first of which has the number s. -/
def entsFrom : Int → List (List Pr) → List En
  | _, [] => []
  | s, b :: r => b.map (toEn s) ++ entsFrom (s + 1) r

theorem ents_snoc : ∀ (Bs : List (List Pr)) (b : List Pr) (s : Int), entsFrom s (Bs ++ [b]) = entsFrom s Bs ++ b.map (toEn (s + Bs.length))
  | [], b, s => by simp [entsFrom]
  | c :: r, b, s => by
    rw [List.cons_append, entsFrom, ents_snoc r b (s + 1), entsFrom, List.append_assoc]
    congr 3
    simp only [List.length_cons]
    congr 1
    push_cast
    omega

theorem ents_mem : ∀ {Bs : List (List Pr)} {s : Int} {e : En}, e ∈ entsFrom s Bs ↔ ∃ (i : Nat) (b : List Pr) (p : Pr), Bs[i]? = some b ∧ p ∈ b ∧ e = toEn (s + i) p
  | [], s, e => by simp [entsFrom]
  | c :: r, s, e => by
    rw [entsFrom, List.mem_append, ents_mem (Bs := r)]
    constructor
    · rintro (h | ⟨i, b, p, h1, h2, rfl⟩)
      · obtain ⟨p, hp, rfl⟩ := List.mem_map.1 h
        exact ⟨0, c, p, rfl, hp, by simp⟩
      · exact ⟨i + 1, b, p, by simpa using h1, h2, by congr 1; push_cast; omega⟩
    · rintro ⟨i, b, p, h1, h2, rfl⟩
      cases i with
      | zero =>
        simp only [List.getElem?_cons_zero, Option.some.injEq] at h1
        subst h1
        exact .inl (List.mem_map.2 ⟨p, h2, by simp⟩)
      | succ i => exact .inr ⟨i, b, p, by simpa using h1, h2, by congr 1; push_cast; omega⟩

theorem ents_len {Bs : List (List Pr)} (h : ∀ b ∈ Bs, Bt b) (s : Int) : (entsFrom s Bs).length ≤ 4 * Bs.length := by
  induction Bs generalizing s with
  | nil => simp [entsFrom]
  | cons c r ih =>
    have h1 := (h c List.mem_cons_self).hi
    have h2 := ih (fun b hb => h b (List.mem_cons_of_mem _ hb)) (s + 1)
    simp only [entsFrom, List.length_append, List.length_map, List.length_cons]
    omega

theorem ents_dist {Bs : List (List Pr)} (h : ∀ b ∈ Bs, Bt b) (s : Int) : DistE (entsFrom s Bs) := by
  induction Bs generalizing s with
  | nil => exact List.Pairwise.nil
  | cons c r ih =>
    refine List.pairwise_append.2 ⟨sorted_dist (sorted_new (h c List.mem_cons_self).up), ih (fun b hb => h b (List.mem_cons_of_mem _ hb)) (s + 1), fun a ha b hb hh => ?_⟩
    obtain ⟨p, _, rfl⟩ := List.mem_map.1 ha
    obtain ⟨i, _, q, _, _, rfl⟩ := ents_mem.1 hb
    have : s = s + 1 + i := hh.2
    omega

/-- A store made anew, behind what was laid down, of records. -/
def St.rs (x : St) (Bs : List (List Pr)) : St :=
  { x with E := srt ((x.E.filter fun e => decide (e.s ≤ x.la)) ++ entsFrom (x.la + 1) Bs), B := Bs, sy := Bs.length, M := srt (entsFrom (x.la + 1) Bs), last := x.la + Bs.length }

theorem rs_memE {x : St} {Bs : List (List Pr)} {e : En} : e ∈ (x.rs Bs).E ↔ (e ∈ x.E ∧ e.s ≤ x.la) ∨ e ∈ entsFrom (x.la + 1) Bs := by
  show e ∈ srt _ ↔ _
  rw [srt_mem, List.mem_append, List.mem_filter, decide_eq_true_eq]

theorem ents_above {Bs : List (List Pr)} {s : Int} {e : En} (h : e ∈ entsFrom s Bs) : s ≤ e.s ∧ e.s < s + Bs.length := by
  obtain ⟨i, b, p, h1, _, rfl⟩ := ents_mem.1 h
  have := (List.getElem?_eq_some_iff.1 h1).1
  simp only [toEn]
  omega

theorem StOk.rs {x : St} (ok : StOk x) {Bs : List (List Pr)} (hB : ∀ b ∈ Bs, Bt b) (hl : x.la + Bs.length < 1000000000) (hf : x.E.length + 4 * Bs.length < 1000000000) : StOk (x.rs Bs) := by
  have lv := ok.lv
  have hd : DistE ((x.E.filter fun e => decide (e.s ≤ x.la)) ++ entsFrom (x.la + 1) Bs) := by
    refine List.pairwise_append.2 ⟨sorted_dist (ok.sorted.sublist List.filter_sublist), ents_dist hB _, fun a ha b hb hh => ?_⟩
    have h1 := (List.mem_filter.1 ha).2
    simp only [decide_eq_true_eq] at h1
    have h2 := (ents_above hb).1
    have := hh.2
    omega
  have hE : Sorted (x.rs Bs).E := srt_sorted hd
  refine ⟨fun e he => ?_, hE, ?_, fun e he => ?_, fun e he => ?_, ok.snaps, ?_⟩
  · show e.s ≤ x.la + (Bs.length : Int)
    rcases rs_memE.1 he with h | h
    · have := h.2; omega
    · have := (ents_above h).2; omega
  · show (srt _).length < _
    rw [srt_len, List.length_append]
    have h1 := List.length_filter_le (fun e : En => decide (e.s ≤ x.la)) x.E
    have h2 := ents_len hB (x.la + 1)
    omega
  · rcases rs_memE.1 he with h | h
    · exact ok.seqs e h.1
    · have := (ents_above h).2; omega
  · rcases rs_memE.1 he with h | h
    · exact ok.keys e h.1
    · obtain ⟨i, b, p, h1, h2, rfl⟩ := ents_mem.1 h
      have := ((hB b (List.mem_of_getElem? h1)).ok p h2).hi
      show p.k.size ≤ 1000
      omega
  · refine ⟨srt_sorted (ents_dist hB _), fun e => ?_, fun t ht e he => ?_, lv.tsorted, lv.tne, lv.lay, lv.lev, lv.lev2, fun q hq k => ?_, lv.tfew, lv.la0, rfl, hB, Nat.le_refl _, fun e => ?_⟩
    · show e ∈ srt _ ↔ _
      rw [srt_mem, rs_memE]
      constructor
      · intro h
        exact ⟨.inr h, by have := (ents_above h).1; show x.la < e.s; omega⟩
      · rintro ⟨h | h, h2⟩
        · have h2' : x.la < e.s := h2
          omega
        · exact h
    · obtain ⟨h1, h2⟩ := lv.tsub t ht e he
      exact ⟨rs_memE.2 (.inl ⟨h1, h2⟩), h2⟩
    · have e1 : ((x.rs Bs).E.filter fun e => decide (e.s ≤ (x.rs Bs).la)) = x.E.filter fun e => decide (e.s ≤ x.la) := by
        refine filter_ext hE ok.sorted fun e he => ?_
        have he' : e.s ≤ x.la := of_decide_eq_true he
        rw [rs_memE]
        constructor
        · rintro (h | h)
          · exact h.1
          · have := (ents_above h).1; omega
        · exact fun h => .inl ⟨h, he'⟩
      rw [e1]
      exact lv.view q hq k
    · rw [rs_memE]
      show _ ∧ x.la < e.s ↔ ∃ (i : Nat) (b : List Pr) (p : Pr), Bs[i]? = some b ∧ p ∈ b ∧ e = toEn (x.la + 1 + i) p
      rw [← ents_mem]
      constructor
      · rintro ⟨h | h, h2⟩
        · omega
        · exact h
      · intro h
        exact ⟨.inr h, by have := (ents_above h).1; omega⟩

end Go.Proofs.Ytakipjofboipmaa
