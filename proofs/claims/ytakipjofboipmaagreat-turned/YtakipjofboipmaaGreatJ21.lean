/- The walks of this proof: what a journal holds, what outlasts a stop. -/
import Derived.Test.YtakipjofboipmaaGreatJ18
import Derived.Test.YtakipjofboipmaaGreatJ7
import Derived.Lib.BufferRead
import Derived.Test.YtakipjofboipmaaGreatJ9
namespace Go.Proofs.YtakipjofboipmaaGreat
open Go.RowKit Go.Sort

theorem brow_new (w : World) (t : List UInt8) (ht : t.length < 1000000000) :
    BRow (w.drew.alloc (.cells (bytesRow (bs t) (grownCap w t.length 0 5)) 5 ((bytesRow (bs t) (grownCap w t.length 0 5)).size, (bytesRow (bs t) (grownCap w t.length 0 5)).size + 1))) (.slice (some ⟨w.heap.size, 0, none⟩) t.length (grownCap w t.length 0 5)) t := by
  have hge : t.length ≤ grownCap w t.length 0 5 := grownCap_ge w t.length 0 5
  have hm : grownCap w t.length 0 5 ≤ maxLen := grownCap_le_maxLen w t.length 0 5 (by unfold maxLen; omega)
  generalize grownCap w t.length 0 5 = c at *
  have hsz : (bytesRow (bs t) c).size = c := by simp [bytesRow, bs, ByteArray.size]; omega
  refine .inr ⟨w.heap.size, c, _, _, rfl, heap_alloc_new w.drew _, .inr (by rw [hsz]; exact Nat.le_refl _), hge, hm, hsz, ?_⟩
  have e : (bytesRow (bs t) c).toList = bcells t ++ List.replicate (c - t.length) (.int .u8 0) := by simp [bytesRow, bs, bcells, ByteArray.size]
  rw [e, show t.length = (bcells t).length by rw [bcells_len]]
  exact List.take_left

set_option maxHeartbeats 400000 in
theorem sync_raw (sb n cap : Nat) (ao : Option Addr) (a0 a1 a3 a4 a5 a6 a7 : Value) (w : World) (hs : w.heap[sb]? = some (.cells #[a0, a1, .slice ao n cap, a3, a4, a5, a6, a7] 118 (0, 0))) :
    Calls Tryz.prog 55 #[.pointer (some ⟨sb, 2, none⟩)] w fun e w' => e = .returned (.tuple #[]) ∧ w' = w.setCell ⟨sb, 3, none⟩ (.int .i64 (n : Int)) := by
  have c1 : w.cell? ⟨sb, 2, none⟩ = some (.slice ao n cap) := by simp [World.cell?, hs]
  have c2 : w.cell? ⟨sb, 3, none⟩ = some a3 := by simp [World.cell?, hs]
  have f2 : w.frozen? ⟨sb, 3, none⟩ = false := by simp [World.frozen?, hs]
  clear hs
  go_enter Tryz.func55, Tryz.ntmps55
  go_wp2
  go_end0
  exact ⟨rfl, rfl⟩

set_option maxHeartbeats 1000000 in
theorem hold_any (D : Nat → Prop) (sb : Nat) (a0 a1 a2 a4 a5 a6 a7 : Value) (a3 : Int) (t : List UInt8) (w : World) (hs : w.heap[sb]? = some (.cells #[a0, a1, a2, .int .i64 a3, a4, a5, a6, a7] 118 (0, 0))) (hB : D sb) (hD : Opn D w) (ht : t.length < 1000000000) :
    Calls Tryz.prog 101 #[.pointer (some ⟨sb, 2, none⟩), .string (bs t)] w fun e w' => e = .returned (.tuple #[]) ∧ ∃ vR, w'.heap[sb]? = some (.cells #[a0, a1, vR, .int .i64 (t.length : Int), a4, a5, a6, a7] 118 (0, 0)) ∧ OwnsJ w' D vR t ∧ Kd D [118] w w' := by
  have hbs : (bs t).size = t.length := bs_size t
  have hcv := run_bytes_of_string (P := Tryz.prog) w 9 71 5 (bs t) Tryz.underlying9 Tryz.underlying71 Tryz.underlying5
  rw [hbs] at hcv
  have hrow := brow_new w t ht
  have hlt := lt_of_block hs
  generalize grownCap w t.length 0 5 = c at hcv hrow
  generalize hw1 : w.drew.alloc (.cells (bytesRow (bs t) c) 5 ((bytesRow (bs t) c).size, (bytesRow (bs t) c).size + 1)) = w1 at hcv hrow
  have kb : Below w.heap.size w w1 := by rw [← hw1]; exact ((Below.refl _ _).drew).alloc (Nat.le_refl _) _
  have hs1 : w1.heap[sb]? = some (.cells #[a0, a1, a2, .int .i64 a3, a4, a5, a6, a7] 118 (0, 0)) := by rw [kb.block sb hlt]; exact hs
  have k1 : Kd D [118] w w1 := Kd.of_below kb
  have hJ : OwnsJ w1 D (.slice (some ⟨w.heap.size, 0, none⟩) t.length c) t := ⟨hrow, fun g hg => by simp only [Value.ownBlock, Option.some.injEq] at hg; exact hD g (by omega)⟩
  have k2 := Kd.field hB hs1 2 (.slice (some ⟨w.heap.size, 0, none⟩) t.length c)
  have s2 := set_field hs1 2 (.slice (some ⟨w.heap.size, 0, none⟩) t.length c)
  simp only [List.setIfInBounds_toArray, List.set_cons_succ, List.set_cons_zero] at s2
  have j2 := k2.ownsJ hJ (by simp)
  have f1 : w1.frozen? ⟨sb, 2, none⟩ = false := by simp [World.frozen?, hs1]
  have hk3 : ∀ u, w1.cell? ⟨sb, 2, none⟩ = some u ↔ a2 = u := fun u => by simp [World.cell?, hs1]
  have c1 : w1.cell? ⟨sb, 2, none⟩ = some a2 := (hk3 _).2 rfl
  generalize hw2 : w1.setCell ⟨sb, 2, none⟩ (.slice (some ⟨w.heap.size, 0, none⟩) t.length c) = w2 at k2 s2 j2
  have k3 := Kd.field hB s2 3 (.int .i64 (t.length : Int))
  have s3 := set_field s2 3 (.int .i64 (t.length : Int))
  simp only [List.setIfInBounds_toArray, List.set_cons_succ, List.set_cons_zero] at s3
  have FIN : Hid (∃ vR, (w2.setCell ⟨sb, 3, none⟩ (.int .i64 (t.length : Int))).heap[sb]? = some (.cells #[a0, a1, vR, .int .i64 (t.length : Int), a4, a5, a6, a7] 118 (0, 0)) ∧ OwnsJ (w2.setCell ⟨sb, 3, none⟩ (.int .i64 (t.length : Int))) D vR t ∧ Kd D [118] w (w2.setCell ⟨sb, 3, none⟩ (.int .i64 (t.length : Int)))) :=
    ⟨_, s3, k3.ownsJ j2 (by simp), (k1.trans k2).trans k3⟩
  have HSY : Hid _ := sync_raw sb _ _ _ _ _ _ _ _ _ _ _ s2
  have HW2 : Hid _ := hw2
  clear hs hD hrow kb hs1 k1 hJ k2 s2 j2 k3 s3 hw1 hw2 hk3
  go_enter Tryz.func101, Tryz.ntmps101
  go_wp2_with fail
  rw [HW2.out]
  refine Calls.mono HSY.out ?_
  rintro e w3 ⟨rfl, rfl⟩
  go_wp2
  go_end0
  exact ⟨rfl, FIN.out⟩

theorem rest_any (c n : Int) (w : World) (h0 : -9223372036854775808 ≤ c) (h1 : c ≤ 9223372036854775807) (h2 : 0 < n) (h3 : n ≤ 1000000000000) :
    Calls Tryz.prog 102 #[.int .i64 c, .int .i64 n] w fun e w' => e = .returned (.int .i64 (pk c n)) ∧ w' = w := by
  unfold pk
  by_cases hc : c < 0
  · rw [if_pos hc]
    have h4 : 0 ≤ -(c + 1) := by omega
    have h5 : -(c + 1) ≤ 9223372036854775807 := by omega
    go_enter Tryz.func102, Tryz.ntmps102
    go_wp2
    go_ret
    exact ⟨congrArg (fun z => Ending.returned (.int .i64 z)) (show -(c + 1).tmod n = -(c + 1) % n by rw [← Int.neg_tmod, Int.tmod_eq_emod_of_nonneg h4]), rfl⟩
  · rw [if_neg hc]
    go_enter Tryz.func102, Tryz.ntmps102
    go_wp2
    go_ret
    exact ⟨rfl, rfl⟩

theorem rest_in (c n : Int) (w : World) (h0 : -9223372036854775808 ≤ c) (h1 : c ≤ 9223372036854775807) (h2 : 0 < n) (h3 : n ≤ 1000000000000) (d : Nat) (os : Array Obj) :
    Calls Tryz.prog 102 #[.int .i64 c, .int .i64 n] (grow (redrawn w d) os) fun e w'' => e = .returned (.int .i64 (pk c n)) ∧ ∃ p : Regrown, w'' = grow (redrawn w p.d) p.os :=
  Calls.regrown_of ((rest_any c n _ h0 h1 h2 h3).mono fun _ _ ⟨h, e⟩ => ⟨h, by subst e; exact Below.refl _ _⟩)

/-- How many bytes are left of a journal of n bytes, of which sy are synced. -/
def lft (n sy : Nat) (keep : Int) : Nat := sy + (pk keep ((n : Int) - sy + 1)).toNat

theorem lft_le {n sy : Nat} (h : sy ≤ n) (keep : Int) : sy ≤ lft n sy keep ∧ lft n sy keep ≤ n := by
  have := pk_lt (c := keep) (n := (n : Int) - sy + 1) (by omega)
  unfold lft
  omega

theorem lft_int {n sy : Nat} (h : sy ≤ n) (keep : Int) : (sy : Int) + pk keep ((n : Int) - sy + 1) = (lft n sy keep : Nat) := by
  have := pk_lt (c := keep) (n := (n : Int) - sy + 1) (by omega)
  unfold lft
  omega

set_option maxHeartbeats 2000000 in
set_option maxRecDepth 100000 in
theorem outlasting_any (sb sy : Nat) (a0 a1 vR a4 a5 a6 a7 : Value) (l : List UInt8) (keep : Int) (w : World) (hs : w.heap[sb]? = some (.cells #[a0, a1, vR, .int .i64 sy, a4, a5, a6, a7] 118 (0, 0))) (hR : BRow w vR l) (hsy : sy ≤ l.length) (hl : l.length < 100000000) (h0 : -9223372036854775808 ≤ keep) (h1 : keep ≤ 9223372036854775807) :
    Calls Tryz.prog 63 #[.pointer (some ⟨sb, 2, none⟩), .int .i64 keep] w fun e w' => e = .returned (.string (bs (l.take (lft l.length sy keep)))) ∧ Below w.heap.size w w' := by
  have hm := (lft_le hsy keep).2
  have hmi := lft_int hsy keep
  have hlt := lt_of_block hs
  obtain ⟨ao, cap, rfl⟩ := hR.form
  have hlc : l.length ≤ cap := by
    rcases hR with ⟨h, rfl⟩ | ⟨g, c, cur, fz, h, _, _, hc, _⟩
    · simp
    · simp only [Value.slice.injEq] at h
      omega
  have hao : lft l.length sy keep ≤ l.length ∧ (ao = none → l.length = 0 ∧ cap = 0) ∧ (∀ a, ao = some a → ∃ g, a = ⟨g, 0, none⟩) := by
    refine ⟨hm, fun h => ?_, fun a h => ?_⟩
    · subst h
      rcases hR with ⟨h, rfl⟩ | ⟨g, c, cur, fz, h, _⟩
      · simp only [Value.slice.injEq] at h
        exact ⟨rfl, h.2.2⟩
      · cases h
    · subst h
      rcases hR with ⟨h, _⟩ | ⟨g, c, cur, fz, h, _⟩
      · cases h
      · simp only [Value.slice.injEq, Option.some.injEq] at h
        exact ⟨g, h.1⟩
  have HCV : Hid (∀ w2, Below w.heap.size w w2 → (convert 71 9 (.slice ao (lft l.length sy keep) cap)).run Tryz.prog w2 = .ok (.string (bs (l.take (lft l.length sy keep)))) w2) := fun w2 hb => by
    rcases ao with _ | a
    · obtain ⟨h2, rfl⟩ := hao.2.1 rfl
      have h3 : lft l.length sy keep = 0 := by omega
      rw [h3, List.take_zero]
      exact Go.Lib.run_convert_nil_bytes w2 71 9 5 0 Tryz.underlying71 Tryz.underlying5 Tryz.underlying9
    · obtain ⟨g, rfl⟩ := hao.2.2 a rfl
      have hr2 : BRow w2 (.slice (some ⟨g, 0, none⟩) l.length cap) l := hR.kept (Kp.of_below (B := 0) (ts := []) hb) (by simp)
      have hlen : (l.take (lft l.length sy keep)).length = lft l.length sy keep := by rw [List.length_take]; omega
      have := run_convert_bytes_back (P := Tryz.prog) w2 71 9 5 ⟨g, 0, none⟩ cap (l.take (lft l.length sy keep)) Tryz.underlying71 Tryz.underlying5 Tryz.underlying9 (fun j hj => hr2.cells j _ (by
        rw [hlen] at hj
        simp [bcells, show j < l.length by omega]))
      rw [hlen] at this
      exact this
  have c2 : w.cell? ⟨sb, 2, none⟩ = some (.slice ao l.length cap) := by simp [World.cell?, hs]
  have c3 : w.cell? ⟨sb, 3, none⟩ = some (.int .i64 (sy : Int)) := by simp [World.cell?, hs]
  have HMI : Hid ((sy : Int) + pk keep ((l.length : Int) - sy + 1) = (lft l.length sy keep : Nat)) := hmi
  have c2' := cell_regrown c2
  have c3' := cell_regrown c3
  clear hs hR hmi
  go_enter Tryz.func63, Tryz.ntmps63
  go_wp2_with fail
  refine wp_region_quiet_below (by kernel_rfl) (by kernel_rfl) ?_
  repeat (first | go_big_quiet_step (fail) | quiet_step (fail))
  refine wpQuiet_nil ?_
  intro w2 hw'
  have hb2 : Below w.heap.size w w2 := below_of_regrown hw'
  have d2 := cell_regrown ((hb2.cell (p := ⟨sb, 2, none⟩) hlt).trans c2)
  have d3 := cell_regrown ((hb2.cell (p := ⟨sb, 3, none⟩) hlt).trans c3)
  have HB2 : Hid (Below w.heap.size w w2) := hb2
  have hpk := pk_lt (c := keep) (n := (l.length : Int) - sy + 1) (by omega)
  have HRS : Hid _ := rest_in keep ((l.length : Int) - sy + 1) w2 h0 h1 (by omega) (by omega)
  generalize hpp : pk keep ((l.length : Int) - sy + 1) = pp at HMI HRS hpk
  generalize hmm : lft l.length sy keep = m at HMI HCV hm
  have HCW : Hid (∀ d os, (convert 71 9 (.slice ao m cap)).run Tryz.prog (grow (redrawn w2 d) os) = .ok (.string (bs (l.take m))) (grow (redrawn w2 d) os)) := fun d os => HCV.out _ (HB2.out.trans ((below_regrown w2 d os).mono HB2.out.size))
  have HMM : Hid (lft l.length sy keep = m) := hmm
  clear c2 c3 c2' c3' hw' hb2 hpp hmm
  have hcw := HCW.out
  go_wp2_with fail
  refine wp_region_quiet_below (by kernel_rfl) (by kernel_rfl) ?_
  repeat (first | go_big_quiet_step (exact HRS.out _ _) | quiet_step (exact HRS.out _ _))
  have e9 : ((sy : Int) + pp).toNat = m := by rw [HMI.out]; simp
  rw [e9]
  repeat (first | go_big_quiet_step (fail) | quiet_step (fail))
  refine wpQuiet_nil ?_
  intro w3 hw3
  have hb3 : Below w2.heap.size w2 w3 := below_of_regrown hw3
  have FIN : Hid (Below w.heap.size w w3) := HB2.out.trans (hb3.mono HB2.out.size)
  clear hw3 hb3 d2 d3 hcw
  go_wp2
  go_ret
  rw [HMM.out]
  exact ⟨rfl, FIN.out⟩
end Go.Proofs.YtakipjofboipmaaGreat

/- Plain mathematics of this proof: a store made anew out of records. -/
namespace Go.Proofs.YtakipjofboipmaaGreat
open Go.Sort

/-- The entries of batches, the first of which has the number s. -/
def entsFrom : Int → List (List Pr) → List En
  | _, [] => []
  | s, b :: r => b.map (toEn s) ++ entsFrom (s + 1) r

theorem ents_snoc : ∀ (Bs : List (List Pr)) (b : List Pr) (s : Int), entsFrom s (Bs ++ [b]) = entsFrom s Bs ++ b.map (toEn (s + Bs.length))
  | [], b, s => by simp [entsFrom]
  | c :: r, b, s => by
    rw [List.cons_append, entsFrom, ents_snoc r b (s + 1), entsFrom, List.append_assoc]
    congr 3
    simp only [List.length_cons]
    congr 1
    push_cast
    omega

theorem ents_mem : ∀ {Bs : List (List Pr)} {s : Int} {e : En}, e ∈ entsFrom s Bs ↔ ∃ (i : Nat) (b : List Pr) (p : Pr), Bs[i]? = some b ∧ p ∈ b ∧ e = toEn (s + i) p
  | [], s, e => by simp [entsFrom]
  | c :: r, s, e => by
    rw [entsFrom, List.mem_append, ents_mem (Bs := r)]
    constructor
    · rintro (h | ⟨i, b, p, h1, h2, rfl⟩)
      · obtain ⟨p, hp, rfl⟩ := List.mem_map.1 h
        exact ⟨0, c, p, rfl, hp, by simp⟩
      · exact ⟨i + 1, b, p, by simpa using h1, h2, by congr 1; push_cast; omega⟩
    · rintro ⟨i, b, p, h1, h2, rfl⟩
      cases i with
      | zero =>
        simp only [List.getElem?_cons_zero, Option.some.injEq] at h1
        subst h1
        exact .inl (List.mem_map.2 ⟨p, h2, by simp⟩)
      | succ i => exact .inr ⟨i, b, p, by simpa using h1, h2, by congr 1; push_cast; omega⟩

theorem ents_len {Bs : List (List Pr)} (h : ∀ b ∈ Bs, Bt b) (s : Int) : (entsFrom s Bs).length ≤ 4 * Bs.length := by
  induction Bs generalizing s with
  | nil => simp [entsFrom]
  | cons c r ih =>
    have h1 := (h c List.mem_cons_self).hi
    have h2 := ih (fun b hb => h b (List.mem_cons_of_mem _ hb)) (s + 1)
    simp only [entsFrom, List.length_append, List.length_map, List.length_cons]
    omega

theorem ents_dist {Bs : List (List Pr)} (h : ∀ b ∈ Bs, Bt b) (s : Int) : DistE (entsFrom s Bs) := by
  induction Bs generalizing s with
  | nil => exact List.Pairwise.nil
  | cons c r ih =>
    refine List.pairwise_append.2 ⟨sorted_dist (sorted_new (h c List.mem_cons_self).up), ih (fun b hb => h b (List.mem_cons_of_mem _ hb)) (s + 1), fun a ha b hb hh => ?_⟩
    obtain ⟨p, _, rfl⟩ := List.mem_map.1 ha
    obtain ⟨i, _, q, _, _, rfl⟩ := ents_mem.1 hb
    have : s = s + 1 + i := hh.2
    omega

/-- A store made anew, behind what was laid down, of records. -/
def St.rs (x : St) (Bs : List (List Pr)) : St :=
  { x with E := srt ((x.E.filter fun e => decide (e.s ≤ x.la)) ++ entsFrom (x.la + 1) Bs), B := Bs, sy := Bs.length, M := srt (entsFrom (x.la + 1) Bs), last := x.la + Bs.length }

theorem rs_memE {x : St} {Bs : List (List Pr)} {e : En} : e ∈ (x.rs Bs).E ↔ (e ∈ x.E ∧ e.s ≤ x.la) ∨ e ∈ entsFrom (x.la + 1) Bs := by
  show e ∈ srt _ ↔ _
  rw [srt_mem, List.mem_append, List.mem_filter, decide_eq_true_eq]

theorem ents_above {Bs : List (List Pr)} {s : Int} {e : En} (h : e ∈ entsFrom s Bs) : s ≤ e.s ∧ e.s < s + Bs.length := by
  obtain ⟨i, b, p, h1, _, rfl⟩ := ents_mem.1 h
  have := (List.getElem?_eq_some_iff.1 h1).1
  simp only [toEn]
  omega

theorem StOk.rs {x : St} (ok : StOk x) {Bs : List (List Pr)} (hB : ∀ b ∈ Bs, Bt b) (hl : x.la + Bs.length < 1000000000) (hf : x.E.length + 4 * Bs.length < 1000000000) : StOk (x.rs Bs) := by
  have lv := ok.lv
  have hd : DistE ((x.E.filter fun e => decide (e.s ≤ x.la)) ++ entsFrom (x.la + 1) Bs) := by
    refine List.pairwise_append.2 ⟨sorted_dist (ok.sorted.sublist List.filter_sublist), ents_dist hB _, fun a ha b hb hh => ?_⟩
    have h1 := (List.mem_filter.1 ha).2
    simp only [decide_eq_true_eq] at h1
    have h2 := (ents_above hb).1
    have := hh.2
    omega
  have hE : Sorted (x.rs Bs).E := srt_sorted hd
  refine ⟨fun e he => ?_, hE, ?_, fun e he => ?_, fun e he => ?_, ok.snaps, ?_⟩
  · show e.s ≤ x.la + (Bs.length : Int)
    rcases rs_memE.1 he with h | h
    · have := h.2; omega
    · have := (ents_above h).2; omega
  · show (srt _).length < _
    rw [srt_len, List.length_append]
    have h1 := List.length_filter_le (fun e : En => decide (e.s ≤ x.la)) x.E
    have h2 := ents_len hB (x.la + 1)
    omega
  · rcases rs_memE.1 he with h | h
    · exact ok.seqs e h.1
    · have := (ents_above h).2; omega
  · rcases rs_memE.1 he with h | h
    · exact ok.keys e h.1
    · obtain ⟨i, b, p, h1, h2, rfl⟩ := ents_mem.1 h
      have := ((hB b (List.mem_of_getElem? h1)).ok p h2).hi
      show p.k.size ≤ 1000
      omega
  · refine ⟨srt_sorted (ents_dist hB _), fun e => ?_, fun t ht e he => ?_, lv.tsorted, lv.tne, lv.lay, lv.lev, lv.lev2, fun q hq k => ?_, lv.tfew, lv.la0, rfl, hB, Nat.le_refl _, fun e => ?_⟩
    · show e ∈ srt _ ↔ _
      rw [srt_mem, rs_memE]
      constructor
      · intro h
        exact ⟨.inr h, by have := (ents_above h).1; show x.la < e.s; omega⟩
      · rintro ⟨h | h, h2⟩
        · have h2' : x.la < e.s := h2
          omega
        · exact h
    · obtain ⟨h1, h2⟩ := lv.tsub t ht e he
      exact ⟨rs_memE.2 (.inl ⟨h1, h2⟩), h2⟩
    · have e1 : ((x.rs Bs).E.filter fun e => decide (e.s ≤ (x.rs Bs).la)) = x.E.filter fun e => decide (e.s ≤ x.la) := by
        refine filter_ext hE ok.sorted fun e he => ?_
        have he' : e.s ≤ x.la := of_decide_eq_true he
        rw [rs_memE]
        constructor
        · rintro (h | h)
          · exact h.1
          · have := (ents_above h).1; omega
        · exact fun h => .inl ⟨h, he'⟩
      rw [e1]
      exact lv.view q hq k
    · rw [rs_memE]
      show _ ∧ x.la < e.s ↔ ∃ (i : Nat) (b : List Pr) (p : Pr), Bs[i]? = some b ∧ p ∈ b ∧ e = toEn (x.la + 1 + i) p
      rw [← ents_mem]
      constructor
      · rintro ⟨h | h, h2⟩
        · omega
        · exact h
      · intro h
        exact ⟨.inr h, by have := (ents_above h).1; omega⟩

/-- What is left behind a Crash: what was laid down, and the first of the batches behind it. -/
theorem rs_take {x : St} (ok : StOk x) {j : Nat} (hj : j ≤ x.B.length) {e : En} : e ∈ (x.rs (x.B.take j)).E ↔ e ∈ x.E ∧ e.s ≤ x.la + j := by
  rw [rs_memE]
  constructor
  · rintro (h | h)
    · exact ⟨h.1, by have := h.2; omega⟩
    · have h2 := (ents_above h).2
      rw [List.length_take, Nat.min_eq_left hj] at h2
      obtain ⟨i, b, p, h1, hp, rfl⟩ := ents_mem.1 h
      refine ⟨((ok.lv.bent _).2 ⟨i, b, p, ?_, hp, rfl⟩).1, by omega⟩
      rw [List.getElem?_take] at h1
      split at h1
      · exact h1
      · cases h1
  · rintro ⟨h1, h2⟩
    by_cases hla : e.s ≤ x.la
    · exact .inl ⟨h1, hla⟩
    · right
      obtain ⟨i, b, p, hi, hp, rfl⟩ := (ok.lv.bent e).1 ⟨h1, by omega⟩
      refine ents_mem.2 ⟨i, b, p, ?_, hp, rfl⟩
      have hij : i < j := by simp only [toEn] at h2; omega
      rw [List.getElem?_take_of_lt hij]
      exact hi
end Go.Proofs.YtakipjofboipmaaGreat
