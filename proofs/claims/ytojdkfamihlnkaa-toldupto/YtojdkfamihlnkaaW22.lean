/- The walks of this proof: a pair out of raw numbers. -/
import Derived.Test.YtojdkfamihlnkaaW21
namespace Go.Proofs.Ytojdkfamihlnkaa
open Go.RowKit Go.Sort

def pW (w : World) (k v : Int) (g : Bool) : World := (w.alloc (.cells #[.int .i64 k, .int .i64 v, .bool g] 118)).alloc (.cells #[.string ⟨#[]⟩, .string ⟨#[]⟩, .bool false] 78)

/-- What lies while the pair is made. -/
def PS (w : World) (k v : Int) (g : Bool) (w' : World) : Prop :=
  w'.cell? ⟨w.heap.size, 0, none⟩ = some (.int .i64 k) ∧ w'.cell? ⟨w.heap.size, 2, none⟩ = some (.bool g) ∧ w.heap.size + 2 ≤ w'.heap.size ∧ Below (w.heap.size + 2) (pW w k v g) w'

theorem PS.start (w : World) (k v : Int) (g : Bool) : PS w k v g (pW w k v g).drew := ⟨by simp [pW], by simp [pW], by simp [pW], (Below.refl _ _).drew⟩

theorem pW_size (w : World) (k v : Int) (g : Bool) : w.heap.size + 1 + 1 = (pW w k v g).heap.size := by simp [pW]

theorem PS.alloc {w : World} {k v : Int} {g : Bool} {w' : World} (h : PS w k v g w') (o : Obj) : PS w k v g (w'.alloc o) := by
  obtain ⟨a, b, c, d⟩ := h
  refine ⟨?_, ?_, by simp; omega, d.alloc c o⟩
  · rw [World.cell?_alloc_lt _ _ _ (World.block_lt_of_cell? _ _ a)]; exact a
  · rw [World.cell?_alloc_lt _ _ _ (World.block_lt_of_cell? _ _ b)]; exact b

theorem PS.below {w : World} {k v : Int} {g : Bool} {w' w'' : World} (h : PS w k v g w') (hb : Below w'.heap.size w' w'') : PS w k v g w'' := by
  obtain ⟨a, b, c, d⟩ := h
  refine ⟨?_, ?_, Nat.le_trans c hb.size, d.trans (hb.mono c)⟩
  · rw [hb.cell (World.block_lt_of_cell? _ _ a)]; exact a
  · rw [hb.cell (World.block_lt_of_cell? _ _ b)]; exact b

theorem PS.setCell {w : World} {k v : Int} {g : Bool} {w' : World} (h : PS w k v g w') {b : Nat} (hb : w.heap.size + 2 ≤ b) (o : Nat) (u : Value) : PS w k v g (w'.setCell ⟨b, o, none⟩ u) := by
  obtain ⟨a, c, d, e⟩ := h
  refine ⟨?_, ?_, by simpa [World.setCell] using d, e.setCell hb u⟩
  · rw [World.cell?_setCell_far _ _ _ _ (by simp; omega)]; exact a
  · rw [World.cell?_setCell_far _ _ _ _ (by simp; omega)]; exact c

/-- The pair's variable, at last. -/
def PV (w : World) (k v : Int) (g : Bool) (b : Nat) (w' : World) : Prop :=
  w.heap.size + 2 ≤ b ∧ w'.cell? ⟨b, 0, none⟩ = some (.string (kof k)) ∧ w'.cell? ⟨b, 1, none⟩ = some (.string ⟨#[]⟩) ∧ w'.cell? ⟨b, 2, none⟩ = some (.bool g) ∧
  w'.frozen? ⟨b, 0, none⟩ = false ∧ w'.frozen? ⟨b, 1, none⟩ = false ∧ w'.frozen? ⟨b, 2, none⟩ = false ∧ Below (w.heap.size + 2) (pW w k v g) w'

theorem pW_below (w : World) (k v : Int) (g : Bool) : Below w.heap.size w (pW w k v g) := ((Below.refl _ _).alloc (Nat.le_refl _) _).alloc (by simp) _

theorem kof_mem (k : Int) : kof k ∈ tk := by
  have h := pk_lt (c := k) (n := 10) (by omega)
  have h' : (pk k 10).toNat < tk.length := by simp [tk]; omega
  unfold kof
  rw [List.getD_eq_getElem?_getD, List.getElem?_eq_getElem h']
  exact List.getElem_mem h'

theorem tk_ok {k : ByteArray} (h : k ∈ tk) : 1 ≤ k.size ∧ k.size ≤ 6 := by
  simp only [tk, List.mem_cons, List.not_mem_nil, or_false] at h
  rcases h with rfl | rfl | rfl | rfl | rfl | rfl | rfl | rfl | rfl | rfl <;> decide

set_option maxHeartbeats 1000000 in
set_option maxRecDepth 100000 in
theorem pair_any (k v : Int) (g : Bool) (w : World) (h0 : -9223372036854775808 ≤ k) (h1 : k ≤ 9223372036854775807) (h2 : -9223372036854775808 ≤ v) (h3 : v ≤ 9223372036854775807) :
    Calls Try.prog 49 #[.agg #[.int .i64 k, .int .i64 v, .bool g]] w fun e w' => ∃ p : Pr, e = .returned (.agg #[.string p.k, .string p.v, .bool p.g]) ∧ PrOk p ∧ p.k ∈ tk ∧ Below w.heap.size w w' := by
  go_enter Try.func49, Try.ntmps49
  go_wp2_with fail
  rename_i Q' K HK0
  have HK : Hid _ := HK0
  clear HK0
  have REST : ∀ (b : Nat) (w' : World), PV w k v g b w' → K { tmps := #[.agg #[.int .i64 k, .int .i64 v, .bool g], .pointer (some ⟨w.heap.size, 0, none⟩), .pointer (some ⟨w.heap.size + 1, 0, none⟩), .pointer (some ⟨b, 0, none⟩), .pointer (some ⟨w.heap.size, 0, none⟩), .int .i64 k, .string (kof k), .pointer (some ⟨w.heap.size, 2, none⟩), .bool g, .agg #[.string (kof k), .string ⟨#[]⟩, .bool g], undef, undef, undef, undef, undef, undef, undef, undef, undef], defers := [] } w' := by
    rintro b w' ⟨hb, c0, c1, c2, f0, f1, f2, hB⟩
    have a1 : w'.cell? ⟨w.heap.size, 1, none⟩ = some (.int .i64 v) := by rw [hB.cell (by simp)]; simp [pW]
    have a2 : w'.cell? ⟨w.heap.size, 2, none⟩ = some (.bool g) := by rw [hB.cell (by simp)]; simp [pW]
    have d0 : w'.cell? ⟨w.heap.size + 1, 0, none⟩ = some (.string ⟨#[]⟩) := by rw [hB.cell (by simp)]; simp [pW]
    have d1 : w'.cell? ⟨w.heap.size + 1, 1, none⟩ = some (.string ⟨#[]⟩) := by rw [hB.cell (by simp)]; simp [pW]
    have d2 : w'.cell? ⟨w.heap.size + 1, 2, none⟩ = some (.bool false) := by rw [hB.cell (by simp)]; simp [pW]
    have e0 : w'.frozen? ⟨w.heap.size + 1, 0, none⟩ = false := by rw [hB.frozen (by simp)]; simp [pW]
    have e1 : w'.frozen? ⟨w.heap.size + 1, 1, none⟩ = false := by rw [hB.frozen (by simp)]; simp [pW]
    have e2 : w'.frozen? ⟨w.heap.size + 1, 2, none⟩ = false := by rw [hB.frozen (by simp)]; simp [pW]
    have hB' : Hid (Below (w.heap.size + 2) (pW w k v g) w') := hB
    clear hB
    refine HK.out _ _ ?_
    clear HK
    cases g with
    | true =>
      go_wp2
      exact bodyPost_ret (v := .agg #[.string (kof k), .string ⟨#[]⟩, .bool true]) (by simp [results, Try.results49, go_sem, d0, d1, d2]) rfl ⟨⟨kof k, ⟨#[]⟩, true⟩, rfl, ⟨(tk_ok (kof_mem k)).1, (tk_ok (kof_mem k)).2, Nat.zero_le 8, fun _ => rfl⟩, kof_mem k, ((((pW_below w k v true).trans (hB'.out.mono (Nat.le_add_right _ _))).setCell (Nat.le_succ _) _).setCell (Nat.le_succ _) _).setCell (Nat.le_succ _) _⟩
    | false =>
      go_wp2_with fail
      refine (pick_any v 100 _ h2 h3 (by omega) (by omega)).mono ?_
      rintro e w3 ⟨rfl, rfl⟩
      have hp := pk_lt (c := v) (n := 100) (by omega)
      go_wp2_with fail
      refine (digits_any _ _ hp.1 hp.2).mono ?_
      clear hp
      rintro e w3 ⟨s, rfl, hs, hb3⟩
      have f1 := (hb3.frozen (block_lt_of_cell c1)).trans f1
      have e0 := (hb3.frozen (block_lt_of_cell d0)).trans e0
      have e1 := (hb3.frozen (block_lt_of_cell d1)).trans e1
      have e2 := (hb3.frozen (block_lt_of_cell d2)).trans e2
      have c0 := cell_later hb3 c0
      have c1 := cell_later hb3 c1
      have c2 := cell_later hb3 c2
      have d0 := cell_later hb3 d0
      have d1 := cell_later hb3 d1
      have d2 := cell_later hb3 d2
      have hB3 : Hid (Below w.heap.size w w3) := ((pW_below w k v false).trans (hB'.out.mono (Nat.le_add_right _ _))).trans (hb3.mono (Nat.le_trans (pW_below w k v false).size hB'.out.size))
      clear hB' hb3
      go_wp2
      exact bodyPost_ret (v := .agg #[.string (kof k), .string s, .bool false]) (by simp [results, Try.results49, go_sem, d0, d1, d2]) rfl ⟨⟨kof k, s, false⟩, rfl, ⟨(tk_ok (kof_mem k)).1, (tk_ok (kof_mem k)).2, hs, by simp⟩, kof_mem k, (((hB3.out.setCell (by simp; omega) _).setCell (Nat.le_succ _) _).setCell (Nat.le_succ _) _).setCell (Nat.le_succ _) _⟩
  have HR : Hid _ := REST
  clear REST HK
  refine wp_region_held_drew (S := PS w k v g) (by kernel_rfl) (PS.start w k v g) ?_
  intro hS0
  refine wpAnyH_take (i := 0) (v := .pointer (some ⟨w.heap.size, 0, none⟩)) rfl (by kernel_rfl) (by kernel_rfl) (by kernel_rfl) (fun _ _ _ h => h) (Or.inl ⟨by rfl, ?_⟩) hS0 ?_
  · intro w0 hS
    go_simp
  simp only [Act.put]
  refine wpAnyH_take (i := 1) (v := .int .i64 k) rfl (by kernel_rfl) (by kernel_rfl) (by kernel_rfl) (fun _ _ _ h => h) (Or.inl ⟨by rfl, ?_⟩) hS0 ?_
  · intro w0 hS
    have hS1 := hS.1
    clear hS0 hS
    go_simp
  simp only [Act.put]
  refine wpAnyH_take (i := 3) (v := .pointer (some ⟨w.heap.size, 2, none⟩)) rfl (by kernel_rfl) (by kernel_rfl) (by kernel_rfl) (fun _ _ _ h => h) (Or.inl ⟨by rfl, ?_⟩) hS0 ?_
  · intro w0 hS
    clear hS0 hS
    go_simp
  simp only [Act.put]
  refine wpAnyH_take (i := 4) (v := .bool g) rfl (by kernel_rfl) (by kernel_rfl) (by kernel_rfl) (fun _ _ _ h => h) (Or.inl ⟨by rfl, ?_⟩) hS0 ?_
  · intro w0 hS
    have hS1 := hS.2.1
    clear hS0 hS
    go_simp
  simp only [Act.put]
  refine wpAnyH_ready (rs := [2, 6]) (by kernel_rfl) (by simp) ?_
  refine AllReadyH.cons rfl (fun K' hK => ?_) (AllReadyH.cons rfl (fun K' hK => ?_) AllReadyH.nil)
  · rw [if_pos (by rfl)]
    have hS0' : Hid (PS w k v g (pW w k v g).drew) := hS0
    clear hS0
    go_wp2_with fail
    refine (key_any k _ h0 h1).mono ?_
    rintro e w2 ⟨rfl, hb⟩
    have hS2 : Hid (PS w k v g w2) := PS.below hS0'.out hb
    clear hS0' hb
    go_wp2_with fail
    refine hK.out _ _ hS2.out (fun hS3 => ?_)
    clear hK hS2 K'
    refine wpAnyH_take (i := 5) (v := .agg #[.string (kof k), .string ⟨#[]⟩, .bool g]) rfl (by kernel_rfl) (by kernel_rfl) (by kernel_rfl) (fun _ _ _ h => h) (Or.inl ⟨by rfl, ?_⟩) hS3 ?_
    · intro w0 hS
      clear hS3 hS
      go_simp
    simp only [Act.put]
    refine wpAnyH_ready (rs := [6]) (by kernel_rfl) (by simp) ?_
    refine AllReadyH.cons rfl (fun K' hK => ?_) AllReadyH.nil
    rw [if_pos (by rfl)]
    have hS3' : Hid (PS w k v g w2) := hS3
    clear hS3
    go_wp2_with fail
    refine hK.out _ _ (hS3'.out.alloc _) (fun hS4 => ?_)
    clear hK K' hS4
    refine wpAnyH_ready (rs := [7]) (by kernel_rfl) (by simp) ?_
    refine AllReadyH.cons rfl (fun K' hK => ?_) AllReadyH.nil
    rw [if_pos (by rfl)]
    go_wp2_with fail
    refine hK.out _ _ (hS3'.out.alloc _) (fun hS4 => ?_)
    clear hK K' hS4
    refine wpAnyH_done (by kernel_rfl) ?_ _
    obtain ⟨_, _, hs, hb⟩ := hS3'.out
    exact HR.out w2.heap.size _ ⟨hs, by simp, by simp, by simp, by simp, by simp, by simp, hb.alloc hs _⟩
  · rw [if_pos (by rfl)]
    have hS0' : Hid (PS w k v g (pW w k v g).drew) := hS0
    clear hS0
    go_wp2_with fail
    have hS1 : Hid (PS w k v g ((pW w k v g).drew.alloc (.cells #[.string ⟨#[]⟩, .string ⟨#[]⟩, .bool false] 78))) := hS0'.out.alloc _
    clear hS0'
    refine hK.out _ _ hS1.out (fun hS3 => ?_)
    clear hK hS3 K'
    refine wpAnyH_ready (rs := [2]) (by kernel_rfl) (by simp) ?_
    refine AllReadyH.cons rfl (fun K' hK => ?_) AllReadyH.nil
    rw [if_pos (by rfl)]
    go_wp2_with fail
    refine (key_any k _ h0 h1).mono ?_
    rintro e w2 ⟨rfl, hb⟩
    have hS2 : Hid (PS w k v g w2) := PS.below hS1.out hb
    have q0 : w2.cell? ⟨w.heap.size + 1 + 1, 0, none⟩ = some (Value.string ⟨#[]⟩) := by rw [hb.cell (by simp)]; show (World.alloc (pW w k v g) _).cell? _ = _; rw [pW_size w k v g]; simp
    have q1 : w2.cell? ⟨w.heap.size + 1 + 1, 1, none⟩ = some (Value.string ⟨#[]⟩) := by rw [hb.cell (by simp)]; show (World.alloc (pW w k v g) _).cell? _ = _; rw [pW_size w k v g]; simp
    have q2 : w2.cell? ⟨w.heap.size + 1 + 1, 2, none⟩ = some (Value.bool false) := by rw [hb.cell (by simp)]; show (World.alloc (pW w k v g) _).cell? _ = _; rw [pW_size w k v g]; simp
    have z0 : w2.frozen? ⟨w.heap.size + 1 + 1, 0, none⟩ = false := by rw [hb.frozen (by simp)]; show (World.alloc (pW w k v g) _).frozen? _ = _; rw [pW_size w k v g]; simp
    have z1 : w2.frozen? ⟨w.heap.size + 1 + 1, 1, none⟩ = false := by rw [hb.frozen (by simp)]; show (World.alloc (pW w k v g) _).frozen? _ = _; rw [pW_size w k v g]; simp
    have z2 : w2.frozen? ⟨w.heap.size + 1 + 1, 2, none⟩ = false := by rw [hb.frozen (by simp)]; show (World.alloc (pW w k v g) _).frozen? _ = _; rw [pW_size w k v g]; simp
    clear hb hS1
    go_wp2_with fail
    refine hK.out _ _ hS2.out (fun hS3 => ?_)
    clear hK K'
    refine wpAnyH_take (i := 5) (v := .agg #[.string (kof k), .string ⟨#[]⟩, .bool g]) rfl (by kernel_rfl) (by kernel_rfl) (by kernel_rfl) (fun _ _ _ h => h) (Or.inl ⟨by rfl, ?_⟩) hS3 ?_
    · intro w0 hS
      clear hS3 hS
      go_simp
    simp only [Act.put]
    refine wpAnyH_ready (rs := [7]) (by kernel_rfl) (by simp) ?_
    refine AllReadyH.cons rfl (fun K' hK => ?_) AllReadyH.nil
    rw [if_pos (by rfl)]
    clear hS3
    go_wp2_with fail
    have hS4 := ((hS2.out.setCell (b := w.heap.size + 1 + 1) (by omega) 0 (.string (kof k))).setCell (b := w.heap.size + 1 + 1) (by omega) 1 (.string ⟨#[]⟩)).setCell (b := w.heap.size + 1 + 1) (by omega) 2 (.bool g)
    refine hK.out _ _ hS4 (fun hS5 => ?_)
    clear hK K' hS4
    refine wpAnyH_done (by kernel_rfl) ?_ _
    obtain ⟨_, _, hs, hb⟩ := hS5
    refine HR.out (w.heap.size + 1 + 1) _ ⟨by omega, ?_, ?_, ?_, ?_, ?_, ?_, hb⟩
    all_goals simp [go_sem, q0, q1, q2, z0, z1, z2]
end Go.Proofs.Ytojdkfamihlnkaa
