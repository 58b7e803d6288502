/- The walks of this proof: a pair out of raw numbers. -/
import Derived.Test.YtakipjofboipmaaGreatJ7
import Derived.Test.YtakipjofboipmaaGreatJ6
import Derived.Test.YtakipjofboipmaaGreatJ2
import Derived.Lib.Overlaps
import Derived.Lib.AppendZerosOnto
import Derived.Deep.RegionLaw
namespace Go.Proofs.YtakipjofboipmaaGreat
open Go.RowKit Go.Sort

def pW (w : World) (k v : Int) (g : Bool) : World := (w.alloc (.cells #[.int .i64 k, .int .i64 v, .bool g] 165)).alloc (.cells #[.string ⟨#[]⟩, .string ⟨#[]⟩, .bool false] 48)

/-- What lies while the pair is made. -/
def PS (w : World) (k v : Int) (g : Bool) (w' : World) : Prop :=
  w'.cell? ⟨w.heap.size, 0, none⟩ = some (.int .i64 k) ∧ w'.cell? ⟨w.heap.size, 2, none⟩ = some (.bool g) ∧ w.heap.size + 2 ≤ w'.heap.size ∧ Below (w.heap.size + 2) (pW w k v g) w'

theorem PS.start (w : World) (k v : Int) (g : Bool) : PS w k v g (pW w k v g).drew := ⟨by simp [pW], by simp [pW], by simp [pW], (Below.refl _ _).drew⟩

theorem pW_size (w : World) (k v : Int) (g : Bool) : w.heap.size + 1 + 1 = (pW w k v g).heap.size := by simp [pW]

theorem PS.alloc {w : World} {k v : Int} {g : Bool} {w' : World} (h : PS w k v g w') (o : Obj) : PS w k v g (w'.alloc o) := by
  obtain ⟨a, b, c, d⟩ := h
  refine ⟨?_, ?_, by simp; omega, d.alloc c o⟩
  · rw [World.cell?_alloc_lt _ _ _ (World.block_lt_of_cell? _ _ a)]; exact a
  · rw [World.cell?_alloc_lt _ _ _ (World.block_lt_of_cell? _ _ b)]; exact b

theorem PS.below {w : World} {k v : Int} {g : Bool} {w' w'' : World} (h : PS w k v g w') (hb : Below w'.heap.size w' w'') : PS w k v g w'' := by
  obtain ⟨a, b, c, d⟩ := h
  refine ⟨?_, ?_, Nat.le_trans c hb.size, d.trans (hb.mono c)⟩
  · rw [hb.cell (World.block_lt_of_cell? _ _ a)]; exact a
  · rw [hb.cell (World.block_lt_of_cell? _ _ b)]; exact b

theorem PS.setCell {w : World} {k v : Int} {g : Bool} {w' : World} (h : PS w k v g w') {b : Nat} (hb : w.heap.size + 2 ≤ b) (o : Nat) (u : Value) : PS w k v g (w'.setCell ⟨b, o, none⟩ u) := by
  obtain ⟨a, c, d, e⟩ := h
  refine ⟨?_, ?_, by simpa [World.setCell] using d, e.setCell hb u⟩
  · rw [World.cell?_setCell_far _ _ _ _ (by simp; omega)]; exact a
  · rw [World.cell?_setCell_far _ _ _ _ (by simp; omega)]; exact c

/-- The pair's variable, at last. -/
def PV (w : World) (k v : Int) (g : Bool) (b : Nat) (w' : World) : Prop :=
  w.heap.size + 2 ≤ b ∧ w'.cell? ⟨b, 0, none⟩ = some (.string (kof k)) ∧ w'.cell? ⟨b, 1, none⟩ = some (.string ⟨#[]⟩) ∧ w'.cell? ⟨b, 2, none⟩ = some (.bool g) ∧
  w'.frozen? ⟨b, 0, none⟩ = false ∧ w'.frozen? ⟨b, 1, none⟩ = false ∧ w'.frozen? ⟨b, 2, none⟩ = false ∧ Below (w.heap.size + 2) (pW w k v g) w'

theorem pW_below (w : World) (k v : Int) (g : Bool) : Below w.heap.size w (pW w k v g) := ((Below.refl _ _).alloc (Nat.le_refl _) _).alloc (by simp) _

theorem kof_mem (k : Int) : kof k ∈ tk := by
  have h := pk_lt (c := k) (n := 10) (by omega)
  have h' : (pk k 10).toNat < tk.length := by simp [tk]; omega
  unfold kof
  rw [List.getD_eq_getElem?_getD, List.getElem?_eq_getElem h']
  exact List.getElem_mem h'

theorem tk_ok {k : ByteArray} (h : k ∈ tk) : 1 ≤ k.size ∧ k.size ≤ 6 := by
  simp only [tk, List.mem_cons, List.not_mem_nil, or_false] at h
  rcases h with rfl | rfl | rfl | rfl | rfl | rfl | rfl | rfl | rfl | rfl <;> decide

set_option maxHeartbeats 1000000 in
set_option maxRecDepth 100000 in
theorem pair_any (k v : Int) (g : Bool) (w : World) (h0 : -9223372036854775808 ≤ k) (h1 : k ≤ 9223372036854775807) (h2 : -9223372036854775808 ≤ v) (h3 : v ≤ 9223372036854775807) :
    Calls Tryz.prog 76 #[.agg #[.int .i64 k, .int .i64 v, .bool g]] w fun e w' => ∃ p : Pr, e = .returned (.agg #[.string p.k, .string p.v, .bool p.g]) ∧ PrOk p ∧ p.k ∈ tk ∧ Below w.heap.size w w' := by
  go_enter Tryz.func76, Tryz.ntmps76
  go_wp2_with fail
  rename_i Q' K HK0
  have HK : Hid _ := HK0
  clear HK0
  have REST : ∀ (b : Nat) (w' : World), PV w k v g b w' → K { tmps := #[.agg #[.int .i64 k, .int .i64 v, .bool g], .pointer (some ⟨w.heap.size, 0, none⟩), .pointer (some ⟨w.heap.size + 1, 0, none⟩), .pointer (some ⟨b, 0, none⟩), .pointer (some ⟨w.heap.size, 0, none⟩), .int .i64 k, .string (kof k), .pointer (some ⟨w.heap.size, 2, none⟩), .bool g, .agg #[.string (kof k), .string ⟨#[]⟩, .bool g], undef, undef, undef, undef, undef, undef, undef, undef, undef], defers := [] } w' := by
    rintro b w' ⟨hb, c0, c1, c2, f0, f1, f2, hB⟩
    have a1 : w'.cell? ⟨w.heap.size, 1, none⟩ = some (.int .i64 v) := by rw [hB.cell (by simp)]; simp [pW]
    have a2 : w'.cell? ⟨w.heap.size, 2, none⟩ = some (.bool g) := by rw [hB.cell (by simp)]; simp [pW]
    have d0 : w'.cell? ⟨w.heap.size + 1, 0, none⟩ = some (.string ⟨#[]⟩) := by rw [hB.cell (by simp)]; simp [pW]
    have d1 : w'.cell? ⟨w.heap.size + 1, 1, none⟩ = some (.string ⟨#[]⟩) := by rw [hB.cell (by simp)]; simp [pW]
    have d2 : w'.cell? ⟨w.heap.size + 1, 2, none⟩ = some (.bool false) := by rw [hB.cell (by simp)]; simp [pW]
    have e0 : w'.frozen? ⟨w.heap.size + 1, 0, none⟩ = false := by rw [hB.frozen (by simp)]; simp [pW]
    have e1 : w'.frozen? ⟨w.heap.size + 1, 1, none⟩ = false := by rw [hB.frozen (by simp)]; simp [pW]
    have e2 : w'.frozen? ⟨w.heap.size + 1, 2, none⟩ = false := by rw [hB.frozen (by simp)]; simp [pW]
    have hB' : Hid (Below (w.heap.size + 2) (pW w k v g) w') := hB
    clear hB
    refine HK.out _ _ ?_
    clear HK
    cases g with
    | true =>
      go_wp2
      exact bodyPost_ret (v := .agg #[.string (kof k), .string ⟨#[]⟩, .bool true]) (by simp [results, Tryz.results76, go_sem, d0, d1, d2]) rfl ⟨⟨kof k, ⟨#[]⟩, true⟩, rfl, ⟨(tk_ok (kof_mem k)).1, (tk_ok (kof_mem k)).2, Nat.zero_le 8, fun _ => rfl⟩, kof_mem k, ((((pW_below w k v true).trans (hB'.out.mono (Nat.le_add_right _ _))).setCell (Nat.le_succ _) _).setCell (Nat.le_succ _) _).setCell (Nat.le_succ _) _⟩
    | false =>
      go_wp2_with fail
      refine (pick_any v 100 _ h2 h3 (by omega) (by omega)).mono ?_
      rintro e w3 ⟨rfl, rfl⟩
      have hp := pk_lt (c := v) (n := 100) (by omega)
      go_wp2_with fail
      refine (digits_any _ _ hp.1 hp.2).mono ?_
      clear hp
      rintro e w3 ⟨s, rfl, hs, hb3⟩
      have f1 := (hb3.frozen (block_lt_of_cell c1)).trans f1
      have e0 := (hb3.frozen (block_lt_of_cell d0)).trans e0
      have e1 := (hb3.frozen (block_lt_of_cell d1)).trans e1
      have e2 := (hb3.frozen (block_lt_of_cell d2)).trans e2
      have c0 := cell_later hb3 c0
      have c1 := cell_later hb3 c1
      have c2 := cell_later hb3 c2
      have d0 := cell_later hb3 d0
      have d1 := cell_later hb3 d1
      have d2 := cell_later hb3 d2
      have hB3 : Hid (Below w.heap.size w w3) := ((pW_below w k v false).trans (hB'.out.mono (Nat.le_add_right _ _))).trans (hb3.mono (Nat.le_trans (pW_below w k v false).size hB'.out.size))
      clear hB' hb3
      go_wp2
      exact bodyPost_ret (v := .agg #[.string (kof k), .string s, .bool false]) (by simp [results, Tryz.results76, go_sem, d0, d1, d2]) rfl ⟨⟨kof k, s, false⟩, rfl, ⟨(tk_ok (kof_mem k)).1, (tk_ok (kof_mem k)).2, hs, by simp⟩, kof_mem k, (((hB3.out.setCell (by simp; omega) _).setCell (Nat.le_succ _) _).setCell (Nat.le_succ _) _).setCell (Nat.le_succ _) _⟩
  have HR : Hid _ := REST
  clear REST HK
  refine wp_region_held_drew (S := PS w k v g) (by kernel_rfl) (PS.start w k v g) ?_
  intro hS0
  refine wpAnyH_take (i := 0) (v := .pointer (some ⟨w.heap.size, 0, none⟩)) rfl (by kernel_rfl) (by kernel_rfl) (by kernel_rfl) (fun _ _ _ h => h) (Or.inl ⟨by rfl, ?_⟩) hS0 ?_
  · intro w0 hS
    go_simp
  simp only [Act.put]
  refine wpAnyH_take (i := 1) (v := .int .i64 k) rfl (by kernel_rfl) (by kernel_rfl) (by kernel_rfl) (fun _ _ _ h => h) (Or.inl ⟨by rfl, ?_⟩) hS0 ?_
  · intro w0 hS
    have hS1 := hS.1
    clear hS0 hS
    go_simp
  simp only [Act.put]
  refine wpAnyH_take (i := 3) (v := .pointer (some ⟨w.heap.size, 2, none⟩)) rfl (by kernel_rfl) (by kernel_rfl) (by kernel_rfl) (fun _ _ _ h => h) (Or.inl ⟨by rfl, ?_⟩) hS0 ?_
  · intro w0 hS
    clear hS0 hS
    go_simp
  simp only [Act.put]
  refine wpAnyH_take (i := 4) (v := .bool g) rfl (by kernel_rfl) (by kernel_rfl) (by kernel_rfl) (fun _ _ _ h => h) (Or.inl ⟨by rfl, ?_⟩) hS0 ?_
  · intro w0 hS
    have hS1 := hS.2.1
    clear hS0 hS
    go_simp
  simp only [Act.put]
  refine wpAnyH_ready (rs := [2, 6]) (by kernel_rfl) (by simp) ?_
  refine AllReadyH.cons rfl (fun K' hK => ?_) (AllReadyH.cons rfl (fun K' hK => ?_) AllReadyH.nil)
  · rw [if_pos (by rfl)]
    have hS0' : Hid (PS w k v g (pW w k v g).drew) := hS0
    clear hS0
    go_wp2_with fail
    refine (key_any k _ h0 h1).mono ?_
    rintro e w2 ⟨rfl, hb⟩
    have hS2 : Hid (PS w k v g w2) := PS.below hS0'.out hb
    clear hS0' hb
    go_wp2_with fail
    refine hK.out _ _ hS2.out (fun hS3 => ?_)
    clear hK hS2 K'
    refine wpAnyH_take (i := 5) (v := .agg #[.string (kof k), .string ⟨#[]⟩, .bool g]) rfl (by kernel_rfl) (by kernel_rfl) (by kernel_rfl) (fun _ _ _ h => h) (Or.inl ⟨by rfl, ?_⟩) hS3 ?_
    · intro w0 hS
      clear hS3 hS
      go_simp
    simp only [Act.put]
    refine wpAnyH_ready (rs := [6]) (by kernel_rfl) (by simp) ?_
    refine AllReadyH.cons rfl (fun K' hK => ?_) AllReadyH.nil
    rw [if_pos (by rfl)]
    have hS3' : Hid (PS w k v g w2) := hS3
    clear hS3
    go_wp2_with fail
    refine hK.out _ _ (hS3'.out.alloc _) (fun hS4 => ?_)
    clear hK K' hS4
    refine wpAnyH_ready (rs := [7]) (by kernel_rfl) (by simp) ?_
    refine AllReadyH.cons rfl (fun K' hK => ?_) AllReadyH.nil
    rw [if_pos (by rfl)]
    go_wp2_with fail
    refine hK.out _ _ (hS3'.out.alloc _) (fun hS4 => ?_)
    clear hK K' hS4
    refine wpAnyH_done (by kernel_rfl) ?_ _
    obtain ⟨_, _, hs, hb⟩ := hS3'.out
    exact HR.out w2.heap.size _ ⟨hs, by simp, by simp, by simp, by simp, by simp, by simp, hb.alloc hs _⟩
  · rw [if_pos (by rfl)]
    have hS0' : Hid (PS w k v g (pW w k v g).drew) := hS0
    clear hS0
    go_wp2_with fail
    have hS1 : Hid (PS w k v g ((pW w k v g).drew.alloc (.cells #[.string ⟨#[]⟩, .string ⟨#[]⟩, .bool false] 48))) := hS0'.out.alloc _
    clear hS0'
    refine hK.out _ _ hS1.out (fun hS3 => ?_)
    clear hK hS3 K'
    refine wpAnyH_ready (rs := [2]) (by kernel_rfl) (by simp) ?_
    refine AllReadyH.cons rfl (fun K' hK => ?_) AllReadyH.nil
    rw [if_pos (by rfl)]
    go_wp2_with fail
    refine (key_any k _ h0 h1).mono ?_
    rintro e w2 ⟨rfl, hb⟩
    have hS2 : Hid (PS w k v g w2) := PS.below hS1.out hb
    have q0 : w2.cell? ⟨w.heap.size + 1 + 1, 0, none⟩ = some (Value.string ⟨#[]⟩) := by rw [hb.cell (by simp)]; show (World.alloc (pW w k v g) _).cell? _ = _; rw [pW_size w k v g]; simp
    have q1 : w2.cell? ⟨w.heap.size + 1 + 1, 1, none⟩ = some (Value.string ⟨#[]⟩) := by rw [hb.cell (by simp)]; show (World.alloc (pW w k v g) _).cell? _ = _; rw [pW_size w k v g]; simp
    have q2 : w2.cell? ⟨w.heap.size + 1 + 1, 2, none⟩ = some (Value.bool false) := by rw [hb.cell (by simp)]; show (World.alloc (pW w k v g) _).cell? _ = _; rw [pW_size w k v g]; simp
    have z0 : w2.frozen? ⟨w.heap.size + 1 + 1, 0, none⟩ = false := by rw [hb.frozen (by simp)]; show (World.alloc (pW w k v g) _).frozen? _ = _; rw [pW_size w k v g]; simp
    have z1 : w2.frozen? ⟨w.heap.size + 1 + 1, 1, none⟩ = false := by rw [hb.frozen (by simp)]; show (World.alloc (pW w k v g) _).frozen? _ = _; rw [pW_size w k v g]; simp
    have z2 : w2.frozen? ⟨w.heap.size + 1 + 1, 2, none⟩ = false := by rw [hb.frozen (by simp)]; show (World.alloc (pW w k v g) _).frozen? _ = _; rw [pW_size w k v g]; simp
    clear hb hS1
    go_wp2_with fail
    refine hK.out _ _ hS2.out (fun hS3 => ?_)
    clear hK K'
    refine wpAnyH_take (i := 5) (v := .agg #[.string (kof k), .string ⟨#[]⟩, .bool g]) rfl (by kernel_rfl) (by kernel_rfl) (by kernel_rfl) (fun _ _ _ h => h) (Or.inl ⟨by rfl, ?_⟩) hS3 ?_
    · intro w0 hS
      clear hS3 hS
      go_simp
    simp only [Act.put]
    refine wpAnyH_ready (rs := [7]) (by kernel_rfl) (by simp) ?_
    refine AllReadyH.cons rfl (fun K' hK => ?_) AllReadyH.nil
    rw [if_pos (by rfl)]
    clear hS3
    go_wp2_with fail
    have hS4 := ((hS2.out.setCell (b := w.heap.size + 1 + 1) (by omega) 0 (.string (kof k))).setCell (b := w.heap.size + 1 + 1) (by omega) 1 (.string ⟨#[]⟩)).setCell (b := w.heap.size + 1 + 1) (by omega) 2 (.bool g)
    refine hK.out _ _ hS4 (fun hS5 => ?_)
    clear hK K' hS4
    refine wpAnyH_done (by kernel_rfl) ?_ _
    obtain ⟨_, _, hs, hb⟩ := hS5
    refine HR.out (w.heap.size + 1 + 1) _ ⟨by omega, ?_, ?_, ?_, ?_, ?_, ?_, hb⟩
    all_goals simp [go_sem, q0, q1, q2, z0, z1, z2]
end Go.Proofs.YtakipjofboipmaaGreat

/- The walks of this proof: a batch out of raw numbers. -/
namespace Go.Proofs.YtakipjofboipmaaGreat
open Go.RowKit Go.Sort

/-- Raw triples that can be read. -/
def RawAt (w : World) (v : Value) : Prop := ∃ (ao : Option Addr) (n cap : Nat), v = .slice ao n cap ∧ ∀ k, k < n → ∃ (b : Addr) (x y : Int) (g : Bool), ao = some b ∧ b.spot = none ∧
  w.cell? ⟨b.block, b.off + k * 3, none⟩ = some (.int .i64 x) ∧ w.cell? ⟨b.block, b.off + k * 3 + 1, none⟩ = some (.int .i64 y) ∧ w.cell? ⟨b.block, b.off + k * 3 + 2, none⟩ = some (.bool g) ∧
  -9223372036854775808 ≤ x ∧ x ≤ 9223372036854775807 ∧ -9223372036854775808 ≤ y ∧ y ≤ 9223372036854775807

/-- A batch that Write takes. -/
structure BOk (L : List Pr) : Prop where
  lo : 1 ≤ L.length
  hi : L.length ≤ 4
  ok : ∀ p ∈ L, PrOk p
  ten : ∀ p ∈ L, p.k ∈ tk

def BatchMade (w : World) (e : Ending) (w' : World) : Prop :=
  ∃ (v : Value) (L : List Pr), e = .returned v ∧ w'.ownsRow w.heap.size 48 3 v L.length (pcells L) ∧ BOk L ∧ Below w.heap.size w w'

theorem pcells_snoc {w : World} {B : Nat} {v : Value} {L : List Pr} {p : Pr} (h : w.ownsRow B 48 3 v (L.length + 1) (pcells L ++ Pr.cells p)) : w.ownsRow B 48 3 v (L ++ [p]).length (pcells (L ++ [p])) := by
  have e : pcells (L ++ [p]) = pcells L ++ Pr.cells p := by simp [pcells]
  rw [e, List.length_append]
  exact h

set_option maxHeartbeats 1000000 in
set_option maxRecDepth 100000 in
theorem batch_any (v : Value) (w : World) (h : RawAt w v) : Calls Tryz.prog 41 #[v] w fun e w' => BatchMade w e w' := by
  obtain ⟨i0, hi, hz0, hz1, hz2⟩ := info_parts Tryz.info48
  obtain ⟨ao, n, cap, rfl, hc⟩ := h
  have HC : Hid _ := hc
  clear hc
  go_enter Tryz.func41, Tryz.ntmps41
  go_wp2
  go_loopw [3, 4] (fun s3 i wr => ∃ (L : List Pr), L.length ≤ n ∧ L.length ≤ 4 ∧ i = .int .i64 L.length ∧ Hid (wr.ownsRow w.heap.size 48 3 s3 L.length (pcells L)) ∧ Hid ((∀ p ∈ L, PrOk p) ∧ (∀ p ∈ L, p.k ∈ tk)) ∧ Hid (Below w.heap.size w wr)) (fun _ i _ => 4 - (intOf i).toNat)
  case atStart => exact ⟨[], Nat.zero_le _, by simp, rfl, World.ownsRow_nil w _ _ _, ⟨by simp, by simp⟩, Below.refl _ _⟩
  case round =>
    obtain ⟨L, hk, hk4, rfl, HO, HP, HB⟩ := hrel
    have hsz : w.heap.size ≤ wr.heap.size := HB.out.size
    by_cases hlt : L.length < n
    · by_cases hlt4 : L.length < 4
      · obtain ⟨⟨g, off, spot⟩, x, y, gg, rfl, hsp, c0, c1, c2, hb1, hb2, hb3, hb4⟩ := HC.out L.length hlt
        simp only at hsp c0 c1 c2
        subst hsp
        have c0 := cell_later HB.out c0
        have c1 := cell_later HB.out c1
        have c2 := cell_later HB.out c2
        have hgl : g < wr.heap.size := block_lt_of_cell c0
        have H49 : Hid (Calls Tryz.prog 76 #[.agg #[.int .i64 x, .int .i64 y, .bool gg]] wr fun e w' => ∃ p : Pr, e = .returned (.agg #[.string p.k, .string p.v, .bool p.g]) ∧ PrOk p ∧ p.k ∈ tk ∧ Below wr.heap.size wr w') := pair_any x y gg wr hb1 hb2 hb3 hb4
        clear hb1 hb2 hb3 hb4
        go_wp2_with fail
        refine Calls.mono H49.out ?_
        rintro e w3 ⟨p, rfl, hpo, hpt, hb3⟩
        clear c0 c1 c2
        have hgl3 : g < w3.heap.size := Nat.lt_of_lt_of_le hgl hb3.size
        have hsz3 : w.heap.size ≤ w3.heap.size := Nat.le_trans hsz hb3.size
        have HO3 : w3.ownsRow w.heap.size 48 3 u3 L.length (pcells L) := (Kp.of_below (B := 0) (ts := []) hb3).owns HO.out (by simp)
        have HB3 : Hid (Below w.heap.size w w3) := below_trans' HB.out hb3
        have HP3 : Hid ((∀ q ∈ L ++ [p], PrOk q) ∧ (∀ q ∈ L ++ [p], q.k ∈ tk)) := ⟨by
          intro q hq
          rcases List.mem_append.1 hq with h | h
          · exact HP.out.1 q h
          · obtain rfl := List.mem_singleton.1 h; exact hpo, by
          intro q hq
          rcases List.mem_append.1 hq with h | h
          · exact HP.out.2 q h
          · obtain rfl := List.mem_singleton.1 h; exact hpt⟩
        clear HO HB HP hpo hpt hb3 hgl H49
        obtain ⟨ao3, cap3, rfl⟩ := slice_form HO3
        have HO4 : Hid (w3.ownsRow w.heap.size 48 3 (.slice ao3 L.length cap3) L.length (pcells L)) := HO3
        clear HO3
        go_wp2_with (at_builtin; refine wpList_append_own _ rfl _ _ 49 rfl w.heap.size 48 i0 _ 3 40 Tryz.underlying49 hi hz0 hz1 hz2 rfl (by decide) _ _ _ rfl (HO4.out.alloc _) ⟨w3.heap.size, 0, none⟩ 1 1 (Pr.cells p) rfl rfl (by exact one_pair _ _) (pair_one p) (by unfold maxLen; omega) (by omega) (by simp; omega) ?_)
        intro v9 w4 ho4 hg4 _
        have HB4 : Hid (Below w.heap.size w w4) := (HB3.out.alloc hsz3 _).grown hg4 (by simp; omega) fun k hk => (HO4.out.lt k hk).1
        have HO5 : Hid (w4.ownsRow w.heap.size 48 3 v9 (L ++ [p]).length (pcells (L ++ [p]))) := pcells_snoc ho4
        clear ho4 hg4 HO4 HB3
        go_wp2
        go_roundw
        case rel => exact ⟨L ++ [p], by rw [List.length_append]; exact hlt, by rw [List.length_append]; exact hlt4, by simp, HO5, HP3, HB4⟩
        case measure => simp [intOf]; omega
      · obtain ⟨ao3, cap3, rfl⟩ := slice_form HO.out
        have hL0 : (L.length : Int) ≠ 0 := by omega
        go_wp2
        go_ret
        exact ⟨_, L, rfl, HO.out, ⟨by omega, by omega, HP.out.1, HP.out.2⟩, HB.out⟩
    · obtain rfl : n = L.length := by omega
      obtain ⟨ao3, cap3, rfl⟩ := slice_form HO.out
      by_cases hz : L.length = 0
      · obtain rfl : L = [] := List.length_eq_zero_iff.1 hz
        have HO4 : Hid (wr.ownsRow w.heap.size 48 3 (.slice ao3 0 cap3) 0 []) := HO.out
        go_wp2_with (at_builtin; refine wpList_append_own _ rfl _ _ 49 rfl w.heap.size 48 i0 _ 3 40 Tryz.underlying49 hi hz0 hz1 hz2 rfl (by decide) _ _ _ rfl (HO4.out.alloc _) ⟨wr.heap.size, 0, none⟩ 1 1 (Pr.cells ⟨⟨#[97]⟩, ⟨#[48, 48]⟩, false⟩) rfl rfl (by exact one_pair wr ⟨⟨#[97]⟩, ⟨#[48, 48]⟩, false⟩) (pair_one _) (by unfold maxLen; omega) (by omega) (by simp; omega) ?_)
        intro v9 w4 ho4 hg4 _
        have HB4 : Hid (Below w.heap.size w w4) := (HB.out.alloc hsz _).grown hg4 (by simp; omega) fun k hk => (HO4.out.lt k hk).1
        have HO5 : Hid (w4.ownsRow w.heap.size 48 3 v9 [(⟨⟨#[97]⟩, ⟨#[48, 48]⟩, false⟩ : Pr)].length (pcells [(⟨⟨#[97]⟩, ⟨#[48, 48]⟩, false⟩ : Pr)])) := ho4
        clear ho4 hg4 HO4 HB HO
        go_wp2
        go_ret
        refine ⟨_, _, rfl, HO5.out, ⟨by simp, by simp, ?_, ?_⟩, HB4.out⟩
        · intro q hq
          obtain rfl := List.mem_singleton.1 hq
          exact ⟨Nat.le_refl 1, Nat.le_add_left 1 5, Nat.le_add_left 2 6, by simp⟩
        · intro q hq
          obtain rfl := List.mem_singleton.1 hq
          exact List.mem_cons_self
      · have hL0 : (L.length : Int) ≠ 0 := by omega
        go_wp2
        go_ret
        exact ⟨_, L, rfl, HO.out, ⟨by omega, by omega, HP.out.1, HP.out.2⟩, HB.out⟩
end Go.Proofs.YtakipjofboipmaaGreat

/- Plain mathematics of this proof: what the batches make of a key, and what the entries tell of it. -/
namespace Go.Proofs.YtakipjofboipmaaGreat

/-- What the first n batches make of a key: the last pair. -/
def val (A : List (List Pr)) (k : ByteArray) : Nat → Option Pr
  | 0 => none
  | n + 1 => match lastP (A.getD n []) k with
    | some p => some p
    | none => val A k n

def vk (A : List (List Pr)) (k : ByteArray) (n : Nat) : Option ByteArray :=
  match val A k n with
  | some p => if p.g then none else some p.v
  | none => none

theorem lastP_snoc : ∀ (L : List Pr) (p : Pr) (k : ByteArray), lastP (L ++ [p]) k = if p.k = k then some p else lastP L k
  | [], p, k => by simp [lastP]
  | a :: L, p, k => by
    rw [List.cons_append]
    unfold lastP
    rw [lastP_snoc L p k]
    by_cases h : p.k = k
    · simp [h]
    · simp [h]

/-- The entries are those that the batches made. -/
def Rel (E : List En) (A : List (List Pr)) : Prop := ∀ e, e ∈ E ↔ ∃ (i : Nat) (b : List Pr) (p : Pr), A[i]? = some b ∧ p ∈ keep b ∧ e = toEn ((i : Int) + 1) p

theorem val_none {A : List (List Pr)} {k : ByteArray} : ∀ {n : Nat}, val A k n = none → ∀ i, i < n → lastP (A.getD i []) k = none
  | 0, _, i, h => absurd h (Nat.not_lt_zero _)
  | n + 1, h, i, hi => by
    unfold val at h
    cases hl : lastP (A.getD n []) k with
    | some p => rw [hl] at h; cases h
    | none =>
      rw [hl] at h
      rcases Nat.lt_succ_iff_lt_or_eq.1 hi with h1 | rfl
      · exact val_none h i h1
      · exact hl

theorem val_some {A : List (List Pr)} {k : ByteArray} {p : Pr} : ∀ {n : Nat}, val A k n = some p → ∃ i, i < n ∧ lastP (A.getD i []) k = some p ∧ ∀ j, i < j → j < n → lastP (A.getD j []) k = none
  | 0, h => by cases h
  | n + 1, h => by
    unfold val at h
    cases hl : lastP (A.getD n []) k with
    | some q => rw [hl] at h; obtain rfl := Option.some.inj h; exact ⟨n, Nat.lt_succ_self _, hl, fun j h1 h2 => by omega⟩
    | none =>
      rw [hl] at h
      obtain ⟨i, h1, h2, h3⟩ := val_some h
      refine ⟨i, by omega, h2, fun j h4 h5 => ?_⟩
      rcases Nat.lt_succ_iff_lt_or_eq.1 h5 with h6 | rfl
      · exact h3 j h4 h6
      · exact hl

theorem sk_vk {E : List En} {A : List (List Pr)} (hs : Sorted E) (hr : Rel E A) (k : ByteArray) (n : Nat) (hn : n ≤ A.length) : sk E k n = vk A k n := by
  unfold sk vk
  cases hv : val A k n with
  | none =>
    have h := val_none hv
    rw [fnd_no]
    intro e he hk hq
    obtain ⟨i, b, p, hb, hp, rfl⟩ := (hr e).1 he
    have hi : i < n := by simp only [toEn] at hq; omega
    have h1 := h i hi
    rw [List.getD_eq_getElem?_getD, hb] at h1
    have h2 := keep_mem.1 hp
    simp only [toEn] at hk
    rw [hk] at h2
    simp only [Option.getD_some] at h1
    rw [h1] at h2
    cases h2
  | some p =>
    obtain ⟨i, hi, hl, hm⟩ := val_some hv
    obtain ⟨b, hb⟩ : ∃ b, A[i]? = some b := ⟨_, List.getElem?_eq_getElem (by omega)⟩
    rw [List.getD_eq_getElem?_getD, hb, Option.getD_some] at hl
    have hk := (lastP_key hl).1
    have he : toEn ((i : Int) + 1) p ∈ E := (hr _).2 ⟨i, b, p, hb, keep_mem.2 (by rw [hk]; exact hl), rfl⟩
    rw [fnd_eq hs he hk (by simp only [toEn]; omega) ?_]
    · rfl
    · intro e' he' hk' hq'
      obtain ⟨j, b', p', hb', hp', rfl⟩ := (hr e').1 he'
      simp only [toEn] at hk' hq' ⊢
      by_cases hij : i < j
      · exfalso
        have h1 := hm j hij (by omega)
        rw [List.getD_eq_getElem?_getD, hb', Option.getD_some] at h1
        have h2 := keep_mem.1 hp'
        rw [hk', h1] at h2
        cases h2
      · omega

/-- One batch more. -/
theorem rel_snoc {E F : List En} {A : List (List Pr)} {b M : List Pr} (hr : Rel E A) (hm : SamePr (keep b) M) (hf : ∀ y, y ∈ F ↔ y ∈ E ∨ y ∈ M.map (toEn ((A.length : Int) + 1))) : Rel F (A ++ [b]) := by
  intro e
  rw [hf]
  constructor
  · rintro (h | h)
    · obtain ⟨i, c, p, h1, h2, h3⟩ := (hr e).1 h
      exact ⟨i, c, p, by rw [List.getElem?_append_left (List.getElem?_eq_some_iff.1 h1).1]; exact h1, h2, h3⟩
    · obtain ⟨p, h1, rfl⟩ := List.mem_map.1 h
      exact ⟨A.length, b, p, by simp, (hm.2 p).1 h1, rfl⟩
  · rintro ⟨i, c, p, h1, h2, rfl⟩
    by_cases hi : i < A.length
    · rw [List.getElem?_append_left hi] at h1
      exact .inl ((hr _).2 ⟨i, c, p, h1, h2, rfl⟩)
    · rw [List.getElem?_append_right (by omega)] at h1
      have h0 : i - A.length = 0 := by
        rcases Nat.eq_zero_or_pos (i - A.length) with h | h
        · exact h
        · rw [List.getElem?_eq_none (by simp; omega)] at h1; cases h1
      rw [h0] at h1
      simp only [List.getElem?_cons_zero, Option.some.injEq] at h1
      subst h1
      obtain rfl : i = A.length := by omega
      exact .inr (List.mem_map.2 ⟨p, (hm.2 p).2 h2, rfl⟩)

theorem val_succ {A : List (List Pr)} {k : ByteArray} {i : Nat} {b : List Pr} (hb : A[i]? = some b) : val A k (i + 1) = match lastP b k with | some p => some p | none => val A k i := by
  show (match lastP (A.getD i []) k with | some p => some p | none => val A k i) = _
  rw [List.getD_eq_getElem?_getD, hb, Option.getD_some]

theorem lastP_take {b : List Pr} {r : Nat} {p : Pr} (k : ByteArray) (h : b[r]? = some p) : lastP (b.take (r + 1)) k = if p.k = k then some p else lastP (b.take r) k := by
  rw [List.take_add_one, h]
  exact lastP_snoc _ _ _

end Go.Proofs.YtakipjofboipmaaGreat

/- Plain mathematics of this proof: the ten keys, and what a scan of all tells. -/
namespace Go.Proofs.YtakipjofboipmaaGreat

theorem tk_nodup : tk.Nodup := by decide

theorem vk_ten {A : List (List Pr)} (ht : ∀ b ∈ A, ∀ p ∈ b, p.k ∈ tk) {k v : ByteArray} {n : Nat} (h : vk A k n = some v) : k ∈ tk := by
  unfold vk at h
  cases hv : val A k n with
  | none => rw [hv] at h; cases h
  | some p =>
    obtain ⟨i, _, hl, _⟩ := val_some hv
    rw [List.getD_eq_getElem?_getD] at hl
    cases hb : A[i]? with
    | none => rw [hb] at hl; simp [lastP] at hl
    | some b =>
      rw [hb, Option.getD_some] at hl
      have := lastP_key hl
      rw [← this.1]
      exact ht b (List.mem_of_getElem? hb) p this.2

theorem kc_empty (k : ByteArray) : 0 ≤ kc k ⟨#[]⟩ := by
  unfold kc
  cases k.data.toList <;> simp [Lib.compareBytes]

/-- The ten keys that are there are as many as the scan tells. -/
theorem scan_count {E : List En} {A : List (List Pr)} (hs : Sorted E) (hr : Rel E A) (ht : ∀ b ∈ A, ∀ p ∈ b, p.k ∈ tk) {n : Nat} (hn : n ≤ A.length) {L : List Pr} {cur : Option ByteArray} (h : ScanInv E ⟨#[]⟩ n L cur) (hc : cur = none ∨ (100 : Int) ≤ L.length) :
    L.length = tk.countP fun k => (vk A k n).isSome := by
  have hnd : (L.map (·.k)).Nodup := by
    rw [List.Nodup, List.pairwise_map]
    refine h.ord.imp fun {a b} hab heq => ?_
    rw [heq, kc_self] at hab
    omega
  have hsub : ∀ k, k ∈ L.map (·.k) → k ∈ tk ∧ (vk A k n).isSome = true := by
    intro k hk
    obtain ⟨p, hp, rfl⟩ := List.mem_map.1 hk
    have h1 := (h.seen p hp).2.1
    rw [sk_vk hs hr p.k n hn] at h1
    exact ⟨vk_ten ht h1, by rw [h1]; rfl⟩
  have hle : (L.map (·.k)).length ≤ tk.length := by
    classical
    have hp : (L.map (·.k)).Perm (tk.filter fun k => decide (k ∈ L.map (·.k))) := by
      rw [List.perm_ext_iff_of_nodup hnd (tk_nodup.filter _)]
      intro k
      rw [List.mem_filter, decide_eq_true_eq]
      exact ⟨fun hk => ⟨(hsub k hk).1, hk⟩, fun hk => hk.2⟩
    rw [hp.length_eq]
    exact List.length_filter_le _ _
  have hcn : cur = none := by
    rcases hc with h | h
    · exact h
    · rw [List.length_map] at hle
      have : tk.length = 10 := rfl
      omega
  subst hcn
  rw [List.countP_eq_length_filter, ← List.length_map (f := Pr.k)]
  refine List.Perm.length_eq ?_
  rw [List.perm_ext_iff_of_nodup hnd (tk_nodup.filter _)]
  intro k
  rw [List.mem_filter]
  constructor
  · exact hsub k
  · rintro ⟨hk, hv⟩
    obtain ⟨x, hx⟩ := Option.isSome_iff_exists.1 hv
    rw [← sk_vk hs hr k n hn] at hx
    have hx' := hx
    unfold sk at hx'
    cases hf : fnd E k n with
    | none => rw [hf] at hx'; cases hx'
    | some e =>
      have hmem := List.mem_of_find?_eq_some hf
      have hek := List.find?_some hf
      simp only [decide_eq_true_eq] at hek
      obtain ⟨rfl, _⟩ := hek
      exact List.mem_map.2 ⟨_, h.all e hmem (kc_empty _) (by simp) x hx, rfl⟩
end Go.Proofs.YtakipjofboipmaaGreat

/- The walks of this proof: slices.Insert of one table. -/
namespace Go.Proofs.YtakipjofboipmaaGreat
open Go.RowKit Go.Sort

theorem Tryz.info169 : (Tryz.prog.info? 169).map (fun i => (i.zero, i.size, i.bytes)) = some (some (.agg #[.slice none 0 0, .int .i64 0]), 2, 32) := by kernel_rfl

/-- What Insert comes to: a row of D, one element more. -/
def InsPost (D : Nat → Prop) (n i : Nat) (xs : List Value) (a b : Value) (w : World) (e : Ending) (w' : World) : Prop :=
  ∃ v', e = .returned v' ∧ OwnsIn w' D 169 2 v' (n + 1) (xs.take (i * 2) ++ [a, b] ++ xs.drop (i * 2)) ∧ Kd D [169] w w'

set_option maxHeartbeats 2000000 in
set_option maxRecDepth 100000 in
/-- At the end. -/
theorem insert_end (D : Nat → Prop) (v : Value) (n : Nat) (xs : List Value) (a b : Value) (vb : Nat) (w : World) (ho : OwnsIn w D 169 2 v n xs) (hD : Opn D w) (hv : w.heap[vb]? = some (.cells #[a, b] 169 (0, 0))) (h1 : a.oneCell' = true ∧ b.oneCell' = true) (hn : n < 1000000000) :
    Calls Tryz.prog 93 #[v, .int .i64 n, .slice (some ⟨vb, 0, none⟩) 1 1] w fun e w' => InsPost D n n xs a b w e w' := by
  obtain ⟨i0, hi, hz0, hz1, hz2⟩ := info_parts Tryz.info169
  obtain ⟨ao, cap, rfl⟩ := slice_form ho.own
  have hxl : xs.length = n * 2 := ho.own.1
  have hcap : n ≤ cap := by
    rcases ho.own.2 with ⟨h, h0⟩ | ⟨g', cap', cur, hv, _, _, hnc, _⟩
    · omega
    · simp only [Value.slice.injEq, true_and] at hv; omega
  have HO : Hid (OwnsIn w D 169 2 (.slice ao n cap) n xs) := ho
  have HD : Hid (Opn D w) := hD
  have hnews : Hid (∀ j u, ([a, b] : List Value)[j]? = some u → w.cell? ((⟨vb, 0, none⟩ : Addr).add j) = some u) := fun j u hj => by
    match j, hj with
    | 0, hj => simp at hj; subst hj; simp [Addr.add, World.cell?, hv]
    | 1, hj => simp at hj; subst hj; simp [Addr.add, World.cell?, hv]
    | j + 2, hj => simp at hj
  have hone : Hid (∀ u ∈ ([a, b] : List Value), u.oneCell' = true) := fun u hu => by
    simp at hu
    rcases hu with rfl | rfl
    · exact h1.1
    · exact h1.2
  have HX : Hid (xs.length = n * 2) := hxl
  clear ho hD hv h1 hxl
  by_cases hcn : cap = n
  · subst hcn
    go_enter Tryz.func93, Tryz.ntmps93
    go_wp2_with (at_builtin; refine wpList_append_lies _ rfl _ _ 109 rfl 0 169 i0 _ 2 32 Tryz.underlying109 hi hz0 hz1 hz2 (by kernel_rfl) (by decide) _ _ _ rfl HO.out.own ⟨vb, 0, none⟩ 1 1 [a, b] rfl rfl hnews.out hone.out (by omega) (by unfold maxLen; omega) (by omega) (Nat.zero_le _) _ rfl ?_)
    intro g c w1 ho1 hg1 hat hlt
    have FIN : Hid (InsPost D cap cap xs a b w (.returned (.slice (some ⟨g, 0, none⟩) (cap + 1) c)) w1) := by
      refine ⟨_, rfl, ?_, (Kd.refl D [169] w).grown HO.out hg1 (by simp)⟩
      rw [List.take_of_length_le (by rw [HX.out]; exact Nat.le_refl _), List.drop_eq_nil_of_le (by rw [HX.out]; exact Nat.le_refl _), List.append_nil]
      exact HO.out.lies HD.out ho1 hat
    clear ho1 hg1 hat hlt
    go_wp2
    go_ret
    exact FIN.out
  · go_enter Tryz.func93, Tryz.ntmps93
    go_wp2_with (at_builtin; refine wpList_append_lies _ rfl _ _ 109 rfl 0 169 i0 _ 2 32 Tryz.underlying109 hi hz0 hz1 hz2 (by kernel_rfl) (by decide) _ _ _ rfl HO.out.own ⟨vb, 0, none⟩ 1 1 [a, b] rfl rfl hnews.out hone.out (by omega) (by unfold maxLen; omega) (by omega) (Nat.zero_le _) _ rfl ?_)
    intro g c w1 ho1 hg1 hat hlt
    have FIN : Hid (InsPost D n n xs a b w (.returned (.slice (some ⟨g, 0, none⟩) (n + 1) c)) w1) := by
      refine ⟨_, rfl, ?_, (Kd.refl D [169] w).grown HO.out hg1 (by simp)⟩
      rw [List.take_of_length_le (by rw [HX.out]; exact Nat.le_refl _), List.drop_eq_nil_of_le (by rw [HX.out]; exact Nat.le_refl _), List.append_nil]
      exact HO.out.lies HD.out ho1 hat
    clear ho1 hg1 hat hlt
    go_wp2
    go_ret
    exact FIN.out
end Go.Proofs.YtakipjofboipmaaGreat

/- The walks of this proof: slices.Insert of one table, in the midst. -/
namespace Go.Proofs.YtakipjofboipmaaGreat
open Go.RowKit Go.Sort

/-- A builtin whose run is known by an equation: copy. -/
theorem wp_copyR {P : Program} (w : World) {o : Oper} {a : Act} {K : Act → World → Prop} {Q : Exit → Act → World → Prop} (d s : Operand) (t t' : TypeId)
    (ho : o.op = .call { callee := .builtin .copy, args := #[d, s], argTypes := #[t, t'] }) (v u : Value) (hd : a.eval d = v) (hs : a.eval s = u) {v' : Value} {w' : World}
    (hr : (Builtin.copy_ #[t, t'] o.type #[v, u]).run P w = .ok v' w') (h : K (a.put o.dst v') w') : o.wp P a w K Q := by
  unfold Oper.wp execOp
  simp only [ho, resolve, invoke, builtin, Sem.run_bind, Sem.run_pure, Result.andThen_ok, List.map_toArray, List.map_cons, List.map_nil, hd, hs, hr]
  exact h

theorem wpList_copyR {P : Program} (w : World) {ops : Array Oper} {rest : List Oper} {o : Oper} {a : Act} {Q : Exit → Act → World → Prop} (hgd : o.guard = none) (d s : Operand) (t t' : TypeId)
    (ho : o.op = .call { callee := .builtin .copy, args := #[d, s], argTypes := #[t, t'] }) (v u : Value) (hd : a.eval d = v) (hs : a.eval s = u) {v' : Value} {w' : World}
    (hr : (Builtin.copy_ #[t, t'] o.type #[v, u]).run P w = .ok v' w') (h : wpList P ops Q rest (a.put o.dst v') w') : wpList P ops Q (o :: rest) a w :=
  wpList_plain hgd fun _ hK => wp_copyR w d s t t' ho v u hd hs hr (hK _ _ h)

theorem step_copyR {P : Program} {ops : Array Oper} {o : Oper} {a : Act} {w : World} {K : Act → World → Prop} {Q : Exit → Act → World → Prop} {E : Prop}
    (hg : o.guard = none) (d x : Operand) (dT sT : TypeId) (hop : o.op = Op.call { callee := Callee.builtin Builtin.copy, args := #[d, x], argTypes := #[dT, sT] })
    (v u : Value) (hd : a.eval d = v) (hx : a.eval x = u) {v' : Value} {w' : World} (hr : (Builtin.copy_ #[dT, sT] o.type #[v, u]).run P w = .ok v' w') (hK : K (a.put o.dst v') w') :
    if Region.wanted o (yielded ops a.tmps) = true then Oper.wp P o a w K Q else E := by
  have hw : Region.wanted o (yielded ops a.tmps) = true := by simp [Region.wanted, hg]
  rw [if_pos hw]
  unfold Oper.wp
  simp [execOp, hop, resolve, invoke, builtin, hd, hx, hr, Result.andThen]
  exact hK

theorem wp_appendR {P : Program} (w : World) {o : Oper} {a : Act} {K : Act → World → Prop} {Q : Exit → Act → World → Prop} (d s : Operand) (t t' : TypeId)
    (ho : o.op = .call { callee := .builtin .append, args := #[d, s], argTypes := #[t, t'] }) (v u : Value) (hd : a.eval d = v) (hs : a.eval s = u) {v' : Value} {w' : World}
    (hr : (Builtin.append_ #[t, t'] o.type #[v, u]).run P w = .ok v' w') (h : K (a.put o.dst v') w') : o.wp P a w K Q := by
  unfold Oper.wp execOp
  simp only [ho, resolve, invoke, builtin, Sem.run_bind, Sem.run_pure, Result.andThen_ok, List.map_toArray, List.map_cons, List.map_nil, hd, hs, hr]
  exact h

theorem wpList_appendR {P : Program} (w : World) {ops : Array Oper} {rest : List Oper} {o : Oper} {a : Act} {Q : Exit → Act → World → Prop} (hgd : o.guard = none) (d s : Operand) (t t' : TypeId)
    (ho : o.op = .call { callee := .builtin .append, args := #[d, s], argTypes := #[t, t'] }) (v u : Value) (hd : a.eval d = v) (hs : a.eval s = u) {v' : Value} {w' : World}
    (hr : (Builtin.append_ #[t, t'] o.type #[v, u]).run P w = .ok v' w') (h : wpList P ops Q rest (a.put o.dst v') w') : wpList P ops Q (o :: rest) a w :=
  wpList_plain hgd fun _ hK => wp_appendR w d s t t' ho v u hd hs hr (hK _ _ h)

theorem add_lit (g o j : Nat) : (⟨g, o, none⟩ : Addr).add j = ⟨g, o + j, none⟩ := by
  unfold Addr.add; split <;> simp_all

/-- Cells of a row that lies there. -/
theorem row_part {w : World} {g : Nat} {cur : Array Value} {t : TypeId} (hg : w.heap[g]? = some (.cells cur t (0, 0))) (o m : Nat) : ∀ j v, ((cur.toList.drop o).take m)[j]? = some v → w.cell? ((⟨g, o, none⟩ : Addr).add j) = some v := fun j v hj => by
  rw [List.getElem?_take] at hj
  split at hj
  · rw [List.getElem?_drop] at hj
    rw [add_lit, cell_of_row w g _ cur t (0, 0) hg]
    simpa using hj
  · cases hj

/-- What stands there behind one was put in the midst. -/
theorem mid_take {α : Type} {l xs v : List α} {n i c : Nat} (hl : l.length = c) (hx : l.take n = xs) (hi : i ≤ n) (hc : n + v.length ≤ c) :
    ((l.take (i + v.length) ++ (l.drop i).take (n - i) ++ l.drop (i + v.length + ((l.drop i).take (n - i)).length)).take i ++ v ++ (l.take (i + v.length) ++ (l.drop i).take (n - i) ++ l.drop (i + v.length + ((l.drop i).take (n - i)).length)).drop (i + v.length)).take (n + v.length) = xs.take i ++ v ++ xs.drop i := by
  have e1 : (l.take (i + v.length) ++ (l.drop i).take (n - i) ++ l.drop (i + v.length + ((l.drop i).take (n - i)).length)).take i = xs.take i := by
    rw [List.append_assoc, List.take_append_of_le_length (by simp; omega), List.take_take, Nat.min_eq_left (by omega), ← hx, List.take_take, Nat.min_eq_left hi]
  have e2 : (l.take (i + v.length) ++ (l.drop i).take (n - i) ++ l.drop (i + v.length + ((l.drop i).take (n - i)).length)).drop (i + v.length) = (l.drop i).take (n - i) ++ l.drop (i + v.length + ((l.drop i).take (n - i)).length) := by
    rw [List.append_assoc, List.drop_left' (by simp; omega)]
  have e3 : (l.drop i).take (n - i) = xs.drop i := by rw [← hx, List.drop_take]
  rw [e1, e2, e3]
  rw [← List.append_assoc, List.take_left']
  have : xs.length = n := by rw [← hx]; simp; omega
  simp; omega

set_option maxHeartbeats 2000000 in
set_option maxRecDepth 100000 in
/-- Where there is room. -/
theorem insert_room (g n cap i : Nat) (xs : List Value) (cur : Array Value) (a b : Value) (vb : Nat) (w : World) (hg : w.heap[g]? = some (.cells cur 169 (0, 0))) (hcs : cur.size = cap * 2) (hx : cur.toList.take (n * 2) = xs) (hx1 : ∀ u ∈ xs, u.oneCell' = true)
    (hv : w.heap[vb]? = some (.cells #[a, b] 169 (0, 0))) (h1 : a.oneCell' = true ∧ b.oneCell' = true) (hne : vb ≠ g) (hin : i < n) (hnc : n + 1 ≤ cap) (hn : n < 1000000000) :
    Calls Tryz.prog 93 #[.slice (some ⟨g, 0, none⟩) n cap, .int .i64 i, .slice (some ⟨vb, 0, none⟩) 1 1] w fun e w' => e = .returned (.slice (some ⟨g, 0, none⟩) (n + 1) cap) ∧ ∃ cur' : Array Value, cur'.size = cur.size ∧ cur'.toList.take ((n + 1) * 2) = xs.take (i * 2) ++ [a, b] ++ xs.drop (i * 2) ∧ w'.heap[g]? = some (.cells cur' 169 (0, 0)) ∧ w.grownBy w' (some g) := by
  obtain ⟨i0, hi, hz0, hz1, hz2⟩ := info_parts Tryz.info169
  have hcl : cur.toList.length = cap * 2 := by rw [Array.length_toList, hcs]
  have hov : ∀ lb cb, (callFunc 138 #[.slice (some ⟨vb, 0, none⟩) 1 1, .slice (some ⟨g, (i + 1) * 2, none⟩) lb cb]).run Tryz.prog w = .ok (.value (.bool false)) w := fun lb cb => by
    rw [run_callFunc_extern Tryz.func138 (by kernel_rfl) (by kernel_rfl) (by kernel_rfl) (e := Extern.SlicesOverlaps.overlaps #[109, 109] #[4]) (by kernel_rfl),
      Lib.run_overlaps_apart w 109 4 169 Tryz.underlying109 2 (fun w => by simp [Go.sizeOf, typeInfo, hi, hz1]) ⟨vb, 0, none⟩ ⟨g, (i + 1) * 2, none⟩ 1 1 lb cb hne 169 169 2 (cap * 2) (by simp [World.shape?, hv]) (by simp [World.shape?, hg, hcs]) (by omega) (by simp [World.frozen?, hv]) (by simp [World.frozen?, hv])]
    rfl
  obtain ⟨mid, hmid⟩ : ∃ mid, (cur.toList.drop (i * 2)).take ((n - i) * 2) = mid := ⟨_, rfl⟩
  have hml : mid.length = (n - i) * 2 := by rw [← hmid]; simp only [List.length_take, List.length_drop, hcl]; omega
  have hm1 : ∀ u ∈ mid, u.oneCell' = true := fun u hu => hx1 u (by
    rw [← hmid, show (n - i) * 2 = n * 2 - i * 2 by omega, ← List.drop_take, hx] at hu
    exact List.mem_of_mem_drop hu)
  have hcp1 : ∀ ty dc sc, (Builtin.copy_ #[109, 109] ty #[.slice (some ⟨g, (i + 1) * 2, none⟩) (n - i) dc, .slice (some ⟨g, i * 2, none⟩) (n + 1 - i) sc]).run Tryz.prog w.drew = .ok (goInt ((n - i : Nat) : Int)) (w.drew.setRow g (cur.toList.take ((i + 1) * 2) ++ mid ++ cur.toList.drop ((i + 1) * 2 + mid.length)).toArray) := fun ty dc sc =>
    run_copy_rows w.drew 109 109 ty 169 i0 g ((i + 1) * 2) _ dc _ sc (n - i) (some ⟨g, (i + 1) * 2, none⟩) (some ⟨g, i * 2, none⟩) ⟨g, i * 2, none⟩ cur 169 mid Tryz.underlying109 hi hg (by simp only [Nat.min_def]; split <;> omega) (by rw [hml, hz1]) (fun _ => ⟨rfl, rfl⟩) (by rw [← hmid]; exact row_part hg _ _) (by rw [hml, hcs]; omega) hm1
  obtain ⟨row1, hrow1⟩ : ∃ row1, (cur.toList.take ((i + 1) * 2) ++ mid ++ cur.toList.drop ((i + 1) * 2 + mid.length)).toArray = row1 := ⟨_, rfl⟩
  rw [hrow1] at hcp1
  have hr1 : (w.drew.setRow g row1).heap[g]? = some (.cells row1 169 (0, 0)) := setRow_heap w.drew g cur _ 169 _ hg
  have hv1 : (w.drew.setRow g row1).heap[vb]? = some (.cells #[a, b] 169 (0, 0)) := (setRow_other _ _ _ _ hne).trans hv
  have hrs : row1.size = cap * 2 := by
    rw [← hrow1]
    simp only [List.size_toArray, List.length_append, List.length_take, List.length_drop, hcl, hml]
    omega
  have hcp2 : ∀ ty dc, (Builtin.copy_ #[109, 109] ty #[.slice (some ⟨g, i * 2, none⟩) (n + 1 - i) dc, .slice (some ⟨vb, 0, none⟩) 1 1]).run Tryz.prog (w.drew.setRow g row1) = .ok (goInt ((1 : Nat) : Int)) ((w.drew.setRow g row1).setRow g (row1.toList.take (i * 2) ++ [a, b] ++ row1.toList.drop (i * 2 + [a, b].length)).toArray) := fun ty dc =>
    run_copy_rows (w.drew.setRow g row1) 109 109 ty 169 i0 g (i * 2) _ dc _ 1 1 (some ⟨g, i * 2, none⟩) (some ⟨vb, 0, none⟩) ⟨vb, 0, none⟩ row1 169 [a, b] Tryz.underlying109 hi hr1 (by simp only [Nat.min_def]; split <;> omega) (by simp [hz1]) (fun _ => ⟨rfl, rfl⟩) (fun j v hj => by
      match j, hj with
      | 0, hj => simp at hj; subst hj; simp [Addr.add, World.cell?, hv1]
      | 1, hj => simp at hj; subst hj; simp [Addr.add, World.cell?, hv1]
      | j + 2, hj => simp at hj) (by rw [hrs]; simp; omega) (fun u hu => by simp at hu; rcases hu with rfl | rfl <;> first | exact h1.1 | exact h1.2)
  obtain ⟨row2, hrow2⟩ : ∃ row2, (row1.toList.take (i * 2) ++ [a, b] ++ row1.toList.drop (i * 2 + [a, b].length)).toArray = row2 := ⟨_, rfl⟩
  rw [hrow2] at hcp2
  have FIN : Hid (∃ cur' : Array Value, cur'.size = cur.size ∧ cur'.toList.take ((n + 1) * 2) = xs.take (i * 2) ++ [a, b] ++ xs.drop (i * 2) ∧ ((w.drew.setRow g row1).setRow g row2).heap[g]? = some (.cells cur' 169 (0, 0)) ∧ w.grownBy ((w.drew.setRow g row1).setRow g row2) (some g)) := by
    refine ⟨row2, ?_, ?_, setRow_heap _ g row1 _ 169 _ hr1, ⟨rfl, rfl, rfl, by simp, fun k _ hk => ?_⟩⟩
    · rw [← hrow2]
      simp only [List.size_toArray, List.length_append, List.length_take, List.length_drop, Array.length_toList, hrs, hcs, List.length_cons, List.length_nil]
      omega
    · have := mid_take (l := cur.toList) (xs := xs) (v := [a, b]) (n := n * 2) (i := i * 2) (c := cap * 2) hcl hx (by omega) (by simp; omega)
      rw [← hrow2, ← hrow1, ← hmid]
      simp only [List.length_cons, List.length_nil] at this ⊢
      rw [show (n + 1) * 2 = n * 2 + (0 + 1 + 1) by omega, show (i + 1) * 2 = i * 2 + (0 + 1 + 1) by omega, show (n - i) * 2 = n * 2 - i * 2 by omega]
      exact this
    · have hk' : k ≠ g := fun e => hk (by rw [e])
      rw [setRow_other _ _ _ _ hk', setRow_other _ _ _ _ hk']
      rfl
  have HCP1 : Hid _ := hcp1
  have HCP2 : Hid _ := hcp2
  have hni : ((i : Int) == (n : Int)) = false := by simp; omega
  have hb2 : ¬ (cap = i + 1) := by omega
  have hb4 : ¬ (cap = i) := by omega
  have hw1 : IntKind.i64.wrap ((i : Int) + 1) = (i : Int) + 1 := by rw [IntKind.wrap_i64]; omega
  have hb1 : (0 : Int) ≤ (i : Int) + 1 := by omega
  have htn : ((i : Int) + 1).toNat = i + 1 := by omega
  have hb3 : (i : Int) ≤ (n : Int) + 1 := by omega
  have hb5 : (i : Int) + 1 ≤ (n : Int) + 1 := by omega
  have hin2 : i ≤ n := by omega
  clear hg hv hcs hx hx1 hcl hmid hml hm1 hrow1 hrow2 hr1 hv1 hrs hcp1 hcp2
  go_enter Tryz.func93, Tryz.ntmps93
  go_wp2_with (simp only [hov])
  go_region_law (refine step_copyR rfl (.tmp 73) (.tmp 76) 109 109 rfl (.slice (some ⟨g, (i + 1) * 2, none⟩) (n - i) (cap - (i + 1))) (.slice (some ⟨g, i * 2, none⟩) (n + 1 - i) (cap - i)) (by simp [Act.eval, Act.put]) (by simp [Act.eval, Act.put]) (HCP1.out _ _ _) ?_)
  have hcp2 := HCP2.out
  go_wp2
  go_ret
  exact ⟨rfl, FIN.out⟩

theorem zeros_len (k : Nat) : (Builtin.zeroCells (Value.agg #[.slice none 0 0, .int .i64 0]).cells k).toList.length = k * 2 := by
  simp [Builtin.zeroCells, Value.cells]

set_option maxHeartbeats 2000000 in
set_option maxRecDepth 100000 in
/-- Where there is none. -/
theorem insert_grow (g n i : Nat) (xs : List Value) (cur : Array Value) (a b : Value) (vb : Nat) (w : World) (hg : w.heap[g]? = some (.cells cur 169 (0, 0))) (hcs : cur.size = n * 2) (hx : cur.toList = xs) (hx1 : ∀ u ∈ xs, u.oneCell' = true)
    (hv : w.heap[vb]? = some (.cells #[a, b] 169 (0, 0))) (h1 : a.oneCell' = true ∧ b.oneCell' = true) (hin : i < n) (hn : n < 1000000000) :
    Calls Tryz.prog 93 #[.slice (some ⟨g, 0, none⟩) n n, .int .i64 i, .slice (some ⟨vb, 0, none⟩) 1 1] w fun e w' => ∃ C, e = .returned (.slice (some ⟨w.heap.size, 0, none⟩) (n + 1) C) ∧ w'.ownsRow w.heap.size 169 2 (.slice (some ⟨w.heap.size, 0, none⟩) (n + 1) C) (n + 1) (xs.take (i * 2) ++ [a, b] ++ xs.drop (i * 2)) ∧ Below w.heap.size w w' := by
  obtain ⟨i0, hi, hz0, hz1, hz2⟩ := info_parts Tryz.info169
  subst hx
  have hcl : cur.toList.length = n * 2 := by rw [Array.length_toList, hcs]
  obtain ⟨C, hC⟩ : ∃ C, grownCap w (i + (n + 1 - i)) n 169 = C := ⟨_, rfl⟩
  have hCge : n + 1 ≤ C := by rw [← hC]; have := grownCap_ge w (i + (n + 1 - i)) n 169; omega
  have hCm : C ≤ maxLen := by rw [← hC]; exact grownCap_le_maxLen w _ _ _ (by unfold maxLen; omega)
  obtain ⟨row0, hrow0⟩ : ∃ row0, (cur.toList.take (i * 2)).toArray ++ Builtin.zeroCells (Value.agg #[.slice none 0 0, .int .i64 0]).cells (n + 1 - i) ++ Builtin.zeroCells (Value.agg #[.slice none 0 0, .int .i64 0]).cells (C - (i + (n + 1 - i))) = row0 := ⟨_, rfl⟩
  have hr0s : row0.size = C * 2 := by
    have z1 := zeros_len (n + 1 - i)
    have z2 := zeros_len (C - (i + (n + 1 - i)))
    rw [Array.length_toList] at z1 z2
    rw [← hrow0, Array.size_append, Array.size_append, z1, z2, List.size_toArray, List.length_take, hcl]
    omega
  have hr0t : row0.toList.take (i * 2) = cur.toList.take (i * 2) := by
    rw [← hrow0, Array.toList_append, Array.toList_append, List.append_assoc, List.take_append_of_le_length (by simp [hcl]; omega), List.take_take, Nat.min_self]
  have happ : ∀ ty, (Builtin.append_ #[109, 3] ty #[.slice (some ⟨g, 0, none⟩) i n, .int .i64 ((n : Int) + 1 - (i : Int))]).run Tryz.prog w = .ok (.slice (some ⟨w.heap.size, 0, none⟩) (n + 1) C) (w.drew.alloc (.cells row0 169)) := fun ty => by
    have e1 : (n : Int) + 1 - (i : Int) = ((n + 1 - i : Nat) : Int) := by omega
    have := Lib.run_append_grow_zeros (P := Tryz.prog) w 109 3 ty 169 i0 _ .i64 .i64 Tryz.underlying109 Tryz.underlying3 hi hz0 (some ⟨g, 0, none⟩) i n (cur.toList.take (i * 2))
      (by rw [hz1]; exact run_loadCells_rows w.drew ⟨g, 0, none⟩ (cur.toList.take (i * 2)) (by have := row_part hg 0 (i * 2); rw [List.drop_zero] at this; exact this) i 2 i n (by rw [List.length_take, hcl]; omega))
      (n + 1 - i) (by omega) (by omega) (by omega) (by omega) (by rw [hz2]; omega) (by rw [hz2]; exact growslice_fits (by omega) (by omega))
    rw [e1, this, hC, hrow0, show i + (n + 1 - i) = n + 1 by omega]
  obtain ⟨W1, hW1⟩ : ∃ W1, w.drew.alloc (.cells row0 169) = W1 := ⟨_, rfl⟩
  have hG1 : W1.heap[w.heap.size]? = some (.cells row0 169 (0, 0)) := by rw [← hW1]; exact heap_alloc_new w.drew _
  have hb1 : Below w.heap.size w W1 := by rw [← hW1]; exact ((Below.refl _ _).drew).alloc (Nat.le_refl _) _
  rw [hW1] at happ
  have hv1 : W1.heap[vb]? = some (.cells #[a, b] 169 (0, 0)) := (hb1.block vb (lt_of_block hv)).trans hv
  have hcp1 : ∀ ty dc, (Builtin.copy_ #[109, 109] ty #[.slice (some ⟨w.heap.size, i * 2, none⟩) (n + 1 - i) dc, .slice (some ⟨vb, 0, none⟩) 1 1]).run Tryz.prog W1 = .ok (goInt ((1 : Nat) : Int)) (W1.setRow w.heap.size (row0.toList.take (i * 2) ++ [a, b] ++ row0.toList.drop (i * 2 + [a, b].length)).toArray) := fun ty dc =>
    run_copy_rows W1 109 109 ty 169 i0 w.heap.size (i * 2) _ dc _ 1 1 (some ⟨w.heap.size, i * 2, none⟩) (some ⟨vb, 0, none⟩) ⟨vb, 0, none⟩ row0 169 [a, b] Tryz.underlying109 hi hG1 (by simp only [Nat.min_def]; split <;> omega) (by simp [hz1]) (fun _ => ⟨rfl, rfl⟩) (fun j v hj => by
      match j, hj with
      | 0, hj => simp at hj; subst hj; simp [Addr.add, World.cell?, hv1]
      | 1, hj => simp at hj; subst hj; simp [Addr.add, World.cell?, hv1]
      | j + 2, hj => simp at hj) (by rw [hr0s]; simp; omega) (fun u hu => by simp at hu; rcases hu with rfl | rfl <;> first | exact h1.1 | exact h1.2)
  obtain ⟨row1, hrow1⟩ : ∃ row1, (row0.toList.take (i * 2) ++ [a, b] ++ row0.toList.drop (i * 2 + [a, b].length)).toArray = row1 := ⟨_, rfl⟩
  rw [hrow1] at hcp1
  have hr1s : row1.size = C * 2 := by
    rw [← hrow1]
    simp only [List.size_toArray, List.length_append, List.length_take, List.length_drop, Array.length_toList, hr0s, List.length_cons, List.length_nil]
    omega
  obtain ⟨W2, hW2⟩ : ∃ W2, W1.setRow w.heap.size row1 = W2 := ⟨_, rfl⟩
  have hG2 : W2.heap[w.heap.size]? = some (.cells row1 169 (0, 0)) := by rw [← hW2]; exact setRow_heap W1 _ row0 _ 169 _ hG1
  have hgs : g < w.heap.size := lt_of_block hg
  have hg2 : W2.heap[g]? = some (.cells cur 169 (0, 0)) := by
    rw [← hW2, setRow_other _ _ _ _ (by omega)]
    exact (hb1.block g hgs).trans hg
  have hz2' : W1.heap.size = w.heap.size + 1 := by rw [← hW1]; simp
  have hb2 : Below w.heap.size w W2 := by
    refine hb1.trans ⟨by rw [← hW2]; rfl, by rw [← hW2]; rfl, by rw [← hW2]; rfl, by rw [← hW2]; simp, fun k hk => by rw [← hW2]; exact setRow_other _ _ _ _ (by omega)⟩
  rw [hW2] at hcp1
  obtain ⟨mid, hmid⟩ : ∃ mid, cur.toList.drop (i * 2) = mid := ⟨_, rfl⟩
  have hml : mid.length = (n - i) * 2 := by rw [← hmid, List.length_drop, hcl]; omega
  have hcp2 : ∀ ty dc sc, (Builtin.copy_ #[109, 109] ty #[.slice (some ⟨w.heap.size, (i + 1) * 2, none⟩) (n - i) dc, .slice (some ⟨g, i * 2, none⟩) (n - i) sc]).run Tryz.prog W2.drew = .ok (goInt ((n - i : Nat) : Int)) (W2.drew.setRow w.heap.size (row1.toList.take ((i + 1) * 2) ++ mid ++ row1.toList.drop ((i + 1) * 2 + mid.length)).toArray) := fun ty dc sc =>
    run_copy_rows W2.drew 109 109 ty 169 i0 w.heap.size ((i + 1) * 2) _ dc _ sc (n - i) (some ⟨w.heap.size, (i + 1) * 2, none⟩) (some ⟨g, i * 2, none⟩) ⟨g, i * 2, none⟩ row1 169 mid Tryz.underlying109 hi hG2 (by simp) (by rw [hml, hz1]) (fun _ => ⟨rfl, rfl⟩) (fun j v hj => by
      rw [← hmid] at hj
      exact row_part hg2 (i * 2) ((n - i) * 2) j v (by rw [List.take_of_length_le (by rw [List.length_drop, hcl]; omega)]; exact hj)) (by rw [hml, hr1s]; omega) (fun u hu => hx1 u (by rw [← hmid] at hu; exact List.mem_of_mem_drop hu))
  obtain ⟨row2, hrow2⟩ : ∃ row2, (row1.toList.take ((i + 1) * 2) ++ mid ++ row1.toList.drop ((i + 1) * 2 + mid.length)).toArray = row2 := ⟨_, rfl⟩
  rw [hrow2] at hcp2
  have FIN : Hid ((W2.drew.setRow w.heap.size row2).ownsRow w.heap.size 169 2 (.slice (some ⟨w.heap.size, 0, none⟩) (n + 1) C) (n + 1) (cur.toList.take (i * 2) ++ [a, b] ++ cur.toList.drop (i * 2)) ∧ Below w.heap.size w (W2.drew.setRow w.heap.size row2)) := by
    refine ⟨⟨?_, .inr ⟨w.heap.size, C, row2, rfl, Nat.le_refl _, setRow_heap W2.drew _ row1 _ 169 _ hG2, hCge, hCm, ?_, ?_⟩⟩, hb2.trans ⟨rfl, rfl, rfl, by simp, fun k hk => setRow_other _ _ _ _ (by omega)⟩⟩
    · simp only [List.length_append, List.length_take, List.length_drop, hcl, List.length_cons, List.length_nil]; omega
    · rw [← hrow2]
      simp only [List.size_toArray, List.length_append, List.length_take, List.length_drop, Array.length_toList, hr1s, hml]
      omega
    · have e1 : row1.toList.take ((i + 1) * 2) = cur.toList.take (i * 2) ++ [a, b] := by
        rw [← hrow1, ← hr0t]
        show List.take _ (_ ++ _ ++ _) = _
        rw [List.take_left']
        simp only [List.length_append, List.length_take, Array.length_toList, hr0s, List.length_cons, List.length_nil]
        omega
      rw [← hrow2, e1]
      show List.take _ (_ ++ _ ++ _) = _
      rw [List.take_left', hmid]
      simp only [List.length_append, List.length_take, hcl, hml, List.length_cons, List.length_nil]
      omega
  have HCP2 : Hid _ := hcp2
  have HAPP : Hid _ := happ
  have hni : ((i : Int) == (n : Int)) = false := by simp; omega
  have hc2 : ¬ (C = i + 1) := by omega
  have hc4 : ¬ (C = i) := by omega
  have hc5 : ¬ (n = i) := by omega
  have hw1 : IntKind.i64.wrap ((i : Int) + 1) = (i : Int) + 1 := by rw [IntKind.wrap_i64]; omega
  have hw2 : IntKind.i64.wrap ((n : Int) + 1 - (i : Int)) = (n : Int) + 1 - (i : Int) := by rw [IntKind.wrap_i64]; omega
  have hi1 : (0 : Int) ≤ (i : Int) + 1 := by omega
  have htn : ((i : Int) + 1).toNat = i + 1 := by omega
  have hb3 : (i : Int) ≤ (n : Int) + 1 := by omega
  have hb5 : (i : Int) + 1 ≤ (n : Int) + 1 := by omega
  have hin2 : i ≤ n := by omega
  have hlt1 : (n : Int) < (n : Int) + 1 := by omega
  have HN : Hid (C = C) := rfl
  clear hg hv hcs hx1 hcl hrow0 hr0s hr0t hW1 hG1 hb1 hv1 hrow1 hr1s hW2 hG2 hg2 hz2' hb2 hmid hml hrow2 hcp2 hC hCm
  go_enter Tryz.func93, Tryz.ntmps93
  go_wp2_with (at_builtin; refine wpList_appendR _ rfl (.tmp 34) (.tmp 39) 109 3 rfl (.slice (some ⟨g, 0, none⟩) i n) (.int .i64 ((n : Int) + 1 - (i : Int))) rfl rfl (HAPP.out _) ?_)
  go_region_law (refine step_copyR rfl (.tmp 50) (.tmp 53) 109 109 rfl (.slice (some ⟨w.heap.size, (i + 1) * 2, none⟩) (n - i) (C - (i + 1))) (.slice (some ⟨g, i * 2, none⟩) (n - i) (n - i)) (by simp [Act.eval, Act.put]) (by simp [Act.eval, Act.put]) (HCP2.out _ _ _) ?_)
  go_wp2
  go_ret
  exact ⟨C, rfl, FIN.out⟩
end Go.Proofs.YtakipjofboipmaaGreat
