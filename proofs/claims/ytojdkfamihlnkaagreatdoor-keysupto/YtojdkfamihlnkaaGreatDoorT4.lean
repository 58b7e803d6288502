/- The walks of this proof: a step that scans. -/
import Derived.Test.YtojdkfamihlnkaaGreatDoorT3
namespace Go.Proofs.YtojdkfamihlnkaaGreatDoor
open Go.RowKit Go.Sort

/-- What Scan hands back, whoever is asked. -/
def ScanOut (L : List Pr) (c : Int) (v : Value) (w : World) (e : Ending) (w' : World) : Prop :=
  e = .returned (.tuple #[v, .int .i64 c]) ∧ w'.ownsRow w.heap.size 57 3 v L.length (pcells L) ∧ Below w.heap.size w w'

theorem scan_both {x : St} {f : ByteArray} {most n : Int} {w w1 w2 w3 : World} {e1 e2 : Ending} (h1 : ScanAns x f most n w e1 w1) (h2 : ScanAns x f most n w2 e2 w3) :
    ∃ (L : List Pr) (c : Int) (v1 v2 : Value), ScanOut L c v1 w e1 w1 ∧ ScanOut L c v2 w2 e2 w3 ∧ L.length ≤ x.E.length := by
  unfold ScanAns at h1 h2
  cases hq : seqOf x.S x.last n with
  | none =>
    rw [hq] at h1 h2
    exact ⟨[], 5, _, _, ⟨h1.1, World.ownsRow_nil _ _ _ _, h1.2⟩, ⟨h2.1, World.ownsRow_nil _ _ _ _, h2.2⟩, Nat.zero_le _⟩
  | some q =>
    rw [hq] at h1 h2
    simp only at h1 h2
    by_cases hm : most < 0
    · rw [if_pos hm] at h1 h2
      exact ⟨[], 4, _, _, ⟨h1.1, World.ownsRow_nil _ _ _ _, h1.2⟩, ⟨h2.1, World.ownsRow_nil _ _ _ _, h2.2⟩, Nat.zero_le _⟩
    · rw [if_neg hm] at h1 h2
      obtain ⟨v1, L1, c1, a1, a2, a3, a4, a5, a6⟩ := h1
      obtain ⟨v2, L2, c2, b1, b2, b3, b4, b5, b6⟩ := h2
      have hL := scan_unique a4 b4 a5 a6 b5 b6
      subst hL
      exact ⟨L1, 0, v1, v2, ⟨a1, a2, a3⟩, ⟨b1, b2, b3⟩, by have := a4.len; omega⟩

theorem scan_out {x : St} {f : ByteArray} {most n : Int} {w w1 : World} {e1 : Ending} (h1 : ScanAns x f most n w e1 w1) : ∃ (c : Int) (ao : Option Addr) (l cap : Nat), e1 = .returned (.tuple #[.slice ao l cap, .int .i64 c]) ∧ Below w.heap.size w w1 := by
  obtain ⟨L, c, v, _, ⟨a1, a2, a3⟩, _⟩ := scan_both h1 h1
  obtain ⟨ao, cap, rfl⟩ := slice_form a2
  exact ⟨c, ao, L.length, cap, a1, a3⟩

theorem scan_again {x : St} {f : ByteArray} {most n : Int} {w w1 w2 w3 : World} {v1 : Value} {c : Int} {e2 : Ending} (h1 : ScanAns x f most n w (.returned (.tuple #[v1, .int .i64 c])) w1) (h2 : ScanAns x f most n w2 e2 w3) :
    ∃ (L : List Pr) (v2 : Value), e2 = .returned (.tuple #[v2, .int .i64 c]) ∧ w1.ownsRow w.heap.size 57 3 v1 L.length (pcells L) ∧ w3.ownsRow w2.heap.size 57 3 v2 L.length (pcells L) ∧ Below w2.heap.size w2 w3 ∧ L.length ≤ x.E.length := by
  obtain ⟨L, c', v1', v2, ⟨a1, a2, a3⟩, ⟨b1, b2, b3⟩, hl⟩ := scan_both h1 h2
  simp only [Ending.returned.injEq, Value.tuple.injEq, Array.mk.injEq, List.cons.injEq, Value.int.injEq, true_and, and_true] at a1
  obtain ⟨rfl, rfl⟩ := a1
  exact ⟨L, v2, b1, a2, b2, b3, hl⟩

theorem scans_fin {own : Nat → Nat} {is ir wb sb rb : Nat} {vss vrs : Value} {x : St} {y : Rf} {P : List (Int × Nat)} {n : Int} {t N0 len : Nat} {w wA w3 w4 : World}
    (pre : Pre own is ir wb sb rb vss vrs x y P n t N0 w) (ht : t + 1 ≤ 1100000) (bA : Below w.heap.size w wA) (b3 : Below wA.heap.size wA w3) (hlen : len ≤ 4 * t)
    (hbk : BkAt (Dc (own1 own w.heap.size) w3.heap.size 1) wb vss vrs (P ++ newP (-(n + 1)) len 4) (n + 1) w4) (kx : Kx (PairsX (Dc (own1 own w.heap.size) w3.heap.size 1) wA.heap.size) w3 w4) : StepPost own is ir wb sb rb vss vrs t N0 w (.returned (.bool true)) w4 := by
  have sA := bA.size
  have s3 := b3.size
  obtain ⟨i1, i2, i3, i4, i5⟩ := pre.ids
  obtain ⟨own', how⟩ : ∃ own' : Nat → Nat, own' = fun k => if k < w.heap.size then own k else if k < w3.heap.size then 0 else 1 := ⟨_, rfl⟩
  have agree : ∀ k, k < w.heap.size → own' k = own k := fun k hk => by rw [how]; simp [hk]
  have XS : Kx (fun k e => w.heap.size ≤ k ∨ (own k = 1 ∧ e ∈ [36, 38, 3])) w w4 := by
    refine ((Kx.of_below bA).trans (Kx.of_below b3)).trans (kx.mono fun k e hk h => ?_)
    rcases h with ⟨hd, he⟩ | h
    · rcases hd with hd | hd
      · unfold own1 at hd
        by_cases hkN : k < w.heap.size
        · rw [if_pos hkN] at hd; exact .inr ⟨hd, he⟩
        · rw [if_neg hkN] at hd; omega
      · exact .inl (by omega)
    · exact .inl (by omega)
  have SX : Kx (StepX own is ir w.heap.size) w w4 := XS.mono fun k e _ h => by
    rcases h with h | h
    · exact .inl h
    · exact .inr (.inr (.inr h))
  have hlow : ∀ k, own' k ≠ 0 → N0 ≤ k := fun k hk => by
    by_cases hkN : k < w.heap.size
    · rw [agree k hkN] at hk; exact pre.low k hk
    · have := pre.lowN; omega
  have B4 : Below N0 w w4 := SX.below pre.lowN (StepX.low pre.low pre.lowN pre.ids)
  have hn0 := pre.n0
  have hn1 := pre.n1
  have hpl := pre.pl
  refine ⟨rfl, SX, own', x, y, P ++ newP (-(n + 1)) len 4, n + 1, agree, ?_, ?_, ?_, pre.bo.later, hlow, Nat.le_trans pre.lowN B4.size, fun w' h' => pre.tab w' (B4.trans h'), ht, by omega, by omega, by simp [newP]; omega, ?_, pre.ids⟩
  · have h5 : StoreAt (Dm own' is) sb x w := pre.st.mono fun b hb hd => by show own' b = is; rw [agree b hb]; exact hd
    refine h5.kx XS fun b e hb hd hx => ?_
    have hd' : own b = is := by rw [← agree b hb]; exact hd
    rcases hx with hx | ⟨hx, _⟩ <;> omega
  · have h5 : RefAt (Dm own' ir) rb y w := pre.rf.mono fun b hb hd => by show own' b = ir; rw [agree b hb]; exact hd
    refine h5.kx XS fun b e hb hd hx => ?_
    have hd' : own b = ir := by rw [← agree b hb]; exact hd
    rcases hx with hx | ⟨hx, _⟩ <;> omega
  · refine hbk.mono fun b hb hd => ?_
    show own' b = 1
    rw [how]
    rcases hd with hd | hd
    · unfold own1 at hd
      by_cases hbN : b < w.heap.size
      · simp only [hbN, if_true] at hd ⊢; exact hd
      · simp only [hbN, if_false] at hd; omega
    · simp only
      rw [if_neg (by omega), if_neg (by omega)]
  · intro p hp
    rcases List.mem_append.1 hp with hp | hp
    · have := pre.pb p hp; omega
    · obtain ⟨j, hj, rfl⟩ := List.mem_map.1 hp
      have hj4 : j < 4 := List.mem_range.1 hj
      simp only
      omega

set_option maxHeartbeats 4000000 in
set_option maxRecDepth 100000 in
theorem scans_any (own : Nat → Nat) (is ir wb sb rb : Nat) (vss vrs : Value) (x : St) (y : Rf) (P : List (Int × Nat)) (n : Int) (t N0 : Nat) (o : OpD) (w : World) (pre : Pre own is ir wb sb rb vss vrs x y P n t N0 w) (ht : t + 1 ≤ 1100000) :
    Calls Tryz.prog 22 #[.pointer (some ⟨wb, 0, none⟩), .pointer (some ⟨sb, 0, none⟩), .pointer (some ⟨rb, 0, none⟩), o.val] w fun e w' => StepPost own is ir wb sb rb vss vrs t N0 w e w' := by
  obtain ⟨wA, hwA⟩ : ∃ wA, w.alloc (.cells o.cells 41) = wA := ⟨_, rfl⟩
  have HWA : Hid (w.alloc (.cells o.cells 41) = wA) := hwA
  have BA : Hid (Below w.heap.size w wA) := by rw [← hwA]; exact (Below.refl _ _).alloc (Nat.le_refl _) _
  have OA : Hid (wA.heap[w.heap.size]? = some (.cells o.cells 41 (0, 0))) := by rw [← hwA]; exact heap_alloc_new w _
  have PRE : Hid _ := pre
  have hsm := pre.small
  have HS : Hid (Calls Tryz.prog 55 #[.pointer (some ⟨sb, 0, none⟩), .string o.S, .int .i64 o.A, .int .i64 o.B] wA fun e w' => ScanAns x o.S o.A o.B wA e w') := scan_any x (Dm own is) sb o.S o.A o.B wA (pre.st.below BA.out) (pre.bo.st (by omega))
  have HR : Hid (∀ w1, Below wA.heap.size wA w1 → Calls Tryz.prog 56 #[.pointer (some ⟨rb, 0, none⟩), .string o.S, .int .i64 o.A, .int .i64 o.B] w1 fun e w' => ScanAns x o.S o.A o.B w1 e w') := fun w1 hb => refScan_any (Dm own ir) rb x y o.S o.A o.B w1 ((pre.rf.below BA.out).below hb) (pre.bo.rf (by omega)) pre.bo.sm (pre.bo.st (by omega))
  have HPA : Hid (∀ (L : List Pr) (vl : Value) (w3 : World), Below wA.heap.size wA w3 → w3.ownsRow wA.heap.size 57 3 vl L.length (pcells L) → L.length ≤ x.E.length → Calls Tryz.prog 58 #[.pointer (some ⟨wb, 2, none⟩), vl] w3 fun e w4 => e = .returned (.tuple #[]) ∧ StepPost own is ir wb sb rb vss vrs t N0 w (.returned (.bool true)) w4) := fun L vl w3 b3 ho hL => by
    have hlowN := pre.lowN
    have sA := BA.out.size
    have s3 := b3.size
    have hEl := pre.bo.len
    have hpl := pre.pl
    have hn1 := pre.n1
    have hbk : BkAt (Dc (own1 own w.heap.size) w3.heap.size 1) wb vss vrs P n wA := (pre.bk.mono (D' := Dc (own1 own w.heap.size) w3.heap.size 1) fun b hb hd => .inl (by unfold own1; rw [if_pos hb]; exact hd)).below BA.out
    refine (pairs_any (Dc (own1 own w.heap.size) w3.heap.size 1) wb vss vrs P n L vl N0 wA w3 hbk b3 (Dc_open _ _ _) ho ?_ (by omega) (fun w' h' => pre.tab w' ((BA.out.mono hlowN).trans ((b3.mono (by omega)).trans h'))) pre.n0 (by omega) (by omega) (by omega)).mono ?_
    · intro k hk
      rcases hk with hk | hk
      · unfold own1 at hk
        by_cases hkN : k < w.heap.size
        · rw [if_pos hkN] at hk; exact pre.low k (by omega)
        · omega
      · omega
    · rintro e w4 ⟨h1, h2, h3⟩
      exact ⟨h1, scans_fin pre ht BA.out b3 (by omega) h2 h3⟩
  have hwbl : Hid True := trivial
  generalize hpost : (fun (e : Ending) (w' : World) => StepPost own is ir wb sb rb vss vrs t N0 w e w') = PP
  have HPP : Hid (∀ w', StepPost own is ir wb sb rb vss vrs t N0 w (.returned (.bool true)) w' → PP (.returned (.bool true)) w') := fun w' h => by rw [← hpost]; exact h
  have HEl : Hid (x.E.length ≤ 4 * t) := pre.bo.len
  clear pre hpost hwA
  unfold OpD.val
  unfold OpD.cells at HWA OA ⊢
  go_enter Tryz.func22, Tryz.ntmps22
  go_wp2_with fail
  rw [HWA.out]
  refine Calls.mono HS.out ?_
  intro e1 w1 hs1
  obtain ⟨c, ao1, l1, cap1, rfl, hb1⟩ := scan_out hs1
  have HS1 : Hid (ScanAns x o.S o.A o.B wA (.returned (.tuple #[.slice ao1 l1 cap1, .int .i64 c])) w1) := hs1
  have B1 : Hid (Below wA.heap.size wA w1) := hb1
  have ob1 := (hb1.block _ (lt_of_block OA.out)).trans OA.out
  have q1 : w1.cell? ⟨w.heap.size, 1, none⟩ = some (.int .i64 o.A) := by simp [World.cell?, ob1]
  have q2 : w1.cell? ⟨w.heap.size, 2, none⟩ = some (.int .i64 o.B) := by simp [World.cell?, ob1]
  have q4 : w1.cell? ⟨w.heap.size, 4, none⟩ = some (.string o.S) := by simp [World.cell?, ob1]
  clear hs1 hb1 ob1 HS
  go_wp2_with fail
  refine Calls.mono (HR.out _ B1.out) ?_
  intro e2 w2 hs2
  obtain ⟨L, v2, rfl, ho1, ho2, hb2, hll⟩ := scan_again HS1.out hs2
  obtain ⟨ao2, cap2, rfl⟩ := slice_form ho2
  have B2 : Hid (Below wA.heap.size wA w2) := below_trans' B1.out hb2
  have R1 : Hid (w2.ownsRow wA.heap.size 57 3 (.slice ao1 l1 cap1) L.length (pcells L) ∧ L.length ≤ x.E.length) := ⟨(Kp.of_below (B := 0) (ts := []) hb2).owns ho1 (by simp), hll⟩
  have R2 : Hid (w2.ownsRow w1.heap.size 57 3 (.slice ao2 L.length cap2) L.length (pcells L)) := ho2
  clear hs2 ho1 ho2 hb2 hll q1 q2 q4
  have hL9 : L.length < 1000000000 := by have h1 := R1.out.2; have h2 := HEl.out; omega
  go_wp2_with fail
  refine (samePairs_any L _ _ wA.heap.size w1.heap.size w2 R1.out.1 R2.out hL9).mono ?_
  rintro e w3 ⟨rfl, hb3⟩
  have B3 : Hid (Below wA.heap.size wA w3) := below_trans' B2.out hb3
  have R3 : Hid (w3.ownsRow wA.heap.size 57 3 (.slice ao1 l1 cap1) L.length (pcells L)) := (Kp.of_below (B := 0) (ts := []) hb3).owns R1.out.1 (by simp)
  clear hb3
  go_wp2_with fail
  refine (HPA.out L _ w3 B3.out R3.out R1.out.2).mono ?_
  rintro e w4 ⟨rfl, hpo⟩
  have HF : Hid (StepPost own is ir wb sb rb vss vrs t N0 w (.returned (.bool true)) w4) := hpo
  clear hpo
  go_wp2_with (go_at_call 12; refine (num_any _ _).mono ?_; rintro e w5 ⟨rfl, rfl⟩)
  exact HPP.out _ HF.out
end Go.Proofs.YtojdkfamihlnkaaGreatDoor
