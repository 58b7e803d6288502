/- The walks of this proof: a step that scans. -/
import Derived.Test.YtakipjofboipmaaGreatDoorJ31
namespace Go.Proofs.YtakipjofboipmaaGreatDoor
open Go.RowKit Go.Sort

/-- What Scan hands back, whoever is asked. -/
def ScanOut (L : List Pr) (c : Int) (v : Value) (w : World) (e : Ending) (w' : World) : Prop :=
  e = .returned (.tuple #[v, .int .i64 c]) ∧ w'.ownsRow w.heap.size 57 3 v L.length (pcells L) ∧ Below w.heap.size w w'

theorem scan_both {x : St} {f : ByteArray} {most n : Int} {w w1 w2 w3 : World} {e1 e2 : Ending} (h1 : ScanAns x f most n w e1 w1) (h2 : ScanAns x f most n w2 e2 w3) :
    ∃ (L : List Pr) (c : Int) (v1 v2 : Value), ScanOut L c v1 w e1 w1 ∧ ScanOut L c v2 w2 e2 w3 ∧ L.length ≤ x.E.length := by
  unfold ScanAns at h1 h2
  cases hq : seqOf x.S x.last n with
  | none =>
    rw [hq] at h1 h2
    exact ⟨[], 5, _, _, ⟨h1.1, World.ownsRow_nil _ _ _ _, h1.2⟩, ⟨h2.1, World.ownsRow_nil _ _ _ _, h2.2⟩, Nat.zero_le _⟩
  | some q =>
    rw [hq] at h1 h2
    simp only at h1 h2
    by_cases hm : most < 0
    · rw [if_pos hm] at h1 h2
      exact ⟨[], 4, _, _, ⟨h1.1, World.ownsRow_nil _ _ _ _, h1.2⟩, ⟨h2.1, World.ownsRow_nil _ _ _ _, h2.2⟩, Nat.zero_le _⟩
    · rw [if_neg hm] at h1 h2
      obtain ⟨v1, L1, c1, a1, a2, a3, a4, a5, a6⟩ := h1
      obtain ⟨v2, L2, c2, b1, b2, b3, b4, b5, b6⟩ := h2
      have hL := scan_unique a4 b4 a5 a6 b5 b6
      subst hL
      exact ⟨L1, 0, v1, v2, ⟨a1, a2, a3⟩, ⟨b1, b2, b3⟩, by have := a4.len; omega⟩

theorem scan_out {x : St} {f : ByteArray} {most n : Int} {w w1 : World} {e1 : Ending} (h1 : ScanAns x f most n w e1 w1) : ∃ (c : Int) (ao : Option Addr) (l cap : Nat), e1 = .returned (.tuple #[.slice ao l cap, .int .i64 c]) ∧ Below w.heap.size w w1 := by
  obtain ⟨L, c, v, _, ⟨a1, a2, a3⟩, _⟩ := scan_both h1 h1
  obtain ⟨ao, cap, rfl⟩ := slice_form a2
  exact ⟨c, ao, L.length, cap, a1, a3⟩

theorem scan_again {x : St} {f : ByteArray} {most n : Int} {w w1 w2 w3 : World} {v1 : Value} {c : Int} {e2 : Ending} (h1 : ScanAns x f most n w (.returned (.tuple #[v1, .int .i64 c])) w1) (h2 : ScanAns x f most n w2 e2 w3) :
    ∃ (L : List Pr) (v2 : Value), e2 = .returned (.tuple #[v2, .int .i64 c]) ∧ w1.ownsRow w.heap.size 57 3 v1 L.length (pcells L) ∧ w3.ownsRow w2.heap.size 57 3 v2 L.length (pcells L) ∧ Below w2.heap.size w2 w3 ∧ L.length ≤ x.E.length := by
  obtain ⟨L, c', v1', v2, ⟨a1, a2, a3⟩, ⟨b1, b2, b3⟩, hl⟩ := scan_both h1 h2
  simp only [Ending.returned.injEq, Value.tuple.injEq, Array.mk.injEq, List.cons.injEq, Value.int.injEq, true_and, and_true] at a1
  obtain ⟨rfl, rfl⟩ := a1
  exact ⟨L, v2, b1, a2, b2, b3, hl⟩

theorem scans_fin {own : Nat → Nat} {i wb sb rb : Nat} {vss vrs : Value} {x : St} {y : Rf} {b : Bk} {q : BkQ} {t N0 len : Nat} {w wA w3 w4 : World}
    (pre : Pre own i wb sb rb vss vrs x y b t N0 w) (ht : t + 1 ≤ 1099511627776) (bA : Below w.heap.size w wA) (b3 : Below wA.heap.size wA w3) (hlen : len ≤ 4399999999990) (hbe : BkE (Dm own 2) q.es q.em b.Pe w) (hbt : BkT (Dm own 3) q.ts q.tm b.Pt w)
    (hbk : BkAt (Dc (cut own w.heap.size) w3.heap.size 1) wb vss vrs q (b.P ++ newP (-(b.n + 1)) len 4) (b.n + 1) w4) (kx : Kx (PairsX (Dc (cut own w.heap.size) w3.heap.size 1) wA.heap.size) w3 w4) : StepPost own i wb sb rb vss vrs t N0 w (.returned (.bool true)) w4 := by
  have sA := bA.size
  have s3 := b3.size
  obtain ⟨own', how⟩ : ∃ own' : Nat → Nat, own' = fun k => if k < w.heap.size then own k else if k < w3.heap.size then 0 else 1 := ⟨_, rfl⟩
  have agree : ∀ k, k < w.heap.size → own' k = own k := fun k hk => by rw [how]; simp [hk]
  have XS : Kx (fun k e => w.heap.size ≤ k ∨ (own k = 1 ∧ e ∈ [36, 38, 3])) w w4 := by
    refine ((Kx.of_below bA).trans (Kx.of_below b3)).trans (kx.mono fun k e hk h => ?_)
    rcases h with ⟨hd, he⟩ | h
    · rcases hd with hd | hd
      · by_cases hkN : k < w.heap.size
        · rw [cut_lt hkN] at hd; exact .inr ⟨hd, he⟩
        · rw [cut_ge (by omega)] at hd; omega
      · exact .inl (by omega)
    · exact .inl (by omega)
  have SX : Kx (StepX own i w.heap.size) w w4 := XS.mono fun k e _ h => by
    rcases h with h | h
    · exact .inl h
    · exact .inr ⟨fun e7 => by have := h.2; rw [e7] at this; simp at this, .inr (.inr (.inl h))⟩
  have hlow : ∀ k, own' k ≠ 0 → N0 ≤ k := fun k hk => by
    by_cases hkN : k < w.heap.size
    · rw [agree k hkN] at hk; exact pre.low k hk
    · have := pre.lowN; omega
  have B4 : Below N0 w w4 := SX.below pre.lowN (StepX.low pre.low pre.lowN)
  have hn0 := pre.bb.n0
  have hn1 := pre.bb.n1
  have hpl := pre.bb.pl
  have hpel := pre.bb.pel
  have hptl := pre.bb.ptl
  have hout : ∀ id, id ≠ 1 → ∀ c e, c < w.heap.size → Dm own id c → ¬ (w.heap.size ≤ c ∨ (own c = 1 ∧ e ∈ [36, 38, 3])) := fun id hid c e hc hd hx => by
    unfold Dm at hd
    rcases hx with hx | ⟨hx, _⟩ <;> omega
  have hin : ∀ id c, c < w.heap.size → Dm own id c → Dm own' id c := fun id c hc hd => by show own' c = id; rw [agree c hc]; exact hd
  have hin4 : ∀ id c, c < w.heap.size → Dm own' id c → Dm own id c := fun id c hc hd => by show own c = id; rw [← agree c hc]; exact hd
  refine ⟨rfl, SX, own', x, y, ⟨b.P ++ newP (-(b.n + 1)) len 4, b.Pe, b.Pt, b.n + 1⟩, agree, ⟨?_, ?_, ⟨q, ?_, ?_, ?_⟩, pre.bo.later, ⟨by show 0 ≤ b.n + 1; omega, by show b.n + 1 ≤ _; omega, by simp [newP]; omega, by show b.Pe.length ≤ _; omega, by show b.Pt.length ≤ _; omega, ?_, pre.bb.peb, pre.bb.ptb⟩, hlow, Nat.le_trans pre.lowN B4.size, fun w' h' => pre.tab w' (B4.trans h'), ht⟩⟩
  · refine (pre.st.mono (hin _) (hin _)).kx XS (fun c e hc hd => hout (3 * i + 4) (by omega) c e hc (hin4 _ c hc hd)) (fun c e hc hd => hout (3 * i + 6) (by omega) c e hc (hin4 _ c hc hd))
  · exact (RefT.mono pre.rf (hin _)).kx XS fun c e hc hd => hout (3 * i + 5) (by omega) c e hc (hin4 _ c hc hd)
  · refine hbk.mono fun c hc hd => ?_
    show own' c = 1
    rw [how]
    rcases hd with hd | hd
    · by_cases hcN : c < w.heap.size
      · rw [cut_lt hcN] at hd; simp only [hcN, if_true]; exact hd
      · rw [cut_ge (by omega)] at hd; omega
    · simp only
      rw [if_neg (by omega), if_neg (by omega)]
  · exact (hbe.mono (hin _)).kx XS fun c e hc hd => hout 2 (by omega) c e hc (hin4 _ c hc hd)
  · exact (hbt.mono (hin _)).kx XS fun c e hc hd => hout 3 (by omega) c e hc (hin4 _ c hc hd)
  · intro p hp
    show -(b.n + 1) ≤ p.1 ∧ _
    rcases List.mem_append.1 hp with hp | hp
    · have := pre.bb.pb p hp; omega
    · obtain ⟨j, hj, rfl⟩ := List.mem_map.1 hp
      have hj4 : j < 4 := List.mem_range.1 hj
      simp only
      omega

set_option maxHeartbeats 4000000 in
set_option maxRecDepth 100000 in
theorem scans_any (own : Nat → Nat) (i wb sb rb : Nat) (vss vrs : Value) (x : St) (y : Rf) (b : Bk) (t N0 : Nat) (o : OpD) (w : World) (pre : Pre own i wb sb rb vss vrs x y b t N0 w) (ht : t + 1 ≤ 1099511627776) :
    Calls Tryz.prog 25 #[.pointer (some ⟨wb, 0, none⟩), .pointer (some ⟨sb, 0, none⟩), .pointer (some ⟨rb, 0, none⟩), o.val] w fun e w' => StepPost own i wb sb rb vss vrs t N0 w e w' := by
  obtain ⟨wA, hwA⟩ : ∃ wA, w.alloc (.cells o.cells 41) = wA := ⟨_, rfl⟩
  have HWA : Hid (w.alloc (.cells o.cells 41) = wA) := hwA
  have BA : Hid (Below w.heap.size w wA) := by rw [← hwA]; exact (Below.refl _ _).alloc (Nat.le_refl _) _
  have OA : Hid (wA.heap[w.heap.size]? = some (.cells o.cells 41 (0, 0))) := by rw [← hwA]; exact heap_alloc_new w _
  have PRE : Hid _ := pre
  have hsm := pre.small
  have HS : Hid (Calls Tryz.prog 62 #[.pointer (some ⟨sb, 0, none⟩), .string o.S, .int .i64 o.A, .int .i64 o.B] wA fun e w' => ScanAns x o.S o.A o.B wA e w') := scan_any x (Dm own (3 * i + 4)) (Dm own (3 * i + 6)) sb o.S o.A o.B wA (pre.st.below BA.out) pre.bo.ok
  have HR : Hid (∀ w1, Below wA.heap.size wA w1 → Calls Tryz.prog 63 #[.pointer (some ⟨rb, 0, none⟩), .string o.S, .int .i64 o.A, .int .i64 o.B] w1 fun e w' => ScanAns x o.S o.A o.B w1 e w') := fun w1 hb => refScan_any (Dm own (3 * i + 5)) rb x y o.S o.A o.B w1 (RefT.ref (RefT.below (RefT.below pre.rf BA.out) hb)) (pre.bo.rf (by omega)) pre.bo.sm pre.bo.ok
  have HPA : Hid (∀ (L : List Pr) (vl : Value) (w3 : World), Below wA.heap.size wA w3 → w3.ownsRow wA.heap.size 57 3 vl L.length (pcells L) → L.length ≤ x.E.length → Calls Tryz.prog 65 #[.pointer (some ⟨wb, 2, none⟩), vl] w3 fun e w4 => e = .returned (.tuple #[]) ∧ StepPost own i wb sb rb vss vrs t N0 w (.returned (.bool true)) w4) := fun L vl w3 b3 ho hL => by
    have hlowN := pre.lowN
    have sA := BA.out.size
    have s3 := b3.size
    have hEl := pre.bo.few (by omega)
    have hE2 := pre.bo.len
    have hE3 := pre.bo.lastle
    have hpl := pre.bb.pl
    have hn1 := pre.bb.n1
    obtain ⟨q, hbk0, hbe, hbt⟩ := pre.bk
    have hbk : BkAt (Dc (cut own w.heap.size) w3.heap.size 1) wb vss vrs q b.P b.n wA := (hbk0.mono (D' := Dc (cut own w.heap.size) w3.heap.size 1) fun c hc hd => .inl ((cut_lt hc).trans hd)).kx (Kx.of_below (X := fun _ _ => False) BA.out) (fun _ _ _ _ h => h) (fun _ _ h => h)
    refine (pairs_any (Dc (cut own w.heap.size) w3.heap.size 1) wb vss vrs q b.P b.n L vl N0 wA w3 hbk b3 (Dc_open _ _ _) ho (pre.lowD (by omega) (by omega)) (by omega) (fun w' h' => pre.tab w' ((BA.out.mono hlowN).trans ((b3.mono (by omega)).trans h'))) pre.bb.n0 (by omega) (by omega) (by omega)).mono ?_
    rintro e w4 ⟨h1, h2, h3⟩
    exact ⟨h1, scans_fin pre ht BA.out b3 (by omega) hbe hbt h2 h3⟩
  have hwbl : Hid True := trivial
  generalize hpost : (fun (e : Ending) (w' : World) => StepPost own i wb sb rb vss vrs t N0 w e w') = PP
  have HPP : Hid (∀ w', StepPost own i wb sb rb vss vrs t N0 w (.returned (.bool true)) w' → PP (.returned (.bool true)) w') := fun w' h => by rw [← hpost]; exact h
  have HEl : Hid (x.E.length < 4399999999990) := pre.bo.few (by omega)
  clear pre hpost hwA
  unfold OpD.val
  unfold OpD.cells at HWA OA ⊢
  go_enter Tryz.func25, Tryz.ntmps25
  go_wp2_with fail
  rw [HWA.out]
  refine Calls.mono HS.out ?_
  intro e1 w1 hs1
  obtain ⟨c, ao1, l1, cap1, rfl, hb1⟩ := scan_out hs1
  have HS1 : Hid (ScanAns x o.S o.A o.B wA (.returned (.tuple #[.slice ao1 l1 cap1, .int .i64 c])) w1) := hs1
  have B1 : Hid (Below wA.heap.size wA w1) := hb1
  have ob1 := (hb1.block _ (lt_of_block OA.out)).trans OA.out
  have q1 : w1.cell? ⟨w.heap.size, 1, none⟩ = some (.int .i64 o.A) := by simp [World.cell?, ob1]
  have q2 : w1.cell? ⟨w.heap.size, 2, none⟩ = some (.int .i64 o.B) := by simp [World.cell?, ob1]
  have q4 : w1.cell? ⟨w.heap.size, 4, none⟩ = some (.string o.S) := by simp [World.cell?, ob1]
  clear hs1 hb1 ob1 HS
  go_wp2_with fail
  refine Calls.mono (HR.out _ B1.out) ?_
  intro e2 w2 hs2
  obtain ⟨L, v2, rfl, ho1, ho2, hb2, hll⟩ := scan_again HS1.out hs2
  obtain ⟨ao2, cap2, rfl⟩ := slice_form ho2
  have B2 : Hid (Below wA.heap.size wA w2) := below_trans' B1.out hb2
  have R1 : Hid (w2.ownsRow wA.heap.size 57 3 (.slice ao1 l1 cap1) L.length (pcells L) ∧ L.length ≤ x.E.length) := ⟨(Kp.of_below (B := 0) (ts := []) hb2).owns ho1 (by simp), hll⟩
  have R2 : Hid (w2.ownsRow w1.heap.size 57 3 (.slice ao2 L.length cap2) L.length (pcells L)) := ho2
  clear hs2 ho1 ho2 hb2 hll q1 q2 q4
  have hL9 : L.length < 4500000000000 := by have h1 := R1.out.2; have h2 := HEl.out; omega
  go_wp2_with fail
  refine (samePairs_any L _ _ wA.heap.size w1.heap.size w2 R1.out.1 R2.out hL9).mono ?_
  rintro e w3 ⟨rfl, hb3⟩
  have B3 : Hid (Below wA.heap.size wA w3) := below_trans' B2.out hb3
  have R3 : Hid (w3.ownsRow wA.heap.size 57 3 (.slice ao1 l1 cap1) L.length (pcells L)) := (Kp.of_below (B := 0) (ts := []) hb3).owns R1.out.1 (by simp)
  clear hb3
  go_wp2_with fail
  refine (HPA.out L _ w3 B3.out R3.out R1.out.2).mono ?_
  rintro e w4 ⟨rfl, hpo⟩
  have HF : Hid (StepPost own i wb sb rb vss vrs t N0 w (.returned (.bool true)) w4) := hpo
  clear hpo
  go_wp2_with (go_at_call 14; refine (num_any _ _).mono ?_; rintro e w5 ⟨rfl, rfl⟩)
  exact HPP.out _ HF.out
end Go.Proofs.YtakipjofboipmaaGreatDoor

/- The walks of this proof: the calls of stage 1. -/
namespace Go.Proofs.YtakipjofboipmaaGreatDoor
open Go.RowKit Go.Sort

theorem get_same {t : Nat} {x : St} {y : Rf} (h : Both t x y) (ht : t ≤ 1099511627776) (k : ByteArray) (n : Int) : getVal x k n = rgetVal y k n := by
  unfold getVal rgetVal
  rw [h.sm.snaps, h.sm.last]
  by_cases hk : 1 ≤ k.size ∧ k.size ≤ 6
  · rw [if_pos hk, if_pos hk]
    cases hq : seqOf y.S y.A.length n with
    | none => rfl
    | some q =>
      obtain ⟨h0, h1⟩ := seqOf_le (h.rf ht) hq
      obtain ⟨m, rfl⟩ : ∃ m : Nat, q = m := ⟨q.toNat, by omega⟩
      rw [Int.toNat_natCast] at h1
      simp only [Int.toNat_natCast]
      rw [sk_vk h.ok.sorted h.sm.rel k m h1]
      cases vk y.A k m <;> rfl
  · rw [if_neg hk, if_neg hk]

theorem getVal_form (x : St) (k : ByteArray) (n : Int) : ∃ (s : ByteArray) (c : Int), getVal x k n = .tuple #[.string s, .int .i64 c] := by
  unfold getVal
  split
  · split
    · exact ⟨_, _, rfl⟩
    · split <;> exact ⟨_, _, rfl⟩
  · exact ⟨_, _, rfl⟩

/-- Both stores have turned. -/
theorem two_snap {own : Nat → Nat} {i wb sb rb : Nat} {vss vrs : Value} {x x' : St} {y y' : Rf} {b : Bk} {t N0 : Nat} {w w1 w2 w3 : World} {ts2 ts3 : List Nat}
    (pre : Pre own i wb sb rb vss vrs x y b t N0 w) (ht : t + 1 ≤ 1099511627776) (hb1 : Below w.heap.size w w1)
    (hst : StoreAt (Dc (cut own w.heap.size) w1.heap.size (3 * i + 4)) (Dm (cut own w.heap.size) (3 * i + 6)) sb x' w2) (k2 : Kd (Dc (cut own w.heap.size) w1.heap.size (3 * i + 4)) ts2 w1 w2) (ht2 : 57 ∉ ts2)
    (hrf : RfT (Dc (cut own w.heap.size) w2.heap.size (3 * i + 5)) rb y' x' w3) (k3 : Kd (Dc (cut own w.heap.size) w2.heap.size (3 * i + 5)) ts3 w2 w3) (ht3 : 57 ∉ ts3) (hbo : Both (t + 1) x' y') : StepPost own i wb sb rb vss vrs t N0 w (.returned (.bool true)) w3 :=
  two_fin pre hb1 (StPost.of hst k2 (Dc_open _ _ _) (Pre.dis hb1.size)) ht2 hrf k3 ht3 (Kd.refl (fun _ => False) _ _) (fun _ _ h => h.elim) hbo ht

set_option maxHeartbeats 4000000 in
set_option maxRecDepth 100000 in
theorem keys_any (own : Nat → Nat) (i wb sb rb : Nat) (vss vrs : Value) (x : St) (y : Rf) (b : Bk) (t N0 : Nat) (o : OpD) (w : World) (pre : Pre own i wb sb rb vss vrs x y b t N0 w) (ok : OpOk o N0 w) (ht : t + 1 ≤ 1099511627776) (hK : 2 ≤ o.K ∧ o.K ≤ 6) :
    Calls Tryz.prog 16 #[.pointer (some ⟨wb, 0, none⟩), .pointer (some ⟨sb, 0, none⟩), .pointer (some ⟨rb, 0, none⟩), o.val] w fun e w' => StepPost own i wb sb rb vss vrs t N0 w e w' := by
  obtain ⟨wA, hwA⟩ : ∃ wA, w.alloc (.cells o.cells 41) = wA := ⟨_, rfl⟩
  have HWA : Hid (w.alloc (.cells o.cells 41) = wA) := hwA
  have BA : Hid (Below w.heap.size w wA) := by rw [← hwA]; exact (Below.refl _ _).alloc (Nat.le_refl _) _
  have OA : Hid (wA.heap[w.heap.size]? = some (.cells o.cells 41 (0, 0))) := by rw [← hwA]; exact heap_alloc_new w _
  have PRE : Hid _ := pre
  have hsm := pre.small
  have hstr := ok.str
  have PREA := pre.below BA.out
  have OKA : OpOk o N0 wA := ok.on (BA.out.mono pre.lowN)
  have HW : Hid (Calls Tryz.prog 22 #[.pointer (some ⟨wb, 0, none⟩), .pointer (some ⟨sb, 0, none⟩), .pointer (some ⟨rb, 0, none⟩), o.val] wA fun e w' => StepPost own i wb sb rb vss vrs t N0 w e w') := (writes_any own i wb sb rb vss vrs x y b t N0 o wA PREA OKA ht).mono fun e w' h => StepPost.of_below BA.out h
  have HS : Hid (Calls Tryz.prog 25 #[.pointer (some ⟨wb, 0, none⟩), .pointer (some ⟨sb, 0, none⟩), .pointer (some ⟨rb, 0, none⟩), o.val] wA fun e w' => StepPost own i wb sb rb vss vrs t N0 w e w') := (scans_any own i wb sb rb vss vrs x y b t N0 o wA PREA ht).mono fun e w' h => StepPost.of_below BA.out h
  generalize hpost : (fun (e : Ending) (w' : World) => StepPost own i wb sb rb vss vrs t N0 w e w') = PP
  have HPP : Hid (∀ w', StepPost own i wb sb rb vss vrs t N0 w (.returned (.bool true)) w' → PP (.returned (.bool true)) w') := fun w' h => by rw [← hpost]; exact h
  clear pre ok hpost hwA OKA PREA
  unfold OpD.val at HW HS ⊢
  unfold OpD.cells at HW HS HWA OA ⊢
  obtain ⟨K, hKe⟩ : ∃ K, o.K = K := ⟨_, rfl⟩
  have hc : K = 2 ∨ K = 3 ∨ K = 4 ∨ K = 5 ∨ K = 6 := by omega
  rw [hKe] at HW HS HWA OA ⊢
  clear hK hKe
  rcases hc with rfl | rfl | rfl | rfl | rfl
  · go_enter Tryz.func16, Tryz.ntmps16
    go_wp2_with fail
    rw [HWA.out]
    refine Calls.mono HW.out ?_
    intro e w1 h1
    obtain ⟨rfl, h2⟩ := id h1
    have HF : Hid (StepPost own i wb sb rb vss vrs t N0 w (.returned (.bool true)) w1) := h1
    clear h1 h2
    go_wp2
    exact HPP.out _ HF.out
  · obtain ⟨gs, gc, hgv⟩ := getVal_form x o.S o.A
    have H1 : Hid (Calls Tryz.prog 23 #[.pointer (some ⟨sb, 0, none⟩), .string o.S, .int .i64 o.A] wA fun e w' => e = .returned (.tuple #[.string gs, .int .i64 gc]) ∧ Below wA.heap.size wA w') := by
      rw [← hgv]
      exact get_any x (Dm own (3 * i + 4)) (Dm own (3 * i + 6)) sb o.S o.A wA (PRE.out.st.below BA.out) PRE.out.bo.ok (by unfold maxLen; omega)
    have H2 : Hid (∀ w1, Below w.heap.size w w1 → Calls Tryz.prog 24 #[.pointer (some ⟨rb, 0, none⟩), .string o.S, .int .i64 o.A] w1 fun e w' => e = .returned (.tuple #[.string gs, .int .i64 gc]) ∧ Below w1.heap.size w1 w') := fun w1 hb => by
      rw [← hgv, get_same PRE.out.bo (by omega)]
      exact refGet_any (Dm own (3 * i + 5)) rb y o.S o.A w1 (RefT.ref (RefT.below PRE.out.rf hb)) (PRE.out.bo.rf (by omega)) (by unfold maxLen; omega)
    clear hgv HW HS
    go_enter Tryz.func16, Tryz.ntmps16
    go_wp2_with fail
    rw [HWA.out]
    refine Calls.mono H1.out ?_
    rintro e w1 ⟨rfl, hb1⟩
    have B1 : Hid (Below w.heap.size w w1) := BA.out.trans (hb1.mono BA.out.size)
    have ob1 := (hb1.block _ (lt_of_block OA.out)).trans OA.out
    have q1 : w1.cell? ⟨w.heap.size, 1, none⟩ = some (.int .i64 o.A) := by simp [World.cell?, ob1]
    have q4 : w1.cell? ⟨w.heap.size, 4, none⟩ = some (.string o.S) := by simp [World.cell?, ob1]
    clear hb1 ob1
    go_wp2_with fail
    refine Calls.mono (H2.out _ B1.out) ?_
    rintro e w2 ⟨rfl, hb2⟩
    have HF : Hid (StepPost own i wb sb rb vss vrs t N0 w (.returned (.bool true)) w2) := StepPost.same PRE.out (below_trans' B1.out hb2) ht
    clear hb2
    go_wp2_with (go_at_call 14; refine (num_any _ _).mono ?_; rintro e w5 ⟨rfl, rfl⟩)
    exact HPP.out _ HF.out
  · go_enter Tryz.func16, Tryz.ntmps16
    go_wp2_with fail
    rw [HWA.out]
    refine Calls.mono HS.out ?_
    intro e w1 h1
    obtain ⟨rfl, h2⟩ := id h1
    have HF : Hid (StepPost own i wb sb rb vss vrs t N0 w (.returned (.bool true)) w1) := h1
    clear h1 h2
    go_wp2
    exact HPP.out _ HF.out
  · clear HW HS
    have hsl : x.S.length = y.S.length := by rw [PRE.out.bo.sm.snaps]
    have hnm : x.lastSnap = y.num := PRE.out.bo.sm.num
    have hn0 := PRE.out.bo.num0
    have hn1 := PRE.out.bo.numle
    have H1 : Hid _ := snap_any x (Dc (cut own w.heap.size) wA.heap.size (3 * i + 4)) (Dm (cut own w.heap.size) (3 * i + 6)) sb wA (PRE.out.store BA.out) PRE.out.bo.ok (Dc_open _ _ _) (by omega) (by omega)
    have H2 : Hid (∀ w1, Kd (Dc (cut own w.heap.size) wA.heap.size (3 * i + 4)) [82, 205] wA w1 → Calls Tryz.prog 27 #[.pointer (some ⟨rb, 0, none⟩)] w1 fun e w' =>
        (y.S.length = 4 ∧ e = .returned (.tuple #[.int .i64 0, .int .i64 7]) ∧ w' = w1) ∨
        (y.S.length < 4 ∧ e = .returned (.tuple #[.int .i64 (y.num + 1), .int .i64 0]) ∧ RefT (Dc (cut own w.heap.size) w1.heap.size (3 * i + 5)) rb { y with S := y.S ++ [⟨y.num + 1, y.A.length⟩], num := y.num + 1 } x.la (x.la + x.sy) x.T w' ∧ Kd (Dc (cut own w.heap.size) w1.heap.size (3 * i + 5)) [85, 138] w1 w')) := fun w1 k2 =>
      refSnapT_any (Dc (cut own w.heap.size) w1.heap.size (3 * i + 5)) rb y x.la (x.la + x.sy) x.T w1 (PRE.out.ref BA.out k2) (Dc_open _ _ _) (PRE.out.bo.rf (by omega)) (by omega) (by omega)
    rw [hsl, hnm] at H1
    have HXN : Hid (x.lastSnap = y.num ∧ x.S.length = y.S.length) := ⟨hnm, hsl⟩
    clear hsl hnm hn0 hn1
    by_cases h4 : y.S.length = 4
    · go_enter Tryz.func16, Tryz.ntmps16
      go_wp2_with fail
      rw [HWA.out]
      refine Calls.mono H1.out ?_
      rintro e w1 (⟨_, rfl, rfl⟩ | ⟨h5, _⟩)
      · go_wp2_with fail
        refine Calls.mono (H2.out _ (Kd.refl _ _ _)) ?_
        rintro e w2 (⟨_, rfl, rfl⟩ | ⟨h5, _⟩)
        · have HF : Hid (StepPost own i wb sb rb vss vrs t N0 w (.returned (.bool true)) w2) := StepPost.same PRE.out BA.out ht
          go_wp2_with (go_at_call 14; refine (num_any _ _).mono ?_; rintro e w5 ⟨rfl, rfl⟩)
          exact HPP.out _ HF.out
        · omega
      · omega
    · go_enter Tryz.func16, Tryz.ntmps16
      go_wp2_with fail
      rw [HWA.out]
      refine Calls.mono H1.out ?_
      rintro e w1 (⟨h5, _⟩ | ⟨h5, rfl, hst, k2⟩)
      · omega
      · have A1 : Hid (StoreAt (Dc (cut own w.heap.size) wA.heap.size (3 * i + 4)) (Dm (cut own w.heap.size) (3 * i + 6)) sb { x with S := x.S ++ [⟨y.num + 1, x.last⟩], lastSnap := y.num + 1 } w1 ∧ Kd (Dc (cut own w.heap.size) wA.heap.size (3 * i + 4)) [82, 205] wA w1) := ⟨hst, k2⟩
        clear hst k2
        go_wp2_with fail
        refine Calls.mono (H2.out _ A1.out.2) ?_
        rintro e w2 (⟨h6, _⟩ | ⟨_, rfl, hrf, k3⟩)
        · omega
        · have HF : Hid (StepPost own i wb sb rb vss vrs t N0 w (.returned (.bool true)) w2) := by
            refine two_snap PRE.out ht BA.out A1.out.1 A1.out.2 (by simp) hrf k3 (by simp) ?_
            have := PRE.out.bo.snapped h5
            rw [HXN.out.1] at this
            exact this
          clear hrf k3
          go_wp2_with (go_at_call 14; refine (num_any _ _).mono ?_; rintro e w5 ⟨rfl, rfl⟩)
          exact HPP.out _ HF.out
  · clear HW HS
    have H1 : Hid _ := drop_any x (Dc (cut own w.heap.size) wA.heap.size (3 * i + 4)) (Dm (cut own w.heap.size) (3 * i + 6)) sb o.A wA (PRE.out.store BA.out) PRE.out.bo.ok
    have H2 : Hid (∀ w1, Kd (Dc (cut own w.heap.size) wA.heap.size (3 * i + 4)) [82, 205] wA w1 → Calls Tryz.prog 29 #[.pointer (some ⟨rb, 0, none⟩), .int .i64 o.A] w1 fun e w' =>
        ((y.S.filter (notN o.A)).length = y.S.length ∧ e = .returned (.int .i64 5) ∧ Below w1.heap.size w1 w') ∨
        ((y.S.filter (notN o.A)).length ≠ y.S.length ∧ e = .returned (.int .i64 0) ∧ RefT (Dc (cut own w.heap.size) w1.heap.size (3 * i + 5)) rb { y with S := y.S.filter (notN o.A) } x.la (x.la + x.sy) x.T w' ∧ Kd (Dc (cut own w.heap.size) w1.heap.size (3 * i + 5)) [85] w1 w')) := fun w1 k2 =>
      refDropT_any (Dc (cut own w.heap.size) w1.heap.size (3 * i + 5)) rb y x.la (x.la + x.sy) x.T o.A w1 (PRE.out.ref BA.out k2) (Dc_open _ _ _) (PRE.out.bo.rf (by omega))
    have HQ : Hid (∀ w1, Kd (Dc (cut own w.heap.size) wA.heap.size (3 * i + 4)) [82, 205] wA w1 → w1.cell? ⟨w.heap.size, 1, none⟩ = some (.int .i64 o.A)) := fun w1 k2 => by
      have ob1 := k2.keep OA.out (by simp)
      simp [World.cell?, ob1]
    have HSN : Hid (x.S = y.S ∧ y.S.Pairwise fun a b => a.n ≠ b.n) := ⟨PRE.out.bo.sm.snaps, PRE.out.bo.dis⟩
    go_enter Tryz.func16, Tryz.ntmps16
    go_wp2_with fail
    rw [HWA.out]
    refine Calls.mono H1.out ?_
    rintro e w1 (⟨hno, rfl, hb1⟩ | ⟨i', hso, rfl, hst, k2⟩)
    · have B1 : Hid (Below wA.heap.size wA w1) := hb1
      have q1 := HQ.out w1 (Kd.of_below hb1)
      have hl0 : Hid ((y.S.filter (notN o.A)).length = y.S.length) := by rw [HSN.out.1] at hno; exact drop_none hno
      clear hno hb1
      go_wp2_with fail
      refine Calls.mono (H2.out _ (Kd.of_below B1.out)) ?_
      rintro e w2 (⟨_, rfl, hb2⟩ | ⟨h6, _⟩)
      · have HF : Hid (StepPost own i wb sb rb vss vrs t N0 w (.returned (.bool true)) w2) := StepPost.same PRE.out (below_trans' (BA.out.trans (B1.out.mono BA.out.size)) hb2) ht
        clear hb2
        go_wp2_with (go_at_call 14; refine (num_any _ _).mono ?_; rintro e w5 ⟨rfl, rfl⟩)
        exact HPP.out _ HF.out
      · exact absurd hl0.out h6
    · have A1 : Hid (StoreAt (Dc (cut own w.heap.size) wA.heap.size (3 * i + 4)) (Dm (cut own w.heap.size) (3 * i + 6)) sb { x with S := x.S.eraseIdx i' } w1 ∧ Kd (Dc (cut own w.heap.size) wA.heap.size (3 * i + 4)) [82, 205] wA w1) := ⟨hst, k2⟩
      have q1 := HQ.out w1 k2
      have hl0 : Hid ((y.S.filter (notN o.A)).length ≠ y.S.length ∧ sidx x.S o.A = some i') := by
        refine ⟨?_, hso⟩
        rw [HSN.out.1] at hso
        exact (drop_same HSN.out.2 hso).2
      clear hso hst k2
      go_wp2_with fail
      refine Calls.mono (H2.out _ A1.out.2) ?_
      rintro e w2 (⟨h6, _⟩ | ⟨_, rfl, hrf, k3⟩)
      · exact absurd h6 hl0.out.1
      · have HF : Hid (StepPost own i wb sb rb vss vrs t N0 w (.returned (.bool true)) w2) := two_snap PRE.out ht BA.out A1.out.1 A1.out.2 (by simp) hrf k3 (by simp) (PRE.out.bo.dropped hl0.out.2)
        clear hrf k3
        go_wp2_with (go_at_call 14; refine (num_any _ _).mono ?_; rintro e w5 ⟨rfl, rfl⟩)
        exact HPP.out _ HF.out
end Go.Proofs.YtakipjofboipmaaGreatDoor

/- The walks of this proof: one store more. -/
namespace Go.Proofs.YtakipjofboipmaaGreatDoor
open Go.RowKit Go.Sort

theorem Tryz.info43 : (Tryz.prog.info? 43).map (fun i => (i.zero, i.size, i.bytes)) = some (some (.pointer none), 1, 8) := by kernel_rfl
theorem Tryz.info45 : (Tryz.prog.info? 45).map (fun i => (i.zero, i.size, i.bytes)) = some (some (.pointer none), 1, 8) := by kernel_rfl

/-- A store that is new. -/
def st0 : St := ⟨[], [], 0, [], [], 0, [], 0, 0⟩

theorem BkAt.below' {w w' : World} {D : Nat → Prop} {wb : Nat} {vss vrs : Value} {q : BkQ} {P : List (Int × Nat)} {n : Int} (h : BkAt D wb vss vrs q P n w) (hb : Below w.heap.size w w') : BkAt D wb vss vrs q P n w' :=
  h.kx (Kx.of_below (X := fun _ _ => False) hb) (fun _ _ _ _ h => h) (fun _ _ h => h)

/-- A store that a call which turns other types leaves alone. -/
theorem StoreAt.kd {D' D F : Nat → Prop} {sb : Nat} {x : St} {ts : List Nat} {w w' : World} (h : StoreAt D F sb x w) (k : Kd D' ts w w') (ht : ∀ e ∈ [82, 61, 209, 5, 205], e ∉ ts) : StoreAt D F sb x w' := by
  obtain ⟨vE, vL, vR, vS, hB, hs, hE, hT, hR, hS⟩ := h
  exact ⟨vE, vL, vR, vS, hB, k.keep hs (ht _ (by simp)), k.ownsIn hE (ht _ (by simp)), hT.kd k (ht _ (by simp)) (ht _ (by simp)), k.ownsJ hR (ht _ (by simp)), k.ownsIn hS (ht _ (by simp))⟩

def ptr (b : Nat) : Value := .pointer (some ⟨b, 0, none⟩)

theorem OwnsIn.monoT {w : World} {D D' : Nat → Prop} {e : TypeId} {size : Nat} {v : Value} {n : Nat} {xs : List Value} (h : OwnsIn w D e size v n xs) (hd : ∀ b c f, w.heap[b]? = some (.cells c e f) → D b → D' b) : OwnsIn w D' e size v n xs := by
  refine ⟨h.own, fun g hg => ?_⟩
  have hD := h.dom g hg
  rcases h.own.2 with ⟨rfl, _⟩ | ⟨g', cap, cur, rfl, _, hgg, _⟩
  · simp [Value.ownBlock] at hg
  · simp only [Value.ownBlock, Option.some.injEq] at hg
    subst hg
    exact hd _ _ _ hgg hD

theorem BkAt.monoT {w : World} {D D' : Nat → Prop} {wb : Nat} {vss vrs : Value} {q : BkQ} {P : List (Int × Nat)} {n : Int} (h : BkAt D wb vss vrs q P n w) (hd : ∀ b c e f, w.heap[b]? = some (.cells c e f) → e ∈ [36, 38, 3] → D b → D' b) : BkAt D' wb vss vrs q P n w := by
  obtain ⟨vps, vpm, Vs, hB, hs, hps, hpm, hl⟩ := h
  exact ⟨vps, vpm, Vs, hd wb _ _ _ hs (by simp) hB, hs, hps.monoT fun b c f hc => hd b c _ f hc (by simp), hpm.monoT fun b c f hc => hd b c _ f hc (by simp), hl⟩

/-- The book's struct with another list of stores. -/
theorem BkAt.setSs {w w' : World} {D : Nat → Prop} {wb : Nat} {vss vrs vss' : Value} {q : BkQ} {P : List (Int × Nat)} {n : Int} (h : BkAt D wb vss vrs q P n w) (hw : w' = w.setCell ⟨wb, 0, none⟩ vss') : BkAt D wb vss' vrs q P n w' ∧ Kd D [36] w w' := by
  subst hw
  obtain ⟨vps, vpm, Vs, hB, hs, hps, hpm, hl⟩ := h
  have k := Kd.field hB hs 0 vss'
  have s1 := set_book hs 0 vss'
  refine ⟨⟨vps, vpm, Vs, hB, by rw [s1]; simp [bookCells], k.ownsIn hps (by simp), k.ownsIn hpm (by simp), hl.kx (Kx.of_kd (X := fun _ e => e = 36) k fun _ e _ _ he => by simpa using he) (fun g _ => by simp)⟩, k⟩

theorem BkAt.setRs {w w' : World} {D : Nat → Prop} {wb : Nat} {vss vrs vrs' : Value} {q : BkQ} {P : List (Int × Nat)} {n : Int} (h : BkAt D wb vss vrs q P n w) (hw : w' = w.setCell ⟨wb, 1, none⟩ vrs') : BkAt D wb vss vrs' q P n w' ∧ Kd D [36] w w' := by
  subst hw
  obtain ⟨vps, vpm, Vs, hB, hs, hps, hpm, hl⟩ := h
  have k := Kd.field hB hs 1 vrs'
  have s1 := set_book hs 1 vrs'
  refine ⟨⟨vps, vpm, Vs, hB, by rw [s1]; simp [bookCells], k.ownsIn hps (by simp), k.ownsIn hpm (by simp), hl.kx (Kx.of_kd (X := fun _ e => e = 36) k fun _ e _ _ he => by simpa using he) (fun g _ => by simp)⟩, k⟩

theorem BkAt.kd {w w' : World} {D D' : Nat → Prop} {ts : List Nat} {wb : Nat} {vss vrs : Value} {q : BkQ} {P : List (Int × Nat)} {n : Int} (h : BkAt D wb vss vrs q P n w) (k : Kd D' ts w w') (h1 : 36 ∉ ts) (h2 : 38 ∉ ts) (h3 : 3 ∉ ts) (h4 : 57 ∉ ts) : BkAt D wb vss vrs q P n w' := by
  obtain ⟨vps, vpm, Vs, hB, hs, hps, hpm, hl⟩ := h
  exact ⟨vps, vpm, Vs, hB, k.keep hs h1, k.ownsIn hps h2, k.ownsIn hpm h3, hl.kx (Kx.of_kd (X := fun _ e => e ∈ ts) k fun _ _ _ _ he => he) (fun g _ => h4)⟩

theorem BkAt.c0 {w : World} {D : Nat → Prop} {wb : Nat} {vss vrs : Value} {q : BkQ} {P : List (Int × Nat)} {n : Int} (h : BkAt D wb vss vrs q P n w) : w.cell? ⟨wb, 0, none⟩ = some vss ∧ w.cell? ⟨wb, 1, none⟩ = some vrs ∧ w.frozen? ⟨wb, 0, none⟩ = false ∧ w.frozen? ⟨wb, 1, none⟩ = false ∧ wb < w.heap.size := by
  obtain ⟨vps, vpm, Vs, hB, hs, _⟩ := h
  exact ⟨by simp [World.cell?, hs, bookCells], by simp [World.cell?, hs, bookCells], by simp [World.frozen?, hs], by simp [World.frozen?, hs], lt_of_block hs⟩

/-- What New leaves. -/
def OpenPost (own : Nat → Nat) (wb : Nat) (q : BkQ) (P : List (Int × Nat)) (n : Int) (l : Nat) (Ss Rs : List Value) (w : World) (e : Ending) (w' : World) : Prop :=
  e = .returned (.bool true) ∧ Kd (Dc own w.heap.size 1) [36, 43, 45] w w' ∧ ∃ (sb rb : Nat) (vss vrs : Value), w.heap.size ≤ sb ∧ w.heap.size ≤ rb ∧ sb ≠ rb ∧
    BkAt (Dc own w.heap.size 1) wb vss vrs q P n w' ∧ OwnsIn w' (Dc own w.heap.size 1) 43 1 vss (l + 1) (Ss ++ [ptr sb]) ∧ OwnsIn w' (Dc own w.heap.size 1) 45 1 vrs (l + 1) (Rs ++ [ptr rb]) ∧
    StoreAt (fun k => k = sb) (fun _ => False) sb st0 w' ∧ RefT (fun k => k = rb) rb ⟨[], [], 0⟩ 0 0 [] w'

set_option maxHeartbeats 4000000 in
set_option maxRecDepth 100000 in
theorem opens_any (own : Nat → Nat) (wb : Nat) (vss vrs : Value) (q : BkQ) (P : List (Int × Nat)) (n : Int) (l : Nat) (Ss Rs : List Value) (o : OpD) (w : World) (hK : o.K = 1) (hbk : BkAt (Dm own 1) wb vss vrs q P n w) (hss : OwnsIn w (Dm own 1) 43 1 vss l Ss) (hrs : OwnsIn w (Dm own 1) 45 1 vrs l Rs) (hl : l < 1200000000000) :
    Calls Tryz.prog 7 #[.pointer (some ⟨wb, 0, none⟩), o.val] w fun e w' => OpenPost own wb q P n l Ss Rs w e w' := by
  obtain ⟨i43, hi43, hz43a, hz43b, hz43c⟩ := info_parts Tryz.info43
  obtain ⟨i45, hi45, hz45a, hz45b, hz45c⟩ := info_parts Tryz.info45
  obtain ⟨D, hD⟩ : ∃ D, D = Dc own w.heap.size 1 := ⟨_, rfl⟩
  have hOp : Opn D w := by rw [hD]; exact Dc_open own 1 w
  have hm : ∀ b, b < w.heap.size → Dm own 1 b → D b := fun b _ h => by rw [hD]; exact .inl h
  obtain ⟨wA, hwA⟩ : ∃ wA, w.alloc (.cells o.cells 41) = wA := ⟨_, rfl⟩
  have HWA : Hid (w.alloc (.cells o.cells 41) = wA) := hwA
  have BA : Hid (Below w.heap.size w wA) := by rw [← hwA]; exact (Below.refl _ _).alloc (Nat.le_refl _) _
  obtain ⟨w1, hw1⟩ : ∃ w1, wA.alloc sNew = w1 := ⟨_, rfl⟩
  have HW1 : Hid (wA.alloc sNew = w1) := hw1
  have B1 : Hid (Below w.heap.size w w1) := by rw [← hw1]; exact BA.out.alloc BA.out.size _
  have hsb : Hid (StoreAt (fun k => k = wA.heap.size) (fun _ => False) wA.heap.size st0 w1 ∧ w.heap.size ≤ wA.heap.size ∧ wA.heap.size < w1.heap.size) := by
    rw [← hw1]; exact ⟨StoreAt.new wA rfl, BA.out.size, by simp⟩
  have H1 : Hid (BkAt D wb vss vrs q P n w1 ∧ OwnsIn w1 D 43 1 vss l Ss ∧ OwnsIn w1 D 45 1 vrs l Rs ∧ Opn D w1 ∧ Opn D w) := ⟨(hbk.mono hm).below' B1.out, (hss.mono hm).below B1.out, (hrs.mono hm).below B1.out, hOp.later B1.out.size, hOp⟩
  obtain ⟨ao1, cap1, rfl⟩ := slice_form hss.own
  obtain ⟨ao2, cap2, rfl⟩ := slice_form hrs.own
  obtain ⟨c0, c1, f0, f1, hwb⟩ := H1.out.1.c0
  generalize hpost : (fun (e : Ending) (w' : World) => OpenPost own wb q P n l Ss Rs w e w') = PP
  have HPP : Hid (∀ w', OpenPost own wb q P n l Ss Rs w (.returned (.bool true)) w' → PP (.returned (.bool true)) w') := fun w' h => by rw [← hpost]; exact h
  have HDD : Hid (D = Dc own w.heap.size 1) := hD
  clear hpost hwA hw1 hbk hss hrs hm hOp hD
  unfold OpD.val
  unfold OpD.cells at HWA ⊢
  rw [hK] at HWA ⊢
  clear hK
  go_enter Tryz.func7, Tryz.ntmps7
  go_wp2_with fail
  rw [HWA.out]
  refine (new_any wA).mono ?_
  rintro e w1' ⟨rfl, rfl⟩
  rw [HW1.out]
  obtain ⟨sb, hsbe⟩ : ∃ sb, wA.heap.size = sb := ⟨_, rfl⟩
  rw [hsbe] at hsb ⊢
  clear HW1 HWA hsbe
  go_wp2_with (at_builtin; refine wpList_append_lies _ rfl (.tmp 22) (.tmp 24) 26 rfl 0 43 i43 _ 1 8 Tryz.underlying26 hi43 hz43a hz43b hz43c rfl (by decide) _ _ _ rfl (H1.out.2.1.own.alloc _) ⟨w1.heap.size, 0, none⟩ 1 1 [ptr sb] rfl rfl (alloc_one _ _ rfl _ _) (by intro u hu; simp at hu; subst hu; rfl) (by omega) (by unfold maxLen; omega) (by omega) (Nat.zero_le _) _ rfl ?_)
  intro g1 capg1 w2 ho2 hg2 hat2 hlt2
  have K2 : Kd D [43] w1 w2 := ((Kd.refl D [43] w1).alloc _).grown (H1.out.2.1.alloc _) hg2 (by simp)
  have N2 : OwnsIn w2 D 43 1 (.slice (some ⟨g1, 0, none⟩) (l + 1) capg1) (l + 1) (Ss ++ [ptr sb]) := H1.out.2.1.put H1.out.2.2.2.1 ho2 (hat2.imp id fun e => by rw [e]; simp)
  have BK2 := H1.out.1.kd K2 (by simp) (by simp) (by simp) (by simp)
  obtain ⟨c0b, c1b, f0b, f1b, hwb2⟩ := BK2.c0
  have H3 : Hid (BkAt D wb (.slice (some ⟨g1, 0, none⟩) (l + 1) capg1) (.slice ao2 l cap2) q P n (w2.setCell ⟨wb, 0, none⟩ (.slice (some ⟨g1, 0, none⟩) (l + 1) capg1)) ∧ Kd D [36, 43, 45] w1 (w2.setCell ⟨wb, 0, none⟩ (.slice (some ⟨g1, 0, none⟩) (l + 1) capg1)) ∧ OwnsIn (w2.setCell ⟨wb, 0, none⟩ (.slice (some ⟨g1, 0, none⟩) (l + 1) capg1)) D 43 1 (.slice (some ⟨g1, 0, none⟩) (l + 1) capg1) (l + 1) (Ss ++ [ptr sb]) ∧ OwnsIn (w2.setCell ⟨wb, 0, none⟩ (.slice (some ⟨g1, 0, none⟩) (l + 1) capg1)) D 45 1 (.slice ao2 l cap2) l Rs) := by
    obtain ⟨b1, b2⟩ := BK2.setSs (vss' := .slice (some ⟨g1, 0, none⟩) (l + 1) capg1) rfl
    exact ⟨b1, (K2.mono (by simp)).trans (b2.mono (by simp)), b2.ownsIn N2 (by simp), b2.ownsIn (K2.ownsIn H1.out.2.2.1 (by simp)) (by simp)⟩
  clear ho2 hg2 hat2 hlt2 K2 N2 BK2
  go_wp2
  obtain ⟨w3, hw3⟩ : ∃ w3, w2.setCell ⟨wb, 0, none⟩ (.slice (some ⟨g1, 0, none⟩) (l + 1) capg1) = w3 := ⟨_, rfl⟩
  rw [hw3] at H3 ⊢
  clear hw3
  have c1c := H3.out.1.c0.2.1
  have hwb3 := H3.out.1.c0.2.2.2.2
  have HO3 : Hid (Opn D w3) := H1.out.2.2.2.1.later H3.out.2.1.size
  rename_i K1 HK1 K HK0
  have HK : Hid _ := HK0
  have HKK1 : Hid _ := HK1
  clear HK0 HK1
  have REST : Hid (∀ (g2 capg2 : Nat) (w4 w5 : World), RefT (fun k => k = w3.heap.size) w3.heap.size ⟨[], [], 0⟩ 0 0 [] w4 → Below w3.heap.size w3 w4 → Kd D [45] w4 w5 → OwnsIn w5 D 45 1 (.slice (some ⟨g2, 0, none⟩) (l + 1) capg2) (l + 1) (Rs ++ [ptr w3.heap.size]) → BkAt D wb (.slice (some ⟨g1, 0, none⟩) (l + 1) capg1) (.slice ao2 l cap2) q P n w5 →
      K { tmps := #[.pointer (some ⟨wb, 0, none⟩), .agg #[.int .i64 1, .int .i64 o.A, .int .i64 o.B, .int .i64 o.W, .string o.S, .bool o.F, .slice o.aP o.L.length o.cP, .slice o.aC o.lC o.cC, .slice o.aK o.lK o.cK], undef, .pointer (some ⟨w.heap.size, 0, none⟩), .bool false, .pointer (some ⟨sb, 0, none⟩), undef, undef, undef, undef, undef, undef, .pointer (some ⟨w.heap.size, 0, none⟩), .int .i64 1, .bool true, .pointer (some ⟨sb, 0, none⟩), .pointer (some ⟨sb, 0, none⟩), .bool false, .pointer (some ⟨wb, 0, none⟩), .pointer (some ⟨wb, 0, none⟩), .pointer (some ⟨wb, 0, none⟩), .pointer (some ⟨wb, 0, none⟩), .slice ao1 l cap1, .pointer (some ⟨sb, 0, none⟩), .slice (some ⟨w1.heap.size, 0, none⟩) 1 1, .slice (some ⟨g1, 0, none⟩) (l + 1) capg1, .pointer (some ⟨wb, 0, none⟩), .pointer (some ⟨wb, 0, none⟩), .pointer (some ⟨wb, 0, none⟩), .pointer (some ⟨wb, 0, none⟩), .pointer (some ⟨wb, 0, none⟩), .pointer (some ⟨wb, 1, none⟩), .slice ao2 l cap2, .pointer (some ⟨w3.heap.size, 0, none⟩), .slice (some ⟨w4.heap.size, 0, none⟩) 1 1, .slice (some ⟨g2, 0, none⟩) (l + 1) capg2, .pointer (some ⟨wb, 0, none⟩), .pointer (some ⟨wb, 1, none⟩), undef, undef, undef, undef, undef, undef, undef, undef, undef, undef, undef, undef, undef, undef, undef, undef, undef, undef, undef, undef, undef, undef, undef, undef, undef, undef, undef, undef, undef, undef, undef, undef, undef, undef, undef, undef, undef, undef, undef, undef, undef, undef, undef, undef, undef, undef, undef], defers := [] } (w5.setCell ⟨wb, 1, none⟩ (.slice (some ⟨g2, 0, none⟩) (l + 1) capg2))) := by
    intro g2 capg2 w4 w5 a1 a2 a3 a4 a5
    have HF : Hid (OpenPost own wb q P n l Ss Rs w (.returned (.bool true)) (w5.setCell ⟨wb, 1, none⟩ (.slice (some ⟨g2, 0, none⟩) (l + 1) capg2))) := by
      obtain ⟨b1, b2⟩ := a5.setRs (vrs' := .slice (some ⟨g2, 0, none⟩) (l + 1) capg2) rfl
      have s1 := H3.out.2.1.size
      have hd := HDD.out
      have kA : Kd D [36, 43, 45] w3 (w5.setCell ⟨wb, 1, none⟩ (.slice (some ⟨g2, 0, none⟩) (l + 1) capg2)) := ((Kd.of_below a2).trans (a3.mono (by simp))).trans (b2.mono (by simp))
      have kT : Kd D [36, 43, 45] w (w5.setCell ⟨wb, 1, none⟩ (.slice (some ⟨g2, 0, none⟩) (l + 1) capg2)) := ((Kd.of_below B1.out).trans H3.out.2.1).trans kA
      refine ⟨rfl, by rw [← hd]; exact kT, sb, w3.heap.size, _, _, hsb.out.2.1, by have := hsb.out; omega, by have := hsb.out; omega, by rw [← hd]; exact b1, by rw [← hd]; exact b2.ownsIn (a3.ownsIn (H3.out.2.2.1.below a2) (by simp)) (by simp), by rw [← hd]; exact b2.ownsIn a4 (by simp), ?_, ?_⟩
      · exact (hsb.out.1.kd H3.out.2.1 (by simp)).kd kA (by simp)
      · exact (a1.kept a3 (by simp) (by simp) (by simp) (by simp) (by simp) (by simp)).kept b2 (by simp) (by simp) (by simp) (by simp) (by simp) (by simp)
    generalize w5.setCell ⟨wb, 1, none⟩ (.slice (some ⟨g2, 0, none⟩) (l + 1) capg2) = w6 at HF
    clear a1 a2 a3 a4 a5
    refine HK.out _ _ ?_
    clear HK
    go_wp2
    exact HPP.out _ HF.out
  refine wp_region_held_drew (S := fun _ => True) (by kernel_rfl) trivial ?_
  intro _
  refine wpAnyH_take (i := 0) (v := .pointer (some ⟨wb, 0, none⟩)) rfl (by kernel_rfl) (by kernel_rfl) (by kernel_rfl) (fun _ _ _ h => h) (Or.inl ⟨by rfl, ?_⟩) trivial ?_
  · intro w0 _
    go_simp
  simp only [Act.put]
  refine wpAnyH_take (i := 1) (v := .pointer (some ⟨wb, 0, none⟩)) rfl (by kernel_rfl) (by kernel_rfl) (by kernel_rfl) (fun _ _ _ h => h) (Or.inl ⟨by rfl, ?_⟩) trivial ?_
  · intro w0 _
    go_simp
  simp only [Act.put]
  refine wpAnyH_take (i := 2) (v := .pointer (some ⟨wb, 0, none⟩)) rfl (by kernel_rfl) (by kernel_rfl) (by kernel_rfl) (fun _ _ _ h => h) (Or.inl ⟨by rfl, ?_⟩) trivial ?_
  · intro w0 _
    go_simp
  simp only [Act.put]
  refine wpAnyH_take (i := 3) (v := .pointer (some ⟨wb, 1, none⟩)) rfl (by kernel_rfl) (by kernel_rfl) (by kernel_rfl) (fun _ _ _ h => h) (Or.inl ⟨by rfl, ?_⟩) trivial ?_
  · intro w0 _
    go_simp
  simp only [Act.put]
  refine wpAnyH_ready (rs := [4, 5]) (by kernel_rfl) (by simp) ?_
  refine AllReadyH.cons rfl (fun K' hK => ?_) (AllReadyH.cons rfl (fun K' hK => ?_) AllReadyH.nil)
  · rw [if_pos (by rfl)]
    go_wp2_with fail
    refine hK.out _ _ trivial (fun _ => ?_)
    clear hK K'
    refine wpAnyH_ready (rs := [5]) (by kernel_rfl) (by simp) ?_
    refine AllReadyH.cons rfl (fun K' hK => ?_) AllReadyH.nil
    rw [if_pos (by rfl)]
    go_wp2_with fail
    refine (refNew_any _).mono ?_
    rintro e w4 ⟨rfl, hw4⟩
    have A4 : Hid (RefT (fun k => k = w3.heap.size) w3.heap.size ⟨[], [], 0⟩ 0 0 [] w4 ∧ Below w3.heap.size w3 w4) := by rw [hw4]; exact ⟨RefT.new w3.drew rfl, (Below.refl _ _).drew.alloc (Nat.le_refl _) _⟩
    have hsz4 : Hid (w4.heap.size = w3.heap.size + 1) := by rw [hw4]; simp [Hid]
    have m1 : w4.cell? ⟨wb, 1, none⟩ = some (.slice ao2 l cap2) := cell_later A4.out.2 c1c
    have hwb4 : wb < w4.heap.size := by have := hsz4.out; omega
    clear hw4
    go_wp2_with fail
    refine hK.out _ _ trivial (fun _ => ?_)
    clear hK K'
    refine wpAnyH_ready (rs := [6]) (by kernel_rfl) (by simp) ?_
    refine AllReadyH.cons rfl (fun K' hK => ?_) AllReadyH.nil
    rw [if_pos (by rfl)]
    go_wp2_with fail
    refine hK.out _ _ trivial (fun _ => ?_)
    clear hK K'
    refine wpAnyH_ready (rs := [7]) (by kernel_rfl) (by simp) ?_
    refine AllReadyH.cons rfl (fun K' hK => ?_) AllReadyH.nil
    rw [if_pos (by rfl)]
    refine wp_append_lies _ (.tmp 32) (.tmp 34) 27 rfl 0 45 i45 _ 1 8 Tryz.underlying27 hi45 hz45a hz45b hz45c rfl (by decide) (.slice ao2 l cap2) l Rs rfl (by exact (H3.out.2.2.2.below A4.out.2).own.alloc _) ⟨w4.heap.size, 0, none⟩ 1 1 [ptr w3.heap.size] rfl rfl (alloc_one _ _ rfl _ _) (by intro u hu; simp at hu; subst hu; rfl) (by omega) (by unfold maxLen; omega) (by omega) (Nat.zero_le _) _ rfl ?_
    intro g2 capg2 w5 hown hgrow hat hlt
    have K5 : Hid (Kd D [45] w4 w5) := Kd.grown ((Kd.refl _ _ _).alloc _) (by exact (H3.out.2.2.2.below A4.out.2).alloc _) hgrow (by simp)
    have N5 : Hid (OwnsIn w5 D 45 1 (.slice (some ⟨g2, 0, none⟩) (l + 1) capg2) (l + 1) (Rs ++ [ptr w3.heap.size])) := H3.out.2.2.2.put HO3.out hown (hat.imp id fun e => by rw [e]; have := hsz4.out; simp; omega)
    have BK5 : Hid (BkAt D wb (.slice (some ⟨g1, 0, none⟩) (l + 1) capg1) (.slice ao2 l cap2) q P n w5) := (H3.out.1.below' A4.out.2).kd K5.out (by simp) (by simp) (by simp) (by simp)
    have m3 : w5.cell? ⟨wb, 1, none⟩ = some (.slice ao2 l cap2) := BK5.out.c0.2.1
    have f3 : w5.frozen? ⟨wb, 1, none⟩ = false := BK5.out.c0.2.2.2.1
    clear hown hgrow hat hlt
    refine hK.out _ _ trivial (fun _ => ?_)
    clear hK K'
    simp only [Act.put]
    refine wpAnyH_take (i := 8) (v := .pointer (some ⟨wb, 0, none⟩)) rfl (by kernel_rfl) (by kernel_rfl) (by kernel_rfl) (fun _ _ _ h => h) (Or.inl ⟨by rfl, ?_⟩) trivial ?_
    · intro w0 _
      go_simp
    simp only [Act.put]
    refine wpAnyH_take (i := 9) (v := .pointer (some ⟨wb, 1, none⟩)) rfl (by kernel_rfl) (by kernel_rfl) (by kernel_rfl) (fun _ _ _ h => h) (Or.inl ⟨by rfl, ?_⟩) trivial ?_
    · intro w0 _
      go_simp
    simp only [Act.put]
    refine wpAnyH_ready (rs := [10]) (by kernel_rfl) (by simp) ?_
    refine AllReadyH.cons rfl (fun K' hK => ?_) AllReadyH.nil
    rw [if_pos (by rfl)]
    go_wp2_with fail
    refine hK.out _ _ trivial (fun _ => ?_)
    clear hK K'
    refine wpAnyH_done (by kernel_rfl) ?_ _
    exact REST.out g2 capg2 w4 w5 A4.out.1 A4.out.2 K5.out N5.out BK5.out
  · rw [if_pos (by rfl)]
    go_wp2_with fail
    refine (refNew_any _).mono ?_
    rintro e w4 ⟨rfl, hw4⟩
    have A4 : Hid (RefT (fun k => k = w3.heap.size) w3.heap.size ⟨[], [], 0⟩ 0 0 [] w4 ∧ Below w3.heap.size w3 w4) := by rw [hw4]; exact ⟨RefT.new w3.drew rfl, (Below.refl _ _).drew.alloc (Nat.le_refl _) _⟩
    have hsz4 : Hid (w4.heap.size = w3.heap.size + 1) := by rw [hw4]; simp [Hid]
    have m1 : w4.cell? ⟨wb, 1, none⟩ = some (.slice ao2 l cap2) := cell_later A4.out.2 c1c
    have hwb4 : wb < w4.heap.size := by have := hsz4.out; omega
    clear hw4
    go_wp2_with fail
    refine hK.out _ _ trivial (fun _ => ?_)
    clear hK K'
    refine wpAnyH_ready (rs := [4, 6]) (by kernel_rfl) (by simp) ?_
    refine AllReadyH.cons rfl (fun K' hK => ?_) (AllReadyH.cons rfl (fun K' hK => ?_) AllReadyH.nil)
    · rw [if_pos (by rfl)]
      go_wp2_with fail
      refine hK.out _ _ trivial (fun _ => ?_)
      clear hK K'
      refine wpAnyH_ready (rs := [6]) (by kernel_rfl) (by simp) ?_
      refine AllReadyH.cons rfl (fun K' hK => ?_) AllReadyH.nil
      rw [if_pos (by rfl)]
      go_wp2_with fail
      refine hK.out _ _ trivial (fun _ => ?_)
      clear hK K'
      refine wpAnyH_ready (rs := [7]) (by kernel_rfl) (by simp) ?_
      refine AllReadyH.cons rfl (fun K' hK => ?_) AllReadyH.nil
      rw [if_pos (by rfl)]
      refine wp_append_lies _ (.tmp 32) (.tmp 34) 27 rfl 0 45 i45 _ 1 8 Tryz.underlying27 hi45 hz45a hz45b hz45c rfl (by decide) (.slice ao2 l cap2) l Rs rfl (by exact (H3.out.2.2.2.below A4.out.2).own.alloc _) ⟨w4.heap.size, 0, none⟩ 1 1 [ptr w3.heap.size] rfl rfl (alloc_one _ _ rfl _ _) (by intro u hu; simp at hu; subst hu; rfl) (by omega) (by unfold maxLen; omega) (by omega) (Nat.zero_le _) _ rfl ?_
      intro g2 capg2 w5 hown hgrow hat hlt
      have K5 : Hid (Kd D [45] w4 w5) := Kd.grown ((Kd.refl _ _ _).alloc _) (by exact (H3.out.2.2.2.below A4.out.2).alloc _) hgrow (by simp)
      have N5 : Hid (OwnsIn w5 D 45 1 (.slice (some ⟨g2, 0, none⟩) (l + 1) capg2) (l + 1) (Rs ++ [ptr w3.heap.size])) := H3.out.2.2.2.put HO3.out hown (hat.imp id fun e => by rw [e]; have := hsz4.out; simp; omega)
      have BK5 : Hid (BkAt D wb (.slice (some ⟨g1, 0, none⟩) (l + 1) capg1) (.slice ao2 l cap2) q P n w5) := (H3.out.1.below' A4.out.2).kd K5.out (by simp) (by simp) (by simp) (by simp)
      have m3 : w5.cell? ⟨wb, 1, none⟩ = some (.slice ao2 l cap2) := BK5.out.c0.2.1
      have f3 : w5.frozen? ⟨wb, 1, none⟩ = false := BK5.out.c0.2.2.2.1
      clear hown hgrow hat hlt
      refine hK.out _ _ trivial (fun _ => ?_)
      clear hK K'
      simp only [Act.put]
      refine wpAnyH_take (i := 8) (v := .pointer (some ⟨wb, 0, none⟩)) rfl (by kernel_rfl) (by kernel_rfl) (by kernel_rfl) (fun _ _ _ h => h) (Or.inl ⟨by rfl, ?_⟩) trivial ?_
      · intro w0 _
        go_simp
      simp only [Act.put]
      refine wpAnyH_take (i := 9) (v := .pointer (some ⟨wb, 1, none⟩)) rfl (by kernel_rfl) (by kernel_rfl) (by kernel_rfl) (fun _ _ _ h => h) (Or.inl ⟨by rfl, ?_⟩) trivial ?_
      · intro w0 _
        go_simp
      simp only [Act.put]
      refine wpAnyH_ready (rs := [10]) (by kernel_rfl) (by simp) ?_
      refine AllReadyH.cons rfl (fun K' hK => ?_) AllReadyH.nil
      rw [if_pos (by rfl)]
      go_wp2_with fail
      refine hK.out _ _ trivial (fun _ => ?_)
      clear hK K'
      refine wpAnyH_done (by kernel_rfl) ?_ _
      exact REST.out g2 capg2 w4 w5 A4.out.1 A4.out.2 K5.out N5.out BK5.out
    · rw [if_pos (by rfl)]
      go_wp2_with fail
      refine hK.out _ _ trivial (fun _ => ?_)
      clear hK K'
      refine wpAnyH_ready (rs := [4]) (by kernel_rfl) (by simp) ?_
      refine AllReadyH.cons rfl (fun K' hK => ?_) AllReadyH.nil
      rw [if_pos (by rfl)]
      go_wp2_with fail
      refine hK.out _ _ trivial (fun _ => ?_)
      clear hK K'
      refine wpAnyH_ready (rs := [7]) (by kernel_rfl) (by simp) ?_
      refine AllReadyH.cons rfl (fun K' hK => ?_) AllReadyH.nil
      rw [if_pos (by rfl)]
      refine wp_append_lies _ (.tmp 32) (.tmp 34) 27 rfl 0 45 i45 _ 1 8 Tryz.underlying27 hi45 hz45a hz45b hz45c rfl (by decide) (.slice ao2 l cap2) l Rs rfl (by exact (H3.out.2.2.2.below A4.out.2).own.alloc _) ⟨w4.heap.size, 0, none⟩ 1 1 [ptr w3.heap.size] rfl rfl (alloc_one _ _ rfl _ _) (by intro u hu; simp at hu; subst hu; rfl) (by omega) (by unfold maxLen; omega) (by omega) (Nat.zero_le _) _ rfl ?_
      intro g2 capg2 w5 hown hgrow hat hlt
      have K5 : Hid (Kd D [45] w4 w5) := Kd.grown ((Kd.refl _ _ _).alloc _) (by exact (H3.out.2.2.2.below A4.out.2).alloc _) hgrow (by simp)
      have N5 : Hid (OwnsIn w5 D 45 1 (.slice (some ⟨g2, 0, none⟩) (l + 1) capg2) (l + 1) (Rs ++ [ptr w3.heap.size])) := H3.out.2.2.2.put HO3.out hown (hat.imp id fun e => by rw [e]; have := hsz4.out; simp; omega)
      have BK5 : Hid (BkAt D wb (.slice (some ⟨g1, 0, none⟩) (l + 1) capg1) (.slice ao2 l cap2) q P n w5) := (H3.out.1.below' A4.out.2).kd K5.out (by simp) (by simp) (by simp) (by simp)
      have m3 : w5.cell? ⟨wb, 1, none⟩ = some (.slice ao2 l cap2) := BK5.out.c0.2.1
      have f3 : w5.frozen? ⟨wb, 1, none⟩ = false := BK5.out.c0.2.2.2.1
      clear hown hgrow hat hlt
      refine hK.out _ _ trivial (fun _ => ?_)
      clear hK K'
      simp only [Act.put]
      refine wpAnyH_take (i := 8) (v := .pointer (some ⟨wb, 0, none⟩)) rfl (by kernel_rfl) (by kernel_rfl) (by kernel_rfl) (fun _ _ _ h => h) (Or.inl ⟨by rfl, ?_⟩) trivial ?_
      · intro w0 _
        go_simp
      simp only [Act.put]
      refine wpAnyH_take (i := 9) (v := .pointer (some ⟨wb, 1, none⟩)) rfl (by kernel_rfl) (by kernel_rfl) (by kernel_rfl) (fun _ _ _ h => h) (Or.inl ⟨by rfl, ?_⟩) trivial ?_
      · intro w0 _
        go_simp
      simp only [Act.put]
      refine wpAnyH_ready (rs := [10]) (by kernel_rfl) (by simp) ?_
      refine AllReadyH.cons rfl (fun K' hK => ?_) AllReadyH.nil
      rw [if_pos (by rfl)]
      go_wp2_with fail
      refine hK.out _ _ trivial (fun _ => ?_)
      clear hK K'
      refine wpAnyH_done (by kernel_rfl) ?_ _
      exact REST.out g2 capg2 w4 w5 A4.out.1 A4.out.2 K5.out N5.out BK5.out
end Go.Proofs.YtakipjofboipmaaGreatDoor
