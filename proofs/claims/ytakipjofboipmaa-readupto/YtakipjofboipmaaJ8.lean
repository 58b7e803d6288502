/- The walks of this proof: a store begun anew out of a journal's bytes. -/
import Derived.Test.YtakipjofboipmaaJ4
import Derived.Test.YtakipjofboipmaaJ6
import Derived.Test.YtakipjofboipmaaJ7
import Derived.Test.YtakipjofboipmaaJ3
import Derived.Deep.RegionLawGrows
namespace Go.Proofs.Ytakipjofboipmaa
open Go.RowKit Go.Sort

/-- What restoring comes to. -/
def RstPost (D F : Nat → Prop) (sb : Nat) (x : St) (t : List UInt8) (w : World) (e : Ending) (w' : World) : Prop :=
  ∃ Bs : List (List Pr), Reads t Bs ∧ e = .returned (.int .i64 (rl Bs : Nat)) ∧ StoreAt D F sb (x.rs Bs) w' ∧ Kd D [50] w w'

theorem en_of_owns {w : World} {base cap : Nat} {ao : Option Addr} {E : List En} (h : w.ownsRow base 73 4 (.slice ao E.length cap) E.length (ecells E)) : E.length ≤ cap ∧ (0 < E.length → ∃ g, ao = some ⟨g, 0, none⟩ ∧ g < w.heap.size ∧ EnAt w g E) := by
  have h2 := h.2
  rcases enrow_of_owns h with ⟨rfl, h'⟩ | ⟨g, c, hv, hc, hE⟩
  · exact ⟨Nat.zero_le _, fun h => absurd h (by simp)⟩
  · simp only [Value.slice.injEq] at hv
    obtain ⟨rfl, _, rfl⟩ := hv
    refine ⟨hc, fun _ => ⟨g, rfl, ?_, hE⟩⟩
    rcases h2 with ⟨h', _⟩ | ⟨g', cap', cur, hv', _, hg, _⟩
    · cases h'
    · simp only [Value.slice.injEq, Option.some.injEq, Addr.mk.injEq, and_true] at hv'
      rw [hv'.1]
      exact lt_of_block hg

theorem addr_add (g i : Nat) : (⟨g, 0, none⟩ : Addr).add i = ⟨g, i, none⟩ := by unfold Addr.add; split <;> simp_all

theorem ents_take {Bs : List (List Pr)} {i : Nat} {b : List Pr} (hb : Bs[i]? = some b) (s : Int) : entsFrom s (Bs.take (i + 1)) = entsFrom s (Bs.take i) ++ b.map (toEn (s + i)) := by
  have hi := (List.getElem?_eq_some_iff.1 hb).1
  rw [List.take_add_one, hb, Option.toList_some, ents_snoc, List.length_take, Nat.min_eq_left (by omega)]

set_option maxHeartbeats 4000000 in
set_option maxRecDepth 100000 in
theorem restore_any (D F : Nat → Prop) (sb : Nat) (x : St) (t : List UInt8) (w : World) (hx : StoreAt D F sb x w) (hD : Opn D w) (ht : t.length < 100000000) (h0 : 0 ≤ x.la) (hla : x.la < 1000000000) :
    Calls Try.prog 8 #[.pointer (some ⟨sb, 0, none⟩), .string (bs t)] w fun e w' => RstPost D F sb x t w e w' := by
  obtain ⟨i0, hi, hz0, hz1, hz2⟩ := info_parts Try.info73
  obtain ⟨vE, vL, vR, vS, hB, hs, hE, hT, hR, hS⟩ := hx
  have hlt := lt_of_block hs
  have HRA : Hid _ := readAll_any t w (by omega)
  have HDO : Hid (Opn D w) := hD
  have HST : Hid (w.heap[sb]? = some (.cells #[vE, vL, vR, .int .i64 (rl (x.B.take x.sy)), .int .i64 x.la, vS, .int .i64 x.lastSnap, .int .i64 x.last] 50 (0, 0))) := hs
  have HROW : Hid (TabsIn w D F vL x.T ∧ OwnsIn w D 152 2 vS x.S.length (scells x.S)) := ⟨hT, hS⟩
  clear hs hE hT hR hS hD
  go_enter Try.func8, Try.ntmps8
  go_wp2_with fail
  refine Calls.mono HRA.out ?_
  rintro e w1 ⟨Bs, vA, hrd, rfl, hall, hb1⟩
  obtain ⟨aoA, cA, rfl⟩ : ∃ ao c, vA = .slice ao Bs.length c := by obtain ⟨Ws, ho, _⟩ := hall; exact slice_form ho
  have hBt := hrd.all
  have hpre := hrd.pre
  have hBl : 8 * Bs.length ≤ rl Bs ∧ rl Bs ≤ t.length := by
    have h1 := flat_bounds recB 8 73 Bs fun b hb => recB_len (hBt b hb)
    have h2 : (Bs.flatMap recB).length = rl Bs := rfl
    have h3 := hpre.length_le
    omega
  obtain ⟨hB8, hrt⟩ := hBl
  have HRD : Hid (Reads t Bs) := hrd
  have HBT : Hid (∀ b ∈ Bs, Bt b) := hBt
  have INV0 : Hid (w1.ownsRow w.heap.size 73 4 (.slice none 0 0) (entsFrom (x.la + 1) (Bs.take 0)).length (ecells (entsFrom (x.la + 1) (Bs.take 0))) ∧ AllAt w.heap.size w1 (.slice aoA Bs.length cA) Bs ∧ Below w.heap.size w w1) := ⟨World.ownsRow_nil _ _ _ _, hall, hb1⟩
  clear hall hb1 HRA hrd hBt hpre
  generalize hrb : rl Bs = rb at hB8 hrt
  have HRB : Hid (rl Bs = rb) := hrb
  clear hrb
  generalize hlai : x.la = la at h0 hla INV0
  have HLA : Hid (x.la = la) := hlai
  clear hlai
  go_wp2
  go_loopw [7, 17] (fun s7 s17 wr => ∃ i : Nat, i ≤ Bs.length ∧ s17 = .int .i64 i ∧ Hid (wr.ownsRow w.heap.size 73 4 s7 (entsFrom (la + 1) (Bs.take i)).length (ecells (entsFrom (la + 1) (Bs.take i))) ∧ AllAt w.heap.size wr (.slice aoA Bs.length cA) Bs ∧ Below w.heap.size w wr)) (fun _ s17 _ => Bs.length - (intOf s17).toNat)
  case atStart => exact ⟨0, Nat.zero_le _, rfl, INV0.out⟩
  case round =>
    clear INV0
    obtain ⟨i, hi5, rfl, HI⟩ := hrel
    obtain ⟨aoE, cE, rfl⟩ := slice_form HI.out.1
    by_cases hlt5 : i < Bs.length
    · obtain ⟨b, hbi⟩ : ∃ b, Bs[i]? = some b := ⟨_, List.getElem?_eq_getElem hlt5⟩
      obtain ⟨Ws, hWo, hWr⟩ := HI.out.2.1
      obtain ⟨vi, hWi, hoi⟩ := hWr i b hbi
      obtain ⟨gA, cA', hvA, _, hgA⟩ := hWo.form (by omega)
      simp only [Value.slice.injEq] at hvA
      obtain ⟨rfl, _, rfl⟩ := hvA
      have cW : wr.cell? ⟨gA, i, none⟩ = some vi := by rw [← addr_add gA i]; exact hWo.cells (g := gA) rfl i vi hWi
      have bt := HBT.out b (List.mem_of_getElem? hbi)
      have hb1 := bt.lo
      have hb4 := bt.hi
      have hcl : wr.cell? ⟨sb, 4, none⟩ = some (.int .i64 la) := (HI.out.2.2.cell (p := ⟨sb, 4, none⟩) hlt).trans (by rw [← HLA.out]; simp [World.cell?, HST.out])
      have HEN : Hid (Calls Try.prog 14 #[vi, .int .i64 (la + 1 + i)] wr fun e w' => EntPost b (la + 1 + i) wr e w') := entries_any b vi w.heap.size (la + 1 + i) wr hoi hb4
      obtain ⟨aoi, ci, rfl⟩ := slice_form hoi
      have hEl : (entsFrom (la + 1) (Bs.take i)).length ≤ 4 * i := by
        have := ents_len (Bs := Bs.take i) (fun b hb => HBT.out b (List.mem_of_mem_take hb)) (la + 1)
        rwa [List.length_take, Nat.min_eq_left (by omega)] at this
      have HTK : Hid (entsFrom (la + 1) (Bs.take (i + 1)) = entsFrom (la + 1) (Bs.take i) ++ b.map (toEn (la + 1 + i))) := ents_take hbi (la + 1)
      have hwz := HI.out.2.2.size
      clear hWo hWr hWi hoi bt hbi
      go_wp2_with fail
      refine Calls.mono HEN.out ?_
      rintro e w2 ⟨v2, rfl, ho2, hb2⟩
      rw [List.length_map] at ho2
      obtain ⟨g2, c2, rfl, _, hg2⟩ := ho2.form (by omega)
      have HB2 : Hid (Below wr.heap.size wr w2) := hb2
      have HO2 : Hid (w2.ownsRow wr.heap.size 73 4 (.slice (some ⟨g2, 0, none⟩) b.length c2) b.length (ecells (b.map (toEn (la + 1 + i))))) := ho2
      have HE2 : Hid (w2.ownsRow w.heap.size 73 4 (.slice aoE (entsFrom (la + 1) (Bs.take i)).length cE) (entsFrom (la + 1) (Bs.take i)).length (ecells (entsFrom (la + 1) (Bs.take i)))) := (Kp.of_below (B := 0) (ts := []) hb2).owns HI.out.1 (by simp)
      clear ho2 hb2 HEN
      generalize hEe : entsFrom (la + 1) (Bs.take i) = Ee at HE2 hEl HTK HI
      clear hEe
      go_wp2_with (at_builtin; refine wpList_append_own _ rfl (.tmp 22) (.tmp 32) 35 rfl w.heap.size 73 i0 _ 4 48 Try.underlying35 hi hz0 hz1 hz2 rfl (by decide) _ _ _ rfl (by exact HE2.out) ⟨g2, 0, none⟩ b.length c2 (ecells (b.map (toEn (la + 1 + i)))) rfl (by rw [ecells_len, List.length_map]) (by exact HO2.out.cells (g := g2) rfl) (by intro u hu; obtain ⟨y, _, hy⟩ := List.mem_flatMap.1 hu; exact entry_one y u hy) (by unfold maxLen; omega) (by omega) (by omega) ?_)
      intro v3 w3 ho3 hg3 _
      have k3 : Kp w.heap.size [73] wr w3 := Kp.grown (Kp.of_below HB2.out) HE2.out hg3 (Nat.le_refl _) (by simp)
      have HI3 : Hid (w3.ownsRow w.heap.size 73 4 v3 (entsFrom (la + 1) (Bs.take (i + 1))).length (ecells (entsFrom (la + 1) (Bs.take (i + 1)))) ∧ AllAt w.heap.size w3 (.slice (some ⟨gA, 0, none⟩) Bs.length cA) Bs ∧ Below w.heap.size w w3) := by
        refine ⟨?_, HI.out.2.1.kept k3 (by simp) (by simp), HI.out.2.2.trans (k3.belowB hwz)⟩
        rw [HTK.out, List.length_append, List.length_map, show ecells (Ee ++ b.map (toEn (la + 1 + i))) = ecells Ee ++ ecells (b.map (toEn (la + 1 + i))) by simp [ecells]]
        exact ho3
      obtain ⟨ao3, c3, rfl⟩ := slice_form ho3
      clear ho3 hg3 k3 HI HE2 HO2 HB2 HTK
      go_wp2
      go_roundw
      case rel => exact ⟨i + 1, hlt5, by go_num, HI3⟩
      case measure => simp [intOf]; omega
    · obtain rfl : i = Bs.length := by omega
      rw [List.take_length] at HI ⊢
      obtain ⟨hown, _, hbel⟩ := HI.out
      have hEd : DistE (entsFrom (la + 1) Bs) := ents_dist HBT.out _
      have hEl := ents_len HBT.out (la + 1)
      generalize hEe : entsFrom (la + 1) Bs = Ee at hown hEd hEl
      have HEE : Hid (entsFrom (la + 1) Bs = Ee) := hEe
      have hs1 : wr.heap[sb]? = some (.cells #[vE, vL, vR, .int .i64 (rl (x.B.take x.sy)), .int .i64 la, vS, .int .i64 x.lastSnap, .int .i64 x.last] 50 (0, 0)) := by rw [hbel.block sb hlt, ← HLA.out]; exact HST.out
      have c4 : wr.cell? ⟨sb, 4, none⟩ = some (.int .i64 la) := by simp [World.cell?, hs1]
      have c7 : wr.cell? ⟨sb, 7, none⟩ = some (.int .i64 x.last) := by simp [World.cell?, hs1]
      have f7 : wr.frozen? ⟨sb, 7, none⟩ = false := by simp [World.frozen?, hs1]
      have k1 : Kd D [50] w wr := Kd.of_below hbel
      have k4 := Kd.field hB hs1 7 (.int .i64 (la + Bs.length))
      have s4 := set_field hs1 7 (.int .i64 (la + Bs.length))
      simp only [List.setIfInBounds_toArray, List.set_cons_succ, List.set_cons_zero] at s4
      have o4 := k4.owns hown (by simp)
      generalize hw4 : wr.setCell ⟨sb, 7, none⟩ (.int .i64 (la + Bs.length)) = w4 at k4 s4 o4
      have HW4 : Hid _ := hw4
      obtain ⟨hcE, hEnt⟩ := en_of_owns o4
      have HNM : Hid _ := newMem_any Ee cE aoE w4 hEd hcE (by omega) hEnt
      have A4 : Hid (Kd D [50] w w4 ∧ w4.heap[sb]? = some (.cells #[vE, vL, vR, .int .i64 (rl (x.B.take x.sy)), .int .i64 la, vS, .int .i64 x.lastSnap, .int .i64 (la + Bs.length)] 50 (0, 0))) := ⟨k1.trans k4, s4⟩
      clear hown hbel hEd hEe hs1 k1 k4 s4 o4 hw4 hEnt HI
      go_wp2_with fail
      rw [HW4.out]
      refine Calls.mono HNM.out ?_
      rintro e w5 ⟨vM, rfl, ho5, hb5⟩
      obtain ⟨aoM, cM, rfl⟩ := slice_form ho5
      have k5 : Kd D [50] w4 w5 := Kd.of_below hb5
      have s5 : w5.heap[sb]? = some (.cells #[vE, vL, vR, .int .i64 (rl (x.B.take x.sy)), .int .i64 la, vS, .int .i64 x.lastSnap, .int .i64 (la + Bs.length)] 50 (0, 0)) := by rw [hb5.block sb (lt_of_block A4.out.2)]; exact A4.out.2
      have m5 : OwnsIn w5 D 73 4 (.slice aoM Ee.length cM) Ee.length (ecells (srt Ee)) := OwnsIn.fresh ho5 (HDO.out.later A4.out.1.size) (Nat.le_refl _)
      have c0 : w5.cell? ⟨sb, 0, none⟩ = some vE := by simp [World.cell?, s5]
      have f0 : w5.frozen? ⟨sb, 0, none⟩ = false := by simp [World.frozen?, s5]
      have k6 := Kd.field hB s5 0 (.slice aoM Ee.length cM)
      have s6 := set_field s5 0 (.slice aoM Ee.length cM)
      simp only [List.setIfInBounds_toArray, List.set_cons_zero] at s6
      have m6 := k6.ownsIn m5 (by simp)
      generalize hw6 : w5.setCell ⟨sb, 0, none⟩ (.slice aoM Ee.length cM) = w6 at k6 s6 m6
      have HW6 : Hid _ := hw6
      have A6 : Hid (Kd D [50] w w6 ∧ w6.heap[sb]? = some (.cells #[.slice aoM Ee.length cM, vL, vR, .int .i64 (rl (x.B.take x.sy)), .int .i64 la, vS, .int .i64 x.lastSnap, .int .i64 (la + Bs.length)] 50 (0, 0)) ∧ OwnsIn w6 D 73 4 (.slice aoM Ee.length cM) Ee.length (ecells (srt Ee))) := ⟨(A4.out.1.trans k5).trans k6, s6, m6⟩
      clear ho5 hb5 k5 s5 m5 k6 s6 m6 hw6 A4 HNM HW4
      have hbsz : (bs t).size = t.length := bs_size t
      go_wp2_with fail
      rw [HW6.out]
      refine wp_region_quiet_tail 6 (by kernel_rfl) (by kernel_rfl) ?_
      simp only [List.take_succ_cons, List.take_zero, List.drop_succ_cons, List.drop_zero]
      repeat (first | go_big_quiet_step (fail) | quiet_step (fail))
      refine wpQuiet_nil ?_
      intro w7 hw'
      have hb7 : Below w6.heap.size w6 w7 := below_of_regrown hw'
      have s7 : w7.heap[sb]? = some (.cells #[.slice aoM Ee.length cM, vL, vR, .int .i64 (rl (x.B.take x.sy)), .int .i64 la, vS, .int .i64 x.lastSnap, .int .i64 (la + Bs.length)] 50 (0, 0)) := by rw [hb7.block sb (lt_of_block A6.out.2.1)]; exact A6.out.2.1
      have k7 : Kd D [50] w w7 := A6.out.1.trans (Kd.of_below hb7)
      have m7 := (Kd.of_below (D := D) (ts := []) hb7).ownsIn A6.out.2.2 (by simp)
      have hex : (bs t).extract 0 rb = bs (t.take rb) := by rw [bs_extract, List.drop_zero]
      have HHO : Hid _ := hold_any D sb _ _ _ _ _ _ _ _ (t.take rb) w7 s7 hB (HDO.out.later k7.size) (by rw [List.length_take]; omega)
      have A7 : Hid (Kd D [50] w w7 ∧ OwnsIn w7 D 73 4 (.slice aoM Ee.length cM) Ee.length (ecells (srt Ee))) := ⟨k7, m7⟩
      clear hb7 s7 k7 m7 hw' A6 HW6
      go_wp2_with fail
      refine Calls.mono HHO.out ?_
      rintro e w8 ⟨rfl, vR8, s8, j8, k8⟩
      have FIN : Hid (RstPost D F sb x t w (.returned (.int .i64 (rb : Nat))) w8) := by
        have kk : Kd D [50] w w8 := A7.out.1.trans k8
        have hJ : t.take rb = Bs.flatMap recB := by
          obtain ⟨r, hr⟩ := HRD.out.pre
          have e1 : rb = (Bs.flatMap recB).length := HRB.out.symm
          rw [e1, ← hr]
          exact List.take_left
        have hlen : (t.take rb).length = rb := by rw [List.length_take]; omega
        refine ⟨Bs, HRD.out, by rw [HRB.out], ⟨.slice aoM Ee.length cM, vL, vR8, vS, hB, ?_, ?_, HROW.out.1.kd kk (by simp) (by simp), ?_, kk.ownsIn HROW.out.2 (by simp)⟩, kk⟩
        · show w8.heap[sb]? = some (.cells #[_, _, _, .int .i64 (rl (Bs.take Bs.length)), .int .i64 x.la, _, _, .int .i64 (x.la + Bs.length)] 50 (0, 0))
          rw [List.take_length, HRB.out, HLA.out, s8, hlen]
          rfl
        · show OwnsIn w8 D 73 4 _ (srt (entsFrom (x.la + 1) Bs)).length (ecells (srt (entsFrom (x.la + 1) Bs)))
          rw [HLA.out, HEE.out, srt_len]
          exact k8.ownsIn A7.out.2 (by simp)
        · show OwnsJ w8 D vR8 (Bs.flatMap recB)
          rw [← hJ]
          exact j8
      clear s8 j8 k8 HHO A7
      go_wp2
      go_ret
      exact FIN.out
end Go.Proofs.Ytakipjofboipmaa

/- The walks of this proof: Crash, Load, Journal. -/
namespace Go.Proofs.Ytakipjofboipmaa
open Go.RowKit Go.Sort

/-- How many of its batches a Crash leaves. -/
structure Left (x : St) (keep : Int) (j : Nat) : Prop where
  le : j ≤ x.B.length
  fits : rl (x.B.take j) ≤ lft x.J.length (rl (x.B.take x.sy)) keep
  most : ∀ i, i ≤ x.B.length → rl (x.B.take i) ≤ lft x.J.length (rl (x.B.take x.sy)) keep → i ≤ j

theorem Left.sure {x : St} {keep : Int} {j : Nat} (h : Left x keep j) (hs : x.sy ≤ x.B.length) : x.sy ≤ j :=
  h.most x.sy hs (lft_le (rl_take_le x.B x.sy) keep).1

/-- A store with nothing in it. -/
def stN : St := ⟨[], [], 0, [], [], 0, [], 0, 0⟩

set_option maxHeartbeats 2000000 in
theorem load_sin (t : List UInt8) (w : World) (ht : t.length < 100000000) :
    Calls Try.prog 4 #[.string (bs t)] w fun e w' => ∃ (sb : Nat) (Bs : List (List Pr)), Reads t Bs ∧ e = .returned (.tuple #[.pointer (some ⟨sb, 0, none⟩), .int .i64 (rl Bs : Nat), .int .i64 (if rl Bs < t.length then 10 else 0)]) ∧ SIn w.heap.size sb (stN.rs Bs) w' ∧ StOk (stN.rs Bs) ∧ Below w.heap.size w w' := by
  have hbs : (bs t).size = t.length := bs_size t
  go_enter Try.func4, Try.ntmps4
  go_wp2_with fail
  refine Calls.mono (new_sin _) ?_
  rintro e w1 ⟨sb, rfl, ⟨D, F, g1, g2, g3, g4, hst⟩, hb1⟩
  have HRS : Hid _ := restore_any D F sb stN t w1 hst g4 ht (Int.le_refl _) (by show (0 : Int) < _; omega)
  have HG : Hid ((∀ k, D k → w.heap.size ≤ k) ∧ (∀ k, F k → w.heap.size ≤ k) ∧ (∀ k, F k → ¬ D k) ∧ Opn D w1 ∧ Below w.heap.size w w1) := ⟨g1, g2, g3, g4, hb1⟩
  clear g1 g2 g3 g4 hst hb1
  go_wp2_with fail
  refine Calls.mono HRS.out ?_
  rintro e w2 ⟨Bs, hrd, rfl, hst, hk⟩
  have hle : rl Bs ≤ t.length := hrd.pre.length_le
  have hok : StOk (stN.rs Bs) := by
    have h1 := flat_bounds recB 8 73 Bs fun b hb => recB_len (hrd.all b hb)
    have h2 : (Bs.flatMap recB).length = rl Bs := rfl
    exact stOk0.rs hrd.all (by show (0 : Int) + Bs.length < _; omega) (by show 0 + 4 * Bs.length < _; omega)
  have FIN : Hid (Reads t Bs ∧ SIn w.heap.size sb (stN.rs Bs) w2 ∧ StOk (stN.rs Bs) ∧ Below w.heap.size w w2) :=
    ⟨hrd, ⟨D, F, HG.out.1, HG.out.2.1, HG.out.2.2.1, HG.out.2.2.2.1.later hk.size, hst⟩, hok, HG.out.2.2.2.2.trans (hk.belowN HG.out.2.2.2.2.size HG.out.1)⟩
  clear hrd hst hk hok HRS HG
  generalize hrb : rl Bs = rb at hle
  have HRB : Hid (rl Bs = rb) := hrb
  clear hrb
  by_cases hlt : rb < t.length
  · have hd : decide ((rb : Int) < (t.length : Int)) = true := decide_eq_true (by omega)
    go_wp2
    refine bodyPost_ret (v := .tuple #[.pointer (some ⟨sb, 0, none⟩), .int .i64 (rb : Nat), .int .i64 10]) (by simp [results, Try.results4, go_sem]) rfl ?_
    exact ⟨sb, Bs, FIN.out.1, by rw [HRB.out, if_pos hlt], FIN.out.2⟩
  · have hd : decide ((rb : Int) < (t.length : Int)) = false := decide_eq_false (by omega)
    go_wp2
    refine bodyPost_ret (v := .tuple #[.pointer (some ⟨sb, 0, none⟩), .int .i64 (rb : Nat), .int .i64 0]) (by simp [results, Try.results4, go_sem]) rfl ?_
    exact ⟨sb, Bs, FIN.out.1, by rw [HRB.out, if_neg hlt], FIN.out.2⟩

set_option maxHeartbeats 400000 in
theorem journal_sin (x : St) (N sb : Nat) (w : World) (hx : SIn N sb x w) :
    Calls Try.prog 5 #[.pointer (some ⟨sb, 0, none⟩)] w fun e w' => e = .returned (.string (bs x.J)) ∧ w' = w := by
  obtain ⟨D, F, g1, g2, g3, g4, vE, vL, vR, vS, hB, hs, hE, hT, hR, hS⟩ := hx
  have c2 : w.cell? ⟨sb, 2, none⟩ = some vR := by simp [World.cell?, hs]
  rcases hR.1 with ⟨rfl, hJ⟩ | ⟨g, cap, cur, fz, rfl, _⟩
  · have hcv := Go.Lib.run_convert_nil_bytes (P := Try.prog) w 43 9 5 0 Try.underlying43 Try.underlying5 Try.underlying9
    rw [hJ]
    clear hs hE hT hR hS hJ g1 g2 g3 g4
    go_enter Try.func5, Try.ntmps5
    go_wp2
    go_ret
    exact ⟨rfl, rfl⟩
  · have hcv := run_convert_bytes_back (P := Try.prog) w 43 9 5 ⟨g, 0, none⟩ cap x.J Try.underlying43 Try.underlying5 Try.underlying9 (fun j hj => hR.1.cells j _ (by simp [bcells, hj]))
    clear hs hE hT hR hS g1 g2 g3 g4
    generalize x.J = J at c2 hcv
    go_enter Try.func5, Try.ntmps5
    go_wp2
    go_ret
    exact ⟨rfl, rfl⟩
end Go.Proofs.Ytakipjofboipmaa

/- Plain mathematics of this proof: what a Crash leaves. -/
namespace Go.Proofs.Ytakipjofboipmaa
open Go.Sort

theorem rl_lt {B : List (List Pr)} (hB : ∀ b ∈ B, Bt b) {i k : Nat} (hik : i < k) (hk : k ≤ B.length) : rl (B.take i) < rl (B.take k) := by
  obtain ⟨b, hb⟩ : ∃ b, B[i]? = some b := ⟨_, List.getElem?_eq_getElem (by omega)⟩
  have h1 : rl (B.take (i + 1)) = rl (B.take i) + (recB b).length := by
    rw [List.take_add_one, hb]
    simp [rl]
  have h2 := recB_len (hB b (List.mem_of_getElem? hb))
  have h3 : rl (B.take (i + 1)) ≤ rl (B.take k) := by
    have e : B.take (i + 1) = (B.take k).take (i + 1) := by rw [List.take_take, Nat.min_eq_left (by omega)]
    rw [e]
    exact rl_take_le _ _
  omega

theorem lft_zero (n sy : Nat) : lft n sy 0 = sy := by simp [lft, pk]

/-- With no byte kept just what is synced is left. -/
theorem Left.zero {x : St} (ok : StOk x) {j : Nat} (h : Left x 0 j) : j = x.sy := by
  have h1 := h.sure ok.lv.bsy
  have h2 := h.fits
  rw [lft_zero] at h2
  by_cases hlt : x.sy < j
  · have := rl_lt ok.lv.bok hlt h.le
    omega
  · omega

end Go.Proofs.Ytakipjofboipmaa

/- The walks of this proof: a shop whose store crashes. -/
namespace Go.Proofs.Ytakipjofboipmaa
open Go.RowKit Go.Sort

theorem one_three (w : World) (a b c : Value) (e : TypeId) : (w.alloc (.cells #[a, b, c] e)).ownsRow w.heap.size e 3 (.slice (some ⟨w.heap.size, 0, none⟩) 1 1) 1 [a, b, c] :=
  ⟨by simp, .inr ⟨w.heap.size, 1, #[a, b, c], rfl, Nat.le_refl _, heap_alloc_new w _, Nat.le_refl _, by unfold maxLen; omega, by simp, by simp⟩⟩

end Go.Proofs.Ytakipjofboipmaa

/- The walks of this proof: a store that was loaded, by its records alone; a store beside another. -/
namespace Go.Proofs.Ytakipjofboipmaa
open Go.RowKit Go.Sort

theorem settles_one {p : Pr} {M : List Pr} (h : Settles [p] M) : M = [p] := by
  have hk : keep [p] = [p] := by simp [keep]
  have h1 := h.1
  rw [hk] at h1
  obtain ⟨hl, hm⟩ := h1
  match M, hl with
  | [q], _ =>
    have := (hm q).1 List.mem_cons_self
    rw [List.mem_singleton] at this
    rw [this]

/-- Whole records are read. -/
theorem reads_whole {B : List (List Pr)} (h : ∀ b ∈ B, Bt b) : Reads (B.flatMap recB) B :=
  ⟨h, List.prefix_refl _, fun N hN hp => by
    rw [List.drop_length] at hp
    have h1 := hp.length_le
    have := recB_len hN
    simp only [List.length_nil] at h1
    omega⟩
end Go.Proofs.Ytakipjofboipmaa

/- Plain mathematics of this proof: a journal that was cut short, or one byte of which was turned. -/
namespace Go.Proofs.Ytakipjofboipmaa
open Go.Sort

theorem reads_mk {As Bs : List (List Pr)} (hA : ∀ b ∈ As, Bt b) {r : List UInt8} (h : Reads r Bs) : Reads (As.flatMap recB ++ r) (As ++ Bs) := by
  refine ⟨fun b hb => (List.mem_append.1 hb).elim (hA b) (h.all b), ?_, ?_⟩
  · rw [List.flatMap_append, List.prefix_append_right_inj]
    exact h.pre
  · rw [List.flatMap_append, List.length_append, ← List.drop_drop, List.drop_left]
    exact h.non

end Go.Proofs.Ytakipjofboipmaa

/- The walks of this proof: Read. -/
namespace Go.Proofs.Ytakipjofboipmaa
open Go.RowKit Go.Sort

theorem OwnsIn.narrow {w : World} {D : Nat → Prop} {e : TypeId} {size : Nat} {v : Value} {n : Nat} {xs : List Value} (h : OwnsIn w D e size v n xs) (P : Nat → Prop) (hP : ∀ k, k < w.heap.size → P k) : OwnsIn w (fun k => D k ∧ P k) e size v n xs :=
  ⟨h.1, fun g hg => ⟨h.2 g hg, hP g (h.1.lt g hg).2⟩⟩

/-- A store whose memory is told more narrowly. -/
theorem StoreAt.narrow {D F : Nat → Prop} {sb : Nat} {x : St} {w : World} (h : StoreAt D F sb x w) (P : Nat → Prop) (hP : ∀ k, k < w.heap.size → P k) : StoreAt (fun k => D k ∧ P k) F sb x w := by
  obtain ⟨vE, vL, vR, vS, hB, hs, hE, ⟨Vs, hl, ho, hr⟩, hR, hS⟩ := h
  exact ⟨vE, vL, vR, vS, ⟨hB, hP sb (lt_of_block hs)⟩, hs, hE.narrow P hP, ⟨Vs, hl, ho.narrow P hP, hr⟩, ⟨hR.1, fun g hg => ⟨hR.2 g hg, hP g (hR.1.lt hg)⟩⟩, hS.narrow P hP⟩

theorem OwnsIn.asideN {w w' : World} {D D' : Nat → Prop} {ts : List Nat} {e : TypeId} {size : Nat} {v : Value} {n : Nat} {xs : List Value} (h : OwnsIn w D e size v n xs) (k : Kd D' ts w w') (hn : ∀ b, D b → b < w.heap.size → ¬ D' b) : OwnsIn w' D e size v n xs :=
  ⟨k.ownsN h.1 fun g hg => hn g (h.2 g hg) (h.1.lt g hg).2, h.2⟩

/-- A store beside one that is written. -/
theorem StoreAt.asideN {D F D' : Nat → Prop} {ts : List Nat} {sb : Nat} {x : St} {w w' : World} (h : StoreAt D F sb x w) (k : Kd D' ts w w') (hD : ∀ b, D b → b < w.heap.size → ¬ D' b) (hF : ∀ b, F b → b < w.heap.size → ¬ D' b) : StoreAt D F sb x w' := by
  obtain ⟨vE, vL, vR, vS, hB, hs, hE, ⟨Vs, hl, ho, hr⟩, hR, hS⟩ := h
  exact ⟨vE, vL, vR, vS, hB, k.keepN hs (hD sb hB (lt_of_block hs)), hE.asideN k hD, ⟨Vs, hl, ho.asideN k hD, fun i t v a b => (hr i t v a b).asideN k hF⟩, k.ownsJN hR hD, hS.asideN k hD⟩

/-- One store is written; another, that lies from N2 on and was made behind the first, stays as it is. -/
theorem write_two (x y : St) (N N2 sb sb2 : Nat) (Lp : List Pr) (v : Value) (base : Nat) (w0 w : World) (hx : SIn N sb x w0) (hb : Below w0.heap.size w0 w) (hy : SIn N2 sb2 y w) (hN2 : w0.heap.size ≤ N2) (ok : StOk x) (hL : w.ownsRow base 30 3 v Lp.length (pcells Lp)) (h1 : 1 ≤ Lp.length) (h4 : Lp.length ≤ 4) (okL : ∀ p ∈ Lp, PrOk p)
    (hl1 : x.last < 1000000000) (hfew : x.E.length + 4 < 1000000000) :
    Calls Try.prog 6 #[.pointer (some ⟨sb, 0, none⟩), v, .bool false] w fun e w' => e = .returned (.tuple #[.int .i64 (x.last + 1), .int .i64 0]) ∧ SIn N2 sb2 y w' ∧ Kp N [50, 5, 73] w w' := by
  obtain ⟨D, F, g1, g2, g3, g4, hst⟩ := hx
  obtain ⟨D2, F2, f1, f2, f3, f4, hst2⟩ := hy
  have hst' := (hst.narrow (fun k => k < w0.heap.size ∨ w.heap.size ≤ k) (fun k hk => .inl hk)).below hb
  have op : Opn (fun k => D k ∧ (k < w0.heap.size ∨ w.heap.size ≤ k)) w := fun k hk => ⟨g4 k (Nat.le_trans hb.size hk), .inr hk⟩
  refine (writeCall_any _ F sb x Lp v base false w hst' op (fun b hb hd => g3 b hb hd.1) ok hL h1 h4 okL hl1 hfew).mono ?_
  rintro e w' ⟨rfl, M, _, _, hk⟩
  have no : ∀ b, N2 ≤ b → b < w.heap.size → ¬ (D b ∧ (b < w0.heap.size ∨ w.heap.size ≤ b)) := fun b h1 h2 h3 => by
    rcases h3.2 with h | h <;> omega
  exact ⟨rfl, ⟨D2, F2, f1, f2, f3, f4.later hk.size, hst2.asideN hk (fun b h1 h2 => no b (f1 b h1) h2) (fun b h1 h2 => no b (f2 b h1) h2)⟩, hk.kp fun k hk => g1 k hk.1⟩
end Go.Proofs.Ytakipjofboipmaa

/- The walks of this proof: Read. -/
namespace Go.Proofs.Ytakipjofboipmaa
open Go.RowKit Go.Sort

/-- The pair a is 1. -/
def pA : Pr := ⟨⟨#[97]⟩, ⟨#[49]⟩, false⟩
theorem okA : ∀ p ∈ [pA], PrOk p := fun p hp => by
  rw [List.mem_singleton] at hp
  subst hp
  exact ⟨by decide, by decide, by decide, fun h => by cases h⟩

theorem bs_append (a b : List UInt8) : bs a ++ bs b = bs (a ++ b) := by
  apply ByteArray.ext
  simp [bs]

theorem reads_none {r : List UInt8} {Bs : List (List Pr)} (h : Reads r Bs) (hn : NoRec r) : Bs = [] := by
  cases Bs with
  | nil => rfl
  | cons c Bs =>
    have h1 := h.pre
    rw [List.flatMap_cons] at h1
    exact absurd ((List.prefix_append _ _).trans h1) (hn c (h.all c List.mem_cons_self))

theorem st_small {Bs : List (List Pr)} (hB : ∀ b ∈ Bs, Bt b) : (stN.rs Bs).last = Bs.length ∧ (stN.rs Bs).E.length ≤ 4 * Bs.length := by
  constructor
  · show (0 : Int) + Bs.length = _
    omega
  · show (srt ([].filter _ ++ entsFrom 1 Bs)).length ≤ _
    rw [srt_len]
    have := ents_len hB 1
    simpa using this

set_option maxHeartbeats 4000000 in
set_option maxRecDepth 100000 in
theorem readLaw_any (t : List UInt8) (w : World) (ht : t.length ≤ 1100000) :
    Calls Try.prog 3 #[.string (bs t)] w fun e w' => e = .returned (.bool true) ∧ Below w.heap.size w w' := by
  have hbs : (bs t).size = t.length := bs_size t
  have HL1 : Hid _ := load_sin t w (by omega)
  go_enter Try.func3, Try.ntmps3
  go_wp2_with fail
  refine Calls.mono HL1.out ?_
  rintro e w1 ⟨sb, Bs, hrd, rfl, hs1, hok1, hb1⟩
  have hpre := hrd.pre
  have hall := hrd.all
  have hm : rl Bs ≤ t.length := hpre.length_le
  have hB8 : 8 * Bs.length ≤ rl Bs := by
    have h1 := flat_bounds recB 8 73 Bs fun b hb => recB_len (hall b hb)
    have h2 : (Bs.flatMap recB).length = rl Bs := rfl
    omega
  have htk : t.take (rl Bs) = Bs.flatMap recB := by
    obtain ⟨r, hr⟩ := hpre
    have e1 : rl Bs = (Bs.flatMap recB).length := rfl
    rw [e1, ← hr]
    exact List.take_left
  have HNR : Hid (NoRec (t.drop (rl Bs))) := hrd.non
  have HALL : Hid (∀ b ∈ Bs, Bt b) := hall
  obtain ⟨hla, hEl⟩ := st_small hall
  have HS1 : Hid (SIn w.heap.size sb (stN.rs Bs) w1 ∧ StOk (stN.rs Bs) ∧ (stN.rs Bs).last = Bs.length ∧ (stN.rs Bs).E.length ≤ 4 * Bs.length ∧ Below w.heap.size w w1) := ⟨hs1, hok1, hla, hEl, hb1⟩
  obtain ⟨m, hmm⟩ : ∃ m, rl Bs = m := ⟨_, rfl⟩
  have HMM : Hid (rl Bs = m) := hmm
  obtain ⟨JS, hJS⟩ : ∃ JS, Bs.flatMap recB = JS := ⟨_, rfl⟩
  have HJS : Hid (Bs.flatMap recB = JS) := hJS
  rw [hmm, hJS] at htk
  rw [hmm] at hm hB8 HNR ⊢
  have hJl : JS.length = m := by rw [← htk, List.length_take]; omega
  have hzJ : (bs JS).size = m := by rw [bs_size]; exact hJl
  have hex : (bs t).extract 0 m = bs JS := by rw [bs_extract, List.drop_zero, htk]
  have hex2 : (bs t).extract m t.length = bs (t.drop m) := by rw [bs_extract, List.take_of_length_le (Nat.le_refl _)]
  -- the calls that follow
  have HJO : Hid (Calls Try.prog 5 #[.pointer (some ⟨sb, 0, none⟩)] w1 fun e w' => e = .returned (.string (bs JS)) ∧ w' = w1) := by
    have := journal_sin (stN.rs Bs) w.heap.size sb w1 hs1
    rwa [show (stN.rs Bs).J = JS from hJS] at this
  have HLR : Hid (∀ W : World, Calls Try.prog 4 #[.string (bs JS)] W fun e w' => ∃ sbr, e = .returned (.tuple #[.pointer (some ⟨sbr, 0, none⟩), .int .i64 (m : Nat), .int .i64 0]) ∧ Below W.heap.size W w') := fun W => by
    refine (load_sin JS W (by omega)).mono ?_
    rintro e w' ⟨sbr, Cs, h1, rfl, _, _, h4⟩
    rw [← HJS.out] at h1
    obtain rfl := h1.unique (reads_whole HALL.out)
    exact ⟨sbr, by rw [HMM.out, if_neg (by omega)], h4⟩
  have HLT : Hid (∀ W : World, Calls Try.prog 4 #[.string (bs (t.drop m))] W fun e w' => ∃ sbt, e = .returned (.tuple #[.pointer (some ⟨sbt, 0, none⟩), .int .i64 0, .int .i64 (if m < t.length then 10 else 0)]) ∧ Below W.heap.size W w') := fun W => by
    refine (load_sin (t.drop m) W (by rw [List.length_drop]; omega)).mono ?_
    rintro e w' ⟨sbt, Cs, h1, rfl, _, _, h4⟩
    obtain rfl := reads_none h1 HNR.out
    refine ⟨sbt, ?_, h4⟩
    have e0 : rl [] = 0 := rfl
    rw [e0, List.length_drop]
    by_cases hlt : m < t.length
    · rw [if_pos hlt, if_pos (by omega)]; rfl
    · rw [if_neg hlt, if_neg (by omega)]; rfl
  have HLU : Hid (∀ W : World, Calls Try.prog 4 #[.string (bs JS ++ bs JS)] W fun e w' => ∃ sbu, e = .returned (.tuple #[.pointer (some ⟨sbu, 0, none⟩), .int .i64 (2 * m : Int), .int .i64 0]) ∧ SIn W.heap.size sbu (stN.rs (Bs ++ Bs)) w' ∧ StOk (stN.rs (Bs ++ Bs)) ∧ Below W.heap.size W w') := fun W => by
    rw [bs_append]
    refine (load_sin (JS ++ JS) W (by rw [List.length_append]; omega)).mono ?_
    rintro e w' ⟨sbu, Cs, h1, rfl, h2, h3, h4⟩
    rw [← HJS.out] at h1
    have hw := reads_mk HALL.out (reads_whole HALL.out)
    obtain rfl := h1.unique hw
    refine ⟨sbu, ?_, h2, h3, h4⟩
    have e0 : rl (Bs ++ Bs) = 2 * m := by rw [← HMM.out]; simp [rl]; omega
    rw [e0, if_neg (by rw [List.length_append]; omega)]
    push_cast
    rfl
  clear hrd hpre hall hla hEl hs1 hok1 hb1 hmm hJS htk HL1 HNR
  have hcase : (m < t.length ∧ (if m < t.length then (10 : Int) else 0) = 10) ∨ (m = t.length ∧ (if m < t.length then (10 : Int) else 0) = 0) := by
    by_cases hlt : m < t.length
    · exact .inl ⟨hlt, if_pos hlt⟩
    · exact .inr ⟨by omega, if_neg hlt⟩
  obtain ⟨fz, bz, hfz, hcase⟩ : ∃ (fz : Int) (bz : Bool), (if m < t.length then (10 : Int) else 0) = fz ∧ ((fz = 10 ∧ bz = false ∧ m ≠ t.length) ∨ (fz = 0 ∧ bz = true ∧ m = t.length)) := by
    rcases hcase with ⟨hc, hif⟩ | ⟨hc, hif⟩
    · exact ⟨10, false, hif, .inl ⟨rfl, rfl, by omega⟩⟩
    · exact ⟨0, true, hif, .inr ⟨rfl, rfl, hc⟩⟩
  rw [hfz] at HLT ⊢
  clear hfz
  have hn0 : decide ((m : Int) < 0) = false := decide_eq_false (by omega)
  have hn1 : decide ((t.length : Int) < (m : Int)) = false := decide_eq_false (by omega)
  have hq1 : (m == t.length) = bz := by
    rcases hcase with ⟨_, rfl, h⟩ | ⟨_, rfl, h⟩
    · exact beq_eq_false_iff_ne.2 h
    · rw [h]; exact beq_self_eq_true _
  have hq2 : ((m : Int) == (t.length : Int)) = bz := by
    rcases hcase with ⟨_, rfl, h⟩ | ⟨_, rfl, h⟩
    · exact beq_eq_false_iff_ne.2 (by omega)
    · rw [h]; exact beq_self_eq_true _
  have HBZ : Hid ((fz = 10 ∧ bz = false) ∨ (fz = 0 ∧ bz = true)) := hcase.imp (fun h => ⟨h.1, h.2.1⟩) (fun h => ⟨h.1, h.2.1⟩)
  clear hcase
  rcases HBZ.out with ⟨rfl, rfl⟩ | ⟨rfl, rfl⟩
  all_goals
    clear HBZ
    go_wp2_with fail
    refine Calls.mono HJO.out ?_
    rintro e w1' ⟨rfl, rfl⟩
    go_wp2_with fail
    refine Calls.mono (HLR.out _) ?_
    rintro e w2 ⟨sbr, rfl, hb2⟩
    have HB2 : Hid (Below w1'.heap.size w1' w2) := hb2
    clear hb2
    go_wp2_with fail
    refine Calls.mono (HLT.out _) ?_
    rintro e w3 ⟨sbt, rfl, hb3⟩
    have HB3 : Hid (Below w1'.heap.size w1' w3) := below_trans' HB2.out hb3
    clear hb3 HB2
    go_wp2_with fail
    refine Calls.mono (HLU.out _) ?_
    rintro e w4 ⟨sbu, rfl, hu4, hoku, hb4⟩
    have hBs : Bs.length ≤ 150000 := by omega
    obtain ⟨hlaU, hElU⟩ := st_small (Bs := Bs ++ Bs) (fun b hb => (List.mem_append.1 hb).elim (HALL.out b) (HALL.out b))
    have hb4W : Below w4.heap.size w4 (w4.alloc (.cells #[.string ⟨#[97]⟩, .string ⟨#[49]⟩, .bool false] 30)) := (Below.refl _ _).alloc (Nat.le_refl _) _
    have HW1 : Hid (Calls Try.prog 6 #[.pointer (some ⟨sb, 0, none⟩), .slice (some ⟨w4.heap.size, 0, none⟩) 1 1, .bool false] (w4.alloc (.cells #[.string ⟨#[97]⟩, .string ⟨#[49]⟩, .bool false] 30)) fun e w' => e = .returned (.tuple #[.int .i64 ((Bs.length : Int) + 1), .int .i64 0]) ∧ SIn w3.heap.size sbu (stN.rs (Bs ++ Bs)) w' ∧ Kp w.heap.size [50, 5, 73] (w4.alloc (.cells #[.string ⟨#[97]⟩, .string ⟨#[49]⟩, .bool false] 30)) w') := by
      have h := write_two (stN.rs Bs) (stN.rs (Bs ++ Bs)) w.heap.size w3.heap.size sb sbu [pA] _ w4.heap.size w3 _ (HS1.out.1.below HB3.out) (below_trans' hb4 hb4W) (hu4.below hb4W) (Nat.le_refl _) HS1.out.2.1 (by exact ⟨(one_three w4 _ _ _ 30).1, (one_three w4 _ _ _ 30).2⟩) (by decide) (by decide) okA (by rw [HS1.out.2.2.1]; omega) (by have := HS1.out.2.2.2.1; omega)
      rwa [HS1.out.2.2.1] at h
    have HW2 : Hid (∀ W : World, SIn w3.heap.size sbu (stN.rs (Bs ++ Bs)) W → Calls Try.prog 6 #[.pointer (some ⟨sbu, 0, none⟩), .slice (some ⟨W.heap.size, 0, none⟩) 1 1, .bool false] (W.alloc (.cells #[.string ⟨#[97]⟩, .string ⟨#[49]⟩, .bool false] 30)) fun e w' => e = .returned (.tuple #[.int .i64 (2 * (Bs.length : Int) + 1), .int .i64 0]) ∧ Kp w3.heap.size [50, 5, 73] (W.alloc (.cells #[.string ⟨#[97]⟩, .string ⟨#[49]⟩, .bool false] 30)) w') := fun W hW => by
      have hbW : Below W.heap.size W (W.alloc (.cells #[.string ⟨#[97]⟩, .string ⟨#[49]⟩, .bool false] 30)) := (Below.refl _ _).alloc (Nat.le_refl _) _
      have hl2 : ((Bs ++ Bs).length : Int) = 2 * Bs.length := by rw [List.length_append]; push_cast; omega
      have hl3 : (Bs ++ Bs).length ≤ 300000 := by rw [List.length_append]; omega
      refine (write_sin w3.heap.size sbu (stN.rs (Bs ++ Bs)) [pA] _ W.heap.size false _ (hW.below hbW) hoku (by exact ⟨(one_three W _ _ _ 30).1, (one_three W _ _ _ 30).2⟩) (by decide) (by decide) okA (by rw [hlaU]; omega) (by omega)).mono ?_
      rintro e w' ⟨rfl, M, _, _, _, h7⟩
      exact ⟨by rw [hlaU, hl2], h7⟩
    have HB4 : Hid (Below w1'.heap.size w1' w4 ∧ w3.heap.size ≤ w4.heap.size) := ⟨below_trans' HB3.out hb4, hb4.size⟩
    have hw3 : w.heap.size ≤ w3.heap.size := Nat.le_trans HS1.out.2.2.2.2.size HB3.out.size
    clear hu4 hoku hb4 hb4W hlaU hElU
    go_wp2_with fail
    refine Calls.mono HW1.out ?_
    rintro e w5 ⟨rfl, hu5, k5⟩
    have HW2' := HW2.out w5 hu5
    have HW3 : Hid _ := HW2'
    have HB5 : Hid (Below w.heap.size w w5 ∧ w3.heap.size ≤ w5.heap.size) := by
      have h1 : Below w.heap.size w w4 := HS1.out.2.2.2.2.trans (HB4.out.1.mono HS1.out.2.2.2.2.size)
      have h2 := h1.alloc h1.size (.cells #[.string ⟨#[97]⟩, .string ⟨#[49]⟩, .bool false] 30)
      exact ⟨h2.trans (k5.belowB h2.size), Nat.le_trans HB4.out.2 (Nat.le_trans (by simp) k5.size)⟩
    clear hu5 k5 HW2' HW2 HW1
    go_wp2_with fail
    refine Calls.mono HW3.out ?_
    rintro e w6 ⟨rfl, k6⟩
    have HB6 : Hid (Below w.heap.size w w6) := by
      have h2 := HB5.out.1.alloc HB5.out.1.size (.cells #[.string ⟨#[97]⟩, .string ⟨#[49]⟩, .bool false] 30)
      exact h2.trans ((k6.belowB (Nat.le_trans HB5.out.2 (by simp))).mono hw3)
    clear k6 HW3 HB5 HB4
    go_wp2
    go_ret
    exact ⟨rfl, HB6.out⟩
end Go.Proofs.Ytakipjofboipmaa
