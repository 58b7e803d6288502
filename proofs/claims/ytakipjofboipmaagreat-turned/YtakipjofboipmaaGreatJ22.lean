/- The walks of this proof: a store begun anew out of a journal's bytes. -/
import Derived.Test.YtakipjofboipmaaGreatJ18
import Derived.Test.YtakipjofboipmaaGreatJ20
import Derived.Test.YtakipjofboipmaaGreatJ21
import Derived.Test.YtakipjofboipmaaGreatJ12
import Derived.Test.YtakipjofboipmaaGreatJ13
import Derived.Test.YtakipjofboipmaaGreatJ14
namespace Go.Proofs.YtakipjofboipmaaGreat
open Go.RowKit Go.Sort

/-- What restoring comes to. -/
def RstPost (D F : Nat → Prop) (sb : Nat) (x : St) (t : List UInt8) (w : World) (e : Ending) (w' : World) : Prop :=
  ∃ Bs : List (List Pr), Reads t Bs ∧ e = .returned (.int .i64 (rl Bs : Nat)) ∧ StoreAt D F sb (x.rs Bs) w' ∧ Kd D [118] w w'

theorem en_of_owns {w : World} {base cap : Nat} {ao : Option Addr} {E : List En} (h : w.ownsRow base 58 4 (.slice ao E.length cap) E.length (ecells E)) : E.length ≤ cap ∧ (0 < E.length → ∃ g, ao = some ⟨g, 0, none⟩ ∧ g < w.heap.size ∧ EnAt w g E) := by
  have h2 := h.2
  rcases enrow_of_owns h with ⟨rfl, h'⟩ | ⟨g, c, hv, hc, hE⟩
  · exact ⟨Nat.zero_le _, fun h => absurd h (by simp)⟩
  · simp only [Value.slice.injEq] at hv
    obtain ⟨rfl, _, rfl⟩ := hv
    refine ⟨hc, fun _ => ⟨g, rfl, ?_, hE⟩⟩
    rcases h2 with ⟨h', _⟩ | ⟨g', cap', cur, hv', _, hg, _⟩
    · cases h'
    · simp only [Value.slice.injEq, Option.some.injEq, Addr.mk.injEq, and_true] at hv'
      rw [hv'.1]
      exact lt_of_block hg

theorem addr_add (g i : Nat) : (⟨g, 0, none⟩ : Addr).add i = ⟨g, i, none⟩ := by unfold Addr.add; split <;> simp_all

theorem ents_take {Bs : List (List Pr)} {i : Nat} {b : List Pr} (hb : Bs[i]? = some b) (s : Int) : entsFrom s (Bs.take (i + 1)) = entsFrom s (Bs.take i) ++ b.map (toEn (s + i)) := by
  have hi := (List.getElem?_eq_some_iff.1 hb).1
  rw [List.take_add_one, hb, Option.toList_some, ents_snoc, List.length_take, Nat.min_eq_left (by omega)]

set_option maxHeartbeats 4000000 in
set_option maxRecDepth 100000 in
theorem restore_any (D F : Nat → Prop) (sb : Nat) (x : St) (t : List UInt8) (w : World) (hx : StoreAt D F sb x w) (hD : Opn D w) (ht : t.length < 100000000) (h0 : 0 ≤ x.la) (hla : x.la < 1000000000) :
    Calls Tryz.prog 61 #[.pointer (some ⟨sb, 0, none⟩), .string (bs t)] w fun e w' => RstPost D F sb x t w e w' := by
  obtain ⟨i0, hi, hz0, hz1, hz2⟩ := info_parts Tryz.info58
  obtain ⟨vE, vL, vR, vS, hB, hs, hE, hT, hR, hS⟩ := hx
  have hlt := lt_of_block hs
  have HRA : Hid _ := readAll_any t w (by omega)
  have HDO : Hid (Opn D w) := hD
  have HST : Hid (w.heap[sb]? = some (.cells #[vE, vL, vR, .int .i64 (rl (x.B.take x.sy)), .int .i64 x.la, vS, .int .i64 x.lastSnap, .int .i64 x.last] 118 (0, 0))) := hs
  have HROW : Hid (TabsIn w D F vL x.T ∧ OwnsIn w D 174 2 vS x.S.length (scells x.S)) := ⟨hT, hS⟩
  clear hs hE hT hR hS hD
  go_enter Tryz.func61, Tryz.ntmps61
  go_wp2_with fail
  refine Calls.mono HRA.out ?_
  rintro e w1 ⟨Bs, vA, hrd, rfl, hall, hb1⟩
  obtain ⟨aoA, cA, rfl⟩ : ∃ ao c, vA = .slice ao Bs.length c := by obtain ⟨Ws, ho, _⟩ := hall; exact slice_form ho
  have hBt := hrd.all
  have hpre := hrd.pre
  have hBl : 8 * Bs.length ≤ rl Bs ∧ rl Bs ≤ t.length := by
    have h1 := flat_bounds recB 8 73 Bs fun b hb => recB_len (hBt b hb)
    have h2 : (Bs.flatMap recB).length = rl Bs := rfl
    have h3 := hpre.length_le
    omega
  obtain ⟨hB8, hrt⟩ := hBl
  have HRD : Hid (Reads t Bs) := hrd
  have HBT : Hid (∀ b ∈ Bs, Bt b) := hBt
  have INV0 : Hid (w1.ownsRow w.heap.size 58 4 (.slice none 0 0) (entsFrom (x.la + 1) (Bs.take 0)).length (ecells (entsFrom (x.la + 1) (Bs.take 0))) ∧ AllAt w.heap.size w1 (.slice aoA Bs.length cA) Bs ∧ Below w.heap.size w w1) := ⟨World.ownsRow_nil _ _ _ _, hall, hb1⟩
  clear hall hb1 HRA hrd hBt hpre
  generalize hrb : rl Bs = rb at hB8 hrt
  have HRB : Hid (rl Bs = rb) := hrb
  clear hrb
  generalize hlai : x.la = la at h0 hla INV0
  have HLA : Hid (x.la = la) := hlai
  clear hlai
  go_wp2
  go_loopw [7, 17] (fun s7 s17 wr => ∃ i : Nat, i ≤ Bs.length ∧ s17 = .int .i64 i ∧ Hid (wr.ownsRow w.heap.size 58 4 s7 (entsFrom (la + 1) (Bs.take i)).length (ecells (entsFrom (la + 1) (Bs.take i))) ∧ AllAt w.heap.size wr (.slice aoA Bs.length cA) Bs ∧ Below w.heap.size w wr)) (fun _ s17 _ => Bs.length - (intOf s17).toNat)
  case atStart => exact ⟨0, Nat.zero_le _, rfl, INV0.out⟩
  case round =>
    clear INV0
    obtain ⟨i, hi5, rfl, HI⟩ := hrel
    obtain ⟨aoE, cE, rfl⟩ := slice_form HI.out.1
    by_cases hlt5 : i < Bs.length
    · obtain ⟨b, hbi⟩ : ∃ b, Bs[i]? = some b := ⟨_, List.getElem?_eq_getElem hlt5⟩
      obtain ⟨Ws, hWo, hWr⟩ := HI.out.2.1
      obtain ⟨vi, hWi, hoi⟩ := hWr i b hbi
      obtain ⟨gA, cA', hvA, _, hgA⟩ := hWo.form (by omega)
      simp only [Value.slice.injEq] at hvA
      obtain ⟨rfl, _, rfl⟩ := hvA
      have cW : wr.cell? ⟨gA, i, none⟩ = some vi := by rw [← addr_add gA i]; exact hWo.cells (g := gA) rfl i vi hWi
      have bt := HBT.out b (List.mem_of_getElem? hbi)
      have hb1 := bt.lo
      have hb4 := bt.hi
      have hcl : wr.cell? ⟨sb, 4, none⟩ = some (.int .i64 la) := (HI.out.2.2.cell (p := ⟨sb, 4, none⟩) hlt).trans (by rw [← HLA.out]; simp [World.cell?, HST.out])
      have HEN : Hid (Calls Tryz.prog 88 #[vi, .int .i64 (la + 1 + i)] wr fun e w' => EntPost b (la + 1 + i) wr e w') := entries_any b vi w.heap.size (la + 1 + i) wr hoi hb4
      obtain ⟨aoi, ci, rfl⟩ := slice_form hoi
      have hEl : (entsFrom (la + 1) (Bs.take i)).length ≤ 4 * i := by
        have := ents_len (Bs := Bs.take i) (fun b hb => HBT.out b (List.mem_of_mem_take hb)) (la + 1)
        rwa [List.length_take, Nat.min_eq_left (by omega)] at this
      have HTK : Hid (entsFrom (la + 1) (Bs.take (i + 1)) = entsFrom (la + 1) (Bs.take i) ++ b.map (toEn (la + 1 + i))) := ents_take hbi (la + 1)
      have hwz := HI.out.2.2.size
      clear hWo hWr hWi hoi bt hbi
      go_wp2_with fail
      refine Calls.mono HEN.out ?_
      rintro e w2 ⟨v2, rfl, ho2, hb2⟩
      rw [List.length_map] at ho2
      obtain ⟨g2, c2, rfl, _, hg2⟩ := ho2.form (by omega)
      have HB2 : Hid (Below wr.heap.size wr w2) := hb2
      have HO2 : Hid (w2.ownsRow wr.heap.size 58 4 (.slice (some ⟨g2, 0, none⟩) b.length c2) b.length (ecells (b.map (toEn (la + 1 + i))))) := ho2
      have HE2 : Hid (w2.ownsRow w.heap.size 58 4 (.slice aoE (entsFrom (la + 1) (Bs.take i)).length cE) (entsFrom (la + 1) (Bs.take i)).length (ecells (entsFrom (la + 1) (Bs.take i)))) := (Kp.of_below (B := 0) (ts := []) hb2).owns HI.out.1 (by simp)
      clear ho2 hb2 HEN
      generalize hEe : entsFrom (la + 1) (Bs.take i) = Ee at HE2 hEl HTK HI
      clear hEe
      go_wp2_with (at_builtin; refine wpList_append_own _ rfl (.tmp 22) (.tmp 32) 54 rfl w.heap.size 58 i0 _ 4 48 Tryz.underlying54 hi hz0 hz1 hz2 rfl (by decide) _ _ _ rfl (by exact HE2.out) ⟨g2, 0, none⟩ b.length c2 (ecells (b.map (toEn (la + 1 + i)))) rfl (by rw [ecells_len, List.length_map]) (by exact HO2.out.cells (g := g2) rfl) (by intro u hu; obtain ⟨y, _, hy⟩ := List.mem_flatMap.1 hu; exact entry_one y u hy) (by unfold maxLen; omega) (by omega) (by omega) ?_)
      intro v3 w3 ho3 hg3 _
      have k3 : Kp w.heap.size [58] wr w3 := Kp.grown (Kp.of_below HB2.out) HE2.out hg3 (Nat.le_refl _) (by simp)
      have HI3 : Hid (w3.ownsRow w.heap.size 58 4 v3 (entsFrom (la + 1) (Bs.take (i + 1))).length (ecells (entsFrom (la + 1) (Bs.take (i + 1)))) ∧ AllAt w.heap.size w3 (.slice (some ⟨gA, 0, none⟩) Bs.length cA) Bs ∧ Below w.heap.size w w3) := by
        refine ⟨?_, HI.out.2.1.kept k3 (by simp) (by simp), HI.out.2.2.trans (k3.belowB hwz)⟩
        rw [HTK.out, List.length_append, List.length_map, show ecells (Ee ++ b.map (toEn (la + 1 + i))) = ecells Ee ++ ecells (b.map (toEn (la + 1 + i))) by simp [ecells]]
        exact ho3
      obtain ⟨ao3, c3, rfl⟩ := slice_form ho3
      clear ho3 hg3 k3 HI HE2 HO2 HB2 HTK
      go_wp2
      go_roundw
      case rel => exact ⟨i + 1, hlt5, by go_num, HI3⟩
      case measure => simp [intOf]; omega
    · obtain rfl : i = Bs.length := by omega
      rw [List.take_length] at HI ⊢
      obtain ⟨hown, _, hbel⟩ := HI.out
      have hEd : DistE (entsFrom (la + 1) Bs) := ents_dist HBT.out _
      have hEl := ents_len HBT.out (la + 1)
      generalize hEe : entsFrom (la + 1) Bs = Ee at hown hEd hEl
      have HEE : Hid (entsFrom (la + 1) Bs = Ee) := hEe
      have hs1 : wr.heap[sb]? = some (.cells #[vE, vL, vR, .int .i64 (rl (x.B.take x.sy)), .int .i64 la, vS, .int .i64 x.lastSnap, .int .i64 x.last] 118 (0, 0)) := by rw [hbel.block sb hlt, ← HLA.out]; exact HST.out
      have c4 : wr.cell? ⟨sb, 4, none⟩ = some (.int .i64 la) := by simp [World.cell?, hs1]
      have c7 : wr.cell? ⟨sb, 7, none⟩ = some (.int .i64 x.last) := by simp [World.cell?, hs1]
      have f7 : wr.frozen? ⟨sb, 7, none⟩ = false := by simp [World.frozen?, hs1]
      have k1 : Kd D [118] w wr := Kd.of_below hbel
      have k4 := Kd.field hB hs1 7 (.int .i64 (la + Bs.length))
      have s4 := set_field hs1 7 (.int .i64 (la + Bs.length))
      simp only [List.setIfInBounds_toArray, List.set_cons_succ, List.set_cons_zero] at s4
      have o4 := k4.owns hown (by simp)
      generalize hw4 : wr.setCell ⟨sb, 7, none⟩ (.int .i64 (la + Bs.length)) = w4 at k4 s4 o4
      have HW4 : Hid _ := hw4
      obtain ⟨hcE, hEnt⟩ := en_of_owns o4
      have HNM : Hid _ := newMem_any Ee cE aoE w4 hEd hcE (by omega) hEnt
      have A4 : Hid (Kd D [118] w w4 ∧ w4.heap[sb]? = some (.cells #[vE, vL, vR, .int .i64 (rl (x.B.take x.sy)), .int .i64 la, vS, .int .i64 x.lastSnap, .int .i64 (la + Bs.length)] 118 (0, 0))) := ⟨k1.trans k4, s4⟩
      clear hown hbel hEd hEe hs1 k1 k4 s4 o4 hw4 hEnt HI
      go_wp2_with fail
      rw [HW4.out]
      refine Calls.mono HNM.out ?_
      rintro e w5 ⟨vM, rfl, ho5, hb5⟩
      obtain ⟨aoM, cM, rfl⟩ := slice_form ho5
      have k5 : Kd D [118] w4 w5 := Kd.of_below hb5
      have s5 : w5.heap[sb]? = some (.cells #[vE, vL, vR, .int .i64 (rl (x.B.take x.sy)), .int .i64 la, vS, .int .i64 x.lastSnap, .int .i64 (la + Bs.length)] 118 (0, 0)) := by rw [hb5.block sb (lt_of_block A4.out.2)]; exact A4.out.2
      have m5 : OwnsIn w5 D 58 4 (.slice aoM Ee.length cM) Ee.length (ecells (srt Ee)) := OwnsIn.fresh ho5 (HDO.out.later A4.out.1.size) (Nat.le_refl _)
      have c0 : w5.cell? ⟨sb, 0, none⟩ = some vE := by simp [World.cell?, s5]
      have f0 : w5.frozen? ⟨sb, 0, none⟩ = false := by simp [World.frozen?, s5]
      have k6 := Kd.field hB s5 0 (.slice aoM Ee.length cM)
      have s6 := set_field s5 0 (.slice aoM Ee.length cM)
      simp only [List.setIfInBounds_toArray, List.set_cons_zero] at s6
      have m6 := k6.ownsIn m5 (by simp)
      generalize hw6 : w5.setCell ⟨sb, 0, none⟩ (.slice aoM Ee.length cM) = w6 at k6 s6 m6
      have HW6 : Hid _ := hw6
      have A6 : Hid (Kd D [118] w w6 ∧ w6.heap[sb]? = some (.cells #[.slice aoM Ee.length cM, vL, vR, .int .i64 (rl (x.B.take x.sy)), .int .i64 la, vS, .int .i64 x.lastSnap, .int .i64 (la + Bs.length)] 118 (0, 0)) ∧ OwnsIn w6 D 58 4 (.slice aoM Ee.length cM) Ee.length (ecells (srt Ee))) := ⟨(A4.out.1.trans k5).trans k6, s6, m6⟩
      clear ho5 hb5 k5 s5 m5 k6 s6 m6 hw6 A4 HNM HW4
      have hbsz : (bs t).size = t.length := bs_size t
      go_wp2_with fail
      rw [HW6.out]
      refine wp_region_quiet_tail 6 (by kernel_rfl) (by kernel_rfl) ?_
      simp only [List.take_succ_cons, List.take_zero, List.drop_succ_cons, List.drop_zero]
      repeat (first | go_big_quiet_step (fail) | quiet_step (fail))
      refine wpQuiet_nil ?_
      intro w7 hw'
      have hb7 : Below w6.heap.size w6 w7 := below_of_regrown hw'
      have s7 : w7.heap[sb]? = some (.cells #[.slice aoM Ee.length cM, vL, vR, .int .i64 (rl (x.B.take x.sy)), .int .i64 la, vS, .int .i64 x.lastSnap, .int .i64 (la + Bs.length)] 118 (0, 0)) := by rw [hb7.block sb (lt_of_block A6.out.2.1)]; exact A6.out.2.1
      have k7 : Kd D [118] w w7 := A6.out.1.trans (Kd.of_below hb7)
      have m7 := (Kd.of_below (D := D) (ts := []) hb7).ownsIn A6.out.2.2 (by simp)
      have hex : (bs t).extract 0 rb = bs (t.take rb) := by rw [bs_extract, List.drop_zero]
      have HHO : Hid _ := hold_any D sb _ _ _ _ _ _ _ _ (t.take rb) w7 s7 hB (HDO.out.later k7.size) (by rw [List.length_take]; omega)
      have A7 : Hid (Kd D [118] w w7 ∧ OwnsIn w7 D 58 4 (.slice aoM Ee.length cM) Ee.length (ecells (srt Ee))) := ⟨k7, m7⟩
      clear hb7 s7 k7 m7 hw' A6 HW6
      go_wp2_with fail
      refine Calls.mono HHO.out ?_
      rintro e w8 ⟨rfl, vR8, s8, j8, k8⟩
      have FIN : Hid (RstPost D F sb x t w (.returned (.int .i64 (rb : Nat))) w8) := by
        have kk : Kd D [118] w w8 := A7.out.1.trans k8
        have hJ : t.take rb = Bs.flatMap recB := by
          obtain ⟨r, hr⟩ := HRD.out.pre
          have e1 : rb = (Bs.flatMap recB).length := HRB.out.symm
          rw [e1, ← hr]
          exact List.take_left
        have hlen : (t.take rb).length = rb := by rw [List.length_take]; omega
        refine ⟨Bs, HRD.out, by rw [HRB.out], ⟨.slice aoM Ee.length cM, vL, vR8, vS, hB, ?_, ?_, HROW.out.1.kd kk (by simp) (by simp), ?_, kk.ownsIn HROW.out.2 (by simp)⟩, kk⟩
        · show w8.heap[sb]? = some (.cells #[_, _, _, .int .i64 (rl (Bs.take Bs.length)), .int .i64 x.la, _, _, .int .i64 (x.la + Bs.length)] 118 (0, 0))
          rw [List.take_length, HRB.out, HLA.out, s8, hlen]
          rfl
        · show OwnsIn w8 D 58 4 _ (srt (entsFrom (x.la + 1) Bs)).length (ecells (srt (entsFrom (x.la + 1) Bs)))
          rw [HLA.out, HEE.out, srt_len]
          exact k8.ownsIn A7.out.2 (by simp)
        · show OwnsJ w8 D vR8 (Bs.flatMap recB)
          rw [← hJ]
          exact j8
      clear s8 j8 k8 HHO A7
      go_wp2
      go_ret
      exact FIN.out
end Go.Proofs.YtakipjofboipmaaGreat

/- The walks of this proof: Crash, Load, Journal. -/
namespace Go.Proofs.YtakipjofboipmaaGreat
open Go.RowKit Go.Sort

/-- A store behind a Crash that leaves j of its batches. -/
def St.cr (x : St) (j : Nat) : St := St.rs { x with S := [] } (x.B.take j)

/-- How many of its batches a Crash leaves. -/
structure Left (x : St) (keep : Int) (j : Nat) : Prop where
  le : j ≤ x.B.length
  fits : rl (x.B.take j) ≤ lft x.J.length (rl (x.B.take x.sy)) keep
  most : ∀ i, i ≤ x.B.length → rl (x.B.take i) ≤ lft x.J.length (rl (x.B.take x.sy)) keep → i ≤ j

theorem Left.sure {x : St} {keep : Int} {j : Nat} (h : Left x keep j) (hs : x.sy ≤ x.B.length) : x.sy ≤ j :=
  h.most x.sy hs (lft_le (rl_take_le x.B x.sy) keep).1

theorem StOk.cr {x : St} (ok : StOk x) (hl : x.last < 1000000000) (hf : x.E.length + 4 * x.B.length < 1000000000) {j : Nat} (hj : j ≤ x.B.length) : StOk (x.cr j) := by
  have la1 := ok.lv.la1
  have hlen : (x.B.take j).length = j := by rw [List.length_take]; omega
  refine (ok.snapsTo [] x.lastSnap (by simp) (by simp)).rs (fun b hb => ok.lv.bok b (List.mem_of_mem_take hb)) ?_ ?_
  · show x.la + ((x.B.take j).length : Int) < _
    omega
  · show x.E.length + 4 * (x.B.take j).length < _
    omega

set_option maxHeartbeats 400000 in
theorem dropAll_raw (sb : Nat) (a0 a1 a2 a3 a4 a5 a6 a7 : Value) (w : World) (hs : w.heap[sb]? = some (.cells #[a0, a1, a2, a3, a4, a5, a6, a7] 118 (0, 0))) :
    Calls Tryz.prog 62 #[.pointer (some ⟨sb, 5, none⟩)] w fun e w' => e = .returned (.tuple #[]) ∧ w' = w.setCell ⟨sb, 5, none⟩ (.slice none 0 0) := by
  have c1 : w.cell? ⟨sb, 5, none⟩ = some a5 := by simp [World.cell?, hs]
  have f2 : w.frozen? ⟨sb, 5, none⟩ = false := by simp [World.frozen?, hs]
  clear hs
  go_enter Tryz.func62, Tryz.ntmps62
  go_wp2
  go_end0
  exact ⟨rfl, rfl⟩

set_option maxHeartbeats 2000000 in
set_option maxRecDepth 100000 in
theorem crash_any (D F : Nat → Prop) (sb : Nat) (x : St) (keep : Int) (w : World) (hx : StoreAt D F sb x w) (hD : Opn D w) (ok : StOk x) (hl : x.last < 1000000000) (hj : x.J.length < 100000000) (k0 : -9223372036854775808 ≤ keep) (k1 : keep ≤ 9223372036854775807) :
    Calls Tryz.prog 26 #[.pointer (some ⟨sb, 0, none⟩), .int .i64 keep] w fun e w' => e = .returned (.tuple #[]) ∧ ∃ j, Left x keep j ∧ StoreAt D F sb (x.cr j) w' ∧ Kd D [118] w w' := by
  obtain ⟨vE, vL, vR, vS, hB, hs, hE, hT, hR, hS⟩ := hx
  have HDR : Hid _ := dropAll_raw sb _ _ _ _ _ _ _ _ w hs
  have kf := Kd.field hB hs 5 (.slice none 0 0)
  have s1 := set_field hs 5 (.slice none 0 0)
  simp only [List.setIfInBounds_toArray, List.set_cons_succ, List.set_cons_zero] at s1
  have r1 := kf.ownsJ hR (by simp)
  have st1 : StoreAt D F sb { x with S := [] } (w.setCell ⟨sb, 5, none⟩ (.slice none 0 0)) :=
    ⟨vE, vL, vR, .slice none 0 0, hB, s1, kf.ownsIn hE (by simp), hT.kd kf (by simp) (by simp), r1, ⟨World.ownsRow_nil _ _ _ _, fun g e => by simp [Value.ownBlock] at e⟩⟩
  generalize hw1 : w.setCell ⟨sb, 5, none⟩ (.slice none 0 0) = w1 at kf s1 r1 st1 HDR
  have hrs : rl (x.B.take x.sy) ≤ x.J.length := rl_take_le x.B x.sy
  have HOU : Hid _ := outlasting_any sb _ _ _ _ _ _ _ _ x.J keep w1 s1 r1.1 hrs hj k0 k1
  obtain ⟨j, hj1, hj2, hj3, hj4⟩ := reads_take ok.lv.bok (lft x.J.length (rl (x.B.take x.sy)) keep) (lft_le hrs keep).2
  have hm := (lft_le hrs keep).2
  have HLE : Hid (Left x keep j) := ⟨hj1, hj2, hj3⟩
  have HRE : Hid (Reads (x.J.take (lft x.J.length (rl (x.B.take x.sy)) keep)) (x.B.take j)) := hj4
  clear hj1 hj2 hj3 hj4
  generalize hmm : lft x.J.length (rl (x.B.take x.sy)) keep = m at HOU HRE hm
  have la0 := ok.lv.la0
  have la1 := ok.lv.la1
  have HRS : Hid (∀ w2, Below w1.heap.size w1 w2 → Calls Tryz.prog 61 #[.pointer (some ⟨sb, 0, none⟩), .string (bs (x.J.take m))] w2 fun e w' => RstPost D F sb { x with S := [] } (x.J.take m) w2 e w') := fun w2 hb =>
    restore_any D F sb { x with S := [] } (x.J.take m) w2 (st1.below hb) (hD.later (Nat.le_trans kf.size hb.size)) (by rw [List.length_take]; omega) la0 (by show x.la < _; omega)
  have HK : Hid (Kd D [118] w w1) := kf
  clear hs hE hT hR hS hD ok kf s1 r1 st1 hw1 hrs hmm
  go_enter Tryz.func26, Tryz.ntmps26
  go_wp2_with fail
  refine Calls.mono HDR.out ?_
  rintro e w1' ⟨rfl, rfl⟩
  go_wp2_with fail
  refine Calls.mono HOU.out ?_
  rintro e w2 ⟨rfl, hb2⟩
  have HB2 : Hid (Below w1'.heap.size w1' w2) := hb2
  clear hb2
  go_wp2_with fail
  refine Calls.mono (HRS.out _ HB2.out) ?_
  rintro e w3 ⟨Bs, hrd, rfl, hst, hk⟩
  have FIN : Hid (∃ j, Left x keep j ∧ StoreAt D F sb (x.cr j) w3 ∧ Kd D [118] w w3) := by
    obtain rfl := hrd.unique HRE.out
    exact ⟨j, HLE.out, hst, (HK.out.trans (Kd.of_below HB2.out)).trans hk⟩
  clear hrd hst hk
  go_wp2
  go_end0
  exact ⟨rfl, FIN.out⟩

theorem crash_sin (x : St) (N sb : Nat) (keep : Int) (w : World) (hx : SIn N sb x w) (ok : StOk x) (hl : x.last < 1000000000) (hj : x.J.length < 100000000) (k0 : -9223372036854775808 ≤ keep) (k1 : keep ≤ 9223372036854775807) :
    Calls Tryz.prog 26 #[.pointer (some ⟨sb, 0, none⟩), .int .i64 keep] w fun e w' => e = .returned (.tuple #[]) ∧ ∃ j, Left x keep j ∧ SIn N sb (x.cr j) w' ∧ Kp N [118] w w' := by
  obtain ⟨D, F, g1, g2, g3, g4, hst⟩ := hx
  refine (crash_any D F sb x keep w hst g4 ok hl hj k0 k1).mono ?_
  rintro e w' ⟨rfl, j, h1, h2, h3⟩
  exact ⟨rfl, j, h1, ⟨D, F, g1, g2, g3, g4.later h3.size, h2⟩, h3.kp g1⟩

/-- A store with nothing in it. -/
def stN : St := ⟨[], [], 0, [], [], 0, [], 0, 0⟩

set_option maxHeartbeats 2000000 in
theorem load_sin (t : List UInt8) (w : World) (ht : t.length < 100000000) :
    Calls Tryz.prog 25 #[.string (bs t)] w fun e w' => ∃ (sb : Nat) (Bs : List (List Pr)), Reads t Bs ∧ e = .returned (.tuple #[.pointer (some ⟨sb, 0, none⟩), .int .i64 (rl Bs : Nat), .int .i64 (if rl Bs < t.length then 10 else 0)]) ∧ SIn w.heap.size sb (stN.rs Bs) w' ∧ StOk (stN.rs Bs) ∧ Below w.heap.size w w' := by
  have hbs : (bs t).size = t.length := bs_size t
  go_enter Tryz.func25, Tryz.ntmps25
  go_wp2_with fail
  refine Calls.mono (new_sin _) ?_
  rintro e w1 ⟨sb, rfl, ⟨D, F, g1, g2, g3, g4, hst⟩, hb1⟩
  have HRS : Hid _ := restore_any D F sb stN t w1 hst g4 ht (Int.le_refl _) (by show (0 : Int) < _; omega)
  have HG : Hid ((∀ k, D k → w.heap.size ≤ k) ∧ (∀ k, F k → w.heap.size ≤ k) ∧ (∀ k, F k → ¬ D k) ∧ Opn D w1 ∧ Below w.heap.size w w1) := ⟨g1, g2, g3, g4, hb1⟩
  clear g1 g2 g3 g4 hst hb1
  go_wp2_with fail
  refine Calls.mono HRS.out ?_
  rintro e w2 ⟨Bs, hrd, rfl, hst, hk⟩
  have hle : rl Bs ≤ t.length := hrd.pre.length_le
  have hok : StOk (stN.rs Bs) := by
    have h1 := flat_bounds recB 8 73 Bs fun b hb => recB_len (hrd.all b hb)
    have h2 : (Bs.flatMap recB).length = rl Bs := rfl
    exact stOk0.rs hrd.all (by show (0 : Int) + Bs.length < _; omega) (by show 0 + 4 * Bs.length < _; omega)
  have FIN : Hid (Reads t Bs ∧ SIn w.heap.size sb (stN.rs Bs) w2 ∧ StOk (stN.rs Bs) ∧ Below w.heap.size w w2) :=
    ⟨hrd, ⟨D, F, HG.out.1, HG.out.2.1, HG.out.2.2.1, HG.out.2.2.2.1.later hk.size, hst⟩, hok, HG.out.2.2.2.2.trans (hk.belowN HG.out.2.2.2.2.size HG.out.1)⟩
  clear hrd hst hk hok HRS HG
  generalize hrb : rl Bs = rb at hle
  have HRB : Hid (rl Bs = rb) := hrb
  clear hrb
  by_cases hlt : rb < t.length
  · have hd : decide ((rb : Int) < (t.length : Int)) = true := decide_eq_true (by omega)
    go_wp2
    refine bodyPost_ret (v := .tuple #[.pointer (some ⟨sb, 0, none⟩), .int .i64 (rb : Nat), .int .i64 10]) (by simp [results, Tryz.results25, go_sem]) rfl ?_
    exact ⟨sb, Bs, FIN.out.1, by rw [HRB.out, if_pos hlt], FIN.out.2⟩
  · have hd : decide ((rb : Int) < (t.length : Int)) = false := decide_eq_false (by omega)
    go_wp2
    refine bodyPost_ret (v := .tuple #[.pointer (some ⟨sb, 0, none⟩), .int .i64 (rb : Nat), .int .i64 0]) (by simp [results, Tryz.results25, go_sem]) rfl ?_
    exact ⟨sb, Bs, FIN.out.1, by rw [HRB.out, if_neg hlt], FIN.out.2⟩

set_option maxHeartbeats 400000 in
theorem journal_sin (x : St) (N sb : Nat) (w : World) (hx : SIn N sb x w) :
    Calls Tryz.prog 24 #[.pointer (some ⟨sb, 0, none⟩)] w fun e w' => e = .returned (.string (bs x.J)) ∧ w' = w := by
  obtain ⟨D, F, g1, g2, g3, g4, vE, vL, vR, vS, hB, hs, hE, hT, hR, hS⟩ := hx
  have c2 : w.cell? ⟨sb, 2, none⟩ = some vR := by simp [World.cell?, hs]
  rcases hR.1 with ⟨rfl, hJ⟩ | ⟨g, cap, cur, fz, rfl, _⟩
  · have hcv := Go.Lib.run_convert_nil_bytes (P := Tryz.prog) w 71 9 5 0 Tryz.underlying71 Tryz.underlying5 Tryz.underlying9
    rw [hJ]
    clear hs hE hT hR hS hJ g1 g2 g3 g4
    go_enter Tryz.func24, Tryz.ntmps24
    go_wp2
    go_ret
    exact ⟨rfl, rfl⟩
  · have hcv := run_convert_bytes_back (P := Tryz.prog) w 71 9 5 ⟨g, 0, none⟩ cap x.J Tryz.underlying71 Tryz.underlying5 Tryz.underlying9 (fun j hj => hR.1.cells j _ (by simp [bcells, hj]))
    clear hs hE hT hR hS g1 g2 g3 g4
    generalize x.J = J at c2 hcv
    go_enter Tryz.func24, Tryz.ntmps24
    go_wp2
    go_ret
    exact ⟨rfl, rfl⟩
end Go.Proofs.YtakipjofboipmaaGreat

/- Plain mathematics of this proof: what a Crash leaves. -/
namespace Go.Proofs.YtakipjofboipmaaGreat
open Go.Sort

theorem rel_take {E F : List En} {A : List (List Pr)} (h : Rel E A) {n : Nat} (hf : ∀ e, e ∈ F ↔ e ∈ E ∧ e.s ≤ n) : Rel F (A.take n) := by
  intro e
  rw [hf, h e]
  constructor
  · rintro ⟨⟨i, b, p, h1, h2, rfl⟩, h3⟩
    have : i < n := by have h4 : (i : Int) + 1 ≤ n := h3; omega
    exact ⟨i, b, p, by rw [List.getElem?_take_of_lt this]; exact h1, h2, rfl⟩
  · rintro ⟨i, b, p, h1, h2, rfl⟩
    rw [List.getElem?_take] at h1
    split at h1
    · exact ⟨⟨i, b, p, h1, h2, rfl⟩, by show (i : Int) + 1 ≤ n; omega⟩
    · cases h1

theorem cr_mem {x : St} (ok : StOk x) {j : Nat} (hj : j ≤ x.B.length) {e : En} : e ∈ (x.cr j).E ↔ e ∈ x.E ∧ e.s ≤ x.la + j :=
  rs_take (x := { x with S := [] }) (ok.snapsTo [] x.lastSnap (by simp) (by simp)) hj

theorem rs_sorted {x : St} (ok : StOk x) {Bs : List (List Pr)} (hB : ∀ b ∈ Bs, Bt b) : Sorted (x.rs Bs).E := by
  refine srt_sorted (List.pairwise_append.2 ⟨sorted_dist (ok.sorted.sublist List.filter_sublist), ents_dist hB _, fun a ha b hb hh => ?_⟩)
  have h1 := (List.mem_filter.1 ha).2
  simp only [decide_eq_true_eq] at h1
  have h2 := (ents_above hb).1
  have := hh.2
  omega

theorem cr_len {x : St} {j : Nat} (hj : j ≤ x.B.length) : (x.B.take j).length = j := by rw [List.length_take]; omega

theorem rl_lt {B : List (List Pr)} (hB : ∀ b ∈ B, Bt b) {i k : Nat} (hik : i < k) (hk : k ≤ B.length) : rl (B.take i) < rl (B.take k) := by
  obtain ⟨b, hb⟩ : ∃ b, B[i]? = some b := ⟨_, List.getElem?_eq_getElem (by omega)⟩
  have h1 : rl (B.take (i + 1)) = rl (B.take i) + (recB b).length := by
    rw [List.take_add_one, hb]
    simp [rl]
  have h2 := recB_len (hB b (List.mem_of_getElem? hb))
  have h3 : rl (B.take (i + 1)) ≤ rl (B.take k) := by
    have e : B.take (i + 1) = (B.take k).take (i + 1) := by rw [List.take_take, Nat.min_eq_left (by omega)]
    rw [e]
    exact rl_take_le _ _
  omega

theorem lft_zero (n sy : Nat) : lft n sy 0 = sy := by simp [lft, pk]

/-- With no byte kept just what is synced is left. -/
theorem Left.zero {x : St} (ok : StOk x) {j : Nat} (h : Left x 0 j) : j = x.sy := by
  have h1 := h.sure ok.lv.bsy
  have h2 := h.fits
  rw [lft_zero] at h2
  by_cases hlt : x.sy < j
  · have := rl_lt ok.lv.bok hlt h.le
    omega
  · omega

/-- What a Crash left, a batch that is lost besides. -/
theorem cr_wr_cr {x : St} (ok : StOk x) (hl : x.last < 1000000000) (hf : x.E.length + 4 * x.B.length < 1000000000) {j : Nat} (hj : j ≤ x.B.length) {M : List Pr} (okw : StOk ((x.cr j).wr M)) : ((x.cr j).wr M).cr j = x.cr j := by
  have okc := ok.cr hl hf hj
  have hlen := cr_len hj
  have hB : (((x.cr j).wr M).B).take j = x.B.take j := by
    show (x.B.take j ++ [M]).take j = _
    rw [List.take_append_of_le_length (by omega), List.take_of_length_le (by omega)]
  have hjw : j ≤ ((x.cr j).wr M).B.length := by show j ≤ (x.B.take j ++ [M]).length; simp; omega
  have hE : (((x.cr j).wr M).cr j).E = (x.cr j).E := by
    refine sorted_ext (rs_sorted (x := { (x.cr j).wr M with S := [] }) (okw.snapsTo [] _ (by simp) (by simp)) fun b hb => okw.lv.bok b (List.mem_of_mem_take hb)) okc.sorted fun e => ?_
    rw [cr_mem okw hjw]
    show (e ∈ srt ((x.cr j).E ++ M.map (toEn ((x.cr j).last + 1))) ∧ e.s ≤ x.la + j) ↔ _
    rw [srt_mem, List.mem_append]
    constructor
    · rintro ⟨h | h, h2⟩
      · exact h
      · obtain ⟨p, _, rfl⟩ := List.mem_map.1 h
        have h3 : x.la + (x.B.take j).length + 1 ≤ x.la + j := h2
        omega
    · intro h
      exact ⟨.inl h, ((cr_mem ok hj).1 h).2⟩
  have e1 : ((x.cr j).wr M).cr j = ⟨(((x.cr j).wr M).cr j).E, (((x.cr j).wr M).B).take j, ((((x.cr j).wr M).B).take j).length, srt (entsFrom (x.la + 1) ((((x.cr j).wr M).B).take j)), x.T, x.la, [], x.lastSnap, x.la + ((((x.cr j).wr M).B).take j).length⟩ := rfl
  rw [e1, hE, hB]
  rfl

theorem Sound.cr {x : St} {A : List (List Pr)} {t : Nat} (ok : Sound x A t) (ht : t < 2000000) {j : Nat} (hj : j ≤ x.B.length) : Sound (x.cr j) (A.take (x.la + j).toNat) t := by
  have la0 := ok.sh.st.lv.la0
  have la1 := ok.sh.st.lv.la1
  have hl := ok.sh.last
  have b1 := ok.b1
  have b2 := ok.b2
  have okc := ok.sh.st.cr (by omega) (by omega) hj
  have hlen := cr_len hj
  have hm : (A.take (x.la + j).toNat).length = (x.la + j).toNat := by rw [List.length_take]; omega
  refine ⟨⟨okc, ?_, rel_take ok.sh.rel fun e => ?_, fun b hb => ok.sh.ok b (List.mem_of_mem_take hb), ?_⟩, List.Pairwise.nil, by simp [St.cr, St.rs], ok.ls0, by omega, ?_, ok.b3, ok.b4⟩
  · show x.la + ((x.B.take j).length : Int) = _
    rw [hm]
    omega
  · rw [cr_mem ok.sh.st hj]
    have : ((x.la + j).toNat : Int) = x.la + j := by omega
    rw [this]
  · have := ok.sh.few
    omega
  · have := sub_len okc.sorted ok.sh.st.sorted fun e he => ((cr_mem ok.sh.st hj).1 he).1
    omega
end Go.Proofs.YtakipjofboipmaaGreat

/- The walks of this proof: a shop whose store crashes. -/
namespace Go.Proofs.YtakipjofboipmaaGreat
open Go.RowKit Go.Sort

/-- The pair that is written to see the next number. -/
def pZ : Pr := ⟨⟨#[122, 122, 122]⟩, ⟨#[]⟩, true⟩
theorem okZ : ∀ p ∈ [pZ], PrOk p := fun p hp => by
  rw [List.mem_singleton] at hp
  subst hp
  exact ⟨by decide, by decide, by decide, fun _ => rfl⟩

theorem row_take {w : World} {base : Nat} {e : TypeId} {size g n cap m : Nat} {xs : List Value} (h : w.ownsRow base e size (.slice (some ⟨g, 0, none⟩) n cap) n xs) (hm : m ≤ n) : w.ownsRow base e size (.slice (some ⟨g, 0, none⟩) m cap) m (xs.take (m * size)) := by
  have hms : m * size ≤ n * size := Nat.mul_le_mul_right _ hm
  refine ⟨by rw [List.length_take, h.1]; omega, ?_⟩
  rcases h.2 with ⟨h', _⟩ | ⟨g', cap', cur, hv, hb, hg, hnc, hcm, hs, ht⟩
  · cases h'
  · simp only [Value.slice.injEq, Option.some.injEq, Addr.mk.injEq, and_true] at hv
    obtain ⟨rfl, _, rfl⟩ := hv
    exact .inr ⟨g, cap, cur, rfl, hb, hg, by omega, hcm, hs, by rw [← ht, List.take_take, Nat.min_eq_left hms]⟩

theorem one_three (w : World) (a b c : Value) (e : TypeId) : (w.alloc (.cells #[a, b, c] e)).ownsRow w.heap.size e 3 (.slice (some ⟨w.heap.size, 0, none⟩) 1 1) 1 [a, b, c] :=
  ⟨by simp, .inr ⟨w.heap.size, 1, #[a, b, c], rfl, Nat.le_refl _, heap_alloc_new w _, Nat.le_refl _, by unfold maxLen; omega, by simp, by simp⟩⟩

theorem AllAt.take {B g cap m : Nat} {w : World} {A : List (List Pr)} (h : AllAt B w (.slice (some ⟨g, 0, none⟩) A.length cap) A) (hm : m ≤ A.length) : AllAt B w (.slice (some ⟨g, 0, none⟩) m cap) (A.take m) := by
  obtain ⟨Ws, h1, h2⟩ := h
  have hl : (A.take m).length = m := by rw [List.length_take]; omega
  refine ⟨Ws.take m, ?_, fun i b hb => ?_⟩
  · have := row_take h1 hm
    rw [hl]
    simpa using this
  · rw [List.getElem?_take] at hb
    split at hb
    · obtain ⟨vi, h3, h4⟩ := h2 i b hb
      exact ⟨vi, by rw [List.getElem?_take_of_lt (by assumption)]; exact h3, h4⟩
    · cases hb

/-- The first of a shop's batches, in memory of their own. -/
theorem all_part {B m cA : Nat} {aoA : Option Addr} {w : World} {A : List (List Pr)} (hA : AllAt B w (.slice aoA A.length cA) A) (hm : m ≤ A.length) (hf : A.length < 100000000) (hB : B ≤ w.heap.size) :
    ∃ v w', (Builtin.append_ #[32, 32] 32 #[.slice none 0 0, .slice aoA m cA]).run Tryz.prog w = .ok v w' ∧ AllAt B w' v (A.take m) ∧ Below w.heap.size w w' := by
  obtain ⟨i0, hi, hz0, hz1, hz2⟩ := info_parts Tryz.info49
  have hl : (A.take m).length = m := by rw [List.length_take]; omega
  obtain ⟨Ws, hWo, hWr⟩ := hA
  have hWl : Ws.length = A.length := by have := hWo.1; omega
  rcases hWo.2 with ⟨hv, h0⟩ | ⟨g, cap, cur, hv, _⟩
  · simp only [Value.slice.injEq] at hv
    obtain ⟨rfl, _, rfl⟩ := hv
    obtain rfl : m = 0 := by omega
    refine ⟨_, _, run_append_owned_none (P := Tryz.prog) w B 32 32 49 i0 1 Tryz.underlying32 hi (.slice none 0 0) 0 [] (World.ownsRow_nil _ _ _ _), ⟨[], World.ownsRow_nil _ _ _ _, by simp⟩, Below.refl _ _⟩
  · simp only [Value.slice.injEq] at hv
    obtain ⟨rfl, _, rfl⟩ := hv
    obtain ⟨v', w', h1, h2, h3, _⟩ := run_append_own (P := Tryz.prog) w B 32 32 49 i0 _ 1 24 Tryz.underlying32 hi hz0 hz1 hz2 rfl (by decide) (.slice none 0 0) 0 [] (World.ownsRow_nil _ _ _ _) ⟨g, 0, none⟩ m cA (Ws.take m) (by rw [List.length_take]; omega) (fun j u hj => by
        rw [List.getElem?_take] at hj
        split at hj
        · exact hWo.cells (g := g) rfl j u hj
        · cases hj) (fun u hu => by
        obtain ⟨j, hj⟩ := List.getElem?_of_mem (List.mem_of_mem_take hu)
        have hjl := (List.getElem?_eq_some_iff.1 hj).1
        obtain ⟨vi, h5, h6⟩ := hWr j _ (List.getElem?_eq_getElem (by omega))
        rw [hj] at h5
        obtain rfl := Option.some.inj h5
        obtain ⟨ao, c, rfl⟩ := slice_form h6
        rfl) (by unfold maxLen; omega) (by omega) hB
    have hb : Below w.heap.size w w' := (Below.refl _ _).grown h3 (Nat.le_refl _) (fun k e => by cases e)
    refine ⟨v', w', h1, ⟨Ws.take m, by rw [hl]; simpa using h2, fun i b hb' => ?_⟩, hb⟩
    rw [List.getElem?_take] at hb'
    split at hb'
    · obtain ⟨vi, h4, h5⟩ := hWr i b hb'
      exact ⟨vi, by rw [List.getElem?_take_of_lt (by assumption)]; exact h4, (Kp.of_below (B := 0) (ts := []) hb).owns h5 (by simp)⟩
    · cases hb'

theorem small_j {x : St} (ok : StOk x) {t : Nat} (h : x.B.length ≤ t) (ht : t < 1300000) : x.J.length < 100000000 := by
  have := flat_le ok.lv.bok
  have e : x.J.length = rl x.B := rfl
  omega

/-- What a crash comes to. -/
def CrsPost (B hb t : Nat) (w : World) (e : Ending) (w' : World) : Prop :=
  e = .returned (.bool true) ∧ ∃ (x' : St) (A' : List (List Pr)), ShopAt B hb x' A' w' ∧ Sound x' A' t ∧ Kp B turned w w'

set_option maxHeartbeats 4000000 in
set_option maxRecDepth 100000 in
theorem crashes_any (B hb : Nat) (x : St) (A : List (List Pr)) (keep : Int) (t : Nat) (w : World) (hx : ShopAt B hb x A w) (ok : Sound x A t) (ht : t < 1200000) (hBw : B ≤ w.heap.size) (h0 : -9223372036854775808 ≤ keep) (h1 : keep ≤ 9223372036854775807) :
    Calls Tryz.prog 23 #[.pointer (some ⟨hb, 0, none⟩), .int .i64 keep] w fun e w' => CrsPost B hb t w e w' := by
  obtain ⟨i0, hi, hz0, hz1, hz2⟩ := info_parts Tryz.info49
  obtain ⟨sb, vA, vS, su, la, o0, o1, hB, hs, hst, hall, hsn, hsu, hla, ho0, ho1⟩ := hx
  have c0 : w.cell? ⟨hb, 0, none⟩ = some (.pointer (some ⟨sb, 0, none⟩)) := by simp [World.cell?, hs]
  have hbl : hb < w.heap.size := lt_of_block hs
  have b1 := ok.b1
  have b2 := ok.b2
  have hlast := ok.sh.last
  have la0 := ok.sh.st.lv.la0
  have la1 := ok.sh.st.lv.la1
  have bsy := ok.sh.st.lv.bsy
  have hfew := ok.sh.few
  have hJ := small_j ok.sh.st (t := t) (by omega) (by omega)
  have HCR : Hid _ := crash_sin x B sb keep w hst ok.sh.st (by omega) hJ h0 h1
  have HS : Hid (w.heap[hb]? = some (.cells #[.pointer (some ⟨sb, 0, none⟩), vA, vS, .int .i64 su, .int .i64 la, .bool o0, .bool o1] 36 (0, 0)) ∧ AllAt B w vA A) := ⟨hs, hall⟩
  have HSO : Hid (Sound x A t) := ok
  have HFL : Hid (la = x.la ∧ o0 = decide (hasT x.T 0) ∧ o1 = decide (hasT x.T 1)) := ⟨hla, ho0, ho1⟩
  clear hst ok hsn hs hall hla ho0 ho1
  go_enter Tryz.func23, Tryz.ntmps23
  go_wp2_with fail
  refine Calls.mono HCR.out ?_
  rintro e w1 ⟨rfl, j, hLe, hst1, hk1⟩
  have hj := hLe.le
  have hsj := hLe.sure bsy
  have hs1 := hk1.keep HS.out.1 (by simp)
  have a1 := HS.out.2.kept hk1 (by simp) (by simp)
  have c02 : w1.cell? ⟨hb, 2, none⟩ = some vS := by simp [World.cell?, hs1]
  have f02 : w1.frozen? ⟨hb, 2, none⟩ = false := by simp [World.frozen?, hs1]
  have k2 := Kp.field hB hs1 2 (.slice none 0 0)
  have hs2 := heap_setCell_same w1 hb 2 _ 36 (.slice none 0 0) hs1
  simp only [List.setIfInBounds_toArray, List.set_cons_succ, List.set_cons_zero] at hs2
  have a2 := a1.kept k2 (by simp) (by simp)
  have st2 := hst1.kept k2 (by decide)
  generalize hw2 : w1.setCell ⟨hb, 2, none⟩ (.slice none 0 0) = w2 at k2 hs2 a2 st2
  have HW2 : Hid _ := hw2
  have HJO : Hid _ := journal_sin (x.cr j) B sb w2 st2
  have K2 : Hid (Kp B turned w w2) := (hk1.mono (by simp [turned])).trans (k2.mono (by simp [turned]))
  have hbl1 : hb < w1.heap.size := lt_of_block hs1
  have hbl2 : hb < w2.heap.size := lt_of_block hs2
  have hlen := cr_len hj
  obtain ⟨m, hm⟩ : ∃ m : Nat, x.la + j = m := ⟨(x.la + j).toNat, by omega⟩
  have hcl : (x.cr j).last = m := by show x.la + ((x.B.take j).length : Int) = m; omega
  have SOC := HSO.out.cr (by omega) hj
  rw [show (x.la + j).toNat = m by omega] at SOC
  have hbW : Below w2.heap.size w2 (w2.alloc (.cells #[.string ⟨#[122, 122, 122]⟩, .string ⟨#[]⟩, .bool true] 48)) := (Below.refl _ _).alloc (Nat.le_refl _) _
  have HWR : Hid (Calls Tryz.prog 18 #[.pointer (some ⟨sb, 0, none⟩), .slice (some ⟨w2.heap.size, 0, none⟩) 1 1, .bool false] (w2.alloc (.cells #[.string ⟨#[122, 122, 122]⟩, .string ⟨#[]⟩, .bool true] 48)) fun e w' => e = .returned (.tuple #[.int .i64 ((m : Int) + 1), .int .i64 0]) ∧ ∃ M : List Pr, SIn B sb ((x.cr j).wr M) w' ∧ StOk ((x.cr j).wr M) ∧ Kp B [118, 5, 58] w2 w') := by
    have c1 := SOC.b1
    have c2 := SOC.b2
    refine (write_sin B sb (x.cr j) [pZ] _ w2.heap.size false _ (st2.below hbW) SOC.sh.st (by exact ⟨(one_three w2 _ _ _ 48).1, (one_three w2 _ _ _ 48).2⟩) (by decide) (by decide) okZ (by omega) (by omega)).mono ?_
    rintro e w' ⟨rfl, M, hse, h5, h6, h7⟩
    exact ⟨by rw [hcl], M, h5, h6, (Kp.of_below hbW).trans h7⟩
  have A2 : Hid (w2.heap[hb]? = some (.cells #[.pointer (some ⟨sb, 0, none⟩), vA, .slice none 0 0, .int .i64 su, .int .i64 la, .bool o0, .bool o1] 36 (0, 0)) ∧ AllAt B w2 vA A ∧ SIn B sb (x.cr j) w2 ∧ Sound (x.cr j) (A.take m) t) := ⟨hs2, a2, st2, SOC⟩
  have d0 : w2.cell? ⟨hb, 0, none⟩ = some (.pointer (some ⟨sb, 0, none⟩)) := by simp [World.cell?, hs2]
  have c00 : w1.cell? ⟨hb, 0, none⟩ = some (.pointer (some ⟨sb, 0, none⟩)) := by simp [World.cell?, hs1]
  clear hst1 hk1 hs1 a1 k2 hs2 a2 st2 SOC HCR HS hw2 hbW hcl
  go_wp2_with fail
  rw [HW2.out]
  refine Calls.mono HJO.out ?_
  rintro e w2' ⟨rfl, rfl⟩
  clear HJO
  go_wp2_with fail
  refine Calls.mono HWR.out ?_
  rintro e w4 ⟨rfl, M, st4, ok4, k4⟩
  clear HWR
  have hs4 := k4.keep A2.out.1 (by simp)
  have a4 := A2.out.2.1.kept k4 (by simp) (by simp)
  obtain ⟨aoA, cA, rfl⟩ : ∃ ao c, vA = .slice ao A.length c := by obtain ⟨Ws, ho, _⟩ := a4; exact slice_form ho
  have hmA : m ≤ A.length := by omega
  have hcA : A.length ≤ cA := by
    obtain ⟨Ws, ho, _⟩ := a4
    rcases ho.2 with ⟨h, h9⟩ | ⟨g, c, cur, h, _, _, h9, _⟩
    · omega
    · simp only [Value.slice.injEq] at h
      omega
  obtain ⟨v62, w5, hrun, a5, b5⟩ := all_part a4 hmA hfew (Nat.le_trans hBw (Nat.le_trans K2.out.size k4.size))
  have HRUN : Hid _ := hrun
  have K4 : Hid (Kp B turned w w4) := K2.out.trans (k4.mono (by simp [turned]))
  have HS4 : Hid (w4.heap[hb]? = some (.cells #[.pointer (some ⟨sb, 0, none⟩), .slice aoA A.length cA, .slice none 0 0, .int .i64 su, .int .i64 la, .bool o0, .bool o1] 36 (0, 0))) := hs4
  have HST4 : Hid (SIn B sb ((x.cr j).wr M) w4 ∧ StOk ((x.cr j).wr M)) := ⟨st4, ok4⟩
  have HA5 : Hid (AllAt B w5 v62 (A.take m) ∧ Below w4.heap.size w4 w5) := ⟨a5, b5⟩
  have c41 : w4.cell? ⟨hb, 1, none⟩ = some (.slice aoA A.length cA) := by simp [World.cell?, hs4]
  have c43 : w4.cell? ⟨hb, 3, none⟩ = some (.int .i64 su) := by simp [World.cell?, hs4]
  have hbl4 : hb < w4.heap.size := lt_of_block hs4
  have hsm : su ≤ m := by omega
  have HSU : Hid (su = x.la + x.sy) := hsu
  have hd1 : decide ((m : Int) < su) = false := decide_eq_false (by omega)
  have hd2 : decide ((A.length : Int) < (m : Int)) = false := decide_eq_false (by omega)
  obtain ⟨Ws5, ho5, hr5⟩ := a5
  have hl5 : (A.take m).length = m := by rw [List.length_take]; omega
  rw [hl5] at ho5
  have hW5 : Ws5.length = m := by have := ho5.1; omega
  have HO5 : Hid (w5.ownsRow B 49 1 v62 m Ws5) := ho5
  have hbw5 : B ≤ w5.heap.size := Nat.le_trans hBw (Nat.le_trans K4.out.size b5.size)
  obtain ⟨ao5, c5, rfl⟩ := slice_form ho5
  generalize hJS : (x.cr j).J = JS
  have HJS : Hid ((x.cr j).J = JS) := hJS
  clear st4 ok4 k4 hs4 a4 hrun b5 K2 hsu ho5 hJS
  go_wp2_with (first
    | (at_builtin; refine wpList_appB _ rfl (.const (.slice none 0 0)) (.tmp 61) 32 32 rfl (.slice none 0 0) (.slice aoA m cA) rfl rfl HRUN.out ?_)
    | (at_builtin; refine wpList_append_own _ rfl (.tmp 62) (.tmp 65) 32 rfl B 49 i0 _ 1 24 Tryz.underlying32 hi hz0 hz1 hz2 rfl (by decide) (.slice ao5 m c5) m Ws5 rfl (by exact (HO5.out.alloc _).alloc _) ⟨w5.heap.size + 1, 0, none⟩ 1 1 [.slice (some ⟨w5.heap.size, 0, none⟩) 1 1] rfl rfl (by intro k u hk; cases k with | zero => simp at hk; subst hk; simp [Addr.add] | succ k => simp at hk) (by simp [Value.oneCell']) (by unfold maxLen; omega) (by omega) (by simp; omega) ?_))
  intro v9 w7 ho9 hg9 _
  have kq : Kp B [49] w5 w7 := Kp.grown (((Kp.refl _ _ _).alloc _).alloc _) ((HO5.out.alloc _).alloc _) hg9 (Nat.le_refl _) (by simp)
  have k47 : Kp B [49] w4 w7 := (Kp.of_below HA5.out.2).trans kq
  have hz : w7.ownsRow B 48 3 (.slice (some ⟨w5.heap.size, 0, none⟩) 1 1) [pZ].length (pcells [pZ]) := by
    have h := (one_three w5 (.string ⟨#[122, 122, 122]⟩) (.string ⟨#[]⟩) (.bool true) 48).alloc (.cells #[.slice (some ⟨w5.heap.size, 0, none⟩) 1 1] 49)
    exact owns_base ((Kp.grown (B := B) (ts := [49]) (Kp.refl _ _ _) ((HO5.out.alloc _).alloc _) hg9 (Nat.le_refl _) (by simp)).owns h (by simp)) hbw5
  have all7 : AllAt B w7 v9 (A.take m ++ [[pZ]]) := AllAt.snoc (by rw [hl5]; exact ho9) (by rw [hl5]; exact hW5) (fun i c h => by obtain ⟨vi, h1, h2⟩ := hr5 i c h; exact ⟨vi, h1, kq.owns h2 (by simp)⟩) hz
  obtain ⟨g9, c9, rfl, _, _⟩ := ho9.form (by omega)
  have hs7 := k47.keep HS4.out (by simp)
  have c71 : w7.cell? ⟨hb, 1, none⟩ = some (.slice aoA A.length cA) := by simp [World.cell?, hs7]
  have f71 : w7.frozen? ⟨hb, 1, none⟩ = false := by simp [World.frozen?, hs7]
  have hbl7 : hb < w7.heap.size := lt_of_block hs7
  have k8 := Kp.field hB hs7 1 (.slice (some ⟨g9, 0, none⟩) (m + 1) c9)
  have hs8 := heap_setCell_same w7 hb 1 _ 36 (.slice (some ⟨g9, 0, none⟩) (m + 1) c9) hs7
  simp only [List.setIfInBounds_toArray, List.set_cons_succ, List.set_cons_zero] at hs8
  have all8 := all7.kept k8 (by simp) (by simp)
  have st8 := (HST4.out.1.kept k47 (by decide)).kept k8 (by decide)
  generalize hw8 : w7.setCell ⟨hb, 1, none⟩ (.slice (some ⟨g9, 0, none⟩) (m + 1) c9) = w8 at k8 hs8 all8 st8
  have HW8 : Hid _ := hw8
  have K8 : Hid (Kp B turned w w8) := (K4.out.trans (k47.mono (by simp [turned]))).trans (k8.mono (by simp [turned]))
  have hBl : ((x.cr j).wr M).B.length = j + 1 := by show (x.B.take j ++ [M]).length = _; simp; omega
  have HC2 : Hid (Calls Tryz.prog 26 #[.pointer (some ⟨sb, 0, none⟩), .int .i64 0] w8 fun e w' => e = .returned (.tuple #[]) ∧ SIn B sb (x.cr j) w' ∧ Kp B [118] w8 w') := by
    refine (crash_sin ((x.cr j).wr M) B sb 0 w8 st8 HST4.out.2 (by show x.la + ((x.B.take j).length : Int) + 1 < _; omega) (small_j HST4.out.2 (t := t + 1) (by omega) (by omega)) (by omega) (by omega)).mono ?_
    rintro e w' ⟨rfl, j2, h2, h3, h4⟩
    have e2 : j2 = j := (h2.zero HST4.out.2).trans hlen
    rw [e2, cr_wr_cr HSO.out.sh.st (by omega) (by omega) hj HST4.out.2] at h3
    exact ⟨rfl, h3, h4⟩
  have HALL8 : Hid (w8.heap[hb]? = some (.cells #[.pointer (some ⟨sb, 0, none⟩), .slice (some ⟨g9, 0, none⟩) (m + 1) c9, .slice none 0 0, .int .i64 su, .int .i64 la, .bool o0, .bool o1] 36 (0, 0)) ∧ AllAt B w8 (.slice (some ⟨g9, 0, none⟩) (m + 1) c9) (A.take m ++ [[pZ]])) := ⟨hs8, all8⟩
  have c80 : w8.cell? ⟨hb, 0, none⟩ = some (.pointer (some ⟨sb, 0, none⟩)) := by simp [World.cell?, hs8]
  have hbl8 : hb < w8.heap.size := lt_of_block hs8
  clear ho9 hg9 kq k47 hz all7 hs7 k8 hs8 all8 st8 hw8 HST4 HA5 HO5 hr5 HS4 HRUN K4 hBl
  go_wp2_with (rw [HW8.out])
  refine Calls.mono HC2.out ?_
  rintro e w9 ⟨rfl, st9, k9⟩
  have hs9 := k9.keep HALL8.out.1 (by simp)
  have c90 : w9.cell? ⟨hb, 0, none⟩ = some (.pointer (some ⟨sb, 0, none⟩)) := by simp [World.cell?, hs9]
  have c91 : w9.cell? ⟨hb, 1, none⟩ = some (.slice (some ⟨g9, 0, none⟩) (m + 1) c9) := by simp [World.cell?, hs9]
  have f91 : w9.frozen? ⟨hb, 1, none⟩ = false := by simp [World.frozen?, hs9]
  have hbl9 : hb < w9.heap.size := lt_of_block hs9
  have HJ9 : Hid (Calls Tryz.prog 24 #[.pointer (some ⟨sb, 0, none⟩)] w9 fun e w' => e = .returned (.string (bs JS)) ∧ w' = w9) := by have := journal_sin (x.cr j) B sb w9 st9; rw [HJS.out] at this; exact this
  have kA := Kp.field hB hs9 1 (.slice (some ⟨g9, 0, none⟩) m c9)
  have hsA := heap_setCell_same w9 hb 1 _ 36 (.slice (some ⟨g9, 0, none⟩) m c9) hs9
  simp only [List.setIfInBounds_toArray, List.set_cons_succ, List.set_cons_zero] at hsA
  have hcc : m + 1 ≤ c9 := by
    obtain ⟨Ws, ho, _⟩ := HALL8.out.2
    rcases ho.2 with ⟨h, _⟩ | ⟨g, c, cur, h, _, _, h9, _⟩
    · cases h
    · simp only [Value.slice.injEq] at h
      omega
  have lenz : (A.take m ++ [[pZ]]).length = m + 1 := by rw [List.length_append, hl5]; rfl
  have allA : AllAt B (w9.setCell ⟨hb, 1, none⟩ (.slice (some ⟨g9, 0, none⟩) m c9)) (.slice (some ⟨g9, 0, none⟩) m c9) (A.take m) := by
    have h := (HALL8.out.2.kept k9 (by simp) (by simp)).kept kA (by simp) (by simp)
    rw [← lenz] at h
    have h2 := h.take (m := m) (by omega)
    rwa [List.take_append_of_le_length (by omega), List.take_of_length_le (by omega)] at h2
  have stA := st9.kept kA (by decide)
  generalize hwA : w9.setCell ⟨hb, 1, none⟩ (.slice (some ⟨g9, 0, none⟩) m c9) = wA at kA hsA allA stA
  have HWA : Hid _ := hwA
  have cA3 : wA.cell? ⟨hb, 3, none⟩ = some (.int .i64 su) := by simp [World.cell?, hsA]
  have fA3 : wA.frozen? ⟨hb, 3, none⟩ = false := by simp [World.frozen?, hsA]
  have hblA : hb < wA.heap.size := lt_of_block hsA
  have kB := Kp.field hB hsA 3 (.int .i64 (m : Int))
  have hsB := heap_setCell_same wA hb 3 _ 36 (.int .i64 (m : Int)) hsA
  simp only [List.setIfInBounds_toArray, List.set_cons_succ, List.set_cons_zero] at hsB
  have allB := allA.kept kB (by simp) (by simp)
  have stB := stA.kept kB (by decide)
  generalize hwB : wA.setCell ⟨hb, 3, none⟩ (.int .i64 (m : Int)) = wB at kB hsB allB stB
  have HWB : Hid _ := hwB
  have SHOP : Hid (ShopAt B hb (x.cr j) (A.take m) wB) := ⟨sb, _, _, _, _, _, _, hB, hsB, stB, allB, World.ownsRow_nil _ _ _ _, by show (m : Int) = x.la + ((x.B.take j).length : Int); omega, HFL.out.1, HFL.out.2.1, HFL.out.2.2⟩
  have HT : Hid (Calls Tryz.prog 14 #[.pointer (some ⟨hb, 0, none⟩), .int .i64 0, .int .i64 m] wB fun e w' => e = .returned (.bool true) ∧ Below wB.heap.size wB w') :=
    tells_any B hb (x.cr j) (A.take m) 0 m wB SHOP.out A2.out.2.2.2.sh (by unfold seqOf; rw [if_pos rfl, A2.out.2.2.2.sh.last, hl5]) (by omega)
  have KB : Hid (Kp B turned w wB) := ((K8.out.trans (k9.mono (by simp [turned]))).trans (kA.mono (by simp [turned]))).trans (kB.mono (by simp [turned]))
  clear st9 k9 hs9 kA hsA allA stA hwA kB hsB allB stB hwB HC2 HALL8 K8
  go_wp2_with fail
  refine Calls.mono HJ9.out ?_
  rintro e w9' ⟨rfl, rfl⟩
  go_wp2_with (first | rw [HWA.out] | rw [HWB.out] | fail)
  refine Calls.mono HT.out ?_
  rintro e wC ⟨rfl, hbC⟩
  have FIN : Hid (CrsPost B hb t w (.returned (.bool true)) wC) := ⟨rfl, x.cr j, A.take m, SHOP.out.below hbC, A2.out.2.2.2, KB.out.trans (Kp.of_below hbC)⟩
  clear hbC
  go_wp2
  go_ret
  exact FIN.out
end Go.Proofs.YtakipjofboipmaaGreat

/- The walks of this proof: Prefix. -/
namespace Go.Proofs.YtakipjofboipmaaGreat
open Go.RowKit Go.Sort

set_option maxHeartbeats 2000000 in
set_option maxRecDepth 100000 in
theorem prefix_any (v : Value) (n : Nat) (w : World) (h : ScriptAt w v n) (hn : n ≤ 1100000) :
    Calls Tryz.prog 6 #[v] w fun e w' => e = .returned (.bool true) ∧ Below w.heap.size w w' := by
  obtain ⟨ao, cap, rfl, hc⟩ := h
  have HC : Hid _ := hc
  clear hc
  go_enter Tryz.func6, Tryz.ntmps6
  go_wp2_with fail
  refine (shop_any w).mono ?_
  rintro e w1 ⟨hb, rfl, hx, hb1⟩
  have HX : Hid (ShopAt w.heap.size hb st0 [] w1) := hx
  have HB1 : Hid (Below w.heap.size w w1) := hb1
  clear hx hb1
  go_wp2
  go_loopw [4, 5] (fun i _ wr => ∃ (j : Nat) (x : St) (A : List (List Pr)), j ≤ n ∧ i = .int .i64 j ∧ Hid (ShopAt w.heap.size hb x A wr) ∧ Hid (Sound x A j) ∧ Hid (Below w.heap.size w wr)) (fun i _ _ => n - (intOf i).toNat)
  case atStart => exact ⟨0, st0, [], Nat.zero_le _, rfl, HX, sound0, HB1⟩
  case round =>
    clear HX HB1
    obtain ⟨j, x, A, hj, rfl, HX, HS, HB⟩ := hrel
    by_cases hlt : j < n
    · obtain ⟨⟨g, off, spot⟩, k, a, al, nl, cl, f, rfl, hsp, c0, c1, c2, c3, hraw, ha0, ha1⟩ := HC.out j hlt
      simp only at hsp c0 c1 c2 c3
      subst hsp
      have hgw : g < w.heap.size := block_lt_of_cell c0
      have HD : Hid _ := does_any w.heap.size hb x A k a al nl cl f true j wr HX.out HS.out (by omega) (hraw.below HB.out) HB.out.size ha0 ha1
      have C0 : Hid (w.cell? ⟨g, off + j * 4, none⟩ = some (.int .i64 k)) := c0
      have C1 : Hid (w.cell? ⟨g, off + j * 4 + 1, none⟩ = some (.int .i64 a)) := c1
      have c0 := cell_later HB.out c0
      have c1 := cell_later HB.out c1
      have c2 := cell_later HB.out c2
      have c3 := cell_later HB.out c3
      have hgr : g < wr.heap.size := block_lt_of_cell c0
      clear hraw
      go_wp2_with fail
      refine Calls.mono HD.out ?_
      rintro e w2 ⟨rfl, x', A', hx2, hs2, hk2⟩
      have hb2 : Below w.heap.size w w2 := HB.out.trans (hk2.belowB HB.out.size)
      have c0 := cell_later hb2 C0.out
      have c1 := cell_later hb2 C1.out
      have hgr2 : g < w2.heap.size := block_lt_of_cell c0
      have HX2 : Hid (ShopAt w.heap.size hb x' A' w2) := hx2
      have HS2 : Hid (Sound x' A' (j + 1)) := hs2
      have HB2 : Hid (Below w.heap.size w w2) := hb2
      clear hx2 hs2 hb2 hk2 HD HX HS HB c2 c3
      by_cases hk6 : k = 6
      · subst hk6
        have HL : Hid _ := looks_any w.heap.size hb x' A' a (j + 1) w2 HX2.out HS2.out ha0 ha1
        go_wp2_with fail
        refine Calls.mono HL.out ?_
        rintro e w3 ⟨rfl, hb3⟩
        have HX3 : Hid (ShopAt w.heap.size hb x' A' w3) := HX2.out.below hb3
        have HB3 : Hid (Below w.heap.size w w3) := below_trans' HB2.out hb3
        clear hb3 HX2 HB2 HL
        go_wp2
        go_roundw
        case rel => exact ⟨j + 1, x', A', hlt, by go_num, HX3, HS2, HB3⟩
        case measure => simp [intOf]; omega
      · have b6 : (k == 6) = false := beq_eq_false_iff_ne.2 hk6
        by_cases hk7 : k = 7
        · subst hk7
          have HL : Hid _ := crashes_any w.heap.size hb x' A' a (j + 1) w2 HX2.out HS2.out (by omega) HB2.out.size ha0 ha1
          go_wp2_with fail
          refine Calls.mono HL.out ?_
          rintro e w3 ⟨rfl, x3, A3, hx3, hs3, hk3⟩
          have HX3 : Hid (ShopAt w.heap.size hb x3 A3 w3) := hx3
          have HS3 : Hid (Sound x3 A3 (j + 1)) := hs3
          have hb3 : Below w.heap.size w w3 := HB2.out.trans (hk3.belowB HB2.out.size)
          have c0 := cell_later hb3 C0.out
          have hgr3 : g < w3.heap.size := block_lt_of_cell c0
          have HB3 : Hid (Below w.heap.size w w3) := hb3
          clear hx3 hs3 hk3 hb3 HX2 HB2 HS2 HL c1
          go_wp2
          go_roundw
          case rel => exact ⟨j + 1, x3, A3, hlt, by go_num, HX3, HS3, HB3⟩
          case measure => simp [intOf]; omega
        · have b7 : (k == 7) = false := beq_eq_false_iff_ne.2 hk7
          go_wp2
          go_roundw
          case rel => exact ⟨j + 1, x', A', hlt, by go_num, HX2, HS2, HB2⟩
          case measure => simp [intOf]; omega
    · obtain rfl : j = n := by omega
      obtain ⟨sb, vA, vS, su, la, o0, o1, hBh, hs, hst, hall, hsn, _⟩ := id HX.out
      have c1 : wr.cell? ⟨hb, 1, none⟩ = some vA := by simp [World.cell?, hs]
      have hbl : hb < wr.heap.size := lt_of_block hs
      obtain ⟨aoA, capA, rfl⟩ : ∃ ao cap, vA = .slice ao A.length cap := by obtain ⟨Ws, h, _⟩ := hall; exact slice_form h
      have HT : Hid (Calls Tryz.prog 14 #[.pointer (some ⟨hb, 0, none⟩), .int .i64 0, .int .i64 A.length] wr fun e w' => e = .returned (.bool true) ∧ Below wr.heap.size wr w') := tells_any w.heap.size hb x A 0 A.length wr HX.out HS.out.sh (by unfold seqOf; rw [if_pos rfl, HS.out.sh.last]) (Nat.le_refl _)
      clear hs hst hall hsn
      go_wp2_with fail
      refine Calls.mono HT.out ?_
      rintro e w3 ⟨rfl, hb3⟩
      go_wp2
      go_ret
      exact ⟨rfl, below_trans' HB.out hb3⟩
end Go.Proofs.YtakipjofboipmaaGreat
