/- The walks of this proof: writing a batch. -/
import Derived.Test.YtakipjofboipmaaGreatDoorJ14
namespace Go.Proofs.YtakipjofboipmaaGreatDoor
open Go.RowKit Go.Sort

/-- What addRecord comes to. -/
def AddPost (D : Nat → Prop) (sb : Nat) (vE vL a2 a3 a4 a5 a6 : Value) (l : List UInt8) (w : World) (e : Ending) (w' : World) : Prop :=
  e = .returned (.tuple #[]) ∧ ∃ v : Value, w'.heap[sb]? = some (.cells #[vE, vL, v, a2, a3, a4, a5, a6] 82 (0, 0)) ∧ OwnsJ w' D v l ∧ Kd D [82, 5] w w'

set_option maxHeartbeats 1000000 in
set_option maxRecDepth 100000 in
theorem addRecord_any (D : Nat → Prop) (B sb : Nat) (vE vL vR a2 a3 a4 a5 a6 v : Value) (l r : List UInt8) (w : World) (hs : w.heap[sb]? = some (.cells #[vE, vL, vR, a2, a3, a4, a5, a6] 82 (0, 0))) (hB : D sb) (hD : Opn D w) (hR : OwnsJ w D vR l) (hv : BR B v r w) (hm : 1 ≤ r.length) (hl : l.length + r.length ≤ 140737488355328) :
    Calls Tryz.prog 155 #[.pointer (some ⟨sb, 2, none⟩), v] w fun e w' => AddPost D sb vE vL a2 a3 a4 a5 a6 (l ++ r) w e w' := by
  obtain ⟨i0, hi, hz0, hz1, hz2⟩ := info_parts Tryz.info5
  have ho2 : w.ownsRow B 5 1 v r.length (bcells r) := hv
  clear hv
  obtain ⟨g2, cap2, rfl, hB2, hg2⟩ := ho2.form (by omega)
  have hnews : Hid (∀ j u, (bcells r)[j]? = some u → w.cell? ((⟨g2, 0, none⟩ : Addr).add j) = some u) := ho2.cells (g := g2) rfl
  obtain ⟨aoR, capR, rfl⟩ := hR.form
  have c1 : w.cell? ⟨sb, 2, none⟩ = some (.slice aoR l.length capR) := by simp [World.cell?, hs]
  have HD : Hid (Opn D w) := hD
  have HS : Hid (w.heap[sb]? = some (.cells #[vE, vL, .slice aoR l.length capR, a2, a3, a4, a5, a6] 82 (0, 0))) := hs
  have HO : Hid (OwnsJ w D (.slice aoR l.length capR) l) := hR
  obtain ⟨g1, cap1, w1, hrun, ho1, hg1, hat⟩ := run_append_mark Tryz.prog w 75 75 i0 Tryz.underlying75 hi hz0 hz1 hz2 (.slice aoR l.length capR) l r hR.1 ⟨g2, 0, none⟩ cap2 hnews.out (by omega) (by omega)
  have HRUN : Hid ((Builtin.append_ #[75, 75] 75 #[.slice aoR l.length capR, .slice (some ⟨g2, 0, none⟩) r.length cap2]).run Tryz.prog w = .ok (.slice (some ⟨g1, 0, none⟩) (l.length + r.length) cap1) w1) := hrun
  have K1 : Kd D [5] w w1 := Kd.grownJ HO.out hg1
  have hs1 := K1.keep HS.out (by simp)
  have HF : Hid (AddPost D sb vE vL a2 a3 a4 a5 a6 (l ++ r) w (.returned (.tuple #[])) (w1.setCell ⟨sb, 2, none⟩ (.slice (some ⟨g1, 0, none⟩) (l.length + r.length) cap1))) := by
    have kf := Kd.field hB hs1 2 (.slice (some ⟨g1, 0, none⟩) (l.length + r.length) cap1)
    refine ⟨rfl, .slice (some ⟨g1, 0, none⟩) (l.length + r.length) cap1, by rw [set_field hs1 2 _]; simp, ?_, (K1.mono (by simp)).trans (kf.mono (by simp))⟩
    exact kf.ownsJ (HO.out.lies HD.out ho1 hat) (by simp)
  have c1' : w1.cell? ⟨sb, 2, none⟩ = some (.slice aoR l.length capR) := by simp [World.cell?, hs1]
  have f1' : w1.frozen? ⟨sb, 2, none⟩ = false := by simp [World.frozen?, hs1]
  clear ho2 hs hR hD ho1 hg1 hs1 K1 hat hrun
  go_enter Tryz.func155, Tryz.ntmps155
  go_wp2_with (at_builtin; refine wpList_appB _ rfl (.tmp 8) (.tmp 9) 75 75 rfl (.slice aoR l.length capR) (.slice (some ⟨g2, 0, none⟩) r.length cap2) rfl rfl HRUN.out ?_)
  go_wp2
  go_end0
  exact HF.out

theorem below_from_drewN {B d : Nat} {w w' : World} (h : Below B (w.drewN d) w') : Below B w w' := ⟨h.os, h.tape, h.output, h.size, h.block⟩

theorem br_base {B base : Nat} {v : Value} {l : List UInt8} {w : World} (h : BR base v l w) (hb : B ≤ base) : BR B v l w := owns_base h hb

/-- A store in which a batch more was written. -/
def St.wr (x : St) (b : List Pr) : St := { x with E := srt (x.E ++ b.map (toEn (x.last + 1))), B := x.B ++ [b], M := srt (x.M ++ b.map (toEn (x.last + 1))), last := x.last + 1 }
/-- The whole journal is synced. -/
def St.syn (x : St) : St := { x with sy := x.B.length }

/-- What writing a batch comes to. -/
def WritePost (D F : Nat → Prop) (sb : Nat) (x : St) (w : World) (e : Ending) (w' : World) : Prop :=
  e = .returned (.tuple #[]) ∧ StoreAt D F sb x w' ∧ Kd D [82, 5, 61] w w'

theorem sorted_new {M : List Pr} {s : Int} (h : Upto M M.length) : Sorted (M.map (toEn s)) := by
  refine List.pairwise_iff_getElem.2 fun i j hi hj hij => ?_
  simp only [List.length_map] at hi hj
  have := h i j _ _ hij hj (List.getElem?_eq_getElem hi) (List.getElem?_eq_getElem hj)
  unfold elt
  rw [oc_lt]
  left
  simpa [toEn] using this

theorem srt_new {E : List En} {M : List Pr} {la : Int} (hE : Sorted E) (hup : Upto M M.length) (hlt : ∀ e ∈ E, e.s ≤ la) : Sorted (srt (E ++ M.map (toEn (la + 1)))) := by
  refine srt_sorted (List.pairwise_append.2 ⟨sorted_dist hE, sorted_dist (sorted_new hup), fun a ha b hb hh => ?_⟩)
  obtain ⟨p, _, rfl⟩ := List.mem_map.1 hb
  have h1 := hlt a ha
  have h2 : a.s = la + 1 := hh.2
  omega

/-- All that Lay asks, behind Entries. -/
theorem lay_ready {D : Nat → Prop} {sb : Nat} {vE : Value} {fl : List Value} {E : List En} {M : List Pr} {la : Int} {w3 w4 : World} {vN : Value}
    (hs : w3.heap[sb]? = some (.cells (vE :: fl).toArray 82 (0, 0))) (hB : D sb) (hD : Opn D w3) (hE : OwnsIn w3 D 61 4 vE E.length (ecells E)) (sE : Sorted E) (hup : Upto M M.length) (hb : Below w3.heap.size w3 w4)
    (hN : w4.ownsRow w3.heap.size 61 4 vN (M.map (toEn (la + 1))).length (ecells (M.map (toEn (la + 1))))) (h1 : 1 ≤ M.length) (h4 : M.length ≤ 4) (hlt : ∀ e ∈ E, e.s ≤ la) (hfew : E.length + 4 < 4500000000000) :
    ∃ gN capN, vN = .slice (some ⟨gN, 0, none⟩) M.length capN ∧ Calls Tryz.prog 156 #[.pointer (some ⟨sb, 0, none⟩), .slice (some ⟨gN, 0, none⟩) M.length capN] w4 fun e w' => LayPost E (M.map (toEn (la + 1))) D 82 sb fl w4 e w' := by
  have hl : (M.map (toEn (la + 1))).length = M.length := List.length_map _
  rcases hN.2 with ⟨_, h0⟩ | ⟨gN, capN, curN, rfl, hbg, hg, _⟩
  · omega
  refine ⟨gN, capN, by rw [hl], ?_⟩
  have hne : vE.ownBlock ≠ some gN := fun e => by have := (hE.own.lt gN e).2; omega
  have h := lay_any E (M.map (toEn (la + 1))) D sb gN capN vE 82 fl curN w4 (by decide) ((Kp.of_below (B := 0) (ts := []) hb).keep hs (by simp)) hB (hD.later hb.size) (hE.below hb) hg (owns_base hN (Nat.zero_le _)) hne sE (sorted_new hup)
    (fun y hy z hz => by
      obtain ⟨q, _, rfl⟩ := List.mem_map.1 hz
      intro hh
      have := hlt y hy
      have h2 : y.s = la + 1 := hh.2
      omega) (by omega) (by omega)
  rw [hl] at h
  exact h

set_option maxHeartbeats 2000000 in
set_option maxRecDepth 100000 in
theorem write_any (D F : Nat → Prop) (sb : Nat) (x : St) (M : List Pr) (vs : Value) (base : Nat) (w : World) (hx : StoreAt D F sb x w) (hD : Opn D w) (hF : ∀ b, b < w.heap.size → F b → ¬ D b) (ok : StOk x) (hM : w.ownsRow base 57 3 vs M.length (pcells M)) (bt : Bt M) (hl1 : x.last < 1100000000000) (hfew : x.E.length + 4 < 4500000000000) :
    Calls Tryz.prog 104 #[.pointer (some ⟨sb, 0, none⟩), vs] w fun e w' => WritePost D F sb (x.wr M) w e w' := by
  have h1 := bt.lo
  have h4 := bt.hi
  have okM := bt.ok
  have hup := bt.up
  have hlt := ok.slast
  have hl0 : 0 ≤ x.last := by have := ok.lv.la0; have := ok.lv.la1; omega
  have hjl := ok.lv.jl hl1
  obtain ⟨vE, vL, vR, vS, hB, hs, hE, hT, hR, hS⟩ := hx
  obtain ⟨la, hla⟩ : ∃ la, x.last = la := ⟨_, rfl⟩
  rw [hla] at hs hl0 hl1 hlt
  have c5 : w.cell? ⟨sb, 7, none⟩ = some (.int .i64 la) := by simp [World.cell?, hs]
  have f5 : w.frozen? ⟨sb, 7, none⟩ = false := by simp [World.frozen?, hs]
  have k1 := Kd.field hB hs 7 (.int .i64 (la + 1))
  have s1 := set_field hs 7 (.int .i64 (la + 1))
  simp only [List.setIfInBounds_toArray, List.set_cons_succ, List.set_cons_zero] at s1
  have e1 := k1.ownsIn hE (by simp)
  have r1 := k1.ownsJ hR (by simp)
  have o1 := k1.ownsIn hS (by simp)
  have m1 := k1.owns hM (by simp)
  generalize hw1 : w.setCell ⟨sb, 7, none⟩ (.int .i64 (la + 1)) = w1 at k1 s1 e1 r1 o1 m1
  have HW : Hid (w.setCell ⟨sb, 7, none⟩ (.int .i64 (la + 1)) = w1) := hw1
  have HD1 : Hid (Opn D w1) := hD.later k1.size
  have HREC : Hid (∀ d, Calls Tryz.prog 144 #[vs] (w1.drewN d) fun e w' => RecPost M (w1.drewN d) e w') := fun d => record_any M vs base (w1.drewN d) m1 h4 okM
  have HALL : Hid (Kd D [82] w w1 ∧ w1.heap[sb]? = some (.cells #[vE, vL, vR, .int .i64 (rl (x.B.take x.sy)), .int .i64 x.la, vS, .int .i64 x.lastSnap, .int .i64 (la + 1)] 82 (0, 0)) ∧ OwnsIn w1 D 61 4 vE x.M.length (ecells x.M) ∧ OwnsJ w1 D vR x.J ∧ OwnsIn w1 D 205 2 vS x.S.length (scells x.S) ∧ w1.ownsRow base 57 3 vs M.length (pcells M) ∧ x.J.length + 1000 ≤ 140737488355328) := ⟨k1, s1, e1, r1, o1, m1, hjl⟩
  have HTB : Hid (TabsIn w D F vL x.T ∧ (∀ b, b < w.heap.size → F b → ¬ D b)) := ⟨hT, hF⟩
  have HBT : Hid (Bt M ∧ (recB M).length ≤ 73 ∧ 1 ≤ (recB M).length) := ⟨bt, by have := recB_len bt; omega, by have := recB_len bt; omega⟩
  have OKX : Hid (StOk x) := ok
  have OKM : Hid (∀ p ∈ M, PrOk p) := okM
  have HUP : Hid (Upto M M.length) := hup
  have HLT : Hid (∀ e ∈ x.M, e.s ≤ la) := fun e he => hlt e ((ok.lv.mem e).1 he).1
  have hmf : x.M.length + 4 < 4500000000000 := by have := sub_len ok.lv.msorted ok.sorted fun e he => ((ok.lv.mem e).1 he).1; omega
  have HLA : Hid (x.last = la) := hla
  clear hD hs hE hT hF hR hS hM ok okM hup hlt bt hjl k1 s1 e1 r1 o1 m1 hw1 hla
  go_enter Tryz.func104, Tryz.ntmps104
  go_wp2
  rw [HW.out]
  go_region_with (first
    | (go_at_call 144; refine Calls.mono (HREC.out 1) ?_; rintro e w2 ⟨vr, rfl, hbr, hbel⟩; have B2 : Hid (Below w1.heap.size w1 w2) := below_from_drewN hbel; have V2 : Hid (BR 0 vr (recB M) w2) := br_base hbr (Nat.zero_le _); have D2 : Hid (Opn D w2) := HD1.out.later B2.out.size; clear hbr hbel)
    | (go_at_call 155; refine (addRecord_any D 0 sb vE vL vR _ _ vS _ _ _ x.J (recB M) _ (by exact (Kp.of_below (B := 0) (ts := []) B2.out).keep HALL.out.2.1 (by simp)) hB D2.out (by exact (Kd.of_below (D := D) (ts := []) B2.out).ownsJ HALL.out.2.2.2.1 (by simp)) V2.out HBT.out.2.2 (by have := HALL.out.2.2.2.2.2.2; have := HBT.out.2.1; omega)).mono ?_; rintro e w3 ⟨rfl, vR3, h3s, h3o, h3k⟩; have A3 : Hid (w3.heap[sb]? = some (.cells #[vE, vL, vR3, .int .i64 (rl (x.B.take x.sy)), .int .i64 x.la, vS, .int .i64 x.lastSnap, .int .i64 (la + 1)] 82 (0, 0)) ∧ OwnsJ w3 D vR3 (x.J ++ recB M) ∧ Kd D [82, 5] w1 w3) := ⟨h3s, h3o, (Kd.of_below B2.out).trans h3k⟩; clear h3s h3o h3k))
  go_wp2
  have c5b : w3.cell? ⟨sb, 7, none⟩ = some (.int .i64 (la + 1)) := by simp [World.cell?, A3.out.1]
  have K3 : Hid (Kd D [82, 5] w1 w3) := A3.out.2.2
  have HENT : Hid (∀ d, Calls Tryz.prog 49 #[vs, .int .i64 (la + 1)] (w3.drewN d) fun e w' => EntPost M (la + 1) (w3.drewN d) e w') := fun d => entries_any M vs base (la + 1) (w3.drewN d) (K3.out.owns HALL.out.2.2.2.2.2.1 (by simp)) h4
  have HD3 : Hid (Opn D w3) := HD1.out.later K3.out.size
  have E3 : Hid (OwnsIn w3 D 61 4 vE x.M.length (ecells x.M)) := K3.out.ownsIn HALL.out.2.2.1 (by simp)
  go_region_with (first
    | (go_at_call 49; refine Calls.mono (HENT.out 1) ?_; rintro e w4 ⟨vN, rfl, hoN, hbN⟩; obtain ⟨gN, capN, hLAY⟩ := lay_ready A3.out.1 hB HD3.out E3.out OKX.out.lv.msorted HUP.out (below_from_drewN hbN) hoN h1 h4 HLT.out (by omega); obtain ⟨rfl, hLAY⟩ := hLAY; have HLAY : Hid _ := hLAY; have B4 : Hid (Below w3.heap.size w3 w4) := below_from_drewN hbN; clear hLAY hoN hbN)
    | (go_at_call 156; refine Calls.mono HLAY.out ?_; rintro e w5 ⟨rfl, V5, F5, h5s, h5o, h5r, h5m, h5l, h5k⟩; have A5 : Hid (w5.heap[sb]? = some (.cells #[V5, vL, vR3, .int .i64 (rl (x.B.take x.sy)), .int .i64 x.la, vS, .int .i64 x.lastSnap, .int .i64 (la + 1)] 82 (0, 0)) ∧ OwnsIn w5 D 61 4 V5 F5.length (ecells F5) ∧ Sorted F5 ∧ (∀ y, y ∈ F5 ↔ y ∈ x.M ∨ y ∈ M.map (toEn (la + 1))) ∧ F5.length = x.M.length + (M.map (toEn (la + 1))).length ∧ Kd D [82, 61] w4 w5) := ⟨h5s, h5o, h5r, h5m, h5l, h5k⟩; clear h5s h5o h5r h5m h5l h5k))
  go_wp2
  go_end0
  have K35 : Kd D [82, 5, 61] w3 w5 := (Kd.of_below B4.out).trans (A5.out.2.2.2.2.2.mono (by simp))
  have KALL : Kd D [82, 5, 61] w w5 := ((HALL.out.1.mono (by simp)).trans (K3.out.mono (by simp))).trans K35
  have hF5 : F5 = (x.wr M).M := sorted_ext A5.out.2.2.1 (srt_new OKX.out.lv.msorted HUP.out fun e he => by rw [HLA.out]; exact HLT.out e he) fun e => by
    rw [A5.out.2.2.2.1]
    show _ ↔ e ∈ srt _
    rw [srt_mem, List.mem_append, HLA.out]
  have hJ : (x.wr M).J = x.J ++ recB M := by simp [St.J, St.wr]
  have hsy : (x.wr M).B.take (x.wr M).sy = x.B.take x.sy := List.take_append_of_le_length OKX.out.lv.bsy
  refine ⟨rfl, ⟨V5, vL, vR3, vS, hB, ?_, by rw [← hF5]; exact A5.out.2.1, HTB.out.1.kept KALL (by simp) HTB.out.2, ?_, ?_⟩, KALL⟩
  · rw [hsy]
    show _ = some (Obj.cells #[V5, vL, vR3, .int .i64 (rl (x.B.take x.sy)), .int .i64 x.la, vS, .int .i64 x.lastSnap, .int .i64 (x.last + 1)] 82 (0, 0))
    rw [HLA.out]; exact A5.out.1
  · rw [hJ]
    exact ((Kd.of_below (D := D) (ts := [82, 61]) B4.out).trans A5.out.2.2.2.2.2).ownsJ A3.out.2.1 (by simp)
  · exact (((K3.out.mono (by simp) : Kd D [82, 5, 61] w1 w3)).trans K35).ownsIn HALL.out.2.2.2.2.1 (by simp)

theorem St.syn_rl (x : St) : x.J.length = rl (x.syn.B.take x.syn.sy) := by
  show _ = rl (x.B.take x.B.length)
  rw [List.take_length]
  rfl

set_option maxHeartbeats 400000 in
theorem syncAll_any (D F : Nat → Prop) (sb : Nat) (x : St) (w : World) (hx : StoreAt D F sb x w) :
    Calls Tryz.prog 97 #[.pointer (some ⟨sb, 2, none⟩)] w fun e w' => e = .returned (.tuple #[]) ∧ StoreAt D F sb x.syn w' ∧ Kd D [82] w w' := by
  have hrl := x.syn_rl
  obtain ⟨vE, vL, vR, vS, hB, hs, hE, hT, hR, hS⟩ := hx
  obtain ⟨aoR, capR, rfl⟩ := hR.form
  have c1 : w.cell? ⟨sb, 2, none⟩ = some (.slice aoR x.J.length capR) := by simp [World.cell?, hs]
  have c2 : w.cell? ⟨sb, 3, none⟩ = some (.int .i64 (rl (x.B.take x.sy))) := by simp [World.cell?, hs]
  have f2 : w.frozen? ⟨sb, 3, none⟩ = false := by simp [World.frozen?, hs]
  have HF : Hid (StoreAt D F sb x.syn (w.setCell ⟨sb, 3, none⟩ (.int .i64 (x.J.length : Int))) ∧ Kd D [82] w (w.setCell ⟨sb, 3, none⟩ (.int .i64 (x.J.length : Int)))) := by
    have kf := Kd.field hB hs 3 (.int .i64 (x.J.length : Int))
    refine ⟨⟨vE, vL, .slice aoR x.J.length capR, vS, hB, ?_, kf.ownsIn hE (by simp), hT.kd kf (by simp) (by simp), kf.ownsJ hR (by simp), kf.ownsIn hS (by simp)⟩, kf⟩
    rw [set_field hs 3 _, ← hrl]; rfl
  clear hs hE hT hR hS hrl
  go_enter Tryz.func97, Tryz.ntmps97
  go_wp2
  go_end0
  exact ⟨rfl, HF.out⟩

/-- The batch that pairs come to. -/
def Settles (Lp M : List Pr) : Prop := SamePr (keep Lp) M ∧ Upto M M.length

theorem Settles.bt {Lp M : List Pr} (h : Settles Lp M) (h1 : 1 ≤ Lp.length) (h4 : Lp.length ≤ 4) (okL : ∀ p ∈ Lp, PrOk p) : Bt M := by
  have hk1 := keep_pos h1
  have hk2 := keep_len Lp
  have hml := h.1.1
  exact ⟨by omega, by omega, fun p hp => okL p (keep_sub ((h.1.2 p).1 hp)), h.2⟩

/-- A store behind a Write. -/
def St.wrs (x : St) (b : List Pr) (sync : Bool) : St := if sync then (x.wr b).syn else x.wr b

/-- What Write comes to, of a batch. -/
def BatchPost (D F : Nat → Prop) (sb : Nat) (x : St) (Lp : List Pr) (sync : Bool) (w : World) (e : Ending) (w' : World) : Prop :=
  e = .returned (.tuple #[.int .i64 (x.last + 1), .int .i64 0]) ∧ ∃ M : List Pr, Settles Lp M ∧ StoreAt D F sb (x.wrs M sync) w' ∧ Kd D [82, 5, 61] w w'

set_option maxHeartbeats 2000000 in
set_option maxRecDepth 100000 in
theorem writeCall_any (D F : Nat → Prop) (sb : Nat) (x : St) (Lp : List Pr) (v : Value) (base : Nat) (sync : Bool) (w : World) (hx : StoreAt D F sb x w) (hD : Opn D w) (hF : ∀ b, F b → ¬ D b) (ok : StOk x) (hL : w.ownsRow base 57 3 v Lp.length (pcells Lp)) (h1 : 1 ≤ Lp.length) (h4 : Lp.length ≤ 4) (okL : ∀ p ∈ Lp, PrOk p)
    (hl1 : x.last < 1100000000000) (hfew : x.E.length + 4 < 4500000000000) :
    Calls Tryz.prog 54 #[.pointer (some ⟨sb, 0, none⟩), v, .bool sync] w fun e w' => BatchPost D F sb x Lp sync w e w' := by
  have HC : Hid (Calls Tryz.prog 103 #[v] w fun e w' => e = .returned (.int .i64 0) ∧ Below w.heap.size w w') := check_any Lp v base w hL h1 h4 okL
  have HS : Hid (∀ w1, Below w.heap.size w w1 → Calls Tryz.prog 105 #[v] w1 fun e w' => SettlePost Lp w1 e w') := fun w1 hb => settle_any Lp v base w1 ((Kp.of_below (B := 0) (ts := []) hb).owns hL (by simp)) h1 h4 okL
  have HWR : Hid (∀ (M : List Pr) (vs : Value) (b : Nat) (w1 : World), Below w.heap.size w w1 → Settles Lp M → w1.ownsRow b 57 3 vs M.length (pcells M) → Calls Tryz.prog 104 #[.pointer (some ⟨sb, 0, none⟩), vs] w1 fun e w' => WritePost D F sb (x.wr M) w1 e w') := fun M vs b w1 hb hse ho =>
    write_any D F sb x M vs b w1 (hx.below hb) (hD.later hb.size) (fun b _ hfb => hF b hfb) ok ho (hse.bt h1 h4 okL) hl1 hfew
  clear hx hD hF ok hL okL
  go_enter Tryz.func54, Tryz.ntmps54
  go_wp2_with fail
  refine Calls.mono HC.out ?_
  rintro e w1 ⟨rfl, hb1⟩
  have B1 : Hid (Below w.heap.size w w1) := hb1
  clear hb1
  go_wp2_with fail
  refine Calls.mono (HS.out _ B1.out) ?_
  rintro e w2 ⟨vs, M, rfl, hsm, hup, hown, hb2⟩
  have B2 : Hid (Below w.heap.size w w2) := below_trans' B1.out hb2
  have A2 : Hid (Settles Lp M ∧ w2.ownsRow w1.heap.size 57 3 vs M.length (pcells M)) := ⟨⟨hsm, hup⟩, hown⟩
  clear hsm hup hown hb2
  go_wp2_with fail
  refine Calls.mono (HWR.out M vs w1.heap.size _ B2.out A2.out.1 A2.out.2) ?_
  rintro e w3 ⟨rfl, hF4, hF5⟩
  have A3 : Hid (StoreAt D F sb (x.wr M) w3 ∧ Kd D [82, 5, 61] w w3) := ⟨hF4, (Kd.of_below B2.out).trans hF5⟩
  clear hF4 hF5
  cases sync with
  | false =>
    have c5 : w3.cell? ⟨sb, 7, none⟩ = some (.int .i64 (x.last + 1)) := by
      obtain ⟨vE, vL, vR, vS, hB, hs, _⟩ := A3.out.1
      simp [World.cell?, hs, St.wr]
    go_wp2
    go_ret2
    exact ⟨rfl, M, A2.out.1, A3.out.1, A3.out.2⟩
  | true =>
    have HSY : Hid _ := syncAll_any D F sb _ w3 A3.out.1
    go_wp2_with fail
    refine Calls.mono HSY.out ?_
    rintro e w4 ⟨rfl, hst, hkp⟩
    have A4 : Hid (StoreAt D F sb (x.wr M).syn w4 ∧ Kd D [82, 5, 61] w w4) := ⟨hst, A3.out.2.trans (hkp.mono (by simp))⟩
    have c5 : w4.cell? ⟨sb, 7, none⟩ = some (.int .i64 (x.last + 1)) := by
      obtain ⟨vE, vL, vR, vS, hB, hs, _⟩ := A4.out.1
      simp [World.cell?, hs, St.wr, St.syn]
    clear hst hkp HSY
    go_wp2
    go_ret2
    exact ⟨rfl, M, A2.out.1, A4.out.1, A4.out.2⟩
end Go.Proofs.YtakipjofboipmaaGreatDoor
