/- The walks of this proof: writing a batch. -/
import Derived.Test.YtojdkfamihlnkaaGreatDoorW19
namespace Go.Proofs.YtojdkfamihlnkaaGreatDoor
open Go.RowKit Go.Sort

/-- What addRecord comes to. -/
def AddPost (D : Nat → Prop) (sb : Nat) (vE a2 a3 a4 a5 : Value) (R : List Value) (m : Nat) (w : World) (e : Ending) (w' : World) : Prop :=
  e = .returned (.tuple #[]) ∧ ∃ (v : Value) (R' : List Value), w'.heap[sb]? = some (.cells #[vE, v, a2, a3, a4, a5] 81 (0, 0)) ∧ OwnsIn w' D 5 1 v R'.length R' ∧ R'.length = R.length + m ∧ Kd D [81, 5] w w'

set_option maxHeartbeats 1000000 in
set_option maxRecDepth 100000 in
theorem addRecord_any (D : Nat → Prop) (B sb : Nat) (vE vR a2 a3 a4 a5 v : Value) (R : List Value) (m : Nat) (w : World) (hs : w.heap[sb]? = some (.cells #[vE, vR, a2, a3, a4, a5] 81 (0, 0))) (hB : D sb) (hD : Opn D w) (hR : OwnsIn w D 5 1 vR R.length R) (hv : BR B v m w) (hm : 1 ≤ m) (hl : R.length + m ≤ 140737488355328) :
    Calls Tryz.prog 98 #[.pointer (some ⟨sb, 1, none⟩), v] w fun e w' => AddPost D sb vE a2 a3 a4 a5 R m w e w' := by
  obtain ⟨i0, hi, hz0, hz1, hz2⟩ := info_parts Tryz.info5
  obtain ⟨R2, ho2, hR2⟩ := hv
  obtain ⟨g2, cap2, rfl, hB2, hg2⟩ := ho2.form (by omega)
  have hnews : Hid (∀ j u, R2[j]? = some u → w.cell? ((⟨g2, 0, none⟩ : Addr).add j) = some u) := ho2.cells (g := g2) rfl
  have hl2 : R2.length = m * 1 := ho2.1
  have hone : Hid (∀ u ∈ R2, u.oneCell' = true) := fun u hu => by obtain ⟨x, rfl⟩ := hR2 u hu; rfl
  obtain ⟨aoR, capR, rfl⟩ := slice_form hR.own
  have c1 : w.cell? ⟨sb, 1, none⟩ = some (.slice aoR R.length capR) := by simp [World.cell?, hs]
  have HD : Hid (Opn D w) := hD
  have HS : Hid (w.heap[sb]? = some (.cells #[vE, .slice aoR R.length capR, a2, a3, a4, a5] 81 (0, 0))) := hs
  have HO : Hid (OwnsIn w D 5 1 (.slice aoR R.length capR) R.length R) := hR
  clear ho2 hR2 hs hR hD
  go_enter Tryz.func98, Tryz.ntmps98
  go_wp2_with (at_builtin; refine wpList_append_lies _ rfl (.tmp 8) (.tmp 9) 74 rfl 0 5 i0 _ 1 1 Tryz.underlying74 hi hz0 hz1 hz2 rfl (by decide) _ _ _ rfl HO.out.own ⟨g2, 0, none⟩ m cap2 R2 rfl hl2 hnews.out hone.out (by omega) (by unfold maxLen; omega) (by omega) (Nat.zero_le _) _ rfl ?_)
  intro g1 cap1 w1 ho1 hg1 hat hlt
  have K1 : Kd D [5] w w1 := (Kd.refl D [5] w).grown HO.out hg1 (by simp)
  have hs1 := K1.keep HS.out (by simp)
  have HF : Hid (AddPost D sb vE a2 a3 a4 a5 R m w (.returned (.tuple #[])) (w1.setCell ⟨sb, 1, none⟩ (.slice (some ⟨g1, 0, none⟩) (R.length + m) cap1))) := by
    have kf := Kd.field hB hs1 1 (.slice (some ⟨g1, 0, none⟩) (R.length + m) cap1)
    have e : (R ++ R2).length = R.length + m := by rw [List.length_append, hl2]; omega
    refine ⟨rfl, .slice (some ⟨g1, 0, none⟩) (R.length + m) cap1, R ++ R2, by rw [set_field hs1 1 _]; simp, ?_, e, (K1.mono (by simp)).trans (kf.mono (by simp))⟩
    rw [e]
    exact kf.ownsIn (HO.out.lies HD.out ho1 hat) (by simp)
  have c1' : w1.cell? ⟨sb, 1, none⟩ = some (.slice aoR R.length capR) := by simp [World.cell?, hs1]
  have f1' : w1.frozen? ⟨sb, 1, none⟩ = false := by simp [World.frozen?, hs1]
  clear ho1 hg1 hs1 K1 hat hlt
  go_wp2
  go_end0
  exact HF.out

theorem below_from_drewN {B d : Nat} {w w' : World} (h : Below B (w.drewN d) w') : Below B w w' := ⟨h.os, h.tape, h.output, h.size, h.block⟩

theorem br_base {B base : Nat} {v : Value} {n : Nat} {w : World} (h : BR base v n w) (hb : B ≤ base) : BR B v n w :=
  let ⟨R, h1, h2⟩ := h
  ⟨R, owns_base h1 hb, h2⟩

/-- What writing a batch comes to. -/
def WritePost (D : Nat → Prop) (sb : Nat) (x : St) (M : List Pr) (w : World) (e : Ending) (w' : World) : Prop :=
  e = .returned (.tuple #[]) ∧ ∃ F : List En, Sorted F ∧ (∀ y, y ∈ F ↔ y ∈ x.E ∨ y ∈ M.map (toEn (x.last + 1))) ∧ F.length = x.E.length + M.length ∧
    StoreAt D sb { x with E := F, last := x.last + 1, jl := x.jl + 1000 } w' ∧ Kd D [81, 5, 61] w w'

theorem sorted_new {M : List Pr} {s : Int} (h : Upto M M.length) : Sorted (M.map (toEn s)) := by
  refine List.pairwise_iff_getElem.2 fun i j hi hj hij => ?_
  simp only [List.length_map] at hi hj
  have := h i j _ _ hij hj (List.getElem?_eq_getElem hi) (List.getElem?_eq_getElem hj)
  unfold elt
  rw [oc_lt]
  left
  simpa [toEn] using this

/-- All that Lay asks, behind Entries. -/
theorem lay_ready {D : Nat → Prop} {sb : Nat} {vE : Value} {a1 a2 a3 a4 a5 : Value} {E : List En} {M : List Pr} {la : Int} {w3 w4 : World} {vN : Value}
    (hs : w3.heap[sb]? = some (.cells #[vE, a1, a2, a3, a4, a5] 81 (0, 0))) (hB : D sb) (hD : Opn D w3) (hE : OwnsIn w3 D 61 4 vE E.length (ecells E)) (sE : Sorted E) (hup : Upto M M.length) (hb : Below w3.heap.size w3 w4)
    (hN : w4.ownsRow w3.heap.size 61 4 vN (M.map (toEn (la + 1))).length (ecells (M.map (toEn (la + 1))))) (h1 : 1 ≤ M.length) (h4 : M.length ≤ 4) (hlt : ∀ e ∈ E, e.s ≤ la) (hfew : E.length + 4 < 1000000000) :
    ∃ gN capN, vN = .slice (some ⟨gN, 0, none⟩) M.length capN ∧ Calls Tryz.prog 100 #[.pointer (some ⟨sb, 0, none⟩), .slice (some ⟨gN, 0, none⟩) M.length capN] w4 fun e w' => LayPost E (M.map (toEn (la + 1))) D sb [a1, a2, a3, a4, a5] w4 e w' := by
  have hl : (M.map (toEn (la + 1))).length = M.length := List.length_map _
  rcases hN.2 with ⟨_, h0⟩ | ⟨gN, capN, curN, rfl, hbg, hg, _⟩
  · omega
  refine ⟨gN, capN, by rw [hl], ?_⟩
  have hne : vE.ownBlock ≠ some gN := fun e => by have := (hE.own.lt gN e).2; omega
  have h := lay_any E (M.map (toEn (la + 1))) D sb gN capN vE a1 a2 a3 a4 a5 curN w4 ((Kp.of_below (B := 0) (ts := []) hb).keep hs (by simp)) hB (hD.later hb.size) (hE.below hb) hg (owns_base hN (Nat.zero_le _)) hne sE (sorted_new hup)
    (fun y hy z hz => by
      obtain ⟨q, _, rfl⟩ := List.mem_map.1 hz
      intro hh
      have := hlt y hy
      have h2 : y.s = la + 1 := hh.2
      omega) (by omega) (by omega) (by omega)
  rw [hl] at h
  exact h

set_option maxHeartbeats 2000000 in
set_option maxRecDepth 100000 in
theorem write_any (D : Nat → Prop) (sb : Nat) (x : St) (M : List Pr) (vs : Value) (base : Nat) (w : World) (hx : StoreAt D sb x w) (hD : Opn D w) (ok : StOk x) (hM : w.ownsRow base 57 3 vs M.length (pcells M)) (h1 : 1 ≤ M.length) (h4 : M.length ≤ 4) (okM : ∀ p ∈ M, PrOk p) (hup : Upto M M.length)
    (hl0 : 0 ≤ x.last) (hl1 : x.last < 1000000000) (hlt : ∀ e ∈ x.E, e.s ≤ x.last) (hfew : x.E.length + 4 < 1000000000) (hj : x.jl + 1000 ≤ 140737488355328) :
    Calls Tryz.prog 79 #[.pointer (some ⟨sb, 0, none⟩), vs] w fun e w' => WritePost D sb x M w e w' := by
  obtain ⟨vE, vR, vS, R, hB, hs, hE, hR, hS, hl⟩ := hx
  obtain ⟨la, hla⟩ : ∃ la, x.last = la := ⟨_, rfl⟩
  rw [hla] at hs hl0 hl1 hlt
  have c5 : w.cell? ⟨sb, 5, none⟩ = some (.int .i64 la) := by simp [World.cell?, hs]
  have f5 : w.frozen? ⟨sb, 5, none⟩ = false := by simp [World.frozen?, hs]
  have k1 := Kd.field hB hs 5 (.int .i64 (la + 1))
  have s1 := set_field hs 5 (.int .i64 (la + 1))
  simp only [List.setIfInBounds_toArray, List.set_cons_succ, List.set_cons_zero] at s1
  have e1 := k1.ownsIn hE (by simp)
  have r1 := k1.ownsIn hR (by simp)
  have o1 := k1.ownsIn hS (by simp)
  have m1 := k1.owns hM (by simp)
  generalize hw1 : w.setCell ⟨sb, 5, none⟩ (.int .i64 (la + 1)) = w1 at k1 s1 e1 r1 o1 m1
  have HW : Hid (w.setCell ⟨sb, 5, none⟩ (.int .i64 (la + 1)) = w1) := hw1
  have HD1 : Hid (Opn D w1) := hD.later k1.size
  have HREC : Hid (∀ d, Calls Tryz.prog 99 #[vs] (w1.drewN d) fun e w' => RecPost (w1.drewN d) e w') := fun d => record_any M vs base (w1.drewN d) m1 h4 okM
  have HALL : Hid (Kd D [81] w w1 ∧ w1.heap[sb]? = some (.cells #[vE, vR, .int .i64 x.synced, vS, .int .i64 x.lastSnap, .int .i64 (la + 1)] 81 (0, 0)) ∧ OwnsIn w1 D 61 4 vE x.E.length (ecells x.E) ∧ OwnsIn w1 D 5 1 vR R.length R ∧ OwnsIn w1 D 165 2 vS x.S.length (scells x.S) ∧ w1.ownsRow base 57 3 vs M.length (pcells M) ∧ R.length ≤ x.jl) := ⟨k1, s1, e1, r1, o1, m1, hl⟩
  have OKX : Hid (StOk x) := ok
  have OKM : Hid (∀ p ∈ M, PrOk p) := okM
  have HUP : Hid (Upto M M.length) := hup
  have HLT : Hid (∀ e ∈ x.E, e.s ≤ la) := hlt
  have HLA : Hid (x.last = la) := hla
  clear hD hs hE hR hS hl hM ok okM hup hlt k1 s1 e1 r1 o1 m1 hw1 hla
  go_enter Tryz.func79, Tryz.ntmps79
  go_wp2
  rw [HW.out]
  go_region_with (first
    | (go_at_call 99; refine Calls.mono (HREC.out 1) ?_; rintro e w2 ⟨vr, m, rfl, hm1, hm, hbr, hbel⟩; have B2 : Hid (Below w1.heap.size w1 w2) := below_from_drewN hbel; have V2 : Hid (BR 0 vr m w2) := br_base hbr (Nat.zero_le _); have D2 : Hid (Opn D w2) := HD1.out.later B2.out.size; clear hbr hbel)
    | (go_at_call 98; refine (addRecord_any D 0 sb vE vR _ vS _ _ _ R _ _ (by exact (Kp.of_below (B := 0) (ts := []) B2.out).keep HALL.out.2.1 (by simp)) hB D2.out (by exact HALL.out.2.2.2.1.below B2.out) V2.out hm1 (by have := HALL.out.2.2.2.2.2.2; omega)).mono ?_; rintro e w3 ⟨rfl, vR3, R3, h3s, h3o, h3l, h3k⟩; have A3 : Hid (w3.heap[sb]? = some (.cells #[vE, vR3, .int .i64 x.synced, vS, .int .i64 x.lastSnap, .int .i64 (la + 1)] 81 (0, 0)) ∧ OwnsIn w3 D 5 1 vR3 R3.length R3 ∧ R3.length ≤ x.jl + 1000 ∧ Kd D [81, 5] w1 w3) := ⟨h3s, h3o, by have := HALL.out.2.2.2.2.2.2; omega, (Kd.of_below B2.out).trans h3k⟩; clear h3s h3o h3l h3k))
  go_wp2
  have c5b : w3.cell? ⟨sb, 5, none⟩ = some (.int .i64 (la + 1)) := by simp [World.cell?, A3.out.1]
  have K3 : Hid (Kd D [81, 5] w1 w3) := A3.out.2.2.2
  have HENT : Hid (∀ d, Calls Tryz.prog 101 #[vs, .int .i64 (la + 1)] (w3.drewN d) fun e w' => EntPost M (la + 1) (w3.drewN d) e w') := fun d => entries_any M vs base (la + 1) (w3.drewN d) (K3.out.owns HALL.out.2.2.2.2.2.1 (by simp)) h4
  have HD3 : Hid (Opn D w3) := HD1.out.later K3.out.size
  have E3 : Hid (OwnsIn w3 D 61 4 vE x.E.length (ecells x.E)) := K3.out.ownsIn HALL.out.2.2.1 (by simp)
  go_region_with (first
    | (go_at_call 101; refine Calls.mono (HENT.out 1) ?_; rintro e w4 ⟨vN, rfl, hoN, hbN⟩; obtain ⟨gN, capN, hLAY⟩ := lay_ready A3.out.1 hB HD3.out E3.out OKX.out.sorted HUP.out (below_from_drewN hbN) hoN h1 h4 HLT.out (by omega); obtain ⟨rfl, hLAY⟩ := hLAY; have HLAY : Hid _ := hLAY; have B4 : Hid (Below w3.heap.size w3 w4) := below_from_drewN hbN; clear hLAY hoN hbN)
    | (go_at_call 100; refine Calls.mono HLAY.out ?_; rintro e w5 ⟨rfl, V5, F5, h5s, h5o, h5r, h5m, h5l, h5k⟩; have A5 : Hid (w5.heap[sb]? = some (.cells #[V5, vR3, .int .i64 x.synced, vS, .int .i64 x.lastSnap, .int .i64 (la + 1)] 81 (0, 0)) ∧ OwnsIn w5 D 61 4 V5 F5.length (ecells F5) ∧ Sorted F5 ∧ (∀ y, y ∈ F5 ↔ y ∈ x.E ∨ y ∈ M.map (toEn (la + 1))) ∧ F5.length = x.E.length + (M.map (toEn (la + 1))).length ∧ Kd D [81, 61] w4 w5) := ⟨h5s, h5o, h5r, h5m, h5l, h5k⟩; clear h5s h5o h5r h5m h5l h5k))
  go_wp2
  go_end0
  have K35 : Kd D [81, 5, 61] w3 w5 := (Kd.of_below B4.out).trans (A5.out.2.2.2.2.2.mono (by simp))
  refine ⟨rfl, F5, A5.out.2.2.1, by rw [HLA.out]; exact A5.out.2.2.2.1, by rw [A5.out.2.2.2.2.1, List.length_map], ?_, ((HALL.out.1.mono (by simp)).trans (K3.out.mono (by simp))).trans K35⟩
  refine ⟨V5, vR3, vS, R3, hB, by rw [HLA.out]; exact A5.out.1, A5.out.2.1, ?_, ?_, A3.out.2.2.1⟩
  · exact ((Kd.of_below (D := D) (ts := [81, 61]) B4.out).trans A5.out.2.2.2.2.2).ownsIn A3.out.2.1 (by simp)
  · exact (((K3.out.mono (by simp) : Kd D [81, 5, 61] w1 w3)).trans K35).ownsIn HALL.out.2.2.2.2.1 (by simp)

set_option maxHeartbeats 400000 in
theorem syncAll_any (D : Nat → Prop) (sb : Nat) (x : St) (w : World) (hx : StoreAt D sb x w) :
    Calls Tryz.prog 81 #[.pointer (some ⟨sb, 1, none⟩)] w fun e w' => e = .returned (.tuple #[]) ∧ ∃ n : Int, StoreAt D sb { x with synced := n } w' ∧ Kd D [81] w w' := by
  obtain ⟨vE, vR, vS, R, hB, hs, hE, hR, hS, hl⟩ := hx
  obtain ⟨aoR, capR, rfl⟩ := slice_form hR.own
  have c1 : w.cell? ⟨sb, 1, none⟩ = some (.slice aoR R.length capR) := by simp [World.cell?, hs]
  have c2 : w.cell? ⟨sb, 2, none⟩ = some (.int .i64 x.synced) := by simp [World.cell?, hs]
  have f2 : w.frozen? ⟨sb, 2, none⟩ = false := by simp [World.frozen?, hs]
  have HF : Hid (StoreAt D sb { x with synced := (R.length : Int) } (w.setCell ⟨sb, 2, none⟩ (.int .i64 (R.length : Int))) ∧ Kd D [81] w (w.setCell ⟨sb, 2, none⟩ (.int .i64 (R.length : Int)))) := by
    have kf := Kd.field hB hs 2 (.int .i64 (R.length : Int))
    exact ⟨⟨vE, .slice aoR R.length capR, vS, R, hB, by rw [set_field hs 2 _]; simp, kf.ownsIn hE (by simp), kf.ownsIn hR (by simp), kf.ownsIn hS (by simp), hl⟩, kf⟩
  clear hs hE hR hS hl
  go_enter Tryz.func81, Tryz.ntmps81
  go_wp2
  go_end0
  exact ⟨rfl, _, HF.out⟩

/-- What Write comes to, of a batch. -/
def BatchPost (D : Nat → Prop) (sb : Nat) (x : St) (Lp : List Pr) (w : World) (e : Ending) (w' : World) : Prop :=
  e = .returned (.tuple #[.int .i64 (x.last + 1), .int .i64 0]) ∧ ∃ (M : List Pr) (F : List En) (n : Int), SamePr (keep Lp) M ∧ Sorted F ∧ (∀ y, y ∈ F ↔ y ∈ x.E ∨ y ∈ M.map (toEn (x.last + 1))) ∧ F.length = x.E.length + M.length ∧
    StoreAt D sb { x with E := F, last := x.last + 1, jl := x.jl + 1000, synced := n } w' ∧ Kd D [81, 5, 61] w w'

set_option maxHeartbeats 2000000 in
set_option maxRecDepth 100000 in
theorem writeCall_any (D : Nat → Prop) (sb : Nat) (x : St) (Lp : List Pr) (v : Value) (base : Nat) (sync : Bool) (w : World) (hx : StoreAt D sb x w) (hD : Opn D w) (ok : StOk x) (hL : w.ownsRow base 57 3 v Lp.length (pcells Lp)) (h1 : 1 ≤ Lp.length) (h4 : Lp.length ≤ 4) (okL : ∀ p ∈ Lp, PrOk p)
    (hl0 : 0 ≤ x.last) (hl1 : x.last < 1000000000) (hlt : ∀ e ∈ x.E, e.s ≤ x.last) (hfew : x.E.length + 4 < 1000000000) (hj : x.jl + 1000 ≤ 140737488355328) :
    Calls Tryz.prog 47 #[.pointer (some ⟨sb, 0, none⟩), v, .bool sync] w fun e w' => BatchPost D sb x Lp w e w' := by
  have HC : Hid (Calls Tryz.prog 78 #[v] w fun e w' => e = .returned (.int .i64 0) ∧ Below w.heap.size w w') := check_any Lp v base w hL h1 h4 okL
  have HS : Hid (∀ w1, Below w.heap.size w w1 → Calls Tryz.prog 80 #[v] w1 fun e w' => SettlePost Lp w1 e w') := fun w1 hb => settle_any Lp v base w1 ((Kp.of_below (B := 0) (ts := []) hb).owns hL (by simp)) h1 h4 okL
  have HWR : Hid (∀ (M : List Pr) (vs : Value) (b : Nat) (w1 : World), Below w.heap.size w w1 → SamePr (keep Lp) M → Upto M M.length → w1.ownsRow b 57 3 vs M.length (pcells M) → Calls Tryz.prog 79 #[.pointer (some ⟨sb, 0, none⟩), vs] w1 fun e w' => WritePost D sb x M w1 e w') := fun M vs b w1 hb hsm hup ho => by
    have hk1 := keep_pos h1
    have hk2 := keep_len Lp
    have hml := hsm.1
    exact write_any D sb x M vs b w1 (hx.below hb) (hD.later hb.size) ok ho (by omega) (by omega) (fun p hp => okL p (keep_sub ((hsm.2 p).1 hp))) hup hl0 hl1 hlt hfew hj
  clear hx hD ok hL okL hlt
  go_enter Tryz.func47, Tryz.ntmps47
  go_wp2_with fail
  refine Calls.mono HC.out ?_
  rintro e w1 ⟨rfl, hb1⟩
  have B1 : Hid (Below w.heap.size w w1) := hb1
  clear hb1
  go_wp2_with fail
  refine Calls.mono (HS.out _ B1.out) ?_
  rintro e w2 ⟨vs, M, rfl, hsm, hup, hown, hb2⟩
  have B2 : Hid (Below w.heap.size w w2) := below_trans' B1.out hb2
  have A2 : Hid (SamePr (keep Lp) M ∧ Upto M M.length ∧ w2.ownsRow w1.heap.size 57 3 vs M.length (pcells M)) := ⟨hsm, hup, hown⟩
  clear hsm hup hown hb2
  go_wp2_with fail
  refine Calls.mono (HWR.out M vs w1.heap.size _ B2.out A2.out.1 A2.out.2.1 A2.out.2.2) ?_
  rintro e w3 ⟨rfl, F, hF1, hF2, hF3, hF4, hF5⟩
  have A3 : Hid (Sorted F ∧ (∀ y, y ∈ F ↔ y ∈ x.E ∨ y ∈ M.map (toEn (x.last + 1))) ∧ F.length = x.E.length + M.length ∧ StoreAt D sb { x with E := F, last := x.last + 1, jl := x.jl + 1000 } w3 ∧ Kd D [81, 5, 61] w w3) := ⟨hF1, hF2, hF3, hF4, (Kd.of_below B2.out).trans hF5⟩
  clear hF1 hF2 hF3 hF4 hF5
  cases sync with
  | false =>
    have c5 : w3.cell? ⟨sb, 5, none⟩ = some (.int .i64 (x.last + 1)) := by
      obtain ⟨vE, vR, vS, R, hB, hs, _⟩ := A3.out.2.2.2.1
      simp [World.cell?, hs]
    go_wp2
    go_ret2
    exact ⟨rfl, M, F, x.synced, A2.out.1, A3.out.1, A3.out.2.1, A3.out.2.2.1, A3.out.2.2.2.1, A3.out.2.2.2.2⟩
  | true =>
    have HSY : Hid _ := syncAll_any D sb _ w3 A3.out.2.2.2.1
    go_wp2_with fail
    refine Calls.mono HSY.out ?_
    rintro e w4 ⟨rfl, n, hst, hkp⟩
    have A4 : Hid (StoreAt D sb { x with E := F, last := x.last + 1, jl := x.jl + 1000, synced := n } w4 ∧ Kd D [81, 5, 61] w w4) := ⟨hst, A3.out.2.2.2.2.trans (hkp.mono (by simp))⟩
    have c5 : w4.cell? ⟨sb, 5, none⟩ = some (.int .i64 (x.last + 1)) := by
      obtain ⟨vE, vR, vS, R, hB, hs, _⟩ := A4.out.1
      simp [World.cell?, hs]
    clear hst hkp HSY
    go_wp2
    go_ret2
    exact ⟨rfl, M, F, n, A2.out.1, A3.out.1, A3.out.2.1, A3.out.2.2.1, A4.out.1, A4.out.2⟩
end Go.Proofs.YtojdkfamihlnkaaGreatDoor
