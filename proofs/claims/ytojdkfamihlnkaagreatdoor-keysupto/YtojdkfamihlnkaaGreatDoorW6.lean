/- The walks of this proof: a store in memory; Get and Scan. -/
import Derived.Test.YtojdkfamihlnkaaGreatDoorW5
import Derived.Test.YtojdkfamihlnkaaGreatDoorD
namespace Go.Proofs.YtojdkfamihlnkaaGreatDoor
open Go.RowKit Go.Sort

/-- What a store holds: entries, snapshots, the last snapshot's number, the last batch's, how many bytes are synced, no fewer bytes than the journal has. -/
structure St where
  E : List En
  S : List Sn
  lastSnap : Int
  last : Int
  synced : Int
  jl : Nat

/-- A store that lies in block sb, its rows in D. -/
def StoreAt (D : Nat → Prop) (sb : Nat) (x : St) (w : World) : Prop :=
  ∃ (vE vR vS : Value) (R : List Value), D sb ∧ w.heap[sb]? = some (.cells #[vE, vR, .int .i64 x.synced, vS, .int .i64 x.lastSnap, .int .i64 x.last] 81 (0, 0)) ∧
    OwnsIn w D 61 4 vE x.E.length (ecells x.E) ∧ OwnsIn w D 5 1 vR R.length R ∧ OwnsIn w D 165 2 vS x.S.length (scells x.S) ∧ R.length ≤ x.jl

/-- What is true of every store. -/
structure StOk (x : St) : Prop where
  sorted : Sorted x.E
  few : x.E.length < 1000000000
  seqs : ∀ e ∈ x.E, e.s ≤ 9223372036854775807
  keys : ∀ e ∈ x.E, e.k.size ≤ 1000
  snaps : x.S.length ≤ 4

theorem StoreAt.kept {D D' : Nat → Prop} {sb : Nat} {ts : List Nat} {x : St} {w w' : World} (h : StoreAt D sb x w) (k : Kd D' ts w w') (h1 : 81 ∉ ts) (h2 : 61 ∉ ts) (h3 : 5 ∉ ts) (h4 : 165 ∉ ts) : StoreAt D sb x w' := by
  obtain ⟨vE, vR, vS, R, hB, hs, hE, hR, hS, hl⟩ := h
  exact ⟨vE, vR, vS, R, hB, k.keep hs h1, k.ownsIn hE h2, k.ownsIn hR h3, k.ownsIn hS h4, hl⟩

theorem StoreAt.below {D : Nat → Prop} {sb : Nat} {x : St} {w w' : World} (h : StoreAt D sb x w) (hb : Below w.heap.size w w') : StoreAt D sb x w' :=
  h.kept (Kd.of_below (D := D) (ts := []) hb) (by simp) (by simp) (by simp) (by simp)

/-- A store of D that a call upon other blocks leaves alone. -/
theorem StoreAt.apart {D D' : Nat → Prop} {sb : Nat} {ts : List Nat} {x : St} {w w' : World} (h : StoreAt D sb x w) (k : Kd D' ts w w') (hd : ∀ b, D b → b < w.heap.size → ¬ D' b) : StoreAt D sb x w' := by
  obtain ⟨vE, vR, vS, R, hB, hs, hE, hR, hS, hl⟩ := h
  have f : ∀ {e size v n xs}, OwnsIn w D e size v n xs → OwnsIn w' D e size v n xs := fun ho => ⟨k.ownsN ho.own fun g hg => hd g (ho.dom g hg) (ho.own.lt g hg).2, ho.dom⟩
  exact ⟨vE, vR, vS, R, hB, k.keepN hs (hd sb hB (lt_of_block hs)), f hE, f hR, f hS, hl⟩

set_option maxHeartbeats 400000 in
theorem isKey_any (s : ByteArray) (w : World) (hs : s.size ≤ maxLen) :
    Calls Tryz.prog 50 #[.string s] w fun e w' => e = .returned (.bool (decide (1 ≤ s.size) && decide (s.size ≤ 6))) ∧ w' = w := by
  unfold maxLen at hs
  by_cases h1 : 1 ≤ s.size
  · have e : decide ((s.size : Int) ≤ 6) = (decide (1 ≤ s.size) && decide (s.size ≤ 6)) := by
      simp only [h1, decide_true, Bool.true_and, decide_eq_decide]; omega
    rw [← e]
    clear e
    go_enter Tryz.func50, Tryz.ntmps50
    go_wp2
    go_ret
    exact ⟨rfl, rfl⟩
  · simp only [h1, decide_false, Bool.false_and]
    go_enter Tryz.func50, Tryz.ntmps50
    go_wp2
    go_ret
    exact ⟨rfl, rfl⟩

/-- What Get answers. -/
def getVal (x : St) (k : ByteArray) (n : Int) : Value :=
  if 1 ≤ k.size ∧ k.size ≤ 6 then
    match seqOf x.S x.last n with
    | none => .tuple #[.string ⟨#[]⟩, .int .i64 5]
    | some q => match sk x.E k q with
      | some v => .tuple #[.string v, .int .i64 0]
      | none => .tuple #[.string ⟨#[]⟩, .int .i64 6]
  else .tuple #[.string ⟨#[]⟩, .int .i64 1]

set_option maxHeartbeats 1000000 in
theorem get_any (x : St) (D : Nat → Prop) (sb : Nat) (k : ByteArray) (n : Int) (w : World) (hx : StoreAt D sb x w) (ok : StOk x) (hk : k.size ≤ maxLen) :
    Calls Tryz.prog 20 #[.pointer (some ⟨sb, 0, none⟩), .string k, .int .i64 n] w fun e w' => e = .returned (getVal x k n) ∧ Below w.heap.size w w' := by
  have hkey := isKey_any k w hk
  unfold getVal
  by_cases hkk : 1 ≤ k.size ∧ k.size ≤ 6
  · rw [if_pos hkk]
    simp only [hkk.1, hkk.2, decide_true, Bool.and_self] at hkey
    have HK : Hid _ := hkey
    clear hkey hk
    obtain ⟨vE, vR, vS, R, hB, hs, hE, hR, hS, hl⟩ := id hx
    have c0 : w.cell? ⟨sb, 0, none⟩ = some vE := by simp [World.cell?, hs]
    have c3 : w.cell? ⟨sb, 3, none⟩ = some vS := by simp [World.cell?, hs]
    have c5 : w.cell? ⟨sb, 5, none⟩ = some (.int .i64 x.last) := by simp [World.cell?, hs]
    have hq := seqAt_any x.S vS 0 sb n x.last w ok.snaps c3 c5 hS.own
    generalize seqOf x.S x.last n = r at hq
    have HQ : Hid _ := hq
    cases r with
    | none =>
      clear hx hs hE hR hS hl hq c0 c3 c5
      simp only
      go_enter Tryz.func20, Tryz.ntmps20
      go_wp2_with fail
      refine Calls.mono HK.out ?_
      rintro e w0 ⟨rfl, rfl⟩
      go_wp2_with fail
      refine Calls.mono HQ.out ?_
      rintro e w1 ⟨rfl, hb⟩
      have HB : Hid (Below w0.heap.size w0 w1) := hb
      clear hb
      unfold seqVal
      go_wp2
      go_ret2
      exact ⟨rfl, HB.out⟩
    | some q =>
      simp only
      have hsn : ∀ w1, Below w.heap.size w w1 → Calls Tryz.prog 52 #[.pointer (some ⟨sb, 0, none⟩), .string k, .int .i64 q] w1 fun e w' => e = .returned (skVal (sk x.E k q)) ∧ Below w1.heap.size w1 w' := fun w1 hb => by
        rw [← seenVal_sk]
        exact seen_any x.E vE sb k q w1 ok.few ok.sorted (cell_later hb c0) ((enrow_of_owns hE.own).below hb)
      generalize sk x.E k q = r2 at hsn
      have HSN : Hid _ := hsn
      clear hx hs hE hR hS hl hq hsn c0 c3 c5
      cases r2 with
      | none =>
        go_enter Tryz.func20, Tryz.ntmps20
        go_wp2_with fail
        refine Calls.mono HK.out ?_
        rintro e w0 ⟨rfl, rfl⟩
        go_wp2_with fail
        refine Calls.mono HQ.out ?_
        rintro e w1 ⟨rfl, hb⟩
        have HB : Hid (Below w0.heap.size w0 w1) := hb
        clear hb
        unfold seqVal
        go_wp2_with fail
        refine Calls.mono (HSN.out _ HB.out) ?_
        rintro e w2 ⟨rfl, hb⟩
        have HB2 : Hid (Below w0.heap.size w0 w2) := below_trans' HB.out hb
        clear hb
        unfold skVal
        go_wp2
        go_ret2
        exact ⟨rfl, HB2.out⟩
      | some v =>
        go_enter Tryz.func20, Tryz.ntmps20
        go_wp2_with fail
        refine Calls.mono HK.out ?_
        rintro e w0 ⟨rfl, rfl⟩
        go_wp2_with fail
        refine Calls.mono HQ.out ?_
        rintro e w1 ⟨rfl, hb⟩
        have HB : Hid (Below w0.heap.size w0 w1) := hb
        clear hb
        unfold seqVal
        go_wp2_with fail
        refine Calls.mono (HSN.out _ HB.out) ?_
        rintro e w2 ⟨rfl, hb⟩
        have HB2 : Hid (Below w0.heap.size w0 w2) := below_trans' HB.out hb
        clear hb
        unfold skVal
        go_wp2
        go_ret2
        exact ⟨rfl, HB2.out⟩
  · rw [if_neg hkk]
    have hf : (decide (1 ≤ k.size) && decide (k.size ≤ 6)) = false := by
      rw [Bool.and_eq_false_iff]
      by_cases h1 : 1 ≤ k.size
      · exact .inr (decide_eq_false_iff_not.2 fun h => hkk ⟨h1, h⟩)
      · exact .inl (decide_eq_false_iff_not.2 h1)
    rw [hf] at hkey
    have HK : Hid _ := hkey
    clear hkey hk hx
    go_enter Tryz.func20, Tryz.ntmps20
    go_wp2_with fail
    refine Calls.mono HK.out ?_
    rintro e w0 ⟨rfl, rfl⟩
    go_wp2
    go_ret2
    exact ⟨rfl, Below.refl _ _⟩

/-- What Scan answers. -/
def ScanAns (x : St) (f : ByteArray) (most n : Int) (w : World) (e : Ending) (w' : World) : Prop :=
  match seqOf x.S x.last n with
  | none => e = .returned (.tuple #[.slice none 0 0, .int .i64 5]) ∧ Below w.heap.size w w'
  | some q => if most < 0 then e = .returned (.tuple #[.slice none 0 0, .int .i64 4]) ∧ Below w.heap.size w w' else
      ∃ (vl : Value) (L : List Pr) (cur : Option ByteArray), e = .returned (.tuple #[vl, .int .i64 0]) ∧ w'.ownsRow w.heap.size 57 3 vl L.length (pcells L) ∧ Below w.heap.size w w' ∧ ScanInv x.E f q L cur ∧ (cur = none ∨ most ≤ L.length) ∧ L.length ≤ most

set_option maxHeartbeats 1000000 in
theorem scan_any (x : St) (D : Nat → Prop) (sb : Nat) (f : ByteArray) (most n : Int) (w : World) (hx : StoreAt D sb x w) (ok : StOk x) :
    Calls Tryz.prog 55 #[.pointer (some ⟨sb, 0, none⟩), .string f, .int .i64 most, .int .i64 n] w fun e w' => ScanAns x f most n w e w' := by
  obtain ⟨vE, vR, vS, R, hB, hs, hE, hR, hS, hl⟩ := id hx
  have c0 : w.cell? ⟨sb, 0, none⟩ = some vE := by simp [World.cell?, hs]
  have c3 : w.cell? ⟨sb, 3, none⟩ = some vS := by simp [World.cell?, hs]
  have c5 : w.cell? ⟨sb, 5, none⟩ = some (.int .i64 x.last) := by simp [World.cell?, hs]
  have hq := seqAt_any x.S vS 0 sb n x.last w ok.snaps c3 c5 hS.own
  unfold ScanAns
  generalize seqOf x.S x.last n = r at hq
  have HQ : Hid _ := hq
  cases r with
  | none =>
    clear hx hs hE hR hS hl hq c0 c3 c5
    simp only
    go_enter Tryz.func55, Tryz.ntmps55
    go_wp2_with fail
    refine Calls.mono HQ.out ?_
    rintro e w1 ⟨rfl, hb⟩
    have HB : Hid (Below w.heap.size w w1) := hb
    clear hb
    unfold seqVal
    go_wp2
    go_ret2
    exact ⟨rfl, HB.out⟩
  | some q =>
    simp only
    by_cases hm : most < 0
    · simp only [hm, if_true]
      clear hx hs hE hR hS hl hq c0 c3 c5
      go_enter Tryz.func55, Tryz.ntmps55
      go_wp2_with fail
      refine Calls.mono HQ.out ?_
      rintro e w1 ⟨rfl, hb⟩
      have HB : Hid (Below w.heap.size w w1) := hb
      clear hb
      unfold seqVal
      go_wp2
      go_ret2
      exact ⟨rfl, HB.out⟩
    · simp only [hm, if_false]
      have HSF : Hid (∀ w1, Below w.heap.size w w1 → Calls Tryz.prog 84 #[.pointer (some ⟨sb, 0, none⟩), .string f, .int .i64 most, .int .i64 q] w1 fun e w' => ScanPost x.E f most q w1 e w') := fun w1 hb =>
        seenFrom_any x.E vE sb f most q w1 ok.few ok.sorted ok.seqs ok.keys (cell_later hb c0) ((enrow_of_owns hE.own).below hb)
      clear hx hs hE hR hS hl hq c0 c3 c5
      generalize hpost : (fun (e : Ending) (w' : World) => ∃ (vl : Value) (L : List Pr) (cur : Option ByteArray), e = .returned (.tuple #[vl, .int .i64 0]) ∧ w'.ownsRow w.heap.size 57 3 vl L.length (pcells L) ∧ Below w.heap.size w w' ∧ ScanInv x.E f q L cur ∧ (cur = none ∨ most ≤ L.length) ∧ L.length ≤ most) = PP
      have HPP : Hid _ := hpost
      clear hpost
      go_enter Tryz.func55, Tryz.ntmps55
      go_wp2_with fail
      refine Calls.mono HQ.out ?_
      rintro e w1 ⟨rfl, hb⟩
      have HB : Hid (Below w.heap.size w w1) := hb
      clear hb
      unfold seqVal
      go_wp2_with fail
      refine Calls.mono (HSF.out _ HB.out) ?_
      rintro e w2 ⟨vl, L, cur, rfl, ho, hb2, hI, hc, hlm⟩
      have R1 : Hid (w2.ownsRow w.heap.size 57 3 vl L.length (pcells L) ∧ Below w.heap.size w w2 ∧ ScanInv x.E f q L cur ∧ (cur = none ∨ most ≤ L.length) ∧ (L.length : Int) ≤ most) := ⟨owns_base ho HB.out.size, below_trans' HB.out hb2, hI, hc, hlm (by omega)⟩
      clear ho hb2 hI hc hlm
      go_wp2
      rw [← HPP.out]
      exact ⟨vl, L, cur, rfl, R1.out⟩
end Go.Proofs.YtojdkfamihlnkaaGreatDoor
