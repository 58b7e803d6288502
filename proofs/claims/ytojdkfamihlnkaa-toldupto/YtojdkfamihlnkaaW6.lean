/- The walks of this proof: a store in memory; Get and Scan. -/
import Derived.Test.YtojdkfamihlnkaaW5
namespace Go.Proofs.Ytojdkfamihlnkaa
open Go.RowKit Go.Sort

/-- What a store holds: entries, snapshots, the last snapshot's number, the last batch's, how many bytes are synced, no fewer bytes than the journal has. -/
structure St where
  E : List En
  S : List Sn
  lastSnap : Int
  last : Int
  synced : Int
  jl : Nat

/-- A store that lies in block sb, its rows from block B on. -/
def StoreAt (B sb : Nat) (x : St) (w : World) : Prop :=
  ∃ (vE vR vS : Value) (R : List Value), B ≤ sb ∧ w.heap[sb]? = some (.cells #[vE, vR, .int .i64 x.synced, vS, .int .i64 x.lastSnap, .int .i64 x.last] 105 (0, 0)) ∧
    w.ownsRow B 123 4 vE x.E.length (ecells x.E) ∧ w.ownsRow B 5 1 vR R.length R ∧ w.ownsRow B 128 2 vS x.S.length (scells x.S) ∧ R.length ≤ x.jl

/-- What is true of every store. -/
structure StOk (x : St) : Prop where
  sorted : Sorted x.E
  few : x.E.length < 1000000000
  seqs : ∀ e ∈ x.E, e.s ≤ 9223372036854775807
  keys : ∀ e ∈ x.E, e.k.size ≤ 1000
  snaps : x.S.length ≤ 4

theorem StoreAt.kept {B sb B' : Nat} {ts : List Nat} {x : St} {w w' : World} (h : StoreAt B sb x w) (k : Kp B' ts w w') (h1 : 105 ∉ ts) (h2 : 123 ∉ ts) (h3 : 5 ∉ ts) (h4 : 128 ∉ ts) : StoreAt B sb x w' := by
  obtain ⟨vE, vR, vS, R, hB, hs, hE, hR, hS, hl⟩ := h
  exact ⟨vE, vR, vS, R, hB, k.keep hs h1, k.owns hE h2, k.owns hR h3, k.owns hS h4, hl⟩

theorem StoreAt.below {B sb : Nat} {x : St} {w w' : World} (h : StoreAt B sb x w) (hb : Below w.heap.size w w') : StoreAt B sb x w' :=
  h.kept (Kp.of_below (B := 0) (ts := []) hb) (by simp) (by simp) (by simp) (by simp)

set_option maxHeartbeats 400000 in
theorem isKey_any (s : ByteArray) (w : World) (hs : s.size ≤ maxLen) :
    Calls Try.prog 40 #[.string s] w fun e w' => e = .returned (.bool (decide (1 ≤ s.size) && decide (s.size ≤ 6))) ∧ w' = w := by
  unfold maxLen at hs
  by_cases h1 : 1 ≤ s.size
  · have e : decide ((s.size : Int) ≤ 6) = (decide (1 ≤ s.size) && decide (s.size ≤ 6)) := by
      simp only [h1, decide_true, Bool.true_and, decide_eq_decide]; omega
    rw [← e]
    clear e
    go_enter Try.func40, Try.ntmps40
    go_wp2
    go_ret
    exact ⟨rfl, rfl⟩
  · simp only [h1, decide_false, Bool.false_and]
    go_enter Try.func40, Try.ntmps40
    go_wp2
    go_ret
    exact ⟨rfl, rfl⟩

/-- What Get answers. -/
def getVal (x : St) (k : ByteArray) (n : Int) : Value :=
  if 1 ≤ k.size ∧ k.size ≤ 6 then
    match seqOf x.S x.last n with
    | none => .tuple #[.string ⟨#[]⟩, .int .i64 5]
    | some q => match sk x.E k q with
      | some v => .tuple #[.string v, .int .i64 0]
      | none => .tuple #[.string ⟨#[]⟩, .int .i64 6]
  else .tuple #[.string ⟨#[]⟩, .int .i64 1]

set_option maxHeartbeats 1000000 in
theorem get_any (x : St) (B sb : Nat) (k : ByteArray) (n : Int) (w : World) (hx : StoreAt B sb x w) (ok : StOk x) (hk : k.size ≤ maxLen) :
    Calls Try.prog 25 #[.pointer (some ⟨sb, 0, none⟩), .string k, .int .i64 n] w fun e w' => e = .returned (getVal x k n) ∧ Below w.heap.size w w' := by
  have hkey := isKey_any k w hk
  unfold getVal
  by_cases hkk : 1 ≤ k.size ∧ k.size ≤ 6
  · rw [if_pos hkk]
    simp only [hkk.1, hkk.2, decide_true, Bool.and_self] at hkey
    have HK : Hid _ := hkey
    clear hkey hk
    obtain ⟨vE, vR, vS, R, hB, hs, hE, hR, hS, hl⟩ := id hx
    have c0 : w.cell? ⟨sb, 0, none⟩ = some vE := by simp [World.cell?, hs]
    have c3 : w.cell? ⟨sb, 3, none⟩ = some vS := by simp [World.cell?, hs]
    have c5 : w.cell? ⟨sb, 5, none⟩ = some (.int .i64 x.last) := by simp [World.cell?, hs]
    have hq := seqAt_any x.S vS B sb n x.last w ok.snaps c3 c5 hS
    generalize seqOf x.S x.last n = r at hq
    have HQ : Hid _ := hq
    cases r with
    | none =>
      clear hx hs hE hR hS hl hq c0 c3 c5
      simp only
      go_enter Try.func25, Try.ntmps25
      go_wp2_with fail
      refine Calls.mono HK.out ?_
      rintro e w0 ⟨rfl, rfl⟩
      go_wp2_with fail
      refine Calls.mono HQ.out ?_
      rintro e w1 ⟨rfl, hb⟩
      have HB : Hid (Below w0.heap.size w0 w1) := hb
      clear hb
      unfold seqVal
      go_wp2
      go_ret2
      exact ⟨rfl, HB.out⟩
    | some q =>
      simp only
      have hsn : ∀ w1, Below w.heap.size w w1 → Calls Try.prog 41 #[.pointer (some ⟨sb, 0, none⟩), .string k, .int .i64 q] w1 fun e w' => e = .returned (skVal (sk x.E k q)) ∧ Below w1.heap.size w1 w' := fun w1 hb => by
        rw [← seenVal_sk]
        exact seen_any x.E vE sb k q w1 ok.few ok.sorted (cell_later hb c0) ((enrow_of_owns hE).below hb)
      generalize sk x.E k q = r2 at hsn
      have HSN : Hid _ := hsn
      clear hx hs hE hR hS hl hq hsn c0 c3 c5
      cases r2 with
      | none =>
        go_enter Try.func25, Try.ntmps25
        go_wp2_with fail
        refine Calls.mono HK.out ?_
        rintro e w0 ⟨rfl, rfl⟩
        go_wp2_with fail
        refine Calls.mono HQ.out ?_
        rintro e w1 ⟨rfl, hb⟩
        have HB : Hid (Below w0.heap.size w0 w1) := hb
        clear hb
        unfold seqVal
        go_wp2_with fail
        refine Calls.mono (HSN.out _ HB.out) ?_
        rintro e w2 ⟨rfl, hb⟩
        have HB2 : Hid (Below w0.heap.size w0 w2) := below_trans' HB.out hb
        clear hb
        unfold skVal
        go_wp2
        go_ret2
        exact ⟨rfl, HB2.out⟩
      | some v =>
        go_enter Try.func25, Try.ntmps25
        go_wp2_with fail
        refine Calls.mono HK.out ?_
        rintro e w0 ⟨rfl, rfl⟩
        go_wp2_with fail
        refine Calls.mono HQ.out ?_
        rintro e w1 ⟨rfl, hb⟩
        have HB : Hid (Below w0.heap.size w0 w1) := hb
        clear hb
        unfold seqVal
        go_wp2_with fail
        refine Calls.mono (HSN.out _ HB.out) ?_
        rintro e w2 ⟨rfl, hb⟩
        have HB2 : Hid (Below w0.heap.size w0 w2) := below_trans' HB.out hb
        clear hb
        unfold skVal
        go_wp2
        go_ret2
        exact ⟨rfl, HB2.out⟩
  · rw [if_neg hkk]
    have hf : (decide (1 ≤ k.size) && decide (k.size ≤ 6)) = false := by
      rw [Bool.and_eq_false_iff]
      by_cases h1 : 1 ≤ k.size
      · exact .inr (decide_eq_false_iff_not.2 fun h => hkk ⟨h1, h⟩)
      · exact .inl (decide_eq_false_iff_not.2 h1)
    rw [hf] at hkey
    have HK : Hid _ := hkey
    clear hkey hk hx
    go_enter Try.func25, Try.ntmps25
    go_wp2_with fail
    refine Calls.mono HK.out ?_
    rintro e w0 ⟨rfl, rfl⟩
    go_wp2
    go_ret2
    exact ⟨rfl, Below.refl _ _⟩

/-- What Scan answers. -/
def ScanAns (x : St) (f : ByteArray) (most n : Int) (w : World) (e : Ending) (w' : World) : Prop :=
  match seqOf x.S x.last n with
  | none => e = .returned (.tuple #[.slice none 0 0, .int .i64 5]) ∧ Below w.heap.size w w'
  | some q => if most < 0 then e = .returned (.tuple #[.slice none 0 0, .int .i64 4]) ∧ Below w.heap.size w w' else
      ∃ (vl : Value) (L : List Pr) (cur : Option ByteArray), e = .returned (.tuple #[vl, .int .i64 0]) ∧ w'.ownsRow w.heap.size 78 3 vl L.length (pcells L) ∧ Below w.heap.size w w' ∧ ScanInv x.E f q L cur ∧ (cur = none ∨ most ≤ L.length) ∧ L.length ≤ most

set_option maxHeartbeats 1000000 in
theorem scan_any (x : St) (B sb : Nat) (f : ByteArray) (most n : Int) (w : World) (hx : StoreAt B sb x w) (ok : StOk x) :
    Calls Try.prog 24 #[.pointer (some ⟨sb, 0, none⟩), .string f, .int .i64 most, .int .i64 n] w fun e w' => ScanAns x f most n w e w' := by
  obtain ⟨vE, vR, vS, R, hB, hs, hE, hR, hS, hl⟩ := id hx
  have c0 : w.cell? ⟨sb, 0, none⟩ = some vE := by simp [World.cell?, hs]
  have c3 : w.cell? ⟨sb, 3, none⟩ = some vS := by simp [World.cell?, hs]
  have c5 : w.cell? ⟨sb, 5, none⟩ = some (.int .i64 x.last) := by simp [World.cell?, hs]
  have hq := seqAt_any x.S vS B sb n x.last w ok.snaps c3 c5 hS
  unfold ScanAns
  generalize seqOf x.S x.last n = r at hq
  have HQ : Hid _ := hq
  cases r with
  | none =>
    clear hx hs hE hR hS hl hq c0 c3 c5
    simp only
    go_enter Try.func24, Try.ntmps24
    go_wp2_with fail
    refine Calls.mono HQ.out ?_
    rintro e w1 ⟨rfl, hb⟩
    have HB : Hid (Below w.heap.size w w1) := hb
    clear hb
    unfold seqVal
    go_wp2
    go_ret2
    exact ⟨rfl, HB.out⟩
  | some q =>
    simp only
    by_cases hm : most < 0
    · simp only [hm, if_true]
      clear hx hs hE hR hS hl hq c0 c3 c5
      go_enter Try.func24, Try.ntmps24
      go_wp2_with fail
      refine Calls.mono HQ.out ?_
      rintro e w1 ⟨rfl, hb⟩
      have HB : Hid (Below w.heap.size w w1) := hb
      clear hb
      unfold seqVal
      go_wp2
      go_ret2
      exact ⟨rfl, HB.out⟩
    · simp only [hm, if_false]
      have HSF : Hid (∀ w1, Below w.heap.size w w1 → Calls Try.prog 39 #[.pointer (some ⟨sb, 0, none⟩), .string f, .int .i64 most, .int .i64 q] w1 fun e w' => ScanPost x.E f most q w1 e w') := fun w1 hb =>
        seenFrom_any x.E vE sb f most q w1 ok.few ok.sorted ok.seqs ok.keys (cell_later hb c0) ((enrow_of_owns hE).below hb)
      clear hx hs hE hR hS hl hq c0 c3 c5
      generalize hpost : (fun (e : Ending) (w' : World) => ∃ (vl : Value) (L : List Pr) (cur : Option ByteArray), e = .returned (.tuple #[vl, .int .i64 0]) ∧ w'.ownsRow w.heap.size 78 3 vl L.length (pcells L) ∧ Below w.heap.size w w' ∧ ScanInv x.E f q L cur ∧ (cur = none ∨ most ≤ L.length) ∧ L.length ≤ most) = PP
      have HPP : Hid _ := hpost
      clear hpost
      go_enter Try.func24, Try.ntmps24
      go_wp2_with fail
      refine Calls.mono HQ.out ?_
      rintro e w1 ⟨rfl, hb⟩
      have HB : Hid (Below w.heap.size w w1) := hb
      clear hb
      unfold seqVal
      go_wp2_with fail
      refine Calls.mono (HSF.out _ HB.out) ?_
      rintro e w2 ⟨vl, L, cur, rfl, ho, hb2, hI, hc, hlm⟩
      have R1 : Hid (w2.ownsRow w.heap.size 78 3 vl L.length (pcells L) ∧ Below w.heap.size w w2 ∧ ScanInv x.E f q L cur ∧ (cur = none ∨ most ≤ L.length) ∧ (L.length : Int) ≤ most) := ⟨owns_base ho HB.out.size, below_trans' HB.out hb2, hI, hc, hlm (by omega)⟩
      clear ho hb2 hI hc hlm
      go_wp2
      rw [← HPP.out]
      exact ⟨vl, L, cur, rfl, R1.out⟩
end Go.Proofs.Ytojdkfamihlnkaa
