/- The walks of this proof: what is seen from a text on. -/
import Derived.Test.YtakipjofboipmaaGreatDoorJ5
import Derived.Test.YtakipjofboipmaaGreatDoorJ4
import Derived.Deep.DeepAppendWide
namespace Go.Proofs.YtakipjofboipmaaGreatDoor
open Go.RowKit Go.Sort

theorem Tryz.info57 : (Tryz.prog.info? 57).map (fun i => (i.zero, i.size, i.bytes)) = some (some (.agg #[.string ⟨#[]⟩, .string ⟨#[]⟩, .bool false]), 3, 40) := by kernel_rfl

/-- What 'seen' hands back, in the words of 'sk'. -/
def skVal : Option ByteArray → Value
  | some x => .tuple #[.string x, .bool true]
  | none => .tuple #[.string ⟨#[]⟩, .bool false]

theorem seenVal_sk (E : List En) (k : ByteArray) (q : Int) : seenVal (fnd E k q) = skVal (sk E k q) := by
  unfold sk
  cases fnd E k q with
  | none => rfl
  | some e =>
    simp only [seenVal]
    cases e.g <;> rfl

theorem slice_form {w : World} {base : Nat} {e : TypeId} {size : Nat} {v : Value} {n : Nat} {xs : List Value} (h : w.ownsRow base e size v n xs) : ∃ ao cap, v = .slice ao n cap := by
  rcases h.2 with ⟨rfl, rfl⟩ | ⟨g, cap, cur, rfl, _⟩
  · exact ⟨_, _, rfl⟩
  · exact ⟨_, _, rfl⟩

/-- What a round of the scan does to memory. -/
theorem app_below {w wr w1 : World} {v : Value} {n : Nat} {xs : List Value} {e : TypeId} {size : Nat} {o : Obj} (hb : Below w.heap.size w wr) (ho : wr.ownsRow w.heap.size e size v n xs) (hg : (wr.alloc o).grownBy w1 v.ownBlock) : Below w.heap.size w w1 :=
  (hb.alloc hb.size o).grown hg (by have := hb.size; simp; omega) fun k hk => (ho.lt k hk).1

/-- What a scan comes to. -/
def ScanPost (E : List En) (f : ByteArray) (most q : Int) (w : World) (e : Ending) (w' : World) : Prop :=
  ∃ (vl : Value) (L : List Pr) (cur : Option ByteArray), e = .returned vl ∧ w'.ownsRow w.heap.size 57 3 vl L.length (pcells L) ∧ Below w.heap.size w w' ∧ ScanInv E f q L cur ∧ (cur = none ∨ most ≤ L.length) ∧ (0 ≤ most → L.length ≤ most)

/-- All entries of a store's runs, in one order. -/
structure Gh (M E : List En) (T : List Lb) : Prop where
  sorted : Sorted M
  mem : ∀ e, e ∈ M ↔ ∃ a ∈ runs E T, e ∈ a
  fnd : ∀ k q, fnd M k q = fndL (runs E T) k q
  few : M.length < 4500000000000
  seqs : ∀ e ∈ M, e.s ≤ 9223372036854775807
  keys : ∀ e ∈ M, e.k.size ≤ 1000

set_option maxHeartbeats 2000000 in
set_option maxRecDepth 100000 in
theorem seenFrom_any (M E : List En) (T : List Lb) (vE vL : Value) (sb : Nat) (f : ByteArray) (most q : Int) (w : World) (gh : Gh M E T) (ok : LvOk E T) (hv : w.cell? ⟨sb, 0, none⟩ = some vE) (hE : EnRow w vE E) (hl : w.cell? ⟨sb, 1, none⟩ = some vL) (hL : LdRow w vL T) :
    Calls Tryz.prog 108 #[.pointer (some ⟨sb, 0, none⟩), .string f, .int .i64 most, .int .i64 q] w fun e w' => ScanPost M f most q w e w' := by
  have hsb : sb < w.heap.size := block_lt_of_cell hv
  have hn : M.length < 4500000000000 := gh.few
  have HS : Hid (Sorted M) := gh.sorted
  have HK : Hid (∀ e ∈ M, e.k.size ≤ 1000) := gh.keys
  have HKF : Hid (∀ f' w1, Below w.heap.size w w1 → Calls Tryz.prog 162 #[.pointer (some ⟨sb, 0, none⟩), .string f'] w1 fun e w' => e = .returned (kVal ((nxt M f').map (·.k))) ∧ Below w1.heap.size w1 w') := fun f' w1 hb => by
    refine (lkeyFrom_any E T vE vL sb f' w1 ok (fun a ha e he => gh.seqs e ((gh.mem e).2 ⟨a, ha, he⟩)) (cell_later hb hv) (hE.below hb) (cell_later hb hl) (hL.below hb)).mono ?_
    rintro e w' ⟨r, rfl, hr, hb'⟩
    exact ⟨by rw [hr.same gh.sorted gh.mem], hb'⟩
  have HSN : Hid (∀ c w1, Below w.heap.size w w1 → Calls Tryz.prog 59 #[.pointer (some ⟨sb, 0, none⟩), .string c, .int .i64 q] w1 fun e w' => e = .returned (skVal (sk M c q)) ∧ Below w1.heap.size w1 w') := fun c w1 hb => by
    rw [← seenVal_sk, gh.fnd]
    exact seen_any E T vE vL sb c q w1 ok (cell_later hb hv) (hE.below hb) (cell_later hb hl) (hL.below hb)
  clear gh ok hv hE hl hL
  obtain ⟨i0, hi, hz0, hz1, hz2⟩ := info_parts Tryz.info57
  have kf := HKF.out f w (Below.refl _ _)
  have st := scan_start HS.out f q
  generalize (nxt M f).map (·.k) = r at kf st
  have KF : Hid _ := kf
  have ST : Hid _ := st
  clear kf st
  unfold kVal at KF
  go_enter Tryz.func108, Tryz.ntmps108
  go_wp2_with fail
  refine Calls.mono KF.out ?_
  rintro e w1 ⟨rfl, hb⟩
  clear KF
  have HB : Hid (Below w.heap.size w w1) := hb
  clear hb
  go_wp2
  go_loopg [9, 10, 11] M.length (fun kx s9 s10 s11 wr => ∃ (L : List Pr) (cur : Option ByteArray), s11 = .bool cur.isSome ∧ s10 = .string (cur.getD ⟨#[]⟩) ∧ Hid (wr.ownsRow w.heap.size 57 3 s9 L.length (pcells L)) ∧ Hid (Below w.heap.size w wr) ∧ Hid (ScanInv M f q L cur) ∧ cnt M cur ≤ kx ∧ Hid (0 ≤ most → L.length ≤ most))
  case atStart => exact ⟨[], r, rfl, rfl, World.ownsRow_nil _ _ _ _, HB.out, ST.out, by have := ST.out.len; simp at this; omega, fun h => h⟩
  case round =>
    clear ST
    obtain ⟨L, cur, rfl, rfl, hown, HBr, HI, hcn, HL⟩ := hrel
    obtain ⟨ao, cap, rfl⟩ := slice_form hown.out
    cases cur with
    | none =>
      go_wp2
      go_ret
      unfold ScanPost
      exact ⟨_, L, none, rfl, hown.out, HBr.out, HI.out, .inl rfl, HL.out⟩
    | some c =>
      by_cases hm : (L.length : Int) < most
      · have hck : c.size ≤ 1000 := by obtain ⟨e, he, rfl⟩ := (HI.out.here c rfl).2; exact HK.out e he
        have hll : L.length ≤ M.length := by have := HI.out.len; omega
        have sn := HSN.out c wr HBr.out
        have stp := scan_step HS.out HI.out
        have HP : Hid (1 ≤ cnt M (some c)) := by
          obtain ⟨e, he, hk⟩ := (HI.out.here c rfl).2
          exact List.countP_pos_iff.2 ⟨e, he, by simp [hk, kc_self]⟩
        have HLT : Hid (∀ c', (nxt M (c ++ nul)).map (·.k) = some c' → cnt M (some c') < cnt M (some c)) := by
          intro c' hc'
          cases hnn : nxt M (c ++ nul) with
          | none => simp [hnn] at hc'
          | some y =>
            simp [hnn] at hc'; subst hc'
            obtain ⟨e, he, hk⟩ := (HI.out.here c rfl).2
            have g := nxt_some HS.out hnn
            have hlt := (kc_nul c y.k).1 g.2.1
            exact countP_less _ _ M (fun x hx hp => by
              simp at hp ⊢
              by_cases g : 0 ≤ kc x.k c
              · exact g
              · have := kc_trans (show kc x.k c < 0 by omega) hlt; omega) ⟨e, he, by simp [hk, kc_self], by simp [hk]; exact hlt⟩
        have HKF2 : Hid (∀ w1, Below w.heap.size w w1 → Calls Tryz.prog 162 #[.pointer (some ⟨sb, 0, none⟩), .string (c ++ nul)] w1 fun e w' => e = .returned (kVal ((nxt M (c ++ nul)).map (·.k))) ∧ Below w1.heap.size w1 w') := fun w1 hb => HKF.out _ w1 hb
        generalize (nxt M (c ++ nul)).map (·.k) = r2 at HKF2 HLT stp
        have HMS : Hid (cnt M r2 < cnt M (some c)) := by
          cases r2 with
          | none => have := HP.out; simp only [cnt] at this ⊢; exact this
          | some c' => exact HLT.out c' rfl
        unfold kVal at HKF2
        have SN : Hid _ := sn
        have STP : Hid _ := stp
        clear sn stp HKF HSN HLT
        cases hsk : sk M c q with
        | none =>
          rw [hsk] at SN STP
          clear hsk
          go_wp2_with fail
          refine Calls.mono SN.out ?_
          rintro e w2 ⟨rfl, hb2⟩
          have HB2 : Hid (Below w.heap.size w w2) := below_trans' HBr.out hb2
          have hown2 : Hid (w2.ownsRow w.heap.size 57 3 (.slice ao L.length cap) L.length (pcells L)) := (Kp.of_below (B := 0) (ts := []) hb2).owns hown.out (by simp)
          clear hb2 SN
          unfold skVal
          go_wp2_with (go_at_call 163; refine (behind_any c _ hck).mono ?_; rintro e w3 ⟨rfl, rfl⟩)
          refine Calls.mono (HKF2.out _ HB2.out) ?_
          rintro e w4 ⟨rfl, hb4⟩
          have HB4 : Hid (Below w.heap.size w w4) := below_trans' HB2.out hb4
          have hown4 : Hid (w4.ownsRow w.heap.size 57 3 (.slice ao L.length cap) L.length (pcells L)) := (Kp.of_below (B := 0) (ts := []) hb4).owns hown2.out (by simp)
          clear hb4 HKF2
          go_wp2
          go_roundg (cnt M r2)
          case measure => have := HMS.out; omega
          case rel => exact ⟨L, r2, rfl, rfl, hown4.out, HB4.out, STP.out, Nat.le_refl _, HL.out⟩
        | some x =>
          rw [hsk] at SN STP
          clear hsk
          go_wp2_with fail
          refine Calls.mono SN.out ?_
          rintro e w3 ⟨rfl, hb2⟩
          have HB3 : Hid (Below w.heap.size w w3) := below_trans' HBr.out hb2
          have hown3 : w3.ownsRow w.heap.size 57 3 (.slice ao L.length cap) L.length (pcells L) := (Kp.of_below (B := 0) (ts := []) hb2).owns hown.out (by simp)
          clear hb2 SN
          unfold skVal
          go_wp2_with (at_builtin; refine wpList_append_own_wide _ rfl _ _ 38 rfl w.heap.size 57 i0 _ 3 40 Tryz.underlying38 hi hz0 hz1 hz2 rfl (by decide) _ _ _ rfl (hown3.alloc _) ⟨w3.heap.size, 0, none⟩ 1 1 (Pr.cells (Pr.mk c x false)) rfl rfl ?c1 ?c2 ?c3 ?c4 ?c5 ?_)
          case c1 =>
            intro j u hj
            match j, hj with
            | 0, hj => simp [Pr.cells] at hj; subst hj; simp [Addr.add]
            | 1, hj => simp [Pr.cells] at hj; subst hj; simp [Addr.add]
            | 2, hj => simp [Pr.cells] at hj; subst hj; simp [Addr.add]
            | j + 3, hj => simp [Pr.cells] at hj
          case c2 => intro u hu; simp [Pr.cells] at hu; rcases hu with rfl | rfl | rfl <;> rfl
          case c3 => unfold maxLen; omega
          case c4 => omega
          case c5 => have := HB3.out.size; simp; omega
          intro v9 w2 ho2 hg2 _
          have HB2 : Hid (Below w.heap.size w w2) := app_below HB3.out hown3 hg2
          have hown2 : Hid (w2.ownsRow w.heap.size 57 3 v9 (L ++ [Pr.mk c x false]).length (pcells (L ++ [Pr.mk c x false]))) := by
            have : pcells (L ++ [Pr.mk c x false]) = pcells L ++ Pr.cells (Pr.mk c x false) := by simp [pcells]
            rw [this, List.length_append]; exact ho2
          have HL2 : Hid (0 ≤ most → (((L ++ [Pr.mk c x false]).length : Nat) : Int) ≤ most) := fun _ => by simp; omega
          clear ho2 hg2 hown3
          go_wp2_with (go_at_call 163; refine (behind_any c _ hck).mono ?_; rintro e w5 ⟨rfl, rfl⟩)
          refine Calls.mono (HKF2.out _ HB2.out) ?_
          rintro e w4 ⟨rfl, hb4⟩
          have HB4 : Hid (Below w.heap.size w w4) := below_trans' HB2.out hb4
          have hown4 : Hid (w4.ownsRow w.heap.size 57 3 v9 (L ++ [Pr.mk c x false]).length (pcells (L ++ [Pr.mk c x false]))) := (Kp.of_below (B := 0) (ts := []) hb4).owns hown2.out (by simp)
          clear hb4 HKF2
          go_wp2
          go_roundg (cnt M r2)
          case measure => have := HMS.out; omega
          case rel => exact ⟨L ++ [Pr.mk c x false], r2, rfl, rfl, hown4.out, HB4.out, STP.out, Nat.le_refl _, HL2.out⟩
      · go_wp2
        go_ret
        unfold ScanPost
        exact ⟨_, L, some c, rfl, hown.out, HBr.out, HI.out, .inr (by omega), HL.out⟩
end Go.Proofs.YtakipjofboipmaaGreatDoor

/- The walks of this proof: snapshots by their numbers; Get and Scan. -/
namespace Go.Proofs.YtakipjofboipmaaGreatDoor
open Go.RowKit Go.Sort

/-- What lies in a row, by its places. -/
theorem row_cell {α : Type} {w : World} {base : Nat} {e : TypeId} {size : Nat} {v : Value} {l : List α} {f : α → List Value} (hf : ∀ a, (f a).length = size) (h : w.ownsRow base e size v l.length (l.flatMap f)) (hl : 0 < l.length) :
    ∃ g cap, v = .slice (some ⟨g, 0, none⟩) l.length cap ∧ base ≤ g ∧ g < w.heap.size ∧ l.length ≤ cap ∧ ∀ j a i, l[j]? = some a → i < size → w.cell? ⟨g, j * size + i, none⟩ = (f a)[i]? := by
  rcases h.2 with ⟨_, h0⟩ | ⟨g, cap, cur, rfl, hb, hg, hnc, _⟩
  · omega
  · refine ⟨g, cap, rfl, hb, lt_of_block hg, hnc, fun j a i hj hi => ?_⟩
    have hj' : j < l.length := (List.getElem?_eq_some_iff.1 hj).1
    rw [h.cellAt _ (by have := Nat.mul_le_mul_right size hj'; simp only [Nat.succ_eq_add_one, Nat.add_mul] at this; omega), flat_get f size hf l j a i hj hi]

theorem enrow_of_owns {w : World} {base : Nat} {v : Value} {E : List En} (h : w.ownsRow base 61 4 v E.length (ecells E)) : EnRow w v E := by
  by_cases hl : 0 < E.length
  · obtain ⟨g, cap, rfl, _, _, hc, hcell⟩ := row_cell (fun a => by rfl) h hl
    exact .inr ⟨g, cap, rfl, hc, fun j e he => ⟨hcell j e 0 he (by omega), hcell j e 1 he (by omega), hcell j e 2 he (by omega), hcell j e 3 he (by omega)⟩⟩
  · have : E = [] := List.eq_nil_of_length_eq_zero (by omega)
    subst this
    rcases h.2 with ⟨rfl, _⟩ | ⟨g, cap, cur, rfl, _, _, hc, _⟩
    · exact .inl ⟨rfl, rfl⟩
    · exact .inr ⟨g, cap, rfl, hc, fun j e he => by simp at he⟩

/-- A snapshot: its number, and the batch number at which it sees. -/
structure Sn where
  n : Int
  q : Int
def Sn.cells (s : Sn) : List Value := [.int .i64 s.n, .int .i64 s.q]
def scells (l : List Sn) : List Value := l.flatMap Sn.cells

/-- Where a number stands among snapshots. -/
def sidx (S : List Sn) (n : Int) : Option Nat := S.findIdx? fun s => decide (s.n = n)

theorem sidx_hit {S : List Sn} {n : Int} {k : Nat} {s : Sn} (hs : S[k]? = some s) (hn : s.n = n) (hno : ∀ j s', j < k → S[j]? = some s' → s'.n ≠ n) : sidx S n = some k := by
  obtain ⟨hk, rfl⟩ := List.getElem?_eq_some_iff.1 hs
  refine List.findIdx?_eq_some_iff_getElem.2 ⟨hk, by simp [hn], fun j hj => ?_⟩
  simpa using hno j _ hj (List.getElem?_eq_getElem (by omega))

theorem sidx_none {S : List Sn} {n : Int} (hno : ∀ j s', j < S.length → S[j]? = some s' → s'.n ≠ n) : sidx S n = none := by
  refine List.findIdx?_eq_none_iff.2 fun x hx => ?_
  obtain ⟨j, hj, rfl⟩ := List.getElem_of_mem hx
  simpa using hno j _ hj (List.getElem?_eq_getElem hj)

def idxVal : Option Nat → Value
  | some i => .tuple #[.int .i64 i, .bool true]
  | none => .tuple #[.int .i64 0, .bool false]

set_option maxHeartbeats 1000000 in
theorem indexSnap_any (S : List Sn) (v : Value) (base sb : Nat) (n : Int) (w : World) (hl : S.length ≤ 4) (hv : w.cell? ⟨sb, 5, none⟩ = some v) (hS : w.ownsRow base 205 2 v S.length (scells S)) :
    Calls Tryz.prog 110 #[.pointer (some ⟨sb, 5, none⟩), .int .i64 n] w fun e w' => e = .returned (idxVal (sidx S n)) ∧ Below w.heap.size w w' := by
  obtain ⟨ao, cap, rfl⟩ := slice_form hS
  have HS : Hid _ := hS
  clear hS
  go_enter Tryz.func110, Tryz.ntmps110
  go_wp2
  go_loopw [13] (fun i wr => ∃ k : Nat, k ≤ S.length ∧ i = .int .i64 k ∧ Hid (Below w.heap.size w wr) ∧ Hid (∀ j s', j < k → S[j]? = some s' → s'.n ≠ n)) (fun i _ => S.length - (intOf i).toNat)
  case atStart => exact ⟨0, Nat.zero_le _, rfl, Below.refl _ _, fun j s' h => absurd h (Nat.not_lt_zero _)⟩
  case round =>
    obtain ⟨k, hk, rfl, HB, HN⟩ := hrel
    by_cases hlt : k < S.length
    · obtain ⟨g, cap', hv', hbg, hgl, hcap, hcell⟩ := row_cell (fun a => by rfl) HS.out (by omega)
      simp only [Value.slice.injEq, true_and] at hv'
      obtain ⟨rfl, rfl⟩ := hv'
      obtain ⟨s, hs⟩ : ∃ s, S[k]? = some s := ⟨_, List.getElem?_eq_getElem hlt⟩
      have c0 := cell_later HB.out (show w.cell? ⟨g, k * 2, none⟩ = some (Value.int .i64 s.n) from hcell k s 0 hs (by omega))
      have c1 := cell_later HB.out (show w.cell? ⟨g, k * 2 + 1, none⟩ = some (Value.int .i64 s.q) from hcell k s 1 hs (by omega))
      have HE : Hid (S[k]? = some s) := hs
      have hsz : g < wr.heap.size := Nat.lt_of_lt_of_le hgl HB.out.size
      clear hs hcell
      by_cases hn : s.n = n
      · have hfin : Hid (sidx S n = some k) := sidx_hit HE.out hn HN.out
        have hnb : (s.n == n) = true := by simp [hn]
        go_wp2
        go_ret2
        exact ⟨by rw [hfin.out]; rfl, HB.out.alloc HB.out.size _⟩
      · have hnb : (s.n == n) = false := by simp [hn]
        go_wp2
        go_roundw
        case rel => exact ⟨k + 1, by omega, by go_num, HB.out.alloc HB.out.size _, fun j s' hj hs' => by
          rcases Nat.lt_succ_iff_lt_or_eq.1 hj with h | rfl
          · exact HN.out j s' h hs'
          · rw [HE.out] at hs'; cases hs'; exact hn⟩
        case measure => simp [intOf]; omega
    · obtain rfl : k = S.length := by omega
      have hfin : Hid (sidx S n = none) := sidx_none HN.out
      go_wp2
      go_ret2
      exact ⟨by rw [hfin.out]; rfl, HB.out⟩

/-- The batch number at which a number sees; none: there is no such snapshot. -/
def snq (S : List Sn) (n : Int) : Option Int := (S.find? fun s => decide (s.n = n)).map (·.q)

theorem snq_idx {S : List Sn} {n : Int} : snq S n = (sidx S n).bind fun i => S[i]?.map (·.q) := by
  unfold snq sidx
  induction S with
  | nil => rfl
  | cons s S ih =>
    by_cases h : s.n = n
    · simp [List.findIdx?_cons, h]
    · simp only [List.find?_cons, List.findIdx?_cons, h, decide_false, Bool.false_eq_true, if_false, ih]
      cases S.findIdx? fun s => decide (s.n = n) <;> simp

def seqVal : Option Int → Value
  | some q => .tuple #[.int .i64 q, .bool true]
  | none => .tuple #[.int .i64 0, .bool false]

set_option maxHeartbeats 1000000 in
theorem snapSeq_any (S : List Sn) (v : Value) (base sb : Nat) (n : Int) (w : World) (hl : S.length ≤ 4) (hv : w.cell? ⟨sb, 5, none⟩ = some v) (hS : w.ownsRow base 205 2 v S.length (scells S)) :
    Calls Tryz.prog 106 #[.pointer (some ⟨sb, 5, none⟩), .int .i64 n] w fun e w' => e = .returned (seqVal (snq S n)) ∧ Below w.heap.size w w' := by
  have hi := indexSnap_any S v base sb n w hl hv hS
  rw [snq_idx]
  generalize hr : sidx S n = r at hi
  cases r with
  | none =>
    have HI : Hid _ := hi
    clear hi hS hr
    go_enter Tryz.func106, Tryz.ntmps106
    go_wp2_with fail
    refine Calls.mono HI.out ?_
    rintro e w1 ⟨rfl, hb⟩
    have HB : Hid (Below w.heap.size w w1) := hb
    clear hb
    unfold idxVal
    go_wp2
    go_ret2
    exact ⟨rfl, HB.out⟩
  | some i =>
    have hil : i < S.length := (List.findIdx?_eq_some_iff_getElem.1 hr).1
    obtain ⟨g, cap, rfl, hbg, hgl, hcap, hcell⟩ := row_cell (fun a => by rfl) hS (by omega)
    obtain ⟨s, hs⟩ : ∃ s, S[i]? = some s := ⟨_, List.getElem?_eq_getElem hil⟩
    have c1 := show w.cell? ⟨g, i * 2 + 1, none⟩ = some (Value.int .i64 s.q) from hcell i s 1 hs (by omega)
    have HI : Hid _ := hi
    have HE : Hid (S[i]? = some s) := hs
    clear hi hS hr hcell hs
    go_enter Tryz.func106, Tryz.ntmps106
    go_wp2_with fail
    refine Calls.mono HI.out ?_
    rintro e w1 ⟨rfl, hb⟩
    have HB : Hid (Below w.heap.size w w1) := hb
    have hv1 := cell_later hb hv
    have c1 := cell_later hb c1
    clear hb
    unfold idxVal
    go_wp2
    go_ret2
    exact ⟨by simp [HE.out, seqVal], HB.out⟩

/-- At which number is seen: the latest (0), or a snapshot's. -/
def seqOf (S : List Sn) (last : Int) (at_ : Int) : Option Int := if at_ = 0 then some last else snq S at_

set_option maxHeartbeats 1000000 in
theorem seqAt_any (S : List Sn) (v : Value) (base sb : Nat) (n last : Int) (w : World) (hl : S.length ≤ 4) (hv : w.cell? ⟨sb, 5, none⟩ = some v) (hlast : w.cell? ⟨sb, 7, none⟩ = some (.int .i64 last)) (hS : w.ownsRow base 205 2 v S.length (scells S)) :
    Calls Tryz.prog 58 #[.pointer (some ⟨sb, 0, none⟩), .int .i64 n] w fun e w' => e = .returned (seqVal (seqOf S last n)) ∧ Below w.heap.size w w' := by
  unfold seqOf
  by_cases hn : n = 0
  · subst hn
    clear hS
    rw [if_pos rfl]
    go_enter Tryz.func58, Tryz.ntmps58
    go_wp2
    go_ret2
    exact ⟨rfl, Below.refl _ _⟩
  · have hnb : (n == 0) = false := by simp [hn]
    rw [if_neg hn]
    have hi := snapSeq_any S v base sb n w hl hv hS
    generalize snq S n = r at hi
    have HI : Hid _ := hi
    clear hi hS
    cases r with
    | none =>
      go_enter Tryz.func58, Tryz.ntmps58
      go_wp2_with fail
      refine Calls.mono HI.out ?_
      rintro e w1 ⟨rfl, hb⟩
      have HB : Hid (Below w.heap.size w w1) := hb
      clear hb
      unfold seqVal
      go_wp2
      go_ret2
      exact ⟨rfl, HB.out⟩
    | some q =>
      go_enter Tryz.func58, Tryz.ntmps58
      go_wp2_with fail
      refine Calls.mono HI.out ?_
      rintro e w1 ⟨rfl, hb⟩
      have HB : Hid (Below w.heap.size w w1) := hb
      clear hb
      unfold seqVal
      go_wp2
      go_ret2
      exact ⟨rfl, HB.out⟩
end Go.Proofs.YtakipjofboipmaaGreatDoor
