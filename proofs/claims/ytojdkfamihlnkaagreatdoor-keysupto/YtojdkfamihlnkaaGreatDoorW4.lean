/- The walks of this proof: what is seen from a text on. -/
import Derived.Test.YtojdkfamihlnkaaGreatDoorW3
import Derived.Test.YtojdkfamihlnkaaGreatDoorN
namespace Go.Proofs.YtojdkfamihlnkaaGreatDoor
open Go.RowKit Go.Sort

theorem Tryz.info57 : (Tryz.prog.info? 57).map (fun i => (i.zero, i.size, i.bytes)) = some (some (.agg #[.string ⟨#[]⟩, .string ⟨#[]⟩, .bool false]), 3, 40) := by kernel_rfl

/-- What 'seen' hands back, in the words of 'sk'. -/
def skVal : Option ByteArray → Value
  | some x => .tuple #[.string x, .bool true]
  | none => .tuple #[.string ⟨#[]⟩, .bool false]

theorem seenVal_sk (E : List En) (k : ByteArray) (q : Int) : seenVal (fnd E k q) = skVal (sk E k q) := by
  unfold sk
  cases fnd E k q with
  | none => rfl
  | some e =>
    simp only [seenVal]
    cases e.g <;> rfl

theorem slice_form {w : World} {base : Nat} {e : TypeId} {size : Nat} {v : Value} {n : Nat} {xs : List Value} (h : w.ownsRow base e size v n xs) : ∃ ao cap, v = .slice ao n cap := by
  rcases h.2 with ⟨rfl, rfl⟩ | ⟨g, cap, cur, rfl, _⟩
  · exact ⟨_, _, rfl⟩
  · exact ⟨_, _, rfl⟩

theorem keyFrom_end (E : List En) (v : Value) (sb : Nat) (k : ByteArray) (w : World) (hn : E.length < 1000000000) (hs : Sorted E) (hq : ∀ e ∈ E, e.s ≤ 9223372036854775807) (hv : w.cell? ⟨sb, 0, none⟩ = some v) (hc : EnRow w v E) (d : Nat) (os : Array Obj) (hr : nxt E k = none) :
    Calls Tryz.prog 107 #[.pointer (some ⟨sb, 0, none⟩), .string k] (grow (redrawn w d) os) fun e w'' => e = .returned (.tuple #[.string ⟨#[]⟩, .bool false]) ∧ ∃ p : Regrown, w'' = grow (redrawn w p.d) p.os := by
  have h := keyFrom_any E v sb k _ hn hs hq (cell_regrown hv d os) (hc.below (below_regrown w d os))
  rw [hr] at h
  exact Calls.regrown_of h

theorem keyFrom_hit (E : List En) (v : Value) (sb : Nat) (k : ByteArray) (w : World) (hn : E.length < 1000000000) (hs : Sorted E) (hq : ∀ e ∈ E, e.s ≤ 9223372036854775807) (hv : w.cell? ⟨sb, 0, none⟩ = some v) (hc : EnRow w v E) (d : Nat) (os : Array Obj) {y : En} (hr : nxt E k = some y) :
    Calls Tryz.prog 107 #[.pointer (some ⟨sb, 0, none⟩), .string k] (grow (redrawn w d) os) fun e w'' => e = .returned (.tuple #[.string y.k, .bool true]) ∧ ∃ p : Regrown, w'' = grow (redrawn w p.d) p.os := by
  have h := keyFrom_any E v sb k _ hn hs hq (cell_regrown hv d os) (hc.below (below_regrown w d os))
  rw [hr] at h
  exact Calls.regrown_of h

theorem behind_in (k : ByteArray) (w : World) (hk : k.size ≤ 1000) (d : Nat) (os : Array Obj) :
    Calls Tryz.prog 108 #[.string k] (grow (redrawn w d) os) fun e w'' => e = .returned (.string (k ++ nul)) ∧ ∃ p : Regrown, w'' = grow (redrawn w p.d) p.os :=
  Calls.regrown_of ((behind_any k _ hk).mono fun _ _ ⟨h1, h2⟩ => ⟨h1, by rw [h2]; exact Below.refl _ _⟩)

/-- What a round of the scan does to memory. -/
theorem app_below {w wr w1 : World} {v : Value} {n : Nat} {xs : List Value} {e : TypeId} {size : Nat} {o : Obj} (hb : Below w.heap.size w wr) (ho : wr.ownsRow w.heap.size e size v n xs) (hg : (wr.alloc o).grownBy w1 v.ownBlock) : Below w.heap.size w w1 :=
  (hb.alloc hb.size o).grown hg (by have := hb.size; simp; omega) fun k hk => (ho.lt k hk).1

/-- What a scan comes to. -/
def ScanPost (E : List En) (f : ByteArray) (most q : Int) (w : World) (e : Ending) (w' : World) : Prop :=
  ∃ (vl : Value) (L : List Pr) (cur : Option ByteArray), e = .returned vl ∧ w'.ownsRow w.heap.size 57 3 vl L.length (pcells L) ∧ Below w.heap.size w w' ∧ ScanInv E f q L cur ∧ (cur = none ∨ most ≤ L.length) ∧ (0 ≤ most → L.length ≤ most)

set_option maxHeartbeats 2000000 in
set_option maxRecDepth 100000 in
theorem seenFrom_any (E : List En) (v : Value) (sb : Nat) (f : ByteArray) (most q : Int) (w : World) (hn : E.length < 1000000000) (hs : Sorted E) (hq : ∀ e ∈ E, e.s ≤ 9223372036854775807) (hkl : ∀ e ∈ E, e.k.size ≤ 1000) (hv : w.cell? ⟨sb, 0, none⟩ = some v) (hc : EnRow w v E) :
    Calls Tryz.prog 84 #[.pointer (some ⟨sb, 0, none⟩), .string f, .int .i64 most, .int .i64 q] w fun e w' => ScanPost E f most q w e w' := by
  have hsb : sb < w.heap.size := block_lt_of_cell hv
  have HC : Hid (EnRow w v E) := hc
  have HS : Hid (Sorted E) := hs
  have HQ : Hid (∀ e ∈ E, e.s ≤ 9223372036854775807) := hq
  have HK : Hid (∀ e ∈ E, e.k.size ≤ 1000) := hkl
  have HV : Hid (w.cell? ⟨sb, 0, none⟩ = some v) := hv
  clear hc hs hq hkl hv
  obtain ⟨i0, hi, hz0, hz1, hz2⟩ := info_parts Tryz.info57
  have kf := (keyFrom_any E v sb f w hn HS.out HQ.out HV.out HC.out)
  have st := scan_start HS.out f q
  generalize nxt E f = r at kf st
  have KF : Hid _ := kf
  have ST : Hid _ := st
  clear kf st
  go_enter Tryz.func84, Tryz.ntmps84
  go_wp2_with fail
  refine Calls.mono KF.out ?_
  rintro e w1 ⟨rfl, hb⟩
  clear KF
  have HB : Hid (Below w.heap.size w w1) := hb
  have HS0 : ∃ s10 s11, nextVal r = .tuple #[s10, s11] ∧ (∃ cur : Option ByteArray, r.map (·.k) = cur ∧ s11 = .bool cur.isSome ∧ ∀ c, cur = some c → s10 = .string c) := by
    cases r with
    | none => exact ⟨_, _, rfl, _, rfl, rfl, fun c hc => by simp at hc⟩
    | some e => exact ⟨_, _, rfl, _, rfl, rfl, fun c hc => by simp at hc; subst hc; rfl⟩
  obtain ⟨s10, s11, hnv, hcur⟩ := HS0
  rw [hnv]
  have HCU : Hid _ := hcur
  clear hnv hcur hb
  go_wp2
  go_loopg [9, 10, 11] E.length (fun kx s9 s10 s11 wr => ∃ (L : List Pr) (cur : Option ByteArray), s11 = .bool cur.isSome ∧ (∀ c, cur = some c → s10 = .string c) ∧ Hid (wr.ownsRow w.heap.size 57 3 s9 L.length (pcells L)) ∧ Hid (Below w.heap.size w wr) ∧ Hid (ScanInv E f q L cur) ∧ cnt E cur ≤ kx ∧ Hid (0 ≤ most → L.length ≤ most))
  case atStart =>
    obtain ⟨cur, h1, h2, h3⟩ := HCU.out
    rw [h1] at ST
    exact ⟨[], cur, h2, h3, World.ownsRow_nil _ _ _ _, HB.out, ST.out, by have := ST.out.len; simp at this; omega, fun h => h⟩
  case round =>
    clear ST HCU
    obtain ⟨L, cur, rfl, h10, hown, HBr, HI, hcn, HL⟩ := hrel
    obtain ⟨ao, cap, rfl⟩ := slice_form hown.out
    cases cur with
    | none =>
      clear h10
      go_wp2
      go_ret
      unfold ScanPost
      exact ⟨_, L, none, rfl, hown.out, HBr.out, HI.out, .inl rfl, HL.out⟩
    | some c =>
      obtain rfl := h10 c rfl
      clear h10
      by_cases hm : (L.length : Int) < most
      · have hv1 : Hid (wr.cell? ⟨sb, 0, none⟩ = some v) := cell_later HBr.out HV.out
        have hc1 : Hid (EnRow wr v E) := HC.out.below HBr.out
        have hck : c.size ≤ 1000 := by obtain ⟨e, he, rfl⟩ := (HI.out.here c rfl).2; exact HK.out e he
        have hll : L.length ≤ E.length := by have := HI.out.len; omega
        have sn := seen_any E v sb c q wr hn HS.out hv1.out hc1.out
        rw [seenVal_sk] at sn
        have stp := scan_step HS.out HI.out
        have HP : Hid (1 ≤ cnt E (some c)) := by
          obtain ⟨e, he, hk⟩ := (HI.out.here c rfl).2
          exact List.countP_pos_iff.2 ⟨e, he, by simp [hk, kc_self]⟩
        have HLT : Hid (∀ c', (nxt E (c ++ nul)).map (·.k) = some c' → cnt E (some c') < cnt E (some c)) := by
          intro c' hc'
          cases hnn : nxt E (c ++ nul) with
          | none => simp [hnn] at hc'
          | some y =>
            simp [hnn] at hc'; subst hc'
            obtain ⟨e, he, hk⟩ := (HI.out.here c rfl).2
            have g := nxt_some HS.out hnn
            have hlt := (kc_nul c y.k).1 g.2.1
            exact countP_less _ _ E (fun x hx hp => by
              simp at hp ⊢
              by_cases g : 0 ≤ kc x.k c
              · exact g
              · have := kc_trans (show kc x.k c < 0 by omega) hlt; omega) ⟨e, he, by simp [hk, kc_self], by simp [hk]; exact hlt⟩
        obtain ⟨r2, hr2⟩ : ∃ r2, nxt E (c ++ nul) = r2 := ⟨_, rfl⟩
        rw [hr2] at stp
        have HR2 : Hid (nxt E (c ++ nul) = r2) := hr2
        have SN : Hid _ := sn
        have STP : Hid _ := stp
        clear hr2 sn stp
        cases hsk : sk E c q with
        | none =>
          rw [hsk] at SN STP
          clear hsk
          go_wp2_with fail
          refine Calls.mono SN.out ?_
          rintro e w2 ⟨rfl, hb2⟩
          have HB2 : Hid (Below w.heap.size w w2) := below_trans' HBr.out hb2
          have hown2 : Hid (w2.ownsRow w.heap.size 57 3 (.slice ao L.length cap) L.length (pcells L)) := (Kp.of_below (B := 0) (ts := []) hb2).owns hown.out (by simp)
          have hv2 : Hid (w2.cell? ⟨sb, 0, none⟩ = some v) := cell_later HB2.out HV.out
          have hc2 : Hid (EnRow w2 v E) := HC.out.below HB2.out
          clear hb2 SN
          unfold skVal
          go_wp2
          refine wp_region_quiet_below (by kernel_rfl) (by kernel_rfl) ?_
          cases r2 with
          | none =>
            repeat (first | go_big_quiet_step (first | exact behind_in _ _ hck _ _ | exact keyFrom_end E v sb _ _ hn HS.out HQ.out hv2.out hc2.out _ _ HR2.out) | quiet_step (first | exact behind_in _ _ hck _ _ | exact keyFrom_end E v sb _ _ hn HS.out HQ.out hv2.out hc2.out _ _ HR2.out))
            refine wpQuiet_nil ?_
            intro _ hw'
            obtain ⟨⟨dq, osq⟩, hw''⟩ := hw'
            subst hw''
            go_wp2
            go_roundg (0)
            case measure => have := HP.out; omega
            case rel => exact ⟨L, none, rfl, fun c hc => (by cases hc), (Kp.of_below (B := 0) (ts := []) (below_regrown w2 dq osq)).owns hown2.out (by simp), below_trans' HB2.out (below_regrown w2 dq osq), STP.out, Nat.zero_le _, HL.out⟩
          | some y =>
            repeat (first | go_big_quiet_step (first | exact behind_in _ _ hck _ _ | exact keyFrom_hit E v sb _ _ hn HS.out HQ.out hv2.out hc2.out _ _ HR2.out) | quiet_step (first | exact behind_in _ _ hck _ _ | exact keyFrom_hit E v sb _ _ hn HS.out HQ.out hv2.out hc2.out _ _ HR2.out))
            refine wpQuiet_nil ?_
            intro _ hw'
            obtain ⟨⟨dq, osq⟩, hw''⟩ := hw'
            subst hw''
            go_wp2
            go_roundg (cnt E (some y.k))
            case measure => have := HLT.out y.k (by rw [HR2.out]; rfl); omega
            case rel => exact ⟨L, some y.k, rfl, fun c hc => (by cases hc; rfl), (Kp.of_below (B := 0) (ts := []) (below_regrown w2 dq osq)).owns hown2.out (by simp), below_trans' HB2.out (below_regrown w2 dq osq), STP.out, Nat.le_refl _, HL.out⟩
        | some x =>
          rw [hsk] at SN STP
          clear hsk
          go_wp2_with fail
          refine Calls.mono SN.out ?_
          rintro e w3 ⟨rfl, hb2⟩
          have HB3 : Hid (Below w.heap.size w w3) := below_trans' HBr.out hb2
          have hown3 : w3.ownsRow w.heap.size 57 3 (.slice ao L.length cap) L.length (pcells L) := (Kp.of_below (B := 0) (ts := []) hb2).owns hown.out (by simp)
          clear hb2 SN
          unfold skVal
          go_wp2_with (at_builtin; refine wpList_append_own _ rfl _ _ 38 rfl w.heap.size 57 i0 _ 3 40 Tryz.underlying38 hi hz0 hz1 hz2 rfl (by decide) _ _ _ rfl (hown3.alloc _) ⟨w3.heap.size, 0, none⟩ 1 1 (Pr.cells (Pr.mk c x false)) rfl rfl ?c1 ?c2 ?c3 ?c4 ?c5 ?_)
          case c1 =>
            intro j u hj
            match j, hj with
            | 0, hj => simp [Pr.cells] at hj; subst hj; simp [Addr.add]
            | 1, hj => simp [Pr.cells] at hj; subst hj; simp [Addr.add]
            | 2, hj => simp [Pr.cells] at hj; subst hj; simp [Addr.add]
            | j + 3, hj => simp [Pr.cells] at hj
          case c2 => intro u hu; simp [Pr.cells] at hu; rcases hu with rfl | rfl | rfl <;> rfl
          case c3 => unfold maxLen; omega
          case c4 => omega
          case c5 => have := HB3.out.size; simp; omega
          intro v9 w2 ho2 hg2 _
          have HB2 : Hid (Below w.heap.size w w2) := app_below HB3.out hown3 hg2
          have hown2 : Hid (w2.ownsRow w.heap.size 57 3 v9 (L ++ [Pr.mk c x false]).length (pcells (L ++ [Pr.mk c x false]))) := by
            have : pcells (L ++ [Pr.mk c x false]) = pcells L ++ Pr.cells (Pr.mk c x false) := by simp [pcells]
            rw [this, List.length_append]; exact ho2
          have hv2 : Hid (w2.cell? ⟨sb, 0, none⟩ = some v) := cell_later HB2.out HV.out
          have hc2 : Hid (EnRow w2 v E) := HC.out.below HB2.out
          have HL2 : Hid (0 ≤ most → (((L ++ [Pr.mk c x false]).length : Nat) : Int) ≤ most) := fun _ => by simp; omega
          clear ho2 hg2 hown3
          go_wp2
          refine wp_region_quiet_below (by kernel_rfl) (by kernel_rfl) ?_
          cases r2 with
          | none =>
            repeat (first | go_big_quiet_step (first | exact behind_in _ _ hck _ _ | exact keyFrom_end E v sb _ _ hn HS.out HQ.out hv2.out hc2.out _ _ HR2.out) | quiet_step (first | exact behind_in _ _ hck _ _ | exact keyFrom_end E v sb _ _ hn HS.out HQ.out hv2.out hc2.out _ _ HR2.out))
            refine wpQuiet_nil ?_
            intro _ hw'
            obtain ⟨⟨dq, osq⟩, hw''⟩ := hw'
            subst hw''
            go_wp2
            go_roundg (0)
            case measure => have := HP.out; omega
            case rel => exact ⟨L ++ [Pr.mk c x false], none, rfl, fun c hc => (by cases hc), (Kp.of_below (B := 0) (ts := []) (below_regrown w2 dq osq)).owns hown2.out (by simp), below_trans' HB2.out (below_regrown w2 dq osq), STP.out, Nat.zero_le _, HL2.out⟩
          | some y =>
            repeat (first | go_big_quiet_step (first | exact behind_in _ _ hck _ _ | exact keyFrom_hit E v sb _ _ hn HS.out HQ.out hv2.out hc2.out _ _ HR2.out) | quiet_step (first | exact behind_in _ _ hck _ _ | exact keyFrom_hit E v sb _ _ hn HS.out HQ.out hv2.out hc2.out _ _ HR2.out))
            refine wpQuiet_nil ?_
            intro _ hw'
            obtain ⟨⟨dq, osq⟩, hw''⟩ := hw'
            subst hw''
            go_wp2
            go_roundg (cnt E (some y.k))
            case measure => have := HLT.out y.k (by rw [HR2.out]; rfl); omega
            case rel => exact ⟨L ++ [Pr.mk c x false], some y.k, rfl, fun c hc => (by cases hc; rfl), (Kp.of_below (B := 0) (ts := []) (below_regrown w2 dq osq)).owns hown2.out (by simp), below_trans' HB2.out (below_regrown w2 dq osq), STP.out, Nat.le_refl _, HL2.out⟩
      · go_wp2
        go_ret
        unfold ScanPost
        exact ⟨_, L, some c, rfl, hown.out, HBr.out, HI.out, .inr (by omega), HL.out⟩
end Go.Proofs.YtojdkfamihlnkaaGreatDoor
