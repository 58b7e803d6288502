/- The walks of this proof: the document's store: Scan, told in the words of the program's entries. -/
import Derived.Test.YtakipjofboipmaaGreatDoorJ18
import Derived.Deep.DeepAppendWide
import Derived.Test.YtakipjofboipmaaGreatDoorJ8
namespace Go.Proofs.YtakipjofboipmaaGreatDoor
open Go.RowKit Go.Sort

/-- The program's store and the document's say the same. -/
structure Sm (x : St) (y : Rf) : Prop where
  snaps : x.S = y.S
  last : x.last = y.A.length
  num : x.lastSnap = y.num
  rel : Rel x.E y.A

theorem keys_rel {E : List En} {A : List (List Pr)} (h : Rel E A) (k : ByteArray) : KeysOf A k ↔ ∃ e ∈ E, e.k = k := by
  constructor
  · rintro ⟨b, hb, p, hp, rfl⟩
    obtain ⟨i, hi, rfl⟩ := List.getElem_of_mem hb
    cases hl : lastP A[i] p.k with
    | none => exact absurd rfl (lastP_none.1 hl p hp)
    | some p' =>
      have h1 := lastP_key hl
      exact ⟨toEn ((i : Int) + 1) p', (h _).2 ⟨i, _, p', List.getElem?_eq_getElem hi, keep_mem.2 (by rw [h1.1]; exact hl), rfl⟩, h1.1⟩
  · rintro ⟨e, he, rfl⟩
    obtain ⟨i, b, p, h1, h2, rfl⟩ := (h e).1 he
    exact ⟨b, List.mem_of_getElem? h1, p, keep_sub h2, rfl⟩

theorem next_nxt {E : List En} {A : List (List Pr)} (hs : Sorted E) (hr : Rel E A) {key f : ByteArray} {it : Bool} {o : Option ByteArray} (h : IsNext (KeysOf A) key it o) (hf : ∀ k, Above key it k ↔ 0 ≤ kc k f) : o = (nxt E f).map (·.k) := by
  cases hn : nxt E f with
  | none =>
    have h1 := nxt_none hn
    cases o with
    | none => rfl
    | some x =>
      obtain ⟨h2, h3, _⟩ := h
      obtain ⟨e, he, rfl⟩ := (keys_rel hr x).1 h2
      have := h1 e he
      have := (hf _).1 h3
      omega
  | some e =>
    have h1 := nxt_some hs hn
    cases o with
    | none => exact absurd ((hf _).2 h1.2.1) (h e.k ((keys_rel hr _).2 ⟨e, h1.1, rfl⟩))
    | some x =>
      obtain ⟨h2, h3, h4⟩ := h
      have h5 := h4 e.k ((keys_rel hr _).2 ⟨e, h1.1, rfl⟩) ((hf _).2 h1.2.1)
      obtain ⟨e', he', rfl⟩ := (keys_rel hr x).1 h2
      have h6 := h1.2.2 e' he' ((hf _).1 h3)
      have h7 := kc_neg e.k e'.k
      rw [kc_zero (show kc e'.k e.k = 0 by omega)]
      rfl

theorem above_it (f k : ByteArray) : Above f true k ↔ 0 ≤ kc k f := by
  unfold Above
  have := kc_neg k f
  constructor
  · rintro (h | ⟨_, rfl⟩)
    · omega
    · rw [kc_self]; omega
  · intro h
    by_cases he : kc f k = 0
    · exact .inr ⟨rfl, (kc_zero he).symm⟩
    · exact .inl (by omega)

theorem above_not (f k : ByteArray) : Above f false k ↔ 0 ≤ kc k (f ++ nul) := by
  rw [kc_nul]
  unfold Above
  simp

set_option maxHeartbeats 2000000 in
set_option maxRecDepth 100000 in
theorem refScan_any (D : Nat → Prop) (rb : Nat) (x : St) (y : Rf) (f : ByteArray) (most n : Int) (w : World) (hy : RefAt D rb y w) (ok : RfOk y) (sm : Sm x y) (ox : StOk x) :
    Calls Tryz.prog 63 #[.pointer (some ⟨rb, 0, none⟩), .string f, .int .i64 most, .int .i64 n] w fun e w' => ScanAns x f most n w e w' := by
  obtain ⟨i0, hi, hz0, hz1, hz2⟩ := info_parts Tryz.info57
  have hat := refAt_any D rb y n w hy ok.snaps
  have hq := @seqOf_le y ok n
  unfold ScanAns
  rw [sm.snaps, sm.last]
  generalize seqOf y.S y.A.length n = r at hat hq
  have HAT : Hid _ := hat
  have HY : Hid (RefAt D rb y w) := hy
  have OK : Hid (RfOk y) := ok
  have hEn := ox.few
  have HS : Hid (Sorted x.E) := ox.sorted
  have HR : Hid (Rel x.E y.A) := sm.rel
  have hrb : rb < w.heap.size := by
    obtain ⟨_, _, _, _, _, _, hs, _⟩ := hy
    exact lt_of_block hs
  clear hat hy ok sm ox
  cases r with
  | none =>
    simp only
    clear hq
    go_enter Tryz.func63, Tryz.ntmps63
    go_wp2_with fail
    refine Calls.mono HAT.out ?_
    rintro e w1 ⟨rfl, rfl⟩
    unfold atVal
    go_wp2
    go_ret2
    exact ⟨rfl, Below.refl _ _⟩
  | some q =>
    simp only
    obtain ⟨h0, hqn⟩ := hq rfl
    obtain ⟨m, rfl⟩ : ∃ m : Nat, q = m := ⟨q.toNat, by omega⟩
    clear hq
    rw [Int.toNat_natCast] at hqn
    by_cases hm : most < 0
    · simp only [hm, if_true]
      go_enter Tryz.func63, Tryz.ntmps63
      go_wp2_with fail
      refine Calls.mono HAT.out ?_
      rintro e w1 ⟨rfl, rfl⟩
      unfold atVal
      go_wp2
      go_ret2
      exact ⟨rfl, Below.refl _ _⟩
    · simp only [hm, if_false]
      generalize hpost : (fun (e : Ending) (w' : World) => ∃ (vl : Value) (L : List Pr) (cur : Option ByteArray), e = .returned (.tuple #[vl, .int .i64 0]) ∧ w'.ownsRow w.heap.size 57 3 vl L.length (pcells L) ∧ Below w.heap.size w w' ∧ ScanInv x.E f m L cur ∧ (cur = none ∨ most ≤ L.length) ∧ L.length ≤ most) = PP
      have HPP : Hid _ := hpost
      have NX : Hid (∀ (c : ByteArray) (it : Bool) (w1 : World), Below w.heap.size w w1 → Calls Tryz.prog 109 #[.pointer (some ⟨rb, 0, none⟩), .string c, .bool it] w1 fun e w' => ∃ o : Option ByteArray, e = .returned (.tuple #[.string (oVal o), .bool o.isSome]) ∧ IsNext (KeysOf y.A) c it o ∧ w' = w1) := fun c it w1 hb =>
        refNext_any D rb y c it w1 (HY.out.below hb) OK.out.few OK.out.four
      have SE : Hid (∀ (c : ByteArray) (w1 : World), Below w.heap.size w w1 → Calls Tryz.prog 61 #[.pointer (some ⟨rb, 0, none⟩), .string c, .int .i64 m] w1 fun e w' => ∃ sv : ByteArray, ∃ o : Option ByteArray, sk x.E c m = o ∧ (∀ v, o = some v → sv = v) ∧ e = .returned (.tuple #[.string sv, .bool o.isSome]) ∧ Below w1.heap.size w1 w') := fun c w1 hb => by
        refine (refSeen_any D rb y c m w1 (HY.out.below hb) hqn OK.out.few OK.out.four).mono ?_
        rintro e w' ⟨rfl, hb⟩
        refine ⟨(seenAns y.A c m).1, _, rfl, ?_, ?_, hb⟩
        · intro v hv
          rw [sk_vk HS.out HR.out c m hqn] at hv
          unfold vk at hv
          unfold seenAns
          cases hva : val y.A c m with
          | none => rw [hva] at hv; cases hv
          | some p => rw [hva] at hv; cases hg : p.g <;> simp [hg] at hv; exact hv
        · rw [sk_vk HS.out HR.out c m hqn]
          unfold vk seenAns
          cases val y.A c m with
          | none => rfl
          | some p => cases hg : p.g <;> simp [hg]
      have ST : Hid _ := scan_start HS.out f (m : Int)
      clear hpost
      go_enter Tryz.func63, Tryz.ntmps63
      go_wp2_with fail
      refine Calls.mono HAT.out ?_
      rintro e w1 ⟨rfl, rfl⟩
      unfold atVal
      go_wp2_with fail
      refine Calls.mono (NX.out _ _ _ (Below.refl _ _)) ?_
      rintro e w2 ⟨o0, rfl, ho0, rfl⟩
      have HO0 : Hid (o0 = (nxt x.E f).map (·.k)) := next_nxt HS.out HR.out ho0 (above_it f)
      clear ho0
      go_wp2
      go_loopg [11, 12, 13, 14, 15] x.E.length (fun kx s11 s12 s13 s14 s15 wr => ∃ (L : List Pr) (cur : Option ByteArray), s13 = .bool cur.isSome ∧ s12 = .string (oVal cur) ∧ Hid (wr.ownsRow w2.heap.size 57 3 s11 L.length (pcells L)) ∧ Hid (Below w2.heap.size w2 wr) ∧ Hid (ScanInv x.E f m L cur) ∧ cnt x.E cur ≤ kx ∧ Hid ((L.length : Int) ≤ most))
      case atStart => exact ⟨[], o0, rfl, rfl, World.ownsRow_nil _ _ _ _, Below.refl _ _, by rw [HO0.out]; exact ST.out, by rw [HO0.out]; have := ST.out.len; simp at this; omega, by show ((0 : Nat) : Int) ≤ most; omega⟩
      case round =>
        clear ST HO0
        obtain ⟨L, cur, rfl, rfl, hown, HBr, HI, hcn, HL⟩ := hrel
        obtain ⟨ao, cap, rfl⟩ := slice_form hown.out
        cases cur with
        | none =>
          go_wp2
          rw [← HPP.out]
          exact ⟨_, L, none, rfl, hown.out, HBr.out, HI.out, .inl rfl, HL.out⟩
        | some c =>
          by_cases hmm : (L.length : Int) < most
          · have hll : L.length ≤ x.E.length := by have := HI.out.len; omega
            have stp := scan_step HS.out HI.out
            have HP : Hid (1 ≤ cnt x.E (some c)) := by
              obtain ⟨e, he, hk⟩ := (HI.out.here c rfl).2
              exact List.countP_pos_iff.2 ⟨e, he, by simp [hk, kc_self]⟩
            have HLT : Hid (∀ c', (nxt x.E (c ++ nul)).map (·.k) = some c' → cnt x.E (some c') < cnt x.E (some c)) := by
              intro c' hc'
              cases hnn : nxt x.E (c ++ nul) with
              | none => simp [hnn] at hc'
              | some y =>
                simp [hnn] at hc'; subst hc'
                obtain ⟨e, he, hk⟩ := (HI.out.here c rfl).2
                have g := nxt_some HS.out hnn
                have hlt := (kc_nul c y.k).1 g.2.1
                exact countP_less _ _ x.E (fun x hx hp => by
                  simp at hp ⊢
                  by_cases g : 0 ≤ kc x.k c
                  · exact g
                  · have := kc_trans (show kc x.k c < 0 by omega) hlt; omega) ⟨e, he, by simp [hk, kc_self], by simp [hk]; exact hlt⟩
            have STP : Hid _ := stp
            clear stp
            go_wp2_with fail
            refine Calls.mono (SE.out _ _ HBr.out) ?_
            rintro e w3 ⟨sv, o, hsk, hsv, rfl, hb3⟩
            have HB3 : Hid (Below w2.heap.size w2 w3) := below_trans' HBr.out hb3
            have hown3 : Hid (w3.ownsRow w2.heap.size 57 3 (.slice ao L.length cap) L.length (pcells L)) := (Kp.of_below (B := 0) (ts := []) hb3).owns hown.out (by simp)
            simp only [oVal, Option.getD_some] at hsk
            rw [hsk] at STP
            clear hb3 hsk
            cases o with
            | none =>
              clear hsv
              go_wp2_with fail
              refine Calls.mono (NX.out _ _ _ HB3.out) ?_
              rintro e w4 ⟨o1, rfl, ho1, rfl⟩
              have HO1 : Hid (o1 = (nxt x.E (c ++ nul)).map (·.k)) := next_nxt HS.out HR.out ho1 (above_not c)
              rw [← HO1.out] at STP HLT
              clear ho1
              go_wp2
              go_roundg (cnt x.E o1)
              case measure =>
                cases o1 with
                | none => have h1 := HP.out; have h0 : cnt x.E none = 0 := rfl; rw [h0]; omega
                | some c' => have := HLT.out c' rfl; omega
              case rel => exact ⟨L, o1, rfl, rfl, hown3.out, HB3.out, STP.out, Nat.le_refl _, HL.out⟩
            | some xv =>
              obtain rfl := hsv xv rfl
              clear hsv
              go_wp2_with (at_builtin; refine wpList_append_own_wide _ rfl _ _ 38 rfl w2.heap.size 57 i0 _ 3 40 Tryz.underlying38 hi hz0 hz1 hz2 rfl (by decide) _ _ _ rfl (hown3.out.alloc _) ⟨w3.heap.size, 0, none⟩ 1 1 (Pr.cells (Pr.mk c sv false)) rfl rfl ?c1 ?c2 ?c3 ?c4 ?c5 ?_)
              case c1 =>
                intro j u hj
                match j, hj with
                | 0, hj => simp [Pr.cells] at hj; subst hj; simp [Addr.add, oVal]
                | 1, hj => simp [Pr.cells] at hj; subst hj; simp [Addr.add]
                | 2, hj => simp [Pr.cells] at hj; subst hj; simp [Addr.add]
                | j + 3, hj => simp [Pr.cells] at hj
              case c2 => intro u hu; simp [Pr.cells] at hu; rcases hu with rfl | rfl | rfl <;> rfl
              case c3 => unfold maxLen; omega
              case c4 => omega
              case c5 => have := HB3.out.size; simp; omega
              intro v9 w4 ho2 hg2 _
              have HB4 : Hid (Below w2.heap.size w2 w4) := app_below HB3.out hown3.out hg2
              have hown4 : Hid (w4.ownsRow w2.heap.size 57 3 v9 (L ++ [Pr.mk c sv false]).length (pcells (L ++ [Pr.mk c sv false]))) := by
                have : pcells (L ++ [Pr.mk c sv false]) = pcells L ++ Pr.cells (Pr.mk c sv false) := by simp [pcells]
                rw [this, List.length_append]; exact ho2
              have HL2 : Hid ((((L ++ [Pr.mk c sv false]).length : Nat) : Int) ≤ most) := by show _ ≤ _; simp; omega
              clear ho2 hg2
              go_wp2_with fail
              refine Calls.mono (NX.out _ _ _ HB4.out) ?_
              rintro e w5 ⟨o1, rfl, ho1, rfl⟩
              have HO1 : Hid (o1 = (nxt x.E (c ++ nul)).map (·.k)) := next_nxt HS.out HR.out ho1 (above_not c)
              rw [← HO1.out] at STP HLT
              clear ho1
              go_wp2
              go_roundg (cnt x.E o1)
              case measure =>
                cases o1 with
                | none => have h1 := HP.out; have h0 : cnt x.E none = 0 := rfl; rw [h0]; omega
                | some c' => have := HLT.out c' rfl; omega
              case rel => exact ⟨L ++ [Pr.mk c sv false], o1, rfl, rfl, hown4.out, HB4.out, STP.out, Nat.le_refl _, HL2.out⟩
          · go_wp2
            rw [← HPP.out]
            exact ⟨_, L, some c, rfl, hown.out, HBr.out, HI.out, .inr (by omega), HL.out⟩
end Go.Proofs.YtakipjofboipmaaGreatDoor

/- The walks of this proof: laying entries together. -/
namespace Go.Proofs.YtakipjofboipmaaGreatDoor
open Go.RowKit Go.Sort

theorem run_loadCells_rows {P : Program} (w : World) (a : Addr) (cs : List Value) (h : ∀ j v, cs[j]? = some v → w.cell? (a.add j) = some v) (n size : Nat) (len cap : Nat) (hl : cs.length = n * size) :
    (Builtin.firstCells size n (.slice (some a) len cap)).run P w = .ok cs.toArray w := run_firstCells_some (P := P) w size n a len cap cs hl h

/-- copy within a row of elements of some cells, the row written out. -/
theorem run_copy_rows {P : Program} (w : World) (dT sT ty elem : TypeId) (i : TypeInfo) (g o dLen dCap sLen sCap n : Nat) (dp sp : Option Addr) (a : Addr) (cur : Array Value) (t : TypeId) (cs : List Value)
    (hu : P.underlying dT = some (.slice elem)) (hi : P.info? elem = some i) (hg : w.heap[g]? = some (.cells cur t (0, 0))) (hn : Nat.min sLen dLen = n) (hcs : cs.length = n * i.size)
    (hpos : 0 < n → dp = some ⟨g, o, none⟩ ∧ sp = some a) (hsrc : ∀ j v, cs[j]? = some v → w.cell? (a.add j) = some v) (hfit : o + cs.length ≤ cur.size) (h1 : ∀ v ∈ cs, v.oneCell' = true) :
    (Builtin.copy_ #[dT, sT] ty #[.slice dp dLen dCap, .slice sp sLen sCap]).run P w = .ok (goInt n) (w.setRow g (cur.toList.take o ++ cs ++ cur.toList.drop (o + cs.length)).toArray) := by
  by_cases h0 : 0 < n
  · obtain ⟨rfl, rfl⟩ := hpos h0
    have hf := run_firstCells_some (P := P) w i.size n a sLen sCap cs hcs hsrc
    have hst := run_storeCells_at P g o t cs 0 cur w hg (by simpa using hfit) h1
    simp only [Nat.add_zero] at hst
    simp [Builtin.copy_, run_underlying hu, Builtin.lenOf, sizeOf, typeInfo, hi, hn, hf, hst]
  · obtain rfl : n = 0 := by omega
    have hc0 : cs = [] := List.eq_nil_of_length_eq_zero (by omega)
    subst hc0
    have hself : w.setRow g (cur.toList.take o ++ [] ++ cur.toList.drop (o + ([] : List Value).length)).toArray = w := by
      simp only [List.append_nil, List.length_nil, Nat.add_zero, List.take_append_drop]
      exact setRow_self w g cur t (0, 0) hg
    rw [hself]
    have hf : (Builtin.firstCells i.size 0 (.slice sp sLen sCap)).run P w = .ok #[] w := by
      cases sp with
      | none => simp [Builtin.firstCells]
      | some b => exact run_firstCells_some (P := P) w i.size 0 b sLen sCap [] (by simp) (by simp)
    cases dp with
    | none => simp [Builtin.copy_, run_underlying hu, Builtin.lenOf, sizeOf, typeInfo, hi, hn, hf]
    | some b => simp [Builtin.copy_, run_underlying hu, Builtin.lenOf, sizeOf, typeInfo, hi, hn, hf, storeCells]

theorem ecells_len (L : List En) : (ecells L).length = L.length * 4 := flat_len _ 4 (fun a => by rfl) L

theorem set4 {β : Type} (a b c d : β) : ∀ (n : Nat) (xs : List β), n + 3 < xs.length → (((xs.set n a).set (n + 1) b).set (n + 2) c).set (n + 3) d = xs.take n ++ [a, b, c, d] ++ xs.drop (n + 4)
  | 0, x :: y :: z :: u :: r, _ => by simp
  | 0, [], h => by simp at h
  | 0, [_], h => by simp at h
  | 0, [_, _], h => by simp at h
  | 0, [_, _, _], h => by simp at h
  | n + 1, [], h => by simp at h
  | n + 1, x :: r, h => by
    have ih := set4 a b c d n r (by simp at h; omega)
    simp only [List.set_cons_succ, List.take_succ_cons, List.cons_append, List.drop_succ_cons]
    rw [ih]

theorem ecells_set (L : List En) (k : Nat) (x : En) (hk : k < L.length) : ((((ecells L).set (k * 4) (.string x.k)).set (k * 4 + 1) (.int .i64 x.s)).set (k * 4 + 2) (.bool x.g)).set (k * 4 + 3) (.string x.v) = ecells (L.set k x) := by
  rw [set4 _ _ _ _ _ _ (by rw [ecells_len]; omega)]
  unfold ecells
  rw [flat_set _ 4 (fun a => by rfl) L k x hk, show k * 4 + 4 = (k + 1) * 4 by omega]
  rfl

/-- An entry stored into a row. -/
theorem put_entry {w : World} {base g cap : Nat} {L : List En} (h : w.ownsRow base 61 4 (.slice (some ⟨g, 0, none⟩) L.length cap) L.length (ecells L)) (k : Nat) (x : En) (hk : k < L.length) :
    ((((w.setCell ⟨g, k * 4, none⟩ (.string x.k)).setCell ⟨g, k * 4 + 1, none⟩ (.int .i64 x.s)).setCell ⟨g, k * 4 + 2, none⟩ (.bool x.g)).setCell ⟨g, k * 4 + 3, none⟩ (.string x.v)).ownsRow base 61 4 (.slice (some ⟨g, 0, none⟩) (L.set k x).length cap) (L.set k x).length (ecells (L.set k x)) := by
  have h4 := ((((h.stored (k * 4) (.string x.k)).1.stored (k * 4 + 1) (.int .i64 x.s)).1.stored (k * 4 + 2) (.bool x.g)).1.stored (k * 4 + 3) (.string x.v)).1
  rw [ecells_set L k x hk] at h4
  rw [List.length_set]; exact h4

/-- A part of a row copied to another place in it. -/
theorem copy_entries {w : World} {base g cap : Nat} {L : List En} (h : w.ownsRow base 61 4 (.slice (some ⟨g, 0, none⟩) L.length cap) L.length (ecells L)) (d s l : Nat) (hs : s + l ≤ L.length) (hd : d + l ≤ L.length) :
    ∃ cur : Array Value, w.heap[g]? = some (.cells cur 61 (0, 0)) ∧ base ≤ g ∧ d * 4 + (ecells ((L.drop s).take l)).length ≤ cur.size ∧
      (∀ j v, (ecells ((L.drop s).take l))[j]? = some v → w.cell? ((⟨g, s * 4, none⟩ : Addr).add j) = some v) ∧
      (w.setRow g (cur.toList.take (d * 4) ++ ecells ((L.drop s).take l) ++ cur.toList.drop (d * 4 + (ecells ((L.drop s).take l)).length)).toArray).ownsRow base 61 4 (.slice (some ⟨g, 0, none⟩) L.length cap) L.length (ecells (L.take d ++ (L.drop s).take l ++ L.drop (d + l))) := by
  have hlen : (ecells ((L.drop s).take l)).length = l * 4 := by rw [ecells_len, List.length_take, List.length_drop, Nat.min_eq_left (by omega)]
  rcases h.2 with ⟨h', _⟩ | ⟨g', cap', cur, hv, hb, hg, hnc, hcm, hsz, htake⟩
  · cases h'
  simp only [Value.slice.injEq, Option.some.injEq, Addr.mk.injEq, and_true, true_and] at hv
  obtain ⟨rfl, rfl⟩ := hv
  refine ⟨cur, hg, hb, by rw [hlen, hsz]; omega, fun j v hj => ?_, ?_⟩
  · have hadd : (⟨g, s * 4, none⟩ : Addr).add j = ⟨g, s * 4 + j, none⟩ := by unfold Addr.add; split <;> simp_all
    have hj' : j < l * 4 := by rw [← hlen]; exact (List.getElem?_eq_some_iff.1 hj).1
    rw [hadd, h.cellAt _ (by omega)]
    have e : ecells ((L.drop s).take l) = ((ecells L).drop (s * 4)).take (l * 4) := by
      unfold ecells
      rw [flat_drop _ 4 (fun a => by rfl), flat_take _ 4 (fun a => by rfl)]
    rw [e, List.getElem?_take, if_pos hj', List.getElem?_drop] at hj
    exact hj
  · refine ⟨?_, .inr ⟨g, cap, _, rfl, hb, setRow_heap w g cur _ 61 _ hg, hnc, hcm, ?_, ?_⟩⟩
    · rw [ecells_len]; simp only [List.length_append, List.length_take, List.length_drop]; omega
    · simp only [List.size_toArray, List.length_append, List.length_take, List.length_drop, Array.length_toList, hlen, hsz]; omega
    · have hA : cur.toList.take (d * 4) = ecells (L.take d) := by
        have : (cur.toList.take (L.length * 4)).take (d * 4) = cur.toList.take (d * 4) := by rw [List.take_take, Nat.min_eq_left (by omega)]
        rw [← this, htake]; exact flat_take _ 4 (fun a => by rfl) L d
      have hC : (cur.toList.drop (d * 4 + l * 4)).take (L.length * 4 - (d * 4 + l * 4)) = ecells (L.drop (d + l)) := by
        rw [← List.drop_take, htake, show d * 4 + l * 4 = (d + l) * 4 by omega]
        exact flat_drop _ 4 (fun a => by rfl) L (d + l)
      show List.take _ (_ ++ _ ++ _) = _
      rw [hlen, hA, List.take_append, List.take_of_length_le (by rw [List.length_append, ecells_len, ecells_len, List.length_take, List.length_take, List.length_drop]; omega)]
      have e2 : L.length * 4 - (ecells (L.take d) ++ ecells ((L.drop s).take l)).length = L.length * 4 - (d * 4 + l * 4) := by
        rw [List.length_append, ecells_len, hlen, List.length_take, Nat.min_eq_left (by omega)]
      rw [e2, hC]
      simp [ecells]
end Go.Proofs.YtakipjofboipmaaGreatDoor
