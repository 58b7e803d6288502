/- The walks of this proof: the document's store: Scan, told in the words of the program's entries. -/
import Derived.Test.YtakipjofboipmaaGreatDoorJ12
import Derived.Deep.DeepAppendWide
namespace Go.Proofs.YtakipjofboipmaaGreatDoor
open Go.RowKit Go.Sort

/-- The program's store and the document's say the same. -/
structure Sm (x : St) (y : Rf) : Prop where
  snaps : x.S = y.S
  last : x.last = y.A.length
  num : x.lastSnap = y.num
  rel : Rel x.E y.A

theorem keys_rel {E : List En} {A : List (List Pr)} (h : Rel E A) (k : ByteArray) : KeysOf A k ↔ ∃ e ∈ E, e.k = k := by
  constructor
  · rintro ⟨b, hb, p, hp, rfl⟩
    obtain ⟨i, hi, rfl⟩ := List.getElem_of_mem hb
    cases hl : lastP A[i] p.k with
    | none => exact absurd rfl (lastP_none.1 hl p hp)
    | some p' =>
      have h1 := lastP_key hl
      exact ⟨toEn ((i : Int) + 1) p', (h _).2 ⟨i, _, p', List.getElem?_eq_getElem hi, keep_mem.2 (by rw [h1.1]; exact hl), rfl⟩, h1.1⟩
  · rintro ⟨e, he, rfl⟩
    obtain ⟨i, b, p, h1, h2, rfl⟩ := (h e).1 he
    exact ⟨b, List.mem_of_getElem? h1, p, keep_sub h2, rfl⟩

theorem next_nxt {E : List En} {A : List (List Pr)} (hs : Sorted E) (hr : Rel E A) {key f : ByteArray} {it : Bool} {o : Option ByteArray} (h : IsNext (KeysOf A) key it o) (hf : ∀ k, Above key it k ↔ 0 ≤ kc k f) : o = (nxt E f).map (·.k) := by
  cases hn : nxt E f with
  | none =>
    have h1 := nxt_none hn
    cases o with
    | none => rfl
    | some x =>
      obtain ⟨h2, h3, _⟩ := h
      obtain ⟨e, he, rfl⟩ := (keys_rel hr x).1 h2
      have := h1 e he
      have := (hf _).1 h3
      omega
  | some e =>
    have h1 := nxt_some hs hn
    cases o with
    | none => exact absurd ((hf _).2 h1.2.1) (h e.k ((keys_rel hr _).2 ⟨e, h1.1, rfl⟩))
    | some x =>
      obtain ⟨h2, h3, h4⟩ := h
      have h5 := h4 e.k ((keys_rel hr _).2 ⟨e, h1.1, rfl⟩) ((hf _).2 h1.2.1)
      obtain ⟨e', he', rfl⟩ := (keys_rel hr x).1 h2
      have h6 := h1.2.2 e' he' ((hf _).1 h3)
      have h7 := kc_neg e.k e'.k
      rw [kc_zero (show kc e'.k e.k = 0 by omega)]
      rfl

theorem above_it (f k : ByteArray) : Above f true k ↔ 0 ≤ kc k f := by
  unfold Above
  have := kc_neg k f
  constructor
  · rintro (h | ⟨_, rfl⟩)
    · omega
    · rw [kc_self]; omega
  · intro h
    by_cases he : kc f k = 0
    · exact .inr ⟨rfl, (kc_zero he).symm⟩
    · exact .inl (by omega)

theorem above_not (f k : ByteArray) : Above f false k ↔ 0 ≤ kc k (f ++ nul) := by
  rw [kc_nul]
  unfold Above
  simp

set_option maxHeartbeats 2000000 in
set_option maxRecDepth 100000 in
theorem refScan_any (D : Nat → Prop) (rb : Nat) (x : St) (y : Rf) (f : ByteArray) (most n : Int) (w : World) (hy : RefAt D rb y w) (ok : RfOk y) (sm : Sm x y) (ox : StOk x) :
    Calls Tryz.prog 63 #[.pointer (some ⟨rb, 0, none⟩), .string f, .int .i64 most, .int .i64 n] w fun e w' => ScanAns x f most n w e w' := by
  obtain ⟨i0, hi, hz0, hz1, hz2⟩ := info_parts Tryz.info57
  have hat := refAt_any D rb y n w hy ok.snaps
  have hq := @seqOf_le y ok n
  unfold ScanAns
  rw [sm.snaps, sm.last]
  generalize seqOf y.S y.A.length n = r at hat hq
  have HAT : Hid _ := hat
  have HY : Hid (RefAt D rb y w) := hy
  have OK : Hid (RfOk y) := ok
  have hEn := ox.few
  have HS : Hid (Sorted x.E) := ox.sorted
  have HR : Hid (Rel x.E y.A) := sm.rel
  have hrb : rb < w.heap.size := by
    obtain ⟨_, _, _, _, _, _, hs, _⟩ := hy
    exact lt_of_block hs
  clear hat hy ok sm ox
  cases r with
  | none =>
    simp only
    clear hq
    go_enter Tryz.func63, Tryz.ntmps63
    go_wp2_with fail
    refine Calls.mono HAT.out ?_
    rintro e w1 ⟨rfl, rfl⟩
    unfold atVal
    go_wp2
    go_ret2
    exact ⟨rfl, Below.refl _ _⟩
  | some q =>
    simp only
    obtain ⟨h0, hqn⟩ := hq rfl
    obtain ⟨m, rfl⟩ : ∃ m : Nat, q = m := ⟨q.toNat, by omega⟩
    clear hq
    rw [Int.toNat_natCast] at hqn
    by_cases hm : most < 0
    · simp only [hm, if_true]
      go_enter Tryz.func63, Tryz.ntmps63
      go_wp2_with fail
      refine Calls.mono HAT.out ?_
      rintro e w1 ⟨rfl, rfl⟩
      unfold atVal
      go_wp2
      go_ret2
      exact ⟨rfl, Below.refl _ _⟩
    · simp only [hm, if_false]
      generalize hpost : (fun (e : Ending) (w' : World) => ∃ (vl : Value) (L : List Pr) (cur : Option ByteArray), e = .returned (.tuple #[vl, .int .i64 0]) ∧ w'.ownsRow w.heap.size 57 3 vl L.length (pcells L) ∧ Below w.heap.size w w' ∧ ScanInv x.E f m L cur ∧ (cur = none ∨ most ≤ L.length) ∧ L.length ≤ most) = PP
      have HPP : Hid _ := hpost
      have NX : Hid (∀ (c : ByteArray) (it : Bool) (w1 : World), Below w.heap.size w w1 → Calls Tryz.prog 109 #[.pointer (some ⟨rb, 0, none⟩), .string c, .bool it] w1 fun e w' => ∃ o : Option ByteArray, e = .returned (.tuple #[.string (oVal o), .bool o.isSome]) ∧ IsNext (KeysOf y.A) c it o ∧ w' = w1) := fun c it w1 hb =>
        refNext_any D rb y c it w1 (HY.out.below hb) OK.out.few OK.out.four
      have SE : Hid (∀ (c : ByteArray) (w1 : World), Below w.heap.size w w1 → Calls Tryz.prog 61 #[.pointer (some ⟨rb, 0, none⟩), .string c, .int .i64 m] w1 fun e w' => ∃ sv : ByteArray, ∃ o : Option ByteArray, sk x.E c m = o ∧ (∀ v, o = some v → sv = v) ∧ e = .returned (.tuple #[.string sv, .bool o.isSome]) ∧ Below w1.heap.size w1 w') := fun c w1 hb => by
        refine (refSeen_any D rb y c m w1 (HY.out.below hb) hqn OK.out.few OK.out.four).mono ?_
        rintro e w' ⟨rfl, hb⟩
        refine ⟨(seenAns y.A c m).1, _, rfl, ?_, ?_, hb⟩
        · intro v hv
          rw [sk_vk HS.out HR.out c m hqn] at hv
          unfold vk at hv
          unfold seenAns
          cases hva : val y.A c m with
          | none => rw [hva] at hv; cases hv
          | some p => rw [hva] at hv; cases hg : p.g <;> simp [hg] at hv; exact hv
        · rw [sk_vk HS.out HR.out c m hqn]
          unfold vk seenAns
          cases val y.A c m with
          | none => rfl
          | some p => cases hg : p.g <;> simp [hg]
      have ST : Hid _ := scan_start HS.out f (m : Int)
      clear hpost
      go_enter Tryz.func63, Tryz.ntmps63
      go_wp2_with fail
      refine Calls.mono HAT.out ?_
      rintro e w1 ⟨rfl, rfl⟩
      unfold atVal
      go_wp2_with fail
      refine Calls.mono (NX.out _ _ _ (Below.refl _ _)) ?_
      rintro e w2 ⟨o0, rfl, ho0, rfl⟩
      have HO0 : Hid (o0 = (nxt x.E f).map (·.k)) := next_nxt HS.out HR.out ho0 (above_it f)
      clear ho0
      go_wp2
      go_loopg [11, 12, 13, 14, 15] x.E.length (fun kx s11 s12 s13 s14 s15 wr => ∃ (L : List Pr) (cur : Option ByteArray), s13 = .bool cur.isSome ∧ s12 = .string (oVal cur) ∧ Hid (wr.ownsRow w2.heap.size 57 3 s11 L.length (pcells L)) ∧ Hid (Below w2.heap.size w2 wr) ∧ Hid (ScanInv x.E f m L cur) ∧ cnt x.E cur ≤ kx ∧ Hid ((L.length : Int) ≤ most))
      case atStart => exact ⟨[], o0, rfl, rfl, World.ownsRow_nil _ _ _ _, Below.refl _ _, by rw [HO0.out]; exact ST.out, by rw [HO0.out]; have := ST.out.len; simp at this; omega, by show ((0 : Nat) : Int) ≤ most; omega⟩
      case round =>
        clear ST HO0
        obtain ⟨L, cur, rfl, rfl, hown, HBr, HI, hcn, HL⟩ := hrel
        obtain ⟨ao, cap, rfl⟩ := slice_form hown.out
        cases cur with
        | none =>
          go_wp2
          rw [← HPP.out]
          exact ⟨_, L, none, rfl, hown.out, HBr.out, HI.out, .inl rfl, HL.out⟩
        | some c =>
          by_cases hmm : (L.length : Int) < most
          · have hll : L.length ≤ x.E.length := by have := HI.out.len; omega
            have stp := scan_step HS.out HI.out
            have HP : Hid (1 ≤ cnt x.E (some c)) := by
              obtain ⟨e, he, hk⟩ := (HI.out.here c rfl).2
              exact List.countP_pos_iff.2 ⟨e, he, by simp [hk, kc_self]⟩
            have HLT : Hid (∀ c', (nxt x.E (c ++ nul)).map (·.k) = some c' → cnt x.E (some c') < cnt x.E (some c)) := by
              intro c' hc'
              cases hnn : nxt x.E (c ++ nul) with
              | none => simp [hnn] at hc'
              | some y =>
                simp [hnn] at hc'; subst hc'
                obtain ⟨e, he, hk⟩ := (HI.out.here c rfl).2
                have g := nxt_some HS.out hnn
                have hlt := (kc_nul c y.k).1 g.2.1
                exact countP_less _ _ x.E (fun x hx hp => by
                  simp at hp ⊢
                  by_cases g : 0 ≤ kc x.k c
                  · exact g
                  · have := kc_trans (show kc x.k c < 0 by omega) hlt; omega) ⟨e, he, by simp [hk, kc_self], by simp [hk]; exact hlt⟩
            have STP : Hid _ := stp
            clear stp
            go_wp2_with fail
            refine Calls.mono (SE.out _ _ HBr.out) ?_
            rintro e w3 ⟨sv, o, hsk, hsv, rfl, hb3⟩
            have HB3 : Hid (Below w2.heap.size w2 w3) := below_trans' HBr.out hb3
            have hown3 : Hid (w3.ownsRow w2.heap.size 57 3 (.slice ao L.length cap) L.length (pcells L)) := (Kp.of_below (B := 0) (ts := []) hb3).owns hown.out (by simp)
            simp only [oVal, Option.getD_some] at hsk
            rw [hsk] at STP
            clear hb3 hsk
            cases o with
            | none =>
              clear hsv
              go_wp2_with fail
              refine Calls.mono (NX.out _ _ _ HB3.out) ?_
              rintro e w4 ⟨o1, rfl, ho1, rfl⟩
              have HO1 : Hid (o1 = (nxt x.E (c ++ nul)).map (·.k)) := next_nxt HS.out HR.out ho1 (above_not c)
              rw [← HO1.out] at STP HLT
              clear ho1
              go_wp2
              go_roundg (cnt x.E o1)
              case measure =>
                cases o1 with
                | none => have h1 := HP.out; have h0 : cnt x.E none = 0 := rfl; rw [h0]; omega
                | some c' => have := HLT.out c' rfl; omega
              case rel => exact ⟨L, o1, rfl, rfl, hown3.out, HB3.out, STP.out, Nat.le_refl _, HL.out⟩
            | some xv =>
              obtain rfl := hsv xv rfl
              clear hsv
              go_wp2_with (at_builtin; refine wpList_append_own_wide _ rfl _ _ 38 rfl w2.heap.size 57 i0 _ 3 40 Tryz.underlying38 hi hz0 hz1 hz2 rfl (by decide) _ _ _ rfl (hown3.out.alloc _) ⟨w3.heap.size, 0, none⟩ 1 1 (Pr.cells (Pr.mk c sv false)) rfl rfl ?c1 ?c2 ?c3 ?c4 ?c5 ?_)
              case c1 =>
                intro j u hj
                match j, hj with
                | 0, hj => simp [Pr.cells] at hj; subst hj; simp [Addr.add, oVal]
                | 1, hj => simp [Pr.cells] at hj; subst hj; simp [Addr.add]
                | 2, hj => simp [Pr.cells] at hj; subst hj; simp [Addr.add]
                | j + 3, hj => simp [Pr.cells] at hj
              case c2 => intro u hu; simp [Pr.cells] at hu; rcases hu with rfl | rfl | rfl <;> rfl
              case c3 => unfold maxLen; omega
              case c4 => omega
              case c5 => have := HB3.out.size; simp; omega
              intro v9 w4 ho2 hg2 _
              have HB4 : Hid (Below w2.heap.size w2 w4) := app_below HB3.out hown3.out hg2
              have hown4 : Hid (w4.ownsRow w2.heap.size 57 3 v9 (L ++ [Pr.mk c sv false]).length (pcells (L ++ [Pr.mk c sv false]))) := by
                have : pcells (L ++ [Pr.mk c sv false]) = pcells L ++ Pr.cells (Pr.mk c sv false) := by simp [pcells]
                rw [this, List.length_append]; exact ho2
              have HL2 : Hid ((((L ++ [Pr.mk c sv false]).length : Nat) : Int) ≤ most) := by show _ ≤ _; simp; omega
              clear ho2 hg2
              go_wp2_with fail
              refine Calls.mono (NX.out _ _ _ HB4.out) ?_
              rintro e w5 ⟨o1, rfl, ho1, rfl⟩
              have HO1 : Hid (o1 = (nxt x.E (c ++ nul)).map (·.k)) := next_nxt HS.out HR.out ho1 (above_not c)
              rw [← HO1.out] at STP HLT
              clear ho1
              go_wp2
              go_roundg (cnt x.E o1)
              case measure =>
                cases o1 with
                | none => have h1 := HP.out; have h0 : cnt x.E none = 0 := rfl; rw [h0]; omega
                | some c' => have := HLT.out c' rfl; omega
              case rel => exact ⟨L ++ [Pr.mk c sv false], o1, rfl, rfl, hown4.out, HB4.out, STP.out, Nat.le_refl _, HL2.out⟩
          · go_wp2
            rw [← HPP.out]
            exact ⟨_, L, some c, rfl, hown.out, HBr.out, HI.out, .inr (by omega), HL.out⟩
end Go.Proofs.YtakipjofboipmaaGreatDoor
