/- The walks of this proof: Turned. -/
import Derived.Test.YtakipjofboipmaaGreatJ25
import Derived.Test.YtakipjofboipmaaGreatJ26
namespace Go.Proofs.YtakipjofboipmaaGreat
open Go.RowKit Go.Sort

/-- Batches that can be read. -/
def BatchesAt (w : World) (v : Value) (n : Nat) : Prop := ∃ (ao : Option Addr) (cap : Nat), v = .slice ao n cap ∧ ∀ i, i < n → ∃ (b : Addr) (al : Option Addr) (nl cl : Nat), ao = some b ∧ b.spot = none ∧ w.cell? ⟨b.block, b.off + i, none⟩ = some (.slice al nl cl) ∧ RawAt w (.slice al nl cl)

/-- A store of batches that none was laid down of. -/
structure Plain (x : St) (A : List (List Pr)) : Prop where
  la : x.la = 0
  len : x.B.length = A.length
  set : ∀ (i : Nat) a b, A[i]? = some a → x.B[i]? = some b → Settles a b

theorem Plain.start : Plain st0 [] := ⟨rfl, rfl, by simp⟩

theorem Plain.snoc {x : St} {A : List (List Pr)} (h : Plain x A) {M b : List Pr} (hs : Settles b M) : Plain (x.wrs M false) (A ++ [b]) := by
  refine ⟨h.la, ?_, fun i a c ha hc => ?_⟩
  · show (x.B ++ [M]).length = _
    rw [List.length_append, List.length_append, h.len]; rfl
  · have hc' : (x.B ++ [M])[i]? = some c := hc
    have hl := h.len
    by_cases hi : i < A.length
    · rw [List.getElem?_append_left hi] at ha
      rw [List.getElem?_append_left (by omega)] at hc'
      exact h.set i a c ha hc'
    · have hi2 := (List.getElem?_eq_some_iff.1 ha).1
      rw [List.length_append, List.length_singleton] at hi2
      have e : i = A.length := by omega
      rw [List.getElem?_append_right (by omega)] at ha hc'
      rw [show i - A.length = 0 by omega] at ha
      rw [show i - x.B.length = 0 by omega] at hc'
      simp only [List.getElem?_cons_zero, Option.some.injEq] at ha hc'
      subst ha hc'
      exact hs

/-- A store that was loaded tells what the batches make. -/
theorem loaded_ok {x : St} {A : List (List Pr)} {t : Nat} (h : Plain x A) (ok : Sound x A t) {c : Nat} (hc : c ≤ A.length) (okn : StOk (stN.rs (x.B.take c))) : ShOk (stN.rs (x.B.take c)) (A.take c) := by
  have hl := h.len
  have hlen : (x.B.take c).length = c := by rw [List.length_take]; omega
  have hlA : (A.take c).length = c := by rw [List.length_take]; omega
  refine ⟨okn, ?_, fun e => ?_, fun b hb => ok.sh.ok b (List.mem_of_mem_take hb), by have := ok.sh.few; omega⟩
  · show (0 : Int) + ((x.B.take c).length : Int) = _
    rw [hlen, hlA]; omega
  · rw [rs_memE]
    have e0 : ¬ (e ∈ (stN : St).E ∧ e.s ≤ (stN : St).la) := by simp [stN]
    rw [or_iff_right e0]
    show e ∈ entsFrom (0 + 1) (x.B.take c) ↔ _
    rw [ents_mem]
    constructor
    · rintro ⟨i, b, p, h1, h2, rfl⟩
      rw [List.getElem?_take] at h1
      split at h1
      · rename_i hi
        obtain ⟨a, ha⟩ : ∃ a, A[i]? = some a := ⟨_, List.getElem?_eq_getElem (by omega)⟩
        exact ⟨i, a, p, by rw [List.getElem?_take_of_lt hi]; exact ha, ((h.set i a b ha h1).1.2 p).1 h2, by congr 1; omega⟩
      · cases h1
    · rintro ⟨i, a, p, h1, h2, rfl⟩
      rw [List.getElem?_take] at h1
      split at h1
      · rename_i hi
        obtain ⟨b, hb⟩ : ∃ b, x.B[i]? = some b := ⟨_, List.getElem?_eq_getElem (by omega)⟩
        exact ⟨i, b, p, by rw [List.getElem?_take_of_lt hi]; exact hb, ((h.set i a b h1 hb).1.2 p).2 h2, by congr 1; omega⟩
      · cases h1

/-- Where the records end. -/
def ends (B : List (List Pr)) : List Value := (List.range (B.length + 1)).map fun k => .int .i64 (rl (B.take k) : Nat)

theorem ends_len (B : List (List Pr)) : (ends B).length = B.length + 1 := by simp [ends]

theorem ends_at {B : List (List Pr)} {k : Nat} (h : k ≤ B.length) : (ends B)[k]? = some (.int .i64 (rl (B.take k) : Nat)) := by
  unfold ends
  rw [List.getElem?_map, List.getElem?_range (by omega)]
  rfl

theorem ends_snoc (B : List (List Pr)) (M : List Pr) : ends (B ++ [M]) = ends B ++ [.int .i64 (rl (B ++ [M]) : Nat)] := by
  apply List.ext_getElem?
  intro k
  by_cases hk : k ≤ B.length
  · rw [ends_at (by simp; omega), List.getElem?_append_left (by rw [ends_len]; omega), ends_at hk, List.take_append_of_le_length hk]
  · by_cases hk2 : k = B.length + 1
    · subst hk2
      rw [ends_at (by simp), List.getElem?_append_right (by rw [ends_len]; omega), ends_len, Nat.sub_self, List.take_of_length_le (by simp)]
      rfl
    · rw [List.getElem?_eq_none (by rw [ends_len]; simp; omega), List.getElem?_eq_none (by rw [List.length_append, ends_len]; simp; omega)]

/-- A byte stored into a row of bytes. -/
theorem BRow.set {w : World} {g cap : Nat} {l : List UInt8} {i : Nat} {b : UInt8} (h : BRow w (.slice (some ⟨g, 0, none⟩) l.length cap) l) (hi : i < l.length) :
    w.frozen? ⟨g, i, none⟩ = false ∧ BRow (w.setCell ⟨g, i, none⟩ (.int .u8 b.toNat)) (.slice (some ⟨g, 0, none⟩) l.length cap) (l.set i b) := by
  rcases h with ⟨h', _⟩ | ⟨g', cap', cur, fz, hv, hg, hfz, hl, hcm, hcs, htk⟩
  · cases h'
  · simp only [Value.slice.injEq, Option.some.injEq, Addr.mk.injEq, and_true] at hv
    obtain ⟨rfl, _, rfl⟩ := hv
    constructor
    · obtain ⟨lo, hi'⟩ := fz
      simp only [World.frozen?, hg, Bool.and_eq_false_iff, decide_eq_false_iff_not]
      rcases hfz with hfz | hfz
      · simp only [Prod.mk.injEq] at hfz
        right
        omega
      · left
        simp only at hfz
        omega
    · refine .inr ⟨g, cap, cur.setIfInBounds i (.int .u8 b.toNat), fz, by rw [List.length_set], ?_, hfz, by rw [List.length_set]; exact hl, hcm, by simp [hcs], ?_⟩
      · rw [setCell_eq_setRow w g i cur 5 fz _ hg]
        exact setRow_heap w g cur _ 5 fz hg
      · rw [List.length_set, Array.toList_setIfInBounds, List.take_set, htk]
        simp [bcells, List.map_set]

theorem BRow.convert {w : World} {g cap : Nat} {l : List UInt8} (h : BRow w (.slice (some ⟨g, 0, none⟩) l.length cap) l) : (Go.convert 71 9 (.slice (some ⟨g, 0, none⟩) l.length cap)).run Tryz.prog w = .ok (.string (bs l)) w :=
  run_convert_bytes_back (P := Tryz.prog) w 71 9 5 ⟨g, 0, none⟩ cap l Tryz.underlying71 Tryz.underlying5 Tryz.underlying9 (fun j hj => h.cells j _ (by simp [bcells, hj]))

/-- A byte turned by a number from 1 to 255. -/
def turnB (a : UInt8) (c : Int) : UInt8 := UInt8.ofNat ((a.toNat + (1 + pk c 255).toNat) % 256)

theorem turnB_ne (a : UInt8) (c : Int) : turnB a c ≠ a := fun h => by
  have h1 := congrArg UInt8.toNat h
  unfold turnB at h1
  rw [UInt8.toNat_ofNat', Nat.mod_mod] at h1
  have h2 := pk_lt (c := c) (n := 255) (by omega)
  have h3 := a.toNat_lt
  omega

theorem turnB_val (a : UInt8) (c : Int) : ((turnB a c).toNat : Int) = ((a.toNat : Int) + (1 + pk c 255)) % 256 := by
  unfold turnB
  rw [UInt8.toNat_ofNat', Nat.mod_mod]
  have h2 := pk_lt (c := c) (n := 255) (by omega)
  omega
end Go.Proofs.YtakipjofboipmaaGreat

/- The walks of this proof: Turned. -/
namespace Go.Proofs.YtakipjofboipmaaGreat
open Go.RowKit Go.Sort

theorem ShopAt.kept {B N hb : Nat} {x : St} {A : List (List Pr)} {ts : List Nat} {w w' : World} (h : ShopAt B hb x A w) (k : Kp N ts w w') (ht : ∀ t ∈ [36, 44, 48, 49, 118, 5, 58, 169, 174], t ∉ ts) : ShopAt B hb x A w' := by
  obtain ⟨sb, vA, vS, su, la, o0, o1, h1, h2, h3, h4, h5, h6⟩ := h
  exact ⟨sb, vA, vS, su, la, o0, o1, h1, k.keep h2 (ht _ (by simp)), h3.kept k (fun t hh => ht t (by simp [own5] at hh ⊢; omega)), h4.kept k (ht _ (by simp)) (ht _ (by simp)), k.owns h5 (ht _ (by simp)), h6⟩

set_option maxHeartbeats 8000000 in
set_option maxRecDepth 100000 in
theorem turned_any (v : Value) (n : Nat) (at_ by_ : Int) (w : World) (h : BatchesAt w v n) (a0 : -9223372036854775808 ≤ at_) (a1 : at_ ≤ 9223372036854775807) (b0 : -9223372036854775808 ≤ by_) (b1 : by_ ≤ 9223372036854775807) :
    Calls Tryz.prog 8 #[v, .int .i64 at_, .int .i64 by_] w fun e w' => e = .returned (.bool true) ∧ Below w.heap.size w w' := by
  obtain ⟨i0, hi, hz0, hz1, hz2⟩ := info_parts Tryz.info3
  obtain ⟨ao, cap, rfl, hc⟩ := h
  have HC : Hid _ := hc
  clear hc
  go_enter Tryz.func8, Tryz.ntmps8
  go_wp2_with fail
  refine (shop_any w).mono ?_
  rintro e w1 ⟨hb, rfl, hx, hb1⟩
  have HX : Hid (ShopAt w.heap.size hb st0 [] (w1.alloc (.cells #[.int .i64 0] 3)) ∧ (w1.alloc (.cells #[.int .i64 0] 3)).ownsRow w.heap.size 3 1 (.slice (some ⟨w1.heap.size, 0, none⟩) 1 1) 1 (ends [])) := by
    refine ⟨hx.below ((Below.refl _ _).alloc (Nat.le_refl _) _), rfl, .inr ⟨w1.heap.size, 1, #[.int .i64 0], rfl, hb1.size, heap_alloc_new w1 _, Nat.le_refl _, by unfold maxLen; omega, rfl, rfl⟩⟩
  have HB1 : Hid (Below w.heap.size w (w1.alloc (.cells #[.int .i64 0] 3))) := hb1.alloc hb1.size _
  clear hx hb1
  go_wp2
  go_loopw [8, 9] (fun s8 s9 wr => ∃ (j : Nat) (x : St) (A : List (List Pr)), j ≤ n ∧ j ≤ 12 ∧ s9 = .int .i64 j ∧ A.length = j ∧ Hid (ShopAt w.heap.size hb x A wr) ∧ Hid (Sound x A j) ∧ Hid (Plain x A) ∧ Hid (wr.ownsRow w.heap.size 3 1 s8 (j + 1) (ends x.B)) ∧ Hid (Below w.heap.size w wr)) (fun _ s9 _ => n - (intOf s9).toNat)
  case atStart => exact ⟨0, st0, [], Nat.zero_le _, Nat.zero_le _, rfl, rfl, HX.out.1, sound0, Plain.start, HX.out.2, HB1⟩
  case round =>
    clear HX HB1
    obtain ⟨j, x, A, hjn, hj12, rfl, hAj, HX, HS, HP, HE, HB⟩ := hrel
    obtain ⟨aoE, cE, rfl⟩ := slice_form HE.out
    by_cases hlt : j < n ∧ j < 12
    · obtain ⟨hlt1, hlt2⟩ := hlt
      obtain ⟨⟨g, off, spot⟩, al, nl, cl, rfl, hsp, c0, hraw⟩ := HC.out j hlt1
      simp only at hsp c0
      subst hsp
      have HW : Hid _ := writeT_any w.heap.size hb x A (.slice al nl cl) j wr HX.out HS.out (by omega) (hraw.below HB.out) HB.out.size
      have c0 := cell_later HB.out c0
      have hgr : g < wr.heap.size := block_lt_of_cell c0
      clear hraw
      go_wp2_with fail
      refine Calls.mono HW.out ?_
      rintro e w2 ⟨rfl, M, b, hse, hbok, hx2, hs2, hk2⟩
      have hb2 : Below w.heap.size w w2 := HB.out.trans (hk2.belowB HB.out.size)
      have HP2 : Hid (Plain (x.wrs M false) (A ++ [b])) := HP.out.snoc hse
      have HX2 : Hid (ShopAt w.heap.size hb (x.wrs M false) (A ++ [b]) w2) := hx2
      have HS2 : Hid (Sound (x.wrs M false) (A ++ [b]) (j + 1)) := hs2
      have HB2 : Hid (Below w.heap.size w w2) := hb2
      have HE2 : Hid (w2.ownsRow w.heap.size 3 1 (.slice aoE (j + 1) cE) (j + 1) (ends x.B)) := hk2.owns HE.out (by decide)
      obtain ⟨sb, vA, vS, su, la, o0, o1, hBh, hs, hst, _⟩ := id hx2
      have d0 : w2.cell? ⟨hb, 0, none⟩ = some (.pointer (some ⟨sb, 0, none⟩)) := by simp [World.cell?, hs]
      have hbl : hb < w2.heap.size := lt_of_block hs
      have HJ : Hid (Calls Tryz.prog 24 #[.pointer (some ⟨sb, 0, none⟩)] w2 fun e w' => e = .returned (.string (bs (x.wrs M false).J)) ∧ w' = w2) := journal_sin (x.wrs M false) w.heap.size sb w2 hst
      have hJl : (bs (x.wrs M false).J).size = rl (x.B ++ [M]) := bs_size _
      have hJs : rl (x.B ++ [M]) < 100000 := by
        have h1 := flat_le HS2.out.sh.st.lv.bok
        have h2 : (x.wrs M false).B.length = A.length + 1 := by rw [HP2.out.len]; simp
        have h3 : rl (x.wrs M false).B = rl (x.B ++ [M]) := rfl
        omega
      generalize hJJ : bs (x.wrs M false).J = JJ at HJ hJl
      generalize hrr : rl (x.B ++ [M]) = rr at hJl hJs
      have HRR : Hid (rl (x.B ++ [M]) = rr) := hrr
      have hwz := HB2.out.size
      clear hse hbok hx2 hs2 hk2 hb2 hs hst HW HX HS HP HE HB c0 hJJ hrr
      go_wp2_with fail
      refine Calls.mono HJ.out ?_
      rintro e w2' ⟨rfl, rfl⟩
      go_wp2_with (at_builtin; refine wpList_append_own _ rfl (.tmp 50) (.tmp 57) 67 rfl w.heap.size 3 i0 _ 1 8 Tryz.underlying67 hi hz0 hz1 hz2 rfl (by decide) _ _ _ rfl (by exact HE2.out.alloc _) ⟨w2'.heap.size, 0, none⟩ 1 1 [.int .i64 (rr : Int)] rfl rfl (by intro k u hk; match k, hk with | 0, hk => (simp at hk; subst hk; simp [Addr.add]) | k + 1, hk => (simp at hk)) (by intro u hu; simp at hu; subst hu; rfl) (by unfold maxLen; omega) (by omega) (by simp; omega) ?_)
      intro v9 w3 ho3 hg3 _
      have k3 : Kp w.heap.size [3] w2' w3 := Kp.grown ((Kp.refl _ _ _).alloc _) (HE2.out.alloc _) hg3 (Nat.le_refl _) (by simp)
      have FIN : Hid (ShopAt w.heap.size hb (x.wrs M false) (A ++ [b]) w3 ∧ w3.ownsRow w.heap.size 3 1 v9 (j + 1 + 1) (ends (x.wrs M false).B) ∧ Below w.heap.size w w3) := by
        refine ⟨?_, ?_, HB2.out.trans (k3.belowB hwz)⟩
        · exact HX2.out.kept k3 (by decide)
        · show w3.ownsRow _ _ _ _ _ (ends (x.B ++ [M]))
          rw [ends_snoc, HRR.out]
          exact ho3
      obtain ⟨ao9, c9, rfl⟩ := slice_form ho3
      clear ho3 hg3 k3 HX2 HB2 HE2
      go_wp2
      go_roundw
      case rel => exact ⟨j + 1, _, A ++ [b], by omega, by omega, by go_num, by simp [hAj], FIN.out.1, HS2.out, HP2.out, FIN.out.2.1, FIN.out.2.2⟩
      case measure => simp [intOf]; omega
    · have hcase : ¬ j < n ∨ (j < n ∧ ¬ j < 12) := by omega
      clear hlt HC
      subst hAj
      obtain ⟨sb, vA, vS, su, la, o0, o1, hBh, hs, hst, hall, _⟩ := id HX.out
      have hbl : hb < wr.heap.size := lt_of_block hs
      have c0 : wr.cell? ⟨hb, 0, none⟩ = some (.pointer (some ⟨sb, 0, none⟩)) := by simp [World.cell?, hs]
      have hBA : x.B.length = A.length := HP.out.len
      have hbok := HS.out.sh.st.lv.bok
      have hJ1 : rl x.B ≤ 1000 := by
        have := flat_le hbok
        omega
      have HJ : Hid (Calls Tryz.prog 24 #[.pointer (some ⟨sb, 0, none⟩)] wr fun e w' => e = .returned (.string (bs x.J)) ∧ w' = wr) := journal_sin x w.heap.size sb wr hst
      have HLD : Hid (Calls Tryz.prog 25 #[.string (bs x.J)] wr fun e w' => ∃ sb2, e = .returned (.tuple #[.pointer (some ⟨sb2, 0, none⟩), .int .i64 (x.J.length : Nat), .int .i64 0]) ∧ SIn wr.heap.size sb2 (stN.rs x.B) w' ∧ StOk (stN.rs x.B) ∧ Below wr.heap.size wr w') := by
        have e1 : rl x.B = x.J.length := rfl
        refine (load_sin x.J wr (by omega)).mono ?_
        rintro e w' ⟨sb2, Bs, h1, rfl, h2, h3, h4⟩
        obtain rfl := h1.unique (reads_whole hbok)
        exact ⟨sb2, by rw [e1, if_neg (by omega)], h2, h3, h4⟩
      have HDK : Hid (w.heap.size ≤ hb ∧ wr.heap[hb]? = some (.cells #[.pointer (some ⟨sb, 0, none⟩), vA, vS, .int .i64 su, .int .i64 la, .bool o0, .bool o1] 36 (0, 0)) ∧ AllAt w.heap.size wr vA A) := ⟨hBh, hs, hall⟩
      have HBO : Hid (∀ b ∈ x.B, Bt b) := hbok
      have HJS : Hid (x.J = x.B.flatMap recB) := rfl
      generalize hJS : x.J = JS at HJ HLD HJS
      have HJL : Hid (JS.length = rl x.B) := by show _ = _; rw [← hJS]; rfl
      have hz : (bs JS).size = JS.length := bs_size JS
      clear hs hst hall hbok hJS
      rcases hcase with hc1 | ⟨hc1, hc2⟩
      all_goals
        go_wp2_with fail
        refine Calls.mono HJ.out ?_
        rintro e wr' ⟨rfl, rfl⟩
        go_wp2_with fail
        refine Calls.mono HLD.out ?_
        rintro e w3 ⟨sb2, rfl, hy3, hok3, hb3⟩
        have hs3 : w3.heap[hb]? = some (.cells #[.pointer (some ⟨sb, 0, none⟩), vA, vS, .int .i64 su, .int .i64 la, .bool o0, .bool o1] 36 (0, 0)) := by rw [hb3.block hb hbl]; exact HDK.out.2.1
        have all3 := HDK.out.2.2.kept (Kp.of_below (B := 0) (ts := []) hb3) (by simp) (by simp)
        obtain ⟨aoA, cA, rfl⟩ : ∃ ao c, vA = .slice ao A.length c := by obtain ⟨Ws, ho, _⟩ := all3; exact slice_form ho
        have c31 : w3.cell? ⟨hb, 1, none⟩ = some (.slice aoA A.length cA) := by simp [World.cell?, hs3]
        have hbl3 : hb < w3.heap.size := lt_of_block hs3
        have HJT : Hid (Calls Tryz.prog 29 #[.slice aoA A.length cA] w3 fun e w' => e = .returned (.string (bs JS)) ∧ Below w3.heap.size w3 w') := by
          have := journalT_any A x.B (.slice aoA A.length cA) w.heap.size w3 all3 HS.out.sh.ok (by omega) hBA HP.out.set
          rwa [← HJS.out] at this
        have A3 : Hid (w3.heap[hb]? = some (.cells #[.pointer (some ⟨sb, 0, none⟩), .slice aoA A.length cA, vS, .int .i64 su, .int .i64 la, .bool o0, .bool o1] 36 (0, 0)) ∧ AllAt w.heap.size w3 (.slice aoA A.length cA) A ∧ SIn wr'.heap.size sb2 (stN.rs x.B) w3 ∧ StOk (stN.rs x.B) ∧ Below wr'.heap.size wr' w3) := ⟨hs3, all3, hy3, hok3, hb3⟩
        clear hs3 all3 hy3 hok3 hb3 HJ HLD c0
        go_wp2_with fail
        refine Calls.mono HJT.out ?_
        rintro e w4 ⟨rfl, hb4⟩
        have hs4 : w4.heap[hb]? = some (.cells #[.pointer (some ⟨sb, 0, none⟩), .slice aoA A.length cA, vS, .int .i64 su, .int .i64 la, .bool o0, .bool o1] 36 (0, 0)) := by rw [hb4.block hb hbl3]; exact A3.out.1
        have hwr := HB.out.size
        have hB4 : Below w.heap.size w w4 := (HB.out.trans (A3.out.2.2.2.2.mono hwr)).trans (hb4.mono (Nat.le_trans hwr A3.out.2.2.2.2.size))
        have k5 := Kp.field (B := w.heap.size) HDK.out.1 hs4 0 (.pointer (some ⟨sb2, 0, none⟩))
        have s5 := heap_setCell_same w4 hb 0 _ 36 (.pointer (some ⟨sb2, 0, none⟩)) hs4
        simp only [List.setIfInBounds_toArray, List.set_cons_zero] at s5
        have f4 : w4.frozen? ⟨hb, 0, none⟩ = false := by simp [World.frozen?, hs4]
        have c4 : w4.cell? ⟨hb, 0, none⟩ = some (.pointer (some ⟨sb, 0, none⟩)) := by simp [World.cell?, hs4]
        have hbl4 : hb < w4.heap.size := lt_of_block hs4
        have all5 := (A3.out.2.1.kept (Kp.of_below (B := 0) (ts := []) hb4) (by simp) (by simp)).kept k5 (by simp) (by simp)
        have y5 := (A3.out.2.2.1.below hb4).kept k5 (by decide)
        have e5 := k5.owns ((Kp.of_below (B := 0) (ts := []) hb4).owns ((Kp.of_below (B := 0) (ts := []) A3.out.2.2.2.2).owns HE.out (by simp)) (by simp)) (by decide)
        generalize hw5 : w4.setCell ⟨hb, 0, none⟩ (.pointer (some ⟨sb2, 0, none⟩)) = w5 at k5 s5 all5 y5 e5
        have HW5 : Hid _ := hw5
        have hB5 : Below w.heap.size w w5 := hB4.trans (k5.belowB hB4.size)
        have c51 : w5.cell? ⟨hb, 1, none⟩ = some (.slice aoA A.length cA) := by simp [World.cell?, s5]
        have hbl5 : hb < w5.heap.size := lt_of_block s5
        have A5 : Hid (w5.heap[hb]? = some (.cells #[.pointer (some ⟨sb2, 0, none⟩), .slice aoA A.length cA, vS, .int .i64 su, .int .i64 la, .bool o0, .bool o1] 36 (0, 0)) ∧ AllAt w.heap.size w5 (.slice aoA A.length cA) A ∧ w5.ownsRow w.heap.size 3 1 (.slice aoE (A.length + 1) cE) (A.length + 1) (ends x.B) ∧ Below w.heap.size w w5) := ⟨s5, all5, e5, hB5⟩
        have HT5 : Hid (Calls Tryz.prog 14 #[.pointer (some ⟨hb, 0, none⟩), .int .i64 0, .int .i64 A.length] w5 fun e w' => e = .returned (.bool true) ∧ Below w5.heap.size w5 w') := by
          have hok := loaded_ok HP.out HS.out (c := A.length) (Nat.le_refl _) (by rw [← hBA, List.take_length]; exact A3.out.2.2.2.1)
          rw [List.take_length, ← hBA, List.take_length] at hok
          rw [← hBA]
          have hok' : ShOk (stN.rs x.B) A := hok
          refine tells_desk w.heap.size hb (stN.rs x.B) A A 0 x.B.length w5 ⟨sb2, _, _, _, _, _, _, HDK.out.1, s5, y5.mono hwr, all5⟩ (List.prefix_refl _) HS.out.sh.ok HS.out.sh.few hok' ?_ (by omega)
          unfold seqOf
          rw [if_pos rfl, hok'.last, hBA]
        clear hs4 hb4 k5 s5 all5 y5 e5 hw5 hB4 hB5 HJT
        go_wp2_with (rw [HW5.out])
        refine Calls.mono HT5.out ?_
        rintro e w6 ⟨rfl, hb6⟩
        have HB6 : Hid (Below w5.heap.size w5 w6) := hb6
        clear hb6 HT5
        have hB6w : Below w.heap.size w w6 := A5.out.2.2.2.trans (HB6.out.mono A5.out.2.2.2.size)
        by_cases hE0 : JS = []
        · subst hE0
          have hq : (bs []).toList.isEmpty = true := by rw [bs_list]; rfl
          have HBF : Hid (Below w.heap.size w w6) := hB6w
          clear hB6w
          go_wp2
          go_ret
          exact ⟨rfl, HBF.out⟩
        have hJpos : 0 < JS.length := List.length_pos_iff.2 hE0
        have hq : (bs JS).toList.isEmpty = false := by rw [bs_list]; simpa using hE0
        have hJ2 : JS.length ≤ 1000 := by rw [HJL.out]; exact hJ1
        have hpk := pk_lt (c := at_) (n := (JS.length : Int)) (by omega)
        have HPK : Hid (∀ W, Calls Tryz.prog 30 #[.int .i64 at_, .int .i64 (JS.length : Int)] W fun e w' => e = .returned (.int .i64 (pk at_ (JS.length : Int))) ∧ w' = W) := fun W => pick_any at_ (JS.length : Int) W a0 a1 (by omega) (by omega)
        obtain ⟨i, hi5⟩ : ∃ i : Nat, pk at_ (JS.length : Int) = i := ⟨_, (Int.toNat_of_nonneg hpk.1).symm⟩
        rw [hi5] at HPK hpk
        have hiJ : i < JS.length := by omega
        obtain ⟨gE, cE', hvE, _, hgE⟩ := A5.out.2.2.1.form (by omega)
        simp only [Value.slice.injEq] at hvE
        obtain ⟨rfl, _, rfl⟩ := hvE
        have e6 := (Kp.of_below (B := 0) (ts := []) HB6.out).owns A5.out.2.2.1 (by simp)
        have HEC : Hid (∀ k, k ≤ A.length → w6.cell? ⟨gE, k, none⟩ = some (.int .i64 (rl (x.B.take k) : Nat))) := fun k hk => by
          rw [← addr_add gE k]
          exact e6.cells (g := gE) rfl k _ (ends_at (by omega))
        have hcE : A.length + 1 ≤ cE := by
          rcases e6.2 with ⟨h, _⟩ | ⟨_, _, _, h, _, _, h2, _⟩
          · cases h
          · simp only [Value.slice.injEq] at h
            omega
        have hgE6 : gE < w6.heap.size := block_lt_of_cell (HEC.out 0 (Nat.zero_le _))
        have HBF : Hid (Below w.heap.size w w6) := hB6w
        have HRT : Hid (∀ k, k ≤ A.length → rl (x.B.take k) ≤ 1000) := fun k hk => Nat.le_trans (rl_take_le _ _) hJ1
        have HRB : Hid (rl (x.B.take A.length) = JS.length) := by show _ = _; rw [← hBA, List.take_length, HJL.out]
        clear hB6w e6 hi5 hpk hgE
        go_wp2_with fail
        refine Calls.mono (HPK.out _) ?_
        rintro e w6' ⟨rfl, rfl⟩
        go_wp2
        go_loop [17] (fun s17 => ∃ c : Nat, c ≤ A.length ∧ s17 = .int .i64 c ∧ Hid (rl (x.B.take c) ≤ i)) (fun s17 => A.length - (intOf s17).toNat)
        case atStart => exact ⟨0, Nat.zero_le _, rfl, Nat.zero_le _⟩
        case round =>
          obtain ⟨c, hcA, rfl, HCI⟩ := hrel
          have hcl : c < A.length := by
            refine Nat.lt_of_not_le fun hle => ?_
            obtain rfl : c = A.length := by omega
            have h1 := HCI.out
            rw [HRB.out] at h1
            omega
          have ec1 := HEC.out (c + 1) (by omega)
          have hr1 := HRT.out (c + 1) (by omega)
          by_cases hle : rl (x.B.take (c + 1)) ≤ i
          · have HCN : Hid (rl (x.B.take (c + 1)) ≤ i) := hle
            generalize rl (x.B.take (c + 1)) = r1 at ec1 hle hr1
            go_wp2
            go_round
            case rel => exact ⟨c + 1, hcl, by go_num, HCN⟩
            case measure => simp [intOf]; omega
          · obtain ⟨M, hM⟩ : ∃ M, x.B[c]? = some M := ⟨_, List.getElem?_eq_getElem (by omega)⟩
            have HAT : Hid (AtRec x.B i c M) := ⟨hM, HCI.out, by rw [← rl_next hM]; omega⟩
            have ec0 := HEC.out c (by omega)
            have hpl := HCI.out
            have hr0 := HRT.out c (by omega)
            obtain ⟨pl0, hpl0⟩ : ∃ pl0, rl (x.B.take c) = pl0 := ⟨_, rfl⟩
            have HPL : Hid (rl (x.B.take c) = pl0) := hpl0
            rw [hpl0] at ec0 hpl hr0
            generalize rl (x.B.take (c + 1)) = r1 at ec1 hle hr1
            have hext : (bs JS).extract 0 i = bs (JS.take i) := by rw [bs_extract, List.drop_zero]
            have HLZ : Hid (Calls Tryz.prog 25 #[.string (bs (JS.take i))] w6' fun e w' => ∃ sbz, e = .returned (.tuple #[.pointer (some ⟨sbz, 0, none⟩), .int .i64 (pl0 : Nat), .int .i64 (if pl0 < i then 10 else 0)]) ∧ SIn w6'.heap.size sbz (stN.rs (x.B.take c)) w' ∧ StOk (stN.rs (x.B.take c)) ∧ Below w6'.heap.size w6' w') := by
              have hti : (JS.take i).length = i := by rw [List.length_take]; omega
              refine (load_sin (JS.take i) w6' (by omega)).mono ?_
              rintro e w' ⟨sbz, Bs, h1, rfl, h2, h3, h4⟩
              rw [HJS.out] at h1
              obtain rfl := reads_cut HBO.out HAT.out h1
              exact ⟨sbz, by rw [HPL.out, hti], h2, h3, h4⟩
            clear hM hpl0 HEC HCI
            go_wp2_with fail
            refine Calls.mono HLZ.out ?_
            rintro e w7 ⟨sbz, rfl, hz7, hokz, hb7⟩
            obtain ⟨fz, hfz⟩ : ∃ fz : Int, (if pl0 < i then (10 : Int) else 0) = fz := ⟨_, rfl⟩
            obtain ⟨bz, hbz⟩ : ∃ bz : Bool, (fz == 0) = bz := ⟨_, rfl⟩
            have hbz2 : (pl0 == i) = bz := by
              rw [← hbz, ← hfz]
              by_cases hlt : pl0 < i
              · have : pl0 ≠ i := by omega
                rw [if_pos hlt]
                simp [this]
              · have : pl0 = i := by omega
                subst this
                rw [if_neg hlt]
                exact beq_self_eq_true _
            have hbz3 : ((pl0 : Int) == (i : Int)) = bz := by
              rw [← hbz2]
              by_cases e : pl0 = i
              · simp [e]
              · have : (pl0 : Int) ≠ i := by omega
                rw [beq_eq_false_iff_ne.2 this, beq_eq_false_iff_ne.2 e]
            rw [hfz]
            clear hfz
            obtain ⟨old, hold⟩ : ∃ old, JS[i]? = some old := ⟨_, List.getElem?_eq_getElem hiJ⟩
            have hcv := run_bytes_of_string (P := Tryz.prog) w7 9 71 5 (bs JS) Tryz.underlying9 Tryz.underlying71 Tryz.underlying5
            rw [hz] at hcv
            have hrow := brow_new w7 JS (by omega)
            generalize grownCap w7 JS.length 0 5 = cB at hcv hrow
            generalize hw8 : w7.drew.alloc (.cells (bytesRow (bs JS) cB) 5 ((bytesRow (bs JS) cB).size, (bytesRow (bs JS) cB).size + 1)) = w8 at hcv hrow
            have kb8 : Below w7.heap.size w7 w8 := by rw [← hw8]; exact ((Below.refl _ _).drew).alloc (Nat.le_refl _) _
            have d8 : w8.cell? ⟨w7.heap.size, i, none⟩ = some (.int .u8 (old.toNat : Int)) := by
              rw [← addr_add w7.heap.size i]
              exact hrow.cells i _ (by simp [bcells, hold])
            have hcB : JS.length ≤ cB := by
              rcases hrow with ⟨h, _⟩ | ⟨_, _, _, _, h, _, _, h2, _⟩
              · cases h
              · simp only [Value.slice.injEq] at h
                omega
            have HROW : Hid (BRow w8 (.slice (some ⟨w7.heap.size, 0, none⟩) JS.length cB) JS) := hrow
            have H7 : Hid (SIn w6'.heap.size sbz (stN.rs (x.B.take c)) w7 ∧ StOk (stN.rs (x.B.take c)) ∧ Below w6'.heap.size w6' w7 ∧ Below w7.heap.size w7 w8) := ⟨hz7, hokz, hb7, kb8⟩
            have hg8 : w7.heap.size < w8.heap.size := block_lt_of_cell d8
            obtain ⟨g7, hg7⟩ : ∃ g7, w7.heap.size = g7 := ⟨_, rfl⟩
            have HG7 : Hid (w7.heap.size = g7) := hg7
            have HPB : Hid (∀ d os, Calls Tryz.prog 30 #[.int .i64 by_, .int .i64 255] (grow (redrawn w8 d) os) fun e w'' => e = .returned (.int .i64 (pk by_ 255)) ∧ ∃ p : Regrown, w'' = grow (redrawn w8 p.d) p.os) := fun d os => pick_in by_ 255 w8 b0 b1 (by omega) (by omega) d os
            have hpb := pk_lt (c := by_) (n := 255) (by omega)
            have HTV : Hid (((old.toNat : Int) + (1 + pk by_ 255)) % 256 = ((turnB old by_).toNat : Int)) := (turnB_val old by_).symm
            have HOLD : Hid (JS[i]? = some old) := hold
            rw [hg7] at hcv d8 HROW
            have ho1 := old.toNat_lt
            generalize hpp : pk by_ 255 = pp at HPB hpb HTV
            have d8' := cell_regrown d8
            clear hrow kb8 hw8 hz7 hokz hb7 hold hg7 hpp HLZ
            go_wp2_with fail
            refine wp_region_quiet_tail 12 (by kernel_rfl) (by kernel_rfl) ?_
            simp only [List.take_succ_cons, List.take_zero, List.drop_succ_cons, List.drop_zero]
            repeat (first | go_big_quiet_step (exact HPB.out _ _) | quiet_step (exact HPB.out _ _))
            refine wpQuiet_nil ?_
            intro w9 hw'
            have hb9 : Below w8.heap.size w8 w9 := below_of_regrown hw'
            have r9 : BRow w9 (.slice (some ⟨g7, 0, none⟩) JS.length cB) JS := HROW.out.kept (Kp.of_below (B := 0) (ts := []) hb9) (by simp)
            obtain ⟨f9, r10⟩ := r9.set (b := turnB old by_) hiJ
            have d9 := cell_later hb9 d8
            have hg9 : g7 < w9.heap.size := block_lt_of_cell d9
            have hcv2 : (convert 71 9 (.slice (some ⟨g7, 0, none⟩) JS.length cB)).run Tryz.prog (w9.setCell ⟨g7, i, none⟩ (.int .u8 (turnB old by_).toNat)) = .ok (.string (bs (JS.set i (turnB old by_)))) (w9.setCell ⟨g7, i, none⟩ (.int .u8 (turnB old by_).toNat)) := by
              rw [show JS.length = (JS.set i (turnB old by_)).length by rw [List.length_set]] at r10 ⊢
              exact r10.convert
            have B10 : Below w7.heap.size w7 (w9.setCell ⟨g7, i, none⟩ (.int .u8 (turnB old by_).toNat)) := (H7.out.2.2.2.trans (hb9.mono H7.out.2.2.2.size)).setCell (Nat.le_of_eq HG7.out) _
            generalize hw10 : w9.setCell ⟨g7, i, none⟩ (.int .u8 (turnB old by_).toNat) = w10 at hcv2 B10
            have HW10 : Hid _ := hw10
            have HLV : Hid (Calls Tryz.prog 25 #[.string (bs (JS.set i (turnB old by_)))] w10 fun e w' => ∃ (sbv : Nat) (Bv : List (List Pr)), Reads (JS.set i (turnB old by_)) Bv ∧ e = .returned (.tuple #[.pointer (some ⟨sbv, 0, none⟩), .int .i64 (rl Bv : Nat), .int .i64 (if rl Bv < JS.length then 10 else 0)]) ∧ SIn w10.heap.size sbv (stN.rs Bv) w' ∧ StOk (stN.rs Bv) ∧ Below w10.heap.size w10 w') := by
              have := load_sin (JS.set i (turnB old by_)) w10 (by rw [List.length_set]; omega)
              rwa [List.length_set] at this
            have H10 : Hid (Below w7.heap.size w7 w10) := B10
            clear hw' hb9 r9 r10 d8 d8' B10 hw10 hcv HROW HPB hg8
            generalize hST : bs (JS.set i (turnB old by_)) = ST at hcv2 HLV
            clear hST
            go_wp2_with (first | rw [HTV.out, HW10.out] | rw [HW10.out])
            refine Calls.mono HLV.out ?_
            rintro e w11 ⟨sbv, Bv, hrdv, rfl, hv11, hokv, hb11⟩
            have hM : x.B[c]? = some M := HAT.out.here
            have hrt : ∃ Cs, Bv = x.B.take c ++ Cs := by
              rw [HJS.out] at hrdv
              obtain ⟨Cs, h1, _⟩ := reads_turned HBO.out HAT.out _ hrdv
              exact ⟨Cs, h1⟩
            have hge : pl0 ≤ rl Bv := by
              obtain ⟨Cs, h1⟩ := hrt
              rw [h1, rl_app, HPL.out]
              omega
            have hrl : rl Bv ≤ 1000 := by
              have := hrdv.pre.length_le
              rw [List.length_set] at this
              have e : (Bv.flatMap recB).length = rl Bv := rfl
              omega
            have HPLN : Hid (PlainIn M (i - pl0) → rl Bv = pl0 ∧ Bv = x.B.take c) := fun hp => by
              have hr' := hrdv
              rw [HJS.out] at hr'
              have hne : (x.B.flatMap recB)[i]? ≠ some (turnB old by_) := by
                rw [← HJS.out, HOLD.out]
                simp only [ne_eq, Option.some.injEq]
                exact fun e => turnB_ne old by_ e.symm
              have h1 := reads_plain HBO.out HAT.out (by rw [HPL.out]; exact hp) hne hr'
              exact ⟨by rw [h1, HPL.out], h1⟩
            have HRV : Hid (Reads (JS.set i (turnB old by_)) Bv ∧ SIn w10.heap.size sbv (stN.rs Bv) w11 ∧ StOk (stN.rs Bv) ∧ Below w10.heap.size w10 w11) := ⟨hrdv, hv11, hokv, hb11⟩
            -- the desk at w11
            have hz6 : w5.heap.size ≤ w6'.heap.size := HB6.out.size
            have b5_7 : Below w5.heap.size w5 w7 := HB6.out.trans (H7.out.2.2.1.mono hz6)
            have b5_10 : Below w5.heap.size w5 w10 := b5_7.trans (H10.out.mono b5_7.size)
            have b5_11 : Below w5.heap.size w5 w11 := b5_10.trans (hb11.mono b5_10.size)
            have s11 : w11.heap[hb]? = some (.cells #[.pointer (some ⟨sb2, 0, none⟩), .slice aoA A.length cA, vS, .int .i64 su, .int .i64 la, .bool o0, .bool o1] 36 (0, 0)) := by rw [b5_11.block hb hbl5]; exact A5.out.1
            have all11 := A5.out.2.1.kept (Kp.of_below (B := 0) (ts := []) b5_11) (by simp) (by simp)
            have hzz : w.heap.size ≤ w5.heap.size := A5.out.2.2.2.size
            have z11 : SIn w.heap.size sbz (stN.rs (x.B.take c)) w11 := ((H7.out.1.below H10.out).below hb11).mono (Nat.le_trans hzz hz6)
            have v11 : SIn w.heap.size sbv (stN.rs Bv) w11 := hv11.mono (Nat.le_trans hzz b5_10.size)
            have bw11 : Below w.heap.size w w11 := A5.out.2.2.2.trans (b5_11.mono hzz)
            have f11 : w11.frozen? ⟨hb, 0, none⟩ = false := by simp [World.frozen?, s11]
            have c11 : w11.cell? ⟨hb, 0, none⟩ = some (.pointer (some ⟨sb2, 0, none⟩)) := by simp [World.cell?, s11]
            have hbl11 : hb < w11.heap.size := lt_of_block s11
            have k12 := Kp.field (B := w.heap.size) HDK.out.1 s11 0 (.pointer (some ⟨sbz, 0, none⟩))
            have s12 := heap_setCell_same w11 hb 0 _ 36 (.pointer (some ⟨sbz, 0, none⟩)) s11
            simp only [List.setIfInBounds_toArray, List.set_cons_zero] at s12
            have all12 := all11.kept k12 (by simp) (by simp)
            have z12 := z11.kept k12 (by decide)
            have v12 := v11.kept k12 (by decide)
            generalize hw12 : w11.setCell ⟨hb, 0, none⟩ (.pointer (some ⟨sbz, 0, none⟩)) = w12 at k12 s12 all12 z12 v12
            have HW12 : Hid _ := hw12
            have bw12 : Below w.heap.size w w12 := bw11.trans (k12.belowB bw11.size)
            have hcA' : (A.take c).length = c := by rw [List.length_take]; omega
            have HOKZ : Hid (ShOk (stN.rs (x.B.take c)) (A.take c)) := loaded_ok HP.out HS.out (c := c) hcA H7.out.2.1
            have HTZ : Hid (∀ (sbq : Nat) (W : World), W.heap[hb]? = some (.cells #[.pointer (some ⟨sbq, 0, none⟩), .slice aoA A.length cA, vS, .int .i64 su, .int .i64 la, .bool o0, .bool o1] 36 (0, 0)) → SIn w.heap.size sbq (stN.rs (x.B.take c)) W → AllAt w.heap.size W (.slice aoA A.length cA) A → Calls Tryz.prog 14 #[.pointer (some ⟨hb, 0, none⟩), .int .i64 0, .int .i64 c] W fun e w' => e = .returned (.bool true) ∧ Below W.heap.size W w') := fun sbq W hW hS hAll => by
              refine tells_desk w.heap.size hb (stN.rs (x.B.take c)) (A.take c) A 0 c W ⟨sbq, _, _, _, _, _, _, HDK.out.1, hW, hS, hAll⟩ (List.take_prefix _ _) HS.out.sh.ok HS.out.sh.few HOKZ.out ?_ (by omega)
              unfold seqOf
              rw [if_pos rfl, HOKZ.out.last, hcA']
            have HPLA : Hid (∀ W, Calls Tryz.prog 31 #[.string (bs JS), .int .i64 pl0, .int .i64 i] W fun e w' => PlnPost M (i - pl0) W e w') := fun W => by
              refine plain_any JS M pl0 i W (HBO.out M (List.mem_of_getElem? hM)) ?_ (by omega) hpl ?_
              · rw [HJS.out, HAT.out.split, ← HPL.out]
                have e : rl (x.B.take c) = ((x.B.take c).flatMap recB).length := rfl
                rw [e, List.drop_left]
                exact List.prefix_append _ _
              · have := HAT.out.hi
                rw [HPL.out] at this
                exact this
            have A12 : Hid (w12.heap[hb]? = some (.cells #[.pointer (some ⟨sbz, 0, none⟩), .slice aoA A.length cA, vS, .int .i64 su, .int .i64 la, .bool o0, .bool o1] 36 (0, 0)) ∧ AllAt w.heap.size w12 (.slice aoA A.length cA) A ∧ SIn w.heap.size sbz (stN.rs (x.B.take c)) w12 ∧ SIn w.heap.size sbv (stN.rs Bv) w12 ∧ Below w.heap.size w w12) := ⟨s12, all12, z12, v12, bw12⟩
            have hbl12 : hb < w12.heap.size := lt_of_block s12
            obtain ⟨gv, hgv⟩ : ∃ gv : Int, (if rl Bv < JS.length then (10 : Int) else 0) = gv := ⟨_, rfl⟩
            have HGV : Hid ((if rl Bv < JS.length then (10 : Int) else 0) = gv) := hgv
            rw [hgv]
            obtain ⟨rv, hrv⟩ : ∃ rv, rl Bv = rv := ⟨_, rfl⟩
            have HRVE : Hid (rl Bv = rv) := hrv
            rw [hrv] at hge hrl ⊢
            have hnlt : decide ((rv : Int) < (pl0 : Int)) = false := decide_eq_false (by omega)
            clear hM hrt hrdv hv11 hokv hb11 b5_7 b5_10 b5_11 s11 all11 z11 v11 bw11 k12 s12 all12 z12 v12 hw12 bw12 hgv hrv hz6 hzz hcA' hcv2 H7 H10 HLV
            go_wp2_with (rw [HW12.out])
            refine Calls.mono (HTZ.out sbz w12 A12.out.1 A12.out.2.2.1 A12.out.2.1) ?_
            rintro e w13 ⟨rfl, hb13⟩
            have HB13 : Hid (Below w12.heap.size w12 w13) := hb13
            clear hb13
            go_wp2_with fail
            refine Calls.mono (HPLA.out _) ?_
            rintro e w13' ⟨r, rfl, hpr, rfl⟩
            have bw13 : Below w.heap.size w w13' := A12.out.2.2.2.2.trans (HB13.out.mono A12.out.2.2.2.2.size)
            cases r with
            | false =>
              have HBF2 : Hid (Below w.heap.size w w13') := bw13
              clear bw13
              go_wp2
              go_ret
              exact ⟨rfl, HBF2.out⟩
            | true =>
              obtain ⟨hr1', hBv⟩ := HPLN.out (hpr rfl)
              have hrv2 : rv = pl0 := by rw [← HRVE.out]; exact hr1'
              have hgv2 : gv = 10 := by rw [← HGV.out, hr1', if_pos (by omega)]
              have s13 : w13'.heap[hb]? = some (.cells #[.pointer (some ⟨sbz, 0, none⟩), .slice aoA A.length cA, vS, .int .i64 su, .int .i64 la, .bool o0, .bool o1] 36 (0, 0)) := by rw [HB13.out.block hb hbl12]; exact A12.out.1
              have f13 : w13'.frozen? ⟨hb, 0, none⟩ = false := by simp [World.frozen?, s13]
              have c13 : w13'.cell? ⟨hb, 0, none⟩ = some (.pointer (some ⟨sbz, 0, none⟩)) := by simp [World.cell?, s13]
              have hbl13 : hb < w13'.heap.size := lt_of_block s13
              have k14 := Kp.field (B := w.heap.size) HDK.out.1 s13 0 (.pointer (some ⟨sbv, 0, none⟩))
              have s14 := heap_setCell_same w13' hb 0 _ 36 (.pointer (some ⟨sbv, 0, none⟩)) s13
              simp only [List.setIfInBounds_toArray, List.set_cons_zero] at s14
              have all14 := (A12.out.2.1.kept (Kp.of_below (B := 0) (ts := []) HB13.out) (by simp) (by simp)).kept k14 (by simp) (by simp)
              have v14 := (A12.out.2.2.2.1.below HB13.out).kept k14 (by decide)
              rw [hBv] at v14
              generalize hw14 : w13'.setCell ⟨hb, 0, none⟩ (.pointer (some ⟨sbv, 0, none⟩)) = w14 at k14 s14 all14 v14
              have HW14 : Hid _ := hw14
              have HT14 : Hid _ := HTZ.out sbv w14 s14 v14 all14
              have HBF2 : Hid (Below w.heap.size w w14) := bw13.trans (k14.belowB bw13.size)
              have hbl14 : hb < w14.heap.size := lt_of_block s14
              subst hgv2
              subst hrv2
              clear bw13 s13 k14 s14 all14 v14 hw14 hr1' hBv hpr HPLN HRVE HGV HRV A12 HB13
              go_wp2_with (rw [HW14.out])
              refine Calls.mono HT14.out ?_
              rintro e w15 ⟨rfl, hb15⟩
              have HBF3 : Hid (Below w.heap.size w w15) := HBF2.out.trans (hb15.mono HBF2.out.size)
              clear hb15
              go_wp2
              go_ret
              exact ⟨rfl, HBF3.out⟩
end Go.Proofs.YtakipjofboipmaaGreat
