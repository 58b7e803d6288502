/- The walks of this proof: a store that was loaded, by its records alone; a store beside another. -/
import Derived.Test.YtakipjofboipmaaGreatJ22
namespace Go.Proofs.YtakipjofboipmaaGreat
open Go.RowKit Go.Sort

/-- A store beside one that crashes. -/
theorem StoreAt.aside {D F D' : Nat → Prop} {sb : Nat} {x : St} {w w' : World} (h : StoreAt D F sb x w) (k : Kd D' [118] w w') (hn : ¬ D' sb) : StoreAt D F sb x w' := by
  obtain ⟨vE, vL, vR, vS, hB, hs, hE, hT, hR, hS⟩ := h
  exact ⟨vE, vL, vR, vS, hB, k.keepN hs hn, k.ownsIn hE (by simp), hT.kd k (by simp) (by simp), k.ownsJ hR (by simp), k.ownsIn hS (by simp)⟩

theorem OwnsIn.narrow {w : World} {D : Nat → Prop} {e : TypeId} {size : Nat} {v : Value} {n : Nat} {xs : List Value} (h : OwnsIn w D e size v n xs) (P : Nat → Prop) (hP : ∀ k, k < w.heap.size → P k) : OwnsIn w (fun k => D k ∧ P k) e size v n xs :=
  ⟨h.1, fun g hg => ⟨h.2 g hg, hP g (h.1.lt g hg).2⟩⟩

/-- A store whose memory is told more narrowly. -/
theorem StoreAt.narrow {D F : Nat → Prop} {sb : Nat} {x : St} {w : World} (h : StoreAt D F sb x w) (P : Nat → Prop) (hP : ∀ k, k < w.heap.size → P k) : StoreAt (fun k => D k ∧ P k) F sb x w := by
  obtain ⟨vE, vL, vR, vS, hB, hs, hE, ⟨Vs, hl, ho, hr⟩, hR, hS⟩ := h
  exact ⟨vE, vL, vR, vS, ⟨hB, hP sb (lt_of_block hs)⟩, hs, hE.narrow P hP, ⟨Vs, hl, ho.narrow P hP, hr⟩, ⟨hR.1, fun g hg => ⟨hR.2 g hg, hP g (hR.1.lt hg)⟩⟩, hS.narrow P hP⟩

/-- One store crashes; another, that lies from N2 on and was made behind the first, stays as it is. -/
theorem crash_two (x y : St) (N N2 sb sb2 : Nat) (keep : Int) (w0 w : World) (hx : SIn N sb x w0) (hb : Below w0.heap.size w0 w) (hy : SIn N2 sb2 y w) (hN2 : w0.heap.size ≤ N2) (ok : StOk x) (hl : x.last < 1000000000) (hj : x.J.length < 100000000) (k0 : -9223372036854775808 ≤ keep) (k1 : keep ≤ 9223372036854775807) :
    Calls Tryz.prog 26 #[.pointer (some ⟨sb, 0, none⟩), .int .i64 keep] w fun e w' => e = .returned (.tuple #[]) ∧ ∃ j, Left x keep j ∧ SIn N sb (x.cr j) w' ∧ SIn N2 sb2 y w' ∧ Kp N [118] w w' := by
  obtain ⟨D, F, g1, g2, g3, g4, hst⟩ := hx
  obtain ⟨D2, F2, f1, f2, f3, f4, hst2⟩ := hy
  have hlt : sb2 < w.heap.size := by obtain ⟨_, _, _, _, _, hs, _⟩ := hst2; exact lt_of_block hs
  have hge : N2 ≤ sb2 := by obtain ⟨_, _, _, _, hB, _⟩ := hst2; exact f1 _ hB
  have hst' := (hst.narrow (fun k => k < w0.heap.size ∨ w.heap.size ≤ k) (fun k hk => .inl hk)).below hb
  have op : Opn (fun k => D k ∧ (k < w0.heap.size ∨ w.heap.size ≤ k)) w := fun k hk => ⟨g4 k (Nat.le_trans hb.size hk), .inr hk⟩
  refine (crash_any _ F sb x keep w hst' op ok hl hj k0 k1).mono ?_
  rintro e w' ⟨rfl, j, h1, h2, h3⟩
  refine ⟨rfl, j, h1, ⟨_, F, fun k hk => g1 k hk.1, g2, fun k hk hd => g3 k hk hd.1, op.later h3.size, h2⟩, ⟨D2, F2, f1, f2, f3, f4.later h3.size, hst2.aside h3 ?_⟩, h3.kp fun k hk => g1 k hk.1⟩
  rintro ⟨_, h | h⟩
  · omega
  · omega

/-- A store of these records, all of them synced. -/
def YAt (N sb : Nat) (L : List (List Pr)) (n : Nat) (w : World) : Prop :=
  ∃ z : St, SIn N sb z w ∧ StOk z ∧ z.B = L ∧ z.sy = L.length ∧ z.last ≤ n ∧ z.E.length ≤ 4 * n ∧ L.length ≤ n

/-- The same with one record more, that is not synced. -/
def YOne (N sb : Nat) (L : List (List Pr)) (b : List Pr) (n : Nat) (w : World) : Prop :=
  ∃ z : St, SIn N sb z w ∧ StOk z ∧ z.B = L ++ [b] ∧ z.sy = L.length ∧ z.last ≤ n ∧ z.E.length ≤ 4 * n ∧ L.length + 1 ≤ n

theorem YAt.below {N sb n : Nat} {L : List (List Pr)} {w w' : World} (h : YAt N sb L n w) (hb : Below w.heap.size w w') : YAt N sb L n w' := by
  obtain ⟨z, h1, h2⟩ := h
  exact ⟨z, h1.below hb, h2⟩

theorem cr_y {N sb n j : Nat} {z : St} {w : World} (h1 : SIn N sb (z.cr j) w) (ok : StOk z) (hj : j ≤ z.B.length) (hl : z.last ≤ n) (hE : z.E.length ≤ 4 * n) (hB : z.B.length ≤ n) (hn : n < 1300000) : YAt N sb (z.B.take j) n w := by
  have la1 := ok.lv.la1
  have hlen := cr_len hj
  have okc := ok.cr (by omega) (by omega) hj
  refine ⟨z.cr j, h1, okc, rfl, rfl, ?_, ?_, by omega⟩
  · show z.la + ((z.B.take j).length : Int) ≤ n
    omega
  · have := sub_len okc.sorted ok.sorted fun e he => ((cr_mem ok hj).1 he).1
    omega

/-- All is synced: a Crash loses nothing. -/
theorem y_crash (N sb n : Nat) (L : List (List Pr)) (keep : Int) (w : World) (h : YAt N sb L n w) (hn : n < 1300000) (k0 : -9223372036854775808 ≤ keep) (k1 : keep ≤ 9223372036854775807) :
    Calls Tryz.prog 26 #[.pointer (some ⟨sb, 0, none⟩), .int .i64 keep] w fun e w' => e = .returned (.tuple #[]) ∧ YAt N sb L n w' ∧ Kp N [118] w w' := by
  obtain ⟨z, h1, ok, rfl, hsy, hl, hE, hB⟩ := h
  refine (crash_sin z N sb keep w h1 ok (by omega) (small_j ok hB hn) k0 k1).mono ?_
  rintro e w' ⟨rfl, j, hL, h2, h3⟩
  have hj : j = z.B.length := by have := hL.sure ok.lv.bsy; have := hL.le; omega
  refine ⟨rfl, ?_, h3⟩
  have := cr_y h2 ok hL.le hl hE hB hn
  rwa [hj, List.take_length] at this

theorem rl_app (A B : List (List Pr)) : rl (A ++ B) = rl A + rl B := by simp [rl]

theorem pk_in {c n : Int} (h0 : 0 ≤ c) (h1 : c < n) : pk c n = c := by
  unfold pk
  rw [if_neg (by omega)]
  exact Int.emod_eq_of_lt h0 h1

/-- All bytes of the one that is not synced are kept. -/
theorem one_crash (N sb n : Nat) (L : List (List Pr)) (b : List Pr) (w : World) (h : YOne N sb L b n w) (hn : n < 1300000) :
    Calls Tryz.prog 26 #[.pointer (some ⟨sb, 0, none⟩), .int .i64 ((recB b).length : Nat)] w fun e w' => e = .returned (.tuple #[]) ∧ YAt N sb (L ++ [b]) n w' ∧ Kp N [118] w w' := by
  obtain ⟨z, h1, ok, hzB, hsy, hl, hE, hB⟩ := h
  have hBl : z.B.length = L.length + 1 := by rw [hzB]; simp
  have hr := recB_len (ok.lv.bok b (by rw [hzB]; simp))
  refine (crash_sin z N sb _ w h1 ok (by omega) (small_j ok (t := n) (by omega) hn) (by omega) (by omega)).mono ?_
  rintro e w' ⟨rfl, j, hL, h2, h3⟩
  have hj : j = z.B.length := by
    have h5 := hL.most z.B.length (Nat.le_refl _)
    have h6 := hL.le
    have e1 : rl (z.B.take z.sy) = rl L := by rw [hzB, hsy, List.take_append_of_le_length (Nat.le_refl _), List.take_length]
    have e2 : z.J.length = rl L + (recB b).length := by
      have : z.J.length = rl z.B := rfl
      rw [this, hzB, rl_app]
      simp [rl]
    have e3 : rl (z.B.take z.B.length) = rl L + (recB b).length := by rw [List.take_length]; exact e2
    rw [e1, e2, e3] at h5
    have e4 : lft (rl L + (recB b).length) (rl L) ((recB b).length : Nat) = rl L + (recB b).length := by
      unfold lft
      rw [pk_in (by omega) (by push_cast; omega)]
      simp
    have := h5 (by omega)
    omega
  refine ⟨rfl, ?_, h3⟩
  have := cr_y h2 ok hL.le hl hE (by omega) hn
  rwa [hj, List.take_length, hzB] at this

/-- All bytes but one are kept: it is lost. -/
theorem one_lost (N sb n : Nat) (L : List (List Pr)) (b : List Pr) (w : World) (h : YOne N sb L b n w) (hn : n < 1300000) :
    Calls Tryz.prog 26 #[.pointer (some ⟨sb, 0, none⟩), .int .i64 ((recB b).length - 1 : Int)] w fun e w' => e = .returned (.tuple #[]) ∧ YAt N sb L n w' ∧ Kp N [118] w w' := by
  obtain ⟨z, h1, ok, hzB, hsy, hl, hE, hB⟩ := h
  have hBl : z.B.length = L.length + 1 := by rw [hzB]; simp
  have hr := recB_len (ok.lv.bok b (by rw [hzB]; simp))
  refine (crash_sin z N sb _ w h1 ok (by omega) (small_j ok (t := n) (by omega) hn) (by omega) (by omega)).mono ?_
  rintro e w' ⟨rfl, j, hL, h2, h3⟩
  have hj : j = L.length := by
    have h5 := hL.fits
    have h6 := hL.le
    have h7 := hL.sure ok.lv.bsy
    have e1 : rl (z.B.take z.sy) = rl L := by rw [hzB, hsy, List.take_append_of_le_length (Nat.le_refl _), List.take_length]
    have e2 : z.J.length = rl L + (recB b).length := by
      have : z.J.length = rl z.B := rfl
      rw [this, hzB, rl_app]
      simp [rl]
    rw [e1, e2] at h5
    have e4 : lft (rl L + (recB b).length) (rl L) ((recB b).length - 1 : Int) = rl L + (recB b).length - 1 := by
      unfold lft
      rw [pk_in (by omega) (by push_cast; omega)]
      omega
    rw [e4] at h5
    by_cases hc : j = L.length + 1
    · have e3 : rl (z.B.take j) = rl L + (recB b).length := by rw [hc, ← hBl, List.take_length]; exact e2
      omega
    · omega
  refine ⟨rfl, ?_, h3⟩
  have := cr_y h2 ok hL.le hl hE (by omega) hn
  rwa [hj, hzB, List.take_append_of_le_length (Nat.le_refl _), List.take_length] at this

/-- The pair q is 1. -/
def pQ : Pr := ⟨⟨#[113]⟩, ⟨#[49]⟩, false⟩
theorem okQ : ∀ p ∈ [pQ], PrOk p := fun p hp => by
  rw [List.mem_singleton] at hp
  subst hp
  exact ⟨by decide, by decide, by decide, fun h => by cases h⟩

theorem settles_one {p : Pr} {M : List Pr} (h : Settles [p] M) : M = [p] := by
  have hk : keep [p] = [p] := by simp [keep]
  have h1 := h.1
  rw [hk] at h1
  obtain ⟨hl, hm⟩ := h1
  match M, hl with
  | [q], _ =>
    have := (hm q).1 List.mem_cons_self
    rw [List.mem_singleton] at this
    rw [this]

theorem y_write (N sb n : Nat) (L : List (List Pr)) (sync : Bool) (w : World) (h : YAt N sb L n w) (hn : n < 1300000) :
    Calls Tryz.prog 18 #[.pointer (some ⟨sb, 0, none⟩), .slice (some ⟨w.heap.size, 0, none⟩) 1 1, .bool sync] (w.alloc (.cells #[.string ⟨#[113]⟩, .string ⟨#[49]⟩, .bool false] 48)) fun e w' => (∃ v, e = .returned v) ∧ (if sync then YAt N sb (L ++ [[pQ]]) (n + 1) w' else YOne N sb L [pQ] (n + 1) w') ∧ Kp N [118, 5, 58] w w' := by
  obtain ⟨z, h1, ok, rfl, hsy, hl, hE, hB⟩ := h
  have hbW : Below w.heap.size w (w.alloc (.cells #[.string ⟨#[113]⟩, .string ⟨#[49]⟩, .bool false] 48)) := (Below.refl _ _).alloc (Nat.le_refl _) _
  refine (write_sin N sb z [pQ] _ w.heap.size sync _ (h1.below hbW) ok (by exact ⟨(one_three w _ _ _ 48).1, (one_three w _ _ _ 48).2⟩) (by decide) (by decide) okQ (by omega) (by omega)).mono ?_
  rintro e w' ⟨rfl, M, hse, h5, h6, h7⟩
  obtain rfl := settles_one hse
  have hEl : (srt (z.E ++ [pQ].map (toEn (z.last + 1)))).length ≤ 4 * (n + 1) := by
    rw [srt_len, List.length_append]
    simp
    omega
  refine ⟨⟨_, rfl⟩, ?_, (Kp.of_below hbW).trans h7⟩
  cases sync with
  | true => exact ⟨_, h5, h6, rfl, rfl, by show z.last + 1 ≤ _; push_cast; omega, hEl, by simp; omega⟩
  | false => exact ⟨_, h5, h6, rfl, hsy, by show z.last + 1 ≤ _; push_cast; omega, hEl, by omega⟩

theorem y_journal (N sb n : Nat) (L : List (List Pr)) (w : World) (h : YAt N sb L n w) :
    Calls Tryz.prog 24 #[.pointer (some ⟨sb, 0, none⟩)] w fun e w' => e = .returned (.string (bs (L.flatMap recB))) ∧ w' = w := by
  obtain ⟨z, h1, ok, rfl, _⟩ := h
  exact journal_sin z N sb w h1

theorem one_journal (N sb n : Nat) (L : List (List Pr)) (b : List Pr) (w : World) (h : YOne N sb L b n w) :
    Calls Tryz.prog 24 #[.pointer (some ⟨sb, 0, none⟩)] w fun e w' => e = .returned (.string (bs (L.flatMap recB ++ recB b))) ∧ w' = w := by
  obtain ⟨z, h1, ok, hB, _⟩ := h
  have := journal_sin z N sb w h1
  rw [show z.J = L.flatMap recB ++ recB b by unfold St.J; rw [hB]; simp] at this
  exact this

/-- Whole records are read. -/
theorem reads_whole {B : List (List Pr)} (h : ∀ b ∈ B, Bt b) : Reads (B.flatMap recB) B :=
  ⟨h, List.prefix_refl _, fun N hN hp => by
    rw [List.drop_length] at hp
    have h1 := hp.length_le
    have := recB_len hN
    simp only [List.length_nil] at h1
    omega⟩
end Go.Proofs.YtakipjofboipmaaGreat
