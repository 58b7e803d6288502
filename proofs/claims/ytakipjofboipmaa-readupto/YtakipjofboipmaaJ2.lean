/- The walks of this proof: a store in memory; Get and Scan. -/
import Derived.Test.YtakipjofboipmaaJ1
import Derived.Deep.AppendLies
import Derived.Deep.RegionLaw
import Derived.Laws.CopyRow
import Derived.Lib.BufferWrite
import Derived.Lib.UnsafeStr
import Derived.StillTail
import Derived.Lib.QuietBelow
import Derived.BigRegion
import Derived.Lib.AppendStr
import Derived.Deep.RegionHeldLaw
namespace Go.Proofs.Ytakipjofboipmaa
open Go.RowKit Go.Sort

/-- What a store holds: all entries that batches ever made (they need not lie there any more); the batches, as they count, since the last one that was laid down, and how many of them are synced; the entries of the table in memory; the tables that were laid down; the last batch that was; snapshots; the last snapshot's number; the last batch's. -/
structure St where
  E : List En
  B : List (List Pr)
  sy : Nat
  M : List En
  T : List Lb
  la : Int
  S : List Sn
  lastSnap : Int
  last : Int

/-- The journal's bytes. -/
def St.J (x : St) : List UInt8 := x.B.flatMap recB

/-- Tables as cells: entries, level. -/
def lcells (T : List Lb) (Vs : List Value) : List Value := (T.zip Vs).flatMap fun x => [x.2, .int .i64 x.1.1]

/-- The row of tables lies in D, their entries in F. -/
def TabsIn (w : World) (D F : Nat → Prop) (vL : Value) (T : List Lb) : Prop :=
  ∃ Vs : List Value, Vs.length = T.length ∧ OwnsIn w D 150 2 vL T.length (lcells T Vs) ∧ ∀ (k : Nat) t v, T[k]? = some t → Vs[k]? = some v → OwnsIn w F 73 4 v t.2.length (ecells t.2)

/-- A store that lies in block sb, its rows in D, its tables' entries in F. -/
def StoreAt (D F : Nat → Prop) (sb : Nat) (x : St) (w : World) : Prop :=
  ∃ (vE vL vR vS : Value), D sb ∧ w.heap[sb]? = some (.cells #[vE, vL, vR, .int .i64 (rl (x.B.take x.sy)), .int .i64 x.la, vS, .int .i64 x.lastSnap, .int .i64 x.last] 50 (0, 0)) ∧
    OwnsIn w D 73 4 vE x.M.length (ecells x.M) ∧ TabsIn w D F vL x.T ∧ OwnsJ w D vR x.J ∧ OwnsIn w D 152 2 vS x.S.length (scells x.S)

/-- What is true of a store's levels. -/
structure Lv (x : St) : Prop where
  msorted : Sorted x.M
  mem : ∀ e, e ∈ x.M ↔ e ∈ x.E ∧ x.la < e.s
  tsub : ∀ t ∈ x.T, ∀ e ∈ t.2, e ∈ x.E ∧ e.s ≤ x.la
  tsorted : ∀ t ∈ x.T, Sorted t.2
  tne : ∀ t ∈ x.T, t.2 ≠ []
  lay : LayX (x.T.map (·.2))
  lev : x.T.Pairwise fun a b => a.1 < b.1 ∨ (a.1 = 0 ∧ b.1 = 0)
  lev2 : ∀ t ∈ x.T, 0 ≤ t.1 ∧ t.1 ≤ 2
  view : ∀ q, (x.la ≤ q ∨ ∃ s ∈ x.S, s.q = q) → ∀ k, skO (fndL (x.T.map (·.2)) k q) = skO (fnd (x.E.filter fun e => decide (e.s ≤ x.la)) k q)
  tfew : x.T.length < 1000000000
  la0 : 0 ≤ x.la
  la1 : x.last = x.la + x.B.length
  bok : ∀ b ∈ x.B, Bt b
  bsy : x.sy ≤ x.B.length
  bent : ∀ e, (e ∈ x.E ∧ x.la < e.s) ↔ ∃ (i : Nat) (b : List Pr) (p : Pr), x.B[i]? = some b ∧ p ∈ b ∧ e = toEn (x.la + 1 + i) p

theorem Lv.la2 {x : St} (h : Lv x) : x.la ≤ x.last := by have := h.la1; omega

theorem flat_le {B : List (List Pr)} (h : ∀ b ∈ B, Bt b) : rl B ≤ B.length * 73 := by
  have := flat_bounds recB 8 73 B fun b hb => recB_len (h b hb)
  unfold rl
  omega

theorem Lv.jl {x : St} (h : Lv x) (hl : x.last < 1000000000) : x.J.length + 1000 ≤ 140737488355328 := by
  have := flat_le h.bok
  have h1 := h.la1
  have h0 := h.la0
  have : x.B.length < 1000000000 := by omega
  show rl x.B + 1000 ≤ _
  omega

/-- What is true of every store. -/
structure StOk (x : St) : Prop where
  slast : ∀ e ∈ x.E, e.s ≤ x.last
  sorted : Sorted x.E
  few : x.E.length < 1000000000
  seqs : ∀ e ∈ x.E, e.s ≤ 9223372036854775807
  keys : ∀ e ∈ x.E, e.k.size ≤ 1000
  snaps : x.S.length ≤ 4
  lv : Lv x

theorem sorted_nodup {E : List En} (h : Sorted E) : E.Nodup := by
  refine List.Pairwise.imp ?_ h
  intro a b hab he
  subst he
  unfold elt at hab
  rw [oc_lt, kc_self] at hab
  rcases hab with h | h <;> omega

open Classical in
theorem sub_len {A E : List En} (hA : Sorted A) (hE : Sorted E) (hs : ∀ e ∈ A, e ∈ E) : A.length ≤ E.length := by
  have h : A.Perm (E.filter fun e => decide (e ∈ A)) := by
    rw [List.perm_ext_iff_of_nodup (sorted_nodup hA) ((sorted_nodup hE).sublist List.filter_sublist)]
    intro e
    simp only [List.mem_filter, decide_eq_true_eq]
    exact ⟨fun h => ⟨hs e h, h⟩, fun h => h.2⟩
  rw [h.length_eq]
  exact List.length_filter_le _ _

theorem TabsIn.kd {D' : Nat → Prop} {w w' : World} {D F : Nat → Prop} {vL : Value} {T : List Lb} {ts : List Nat} (h : TabsIn w D F vL T) (k : Kd D' ts w w') (h1 : 150 ∉ ts) (h2 : 73 ∉ ts) : TabsIn w' D F vL T := by
  obtain ⟨Vs, hl, ho, hr⟩ := h
  exact ⟨Vs, hl, k.ownsIn ho h1, fun i t v ht hv => k.ownsIn (hr i t v ht hv) h2⟩

/-- Entries that nobody writes any more. -/
theorem TabsIn.kept {D' : Nat → Prop} {w w' : World} {D F : Nat → Prop} {vL : Value} {T : List Lb} {ts : List Nat} (h : TabsIn w D F vL T) (k : Kd D' ts w w') (h1 : 150 ∉ ts) (hF : ∀ b, b < w.heap.size → F b → ¬ D' b) : TabsIn w' D F vL T := by
  obtain ⟨Vs, hl, ho, hr⟩ := h
  refine ⟨Vs, hl, k.ownsIn ho h1, fun i t v ht hv => ?_⟩
  have := hr i t v ht hv
  exact ⟨k.ownsN this.own fun g hg => hF g (this.own.lt g hg).2 (this.dom g hg), this.dom⟩

theorem Lv.ok {x : St} (h : Lv x) (hs : Sorted x.E) (hf : x.E.length < 1000000000) : LvOk x.M x.T where
  few := Nat.lt_of_le_of_lt (sub_len h.msorted hs fun e he => ((h.mem e).1 he).1) hf
  sorted := h.msorted
  tfew := h.tfew
  tabs t ht := ⟨Nat.lt_of_le_of_lt (sub_len (h.tsorted t ht) hs fun e he => (h.tsub t ht e he).1) hf, h.tsorted t ht⟩

open Classical in
theorem StoreAt.below {D F : Nat → Prop} {sb : Nat} {x : St} {w w' : World} (h : StoreAt D F sb x w) (hb : Below w.heap.size w w') : StoreAt D F sb x w' := by
  obtain ⟨vE, vL, vR, vS, hB, hs, hE, hT, hR, hS⟩ := h
  have k := Kd.of_below (D := D) (ts := []) hb
  exact ⟨vE, vL, vR, vS, hB, k.keep hs (by simp), k.ownsIn hE (by simp), hT.kd k (by simp) (by simp), k.ownsJ hR (by simp), k.ownsIn hS (by simp)⟩

/-- A store that a call upon other blocks leaves alone. -/
theorem StoreAt.apart {D F D' : Nat → Prop} {sb : Nat} {ts : List Nat} {x : St} {w w' : World} (h : StoreAt D F sb x w) (k : Kd D' ts w w') (hd : ∀ b, D b → b < w.heap.size → ¬ D' b) (hf : ∀ b, F b → b < w.heap.size → ¬ D' b) : StoreAt D F sb x w' := by
  obtain ⟨vE, vL, vR, vS, hB, hs, hE, ⟨Vs, hv, hT, hr⟩, hR, hS⟩ := h
  have f : ∀ {D0 : Nat → Prop} {e size v n xs}, (∀ b, D0 b → b < w.heap.size → ¬ D' b) → OwnsIn w D0 e size v n xs → OwnsIn w' D0 e size v n xs := fun hd ho => ⟨k.ownsN ho.own fun g hg => hd g (ho.dom g hg) (ho.own.lt g hg).2, ho.dom⟩
  exact ⟨vE, vL, vR, vS, hB, k.keepN hs (hd sb hB (lt_of_block hs)), f hd hE, ⟨Vs, hv, f hd hT, fun i t v ht hv => f hf (hr i t v ht hv)⟩, k.ownsJN hR hd, f hd hS⟩

set_option maxHeartbeats 400000 in
theorem isKey_any (s : ByteArray) (w : World) (hs : s.size ≤ maxLen) :
    Calls Try.prog 33 #[.string s] w fun e w' => e = .returned (.bool (decide (1 ≤ s.size) && decide (s.size ≤ 6))) ∧ w' = w := by
  unfold maxLen at hs
  by_cases h1 : 1 ≤ s.size
  · have e : decide ((s.size : Int) ≤ 6) = (decide (1 ≤ s.size) && decide (s.size ≤ 6)) := by
      simp only [h1, decide_true, Bool.true_and, decide_eq_decide]; omega
    rw [← e]
    clear e
    go_enter Try.func33, Try.ntmps33
    go_wp2
    go_ret
    exact ⟨rfl, rfl⟩
  · simp only [h1, decide_false, Bool.false_and]
    go_enter Try.func33, Try.ntmps33
    go_wp2
    go_ret
    exact ⟨rfl, rfl⟩

end Go.Proofs.Ytakipjofboipmaa

/- The walks of this proof: making a snapshot. -/
namespace Go.Proofs.Ytakipjofboipmaa
open Go.RowKit Go.Sort

theorem StoreAt.drew {D F : Nat → Prop} {sb : Nat} {x : St} {w : World} (h : StoreAt D F sb x w) : StoreAt D F sb x w.drew := h

/-- A field of a store that is written. -/
theorem set_field {w : World} {sb : Nat} {a0 a1 a2 a3 a4 a5 a6 a7 : Value} {t : TypeId} (h : w.heap[sb]? = some (.cells #[a0, a1, a2, a3, a4, a5, a6, a7] t (0, 0))) (i : Nat) (v : Value) :
    (w.setCell ⟨sb, i, none⟩ v).heap[sb]? = some (.cells (#[a0, a1, a2, a3, a4, a5, a6, a7].setIfInBounds i v) t (0, 0)) := heap_setCell_same w sb i _ t v h

/-- What a store holds besides its snapshots. -/
def Rest (D F : Nat → Prop) (x : St) (vE vL vR : Value) (w : World) : Prop :=
  OwnsIn w D 73 4 vE x.M.length (ecells x.M) ∧ TabsIn w D F vL x.T ∧ OwnsJ w D vR x.J

theorem Rest.kd {D F D' : Nat → Prop} {x : St} {vE vL vR : Value} {w w' : World} {ts : List Nat} (h : Rest D F x vE vL vR w) (k : Kd D' ts w w') (h1 : 73 ∉ ts) (h2 : 150 ∉ ts) (h3 : 5 ∉ ts) : Rest D F x vE vL vR w' :=
  ⟨k.ownsIn h.1 h1, h.2.1.kd k h2 h1, k.ownsJ h.2.2 h3⟩

end Go.Proofs.Ytakipjofboipmaa

/- The walks of this proof: letting a snapshot go. -/
namespace Go.Proofs.Ytakipjofboipmaa
open Go.RowKit Go.Sort

theorem flat_take {α β : Type} (f : α → List β) (n : Nat) (hf : ∀ a, (f a).length = n) (l : List α) (k : Nat) : (l.flatMap f).take (k * n) = (l.take k).flatMap f := by
  induction l generalizing k with
  | nil => simp
  | cons a l ih =>
    cases k with
    | zero => simp
    | succ k =>
      rw [List.flatMap_cons, List.take_append, hf, List.take_of_length_le (by rw [hf, Nat.add_mul]; omega), show (k + 1) * n - n = k * n by rw [Nat.add_mul]; omega, ih, List.take_succ_cons, List.flatMap_cons]

theorem flat_drop {α β : Type} (f : α → List β) (n : Nat) (hf : ∀ a, (f a).length = n) (l : List α) (k : Nat) : (l.flatMap f).drop (k * n) = (l.drop k).flatMap f := by
  induction l generalizing k with
  | nil => simp
  | cons a l ih =>
    cases k with
    | zero => simp
    | succ k =>
      rw [List.flatMap_cons, List.drop_append, hf, List.drop_of_length_le (by rw [hf, Nat.add_mul]; omega), show (k + 1) * n - n = k * n by rw [Nat.add_mul]; omega, ih, List.drop_succ_cons, List.nil_append]

end Go.Proofs.Ytakipjofboipmaa

/- The walks of this proof: whether pairs are a batch. -/
namespace Go.Proofs.Ytakipjofboipmaa
open Go.RowKit Go.Sort

set_option maxHeartbeats 400000 in
theorem hasNoKey_any (p : Pr) (w : World) (ok : PrOk p) :
    Calls Try.prog 18 #[.agg #[.string p.k, .string p.v, .bool p.g]] w fun e w' => e = .returned (.bool false) ∧ Below w.heap.size w w' := by
  have hk : ∀ w, Calls Try.prog 33 #[.string p.k] w fun e w' => e = .returned (.bool true) ∧ w' = w := fun w => by
    have h := isKey_any p.k w (by have := ok.hi; unfold maxLen; omega)
    simpa only [ok.lo, ok.hi, decide_true, Bool.and_self] using h
  have HK : Hid _ := hk
  clear hk
  go_enter Try.func18, Try.ntmps18
  go_wp2_with fail
  refine Calls.mono (HK.out _) ?_
  rintro e w0 ⟨rfl, rfl⟩
  go_wp2
  go_ret
  exact ⟨rfl, (Below.refl _ _).alloc (Nat.le_refl _) _⟩

set_option maxHeartbeats 400000 in
theorem isLong_any (p : Pr) (w : World) (ok : PrOk p) :
    Calls Try.prog 19 #[.agg #[.string p.k, .string p.v, .bool p.g]] w fun e w' => e = .returned (.bool false) ∧ Below w.heap.size w w' := by
  have hv := ok.val
  have hd : decide ((8 : Int) < (p.v.size : Int)) = false := by simp; omega
  go_enter Try.func19, Try.ntmps19
  go_wp2
  go_ret
  exact ⟨by simp, (Below.refl _ _).alloc (Nat.le_refl _) _⟩

set_option maxHeartbeats 400000 in
theorem goneWith_any (p : Pr) (w : World) (ok : PrOk p) :
    Calls Try.prog 20 #[.agg #[.string p.k, .string p.v, .bool p.g]] w fun e w' => e = .returned (.bool false) ∧ Below w.heap.size w w' := by
  have hg := ok.gone
  obtain ⟨k, v, g⟩ := p
  cases g with
  | false =>
    clear hg ok
    go_enter Try.func20, Try.ntmps20
    go_wp2
    go_ret
    exact ⟨rfl, (Below.refl _ _).alloc (Nat.le_refl _) _⟩
  | true =>
    obtain rfl : v = ⟨#[]⟩ := hg rfl
    clear hg ok
    go_enter Try.func20, Try.ntmps20
    go_wp2
    go_ret
    exact ⟨rfl, (Below.refl _ _).alloc (Nat.le_refl _) _⟩

/-- The cells of pairs in a row. -/
theorem pr_cells {w w' : World} {base : Nat} {v : Value} {L : List Pr} (h : w.ownsRow base 30 3 v L.length (pcells L)) (hb : Below w.heap.size w w') (hl : 0 < L.length) :
    ∃ g cap, v = .slice (some ⟨g, 0, none⟩) L.length cap ∧ base ≤ g ∧ g < w.heap.size ∧ L.length ≤ cap ∧ ∀ (k : Nat) p, L[k]? = some p → w'.cell? ⟨g, k * 3, none⟩ = some (.string p.k) ∧ w'.cell? ⟨g, k * 3 + 1, none⟩ = some (.string p.v) ∧ w'.cell? ⟨g, k * 3 + 2, none⟩ = some (.bool p.g) := by
  obtain ⟨g, cap, rfl, hbg, hgl, hcap, hcell⟩ := row_cell (fun a => by rfl) h hl
  exact ⟨g, cap, rfl, hbg, hgl, hcap, fun k p hp => ⟨cell_later hb (hcell k p 0 hp (by omega)), cell_later hb (hcell k p 1 hp (by omega)), cell_later hb (hcell k p 2 hp (by omega))⟩⟩

set_option maxHeartbeats 1000000 in
theorem index55 (L : List Pr) (v : Value) (base : Nat) (w : World) (h : w.ownsRow base 30 3 v L.length (pcells L)) (h4 : L.length ≤ 4) (ok : ∀ p ∈ L, PrOk p) :
    Calls Try.prog 32 #[v, .func (.func 18) #[] #[]] w fun e w' => e = .returned (.int .i64 (-1)) ∧ Below w.heap.size w w' := by
  obtain ⟨ao, cap, rfl⟩ := slice_form h
  have H : Hid _ := h
  have OK : Hid (∀ p ∈ L, PrOk p) := ok
  clear h ok
  go_enter Try.func32, Try.ntmps32
  go_wp2
  go_loopw [8] (fun i wr => ∃ k : Nat, k ≤ L.length ∧ i = .int .i64 k ∧ Hid (Below w.heap.size w wr)) (fun i _ => L.length - (intOf i).toNat)
  case atStart => exact ⟨0, Nat.zero_le _, rfl, Below.refl _ _⟩
  case round =>
    obtain ⟨k, hk, rfl, HB⟩ := hrel
    by_cases hlt : k < L.length
    · obtain ⟨g, cap', hv', hbg, hgl, hcap, hcell⟩ := pr_cells H.out HB.out (by omega)
      simp only [Value.slice.injEq, true_and] at hv'
      obtain ⟨rfl, rfl⟩ := hv'
      obtain ⟨p, hp⟩ : ∃ p, L[k]? = some p := ⟨_, List.getElem?_eq_getElem hlt⟩
      obtain ⟨c0, c1, c2⟩ := hcell k p hp
      have OKp : Hid (PrOk p) := OK.out p (List.mem_of_getElem? hp)
      clear hp hcell
      go_wp2_with (go_at_call 18; refine (hasNoKey_any p _ OKp.out).mono ?_; rintro e w2 ⟨rfl, hb2⟩; have HB2 : Hid (Below w.heap.size w w2) := below_trans' HB.out hb2; clear hb2)
      go_roundw
      case rel => exact ⟨k + 1, by omega, by go_num, by assumption⟩
      case measure => simp [intOf]; omega
    · go_wp2
      go_ret
      exact ⟨rfl, HB.out⟩

set_option maxHeartbeats 1000000 in
theorem contains55 (L : List Pr) (v : Value) (base : Nat) (w : World) (h : w.ownsRow base 30 3 v L.length (pcells L)) (h4 : L.length ≤ 4) (ok : ∀ p ∈ L, PrOk p) :
    Calls Try.prog 17 #[v, .func (.func 18) #[] #[]] w fun e w' => e = .returned (.bool false) ∧ Below w.heap.size w w' := by
  have hi := index55 L v base w h h4 ok
  have HI : Hid _ := hi
  clear hi h ok
  go_enter Try.func17, Try.ntmps17
  go_wp2_with fail
  refine Calls.mono HI.out ?_
  rintro e w0 ⟨rfl, hb⟩
  have HB : Hid (Below w.heap.size w w0) := hb
  clear hb
  go_wp2
  go_ret
  exact ⟨rfl, HB.out⟩

set_option maxHeartbeats 1000000 in
theorem index56 (L : List Pr) (v : Value) (base : Nat) (w : World) (h : w.ownsRow base 30 3 v L.length (pcells L)) (h4 : L.length ≤ 4) (ok : ∀ p ∈ L, PrOk p) :
    Calls Try.prog 32 #[v, .func (.func 19) #[] #[]] w fun e w' => e = .returned (.int .i64 (-1)) ∧ Below w.heap.size w w' := by
  obtain ⟨ao, cap, rfl⟩ := slice_form h
  have H : Hid _ := h
  have OK : Hid (∀ p ∈ L, PrOk p) := ok
  clear h ok
  go_enter Try.func32, Try.ntmps32
  go_wp2
  go_loopw [8] (fun i wr => ∃ k : Nat, k ≤ L.length ∧ i = .int .i64 k ∧ Hid (Below w.heap.size w wr)) (fun i _ => L.length - (intOf i).toNat)
  case atStart => exact ⟨0, Nat.zero_le _, rfl, Below.refl _ _⟩
  case round =>
    obtain ⟨k, hk, rfl, HB⟩ := hrel
    by_cases hlt : k < L.length
    · obtain ⟨g, cap', hv', hbg, hgl, hcap, hcell⟩ := pr_cells H.out HB.out (by omega)
      simp only [Value.slice.injEq, true_and] at hv'
      obtain ⟨rfl, rfl⟩ := hv'
      obtain ⟨p, hp⟩ : ∃ p, L[k]? = some p := ⟨_, List.getElem?_eq_getElem hlt⟩
      obtain ⟨c0, c1, c2⟩ := hcell k p hp
      have OKp : Hid (PrOk p) := OK.out p (List.mem_of_getElem? hp)
      clear hp hcell
      go_wp2_with (go_at_call 19; refine (isLong_any p _ OKp.out).mono ?_; rintro e w2 ⟨rfl, hb2⟩; have HB2 : Hid (Below w.heap.size w w2) := below_trans' HB.out hb2; clear hb2)
      go_roundw
      case rel => exact ⟨k + 1, by omega, by go_num, by assumption⟩
      case measure => simp [intOf]; omega
    · go_wp2
      go_ret
      exact ⟨rfl, HB.out⟩

set_option maxHeartbeats 1000000 in
theorem contains56 (L : List Pr) (v : Value) (base : Nat) (w : World) (h : w.ownsRow base 30 3 v L.length (pcells L)) (h4 : L.length ≤ 4) (ok : ∀ p ∈ L, PrOk p) :
    Calls Try.prog 17 #[v, .func (.func 19) #[] #[]] w fun e w' => e = .returned (.bool false) ∧ Below w.heap.size w w' := by
  have hi := index56 L v base w h h4 ok
  have HI : Hid _ := hi
  clear hi h ok
  go_enter Try.func17, Try.ntmps17
  go_wp2_with fail
  refine Calls.mono HI.out ?_
  rintro e w0 ⟨rfl, hb⟩
  have HB : Hid (Below w.heap.size w w0) := hb
  clear hb
  go_wp2
  go_ret
  exact ⟨rfl, HB.out⟩

set_option maxHeartbeats 1000000 in
theorem index57 (L : List Pr) (v : Value) (base : Nat) (w : World) (h : w.ownsRow base 30 3 v L.length (pcells L)) (h4 : L.length ≤ 4) (ok : ∀ p ∈ L, PrOk p) :
    Calls Try.prog 32 #[v, .func (.func 20) #[] #[]] w fun e w' => e = .returned (.int .i64 (-1)) ∧ Below w.heap.size w w' := by
  obtain ⟨ao, cap, rfl⟩ := slice_form h
  have H : Hid _ := h
  have OK : Hid (∀ p ∈ L, PrOk p) := ok
  clear h ok
  go_enter Try.func32, Try.ntmps32
  go_wp2
  go_loopw [8] (fun i wr => ∃ k : Nat, k ≤ L.length ∧ i = .int .i64 k ∧ Hid (Below w.heap.size w wr)) (fun i _ => L.length - (intOf i).toNat)
  case atStart => exact ⟨0, Nat.zero_le _, rfl, Below.refl _ _⟩
  case round =>
    obtain ⟨k, hk, rfl, HB⟩ := hrel
    by_cases hlt : k < L.length
    · obtain ⟨g, cap', hv', hbg, hgl, hcap, hcell⟩ := pr_cells H.out HB.out (by omega)
      simp only [Value.slice.injEq, true_and] at hv'
      obtain ⟨rfl, rfl⟩ := hv'
      obtain ⟨p, hp⟩ : ∃ p, L[k]? = some p := ⟨_, List.getElem?_eq_getElem hlt⟩
      obtain ⟨c0, c1, c2⟩ := hcell k p hp
      have OKp : Hid (PrOk p) := OK.out p (List.mem_of_getElem? hp)
      clear hp hcell
      go_wp2_with (go_at_call 20; refine (goneWith_any p _ OKp.out).mono ?_; rintro e w2 ⟨rfl, hb2⟩; have HB2 : Hid (Below w.heap.size w w2) := below_trans' HB.out hb2; clear hb2)
      go_roundw
      case rel => exact ⟨k + 1, by omega, by go_num, by assumption⟩
      case measure => simp [intOf]; omega
    · go_wp2
      go_ret
      exact ⟨rfl, HB.out⟩

set_option maxHeartbeats 1000000 in
theorem contains57 (L : List Pr) (v : Value) (base : Nat) (w : World) (h : w.ownsRow base 30 3 v L.length (pcells L)) (h4 : L.length ≤ 4) (ok : ∀ p ∈ L, PrOk p) :
    Calls Try.prog 17 #[v, .func (.func 20) #[] #[]] w fun e w' => e = .returned (.bool false) ∧ Below w.heap.size w w' := by
  have hi := index57 L v base w h h4 ok
  have HI : Hid _ := hi
  clear hi h ok
  go_enter Try.func17, Try.ntmps17
  go_wp2_with fail
  refine Calls.mono HI.out ?_
  rintro e w0 ⟨rfl, hb⟩
  have HB : Hid (Below w.heap.size w w0) := hb
  clear hb
  go_wp2
  go_ret
  exact ⟨rfl, HB.out⟩

set_option maxHeartbeats 1000000 in
theorem check_any (L : List Pr) (v : Value) (base : Nat) (w : World) (h : w.ownsRow base 30 3 v L.length (pcells L)) (h1 : 1 ≤ L.length) (h4 : L.length ≤ 4) (ok : ∀ p ∈ L, PrOk p) :
    Calls Try.prog 9 #[v] w fun e w' => e = .returned (.int .i64 0) ∧ Below w.heap.size w w' := by
  have H5 : Hid (∀ w1, Below w.heap.size w w1 → Calls Try.prog 17 #[v, .func (.func 18) #[] #[]] w1 fun e w' => e = .returned (.bool false) ∧ Below w1.heap.size w1 w') := fun w1 hb => contains55 L v base w1 ((Kp.of_below (B := 0) (ts := []) hb).owns h (by simp)) h4 ok
  have H6 : Hid (∀ w1, Below w.heap.size w w1 → Calls Try.prog 17 #[v, .func (.func 19) #[] #[]] w1 fun e w' => e = .returned (.bool false) ∧ Below w1.heap.size w1 w') := fun w1 hb => contains56 L v base w1 ((Kp.of_below (B := 0) (ts := []) hb).owns h (by simp)) h4 ok
  have H7 : Hid (∀ w1, Below w.heap.size w w1 → Calls Try.prog 17 #[v, .func (.func 20) #[] #[]] w1 fun e w' => e = .returned (.bool false) ∧ Below w1.heap.size w1 w') := fun w1 hb => contains57 L v base w1 ((Kp.of_below (B := 0) (ts := []) hb).owns h (by simp)) h4 ok
  obtain ⟨ao, cap, rfl⟩ := slice_form h
  clear h ok
  have hd0 : ((L.length : Int) == 0) = false := by rw [beq_eq_false_iff_ne]; omega
  go_enter Try.func9, Try.ntmps9
  go_wp2_with fail
  refine Calls.mono (H5.out _ (Below.refl _ _)) ?_
  rintro e wa ⟨rfl, hb⟩
  have HA : Hid (Below w.heap.size w wa) := hb
  clear hb
  go_wp2_with fail
  refine Calls.mono (H6.out _ HA.out) ?_
  rintro e wb ⟨rfl, hb⟩
  have HB : Hid (Below w.heap.size w wb) := below_trans' HA.out hb
  clear hb
  go_wp2_with fail
  refine Calls.mono (H7.out _ HB.out) ?_
  rintro e wc ⟨rfl, hb⟩
  have HC : Hid (Below w.heap.size w wc) := below_trans' HB.out hb
  clear hb
  go_wp2
  go_ret
  exact ⟨rfl, HC.out⟩
end Go.Proofs.Ytakipjofboipmaa

/- The walks of this proof: pairs of one's own. -/
namespace Go.Proofs.Ytakipjofboipmaa
open Go.RowKit Go.Sort

theorem Try.info5 : (Try.prog.info? 5).map (fun i => (i.zero, i.size, i.bytes)) = some (some (.int .u8 0), 1, 1) := by kernel_rfl

set_option maxHeartbeats 2000000 in
set_option maxRecDepth 100000 in
theorem sclone_any (s : ByteArray) (w : World) (hs : s.size ≤ 1000) :
    Calls Try.prog 51 #[.string s] w fun e w' => e = .returned (.string s) ∧ Below w.heap.size w w' := by
  by_cases h0 : s.size = 0
  · obtain rfl : s = ⟨#[]⟩ := by
      apply ByteArray.ext
      exact Array.eq_empty_of_size_eq_zero h0
    go_enter Try.func51, Try.ntmps51
    go_wp2
    go_ret
    exact ⟨rfl, Below.refl _ _⟩
  · obtain ⟨i0, hi, hz0, hz1, hz2⟩ := info_parts Try.info5
    obtain ⟨M, hM⟩ : ∃ M, madeCells (Value.int .u8 0).cells (((s.size : Nat) : Int).toNat * i0.size) = M := ⟨_, rfl⟩
    have hMs : M.size = s.size := by rw [← hM, size_madeCells, hz1]; simp
    have mk : ∀ W : World, (Instr.makeSlice 43 (.int .i64 (s.size : Int)) (.int .i64 (s.size : Int))).run Try.prog W = .ok (.slice (some ⟨W.heap.size, 0, none⟩) s.size s.size) (W.alloc (.cells M 5)) := fun W => by
      have h := run_make (P := Try.prog) W 43 5 i0 (.int .u8 0) Try.underlying43 hi hz0 .i64 .i64 (s.size : Int) (s.size : Int) (by omega) (by omega) (by rw [hz2]; omega) (by omega)
      rw [hM] at h
      simpa using h
    clear hM
    obtain ⟨Y, hY⟩ : ∃ Y, (M.toList.take 0 ++ Lib.byteCells s.data.toList ++ M.toList.drop (0 + s.size)).toArray = Y := ⟨_, rfl⟩
    have cp := Lib.run_copy_row_string (P := Try.prog) (w.alloc (.cells M 5)) 43 9 3 5 w.heap.size 0 s.size s.size s M 5 Try.underlying43 (by rw [hi]; simp [hz1]) (heap_alloc_new w _) (Nat.le_refl _) (by omega)
    rw [hY] at cp
    have hYl : Y.toList = Lib.byteCells s.data.toList := by
      rw [← hY, List.take_zero, List.nil_append, List.drop_of_length_le (by rw [Array.length_toList]; omega), List.append_nil]
    have row : ((w.alloc (.cells M 5)).setRow w.heap.size Y).heap[w.heap.size]? = some (.cells Y 5 (0, 0)) := setRow_heap _ _ M _ 5 (0, 0) (heap_alloc_new w _)
    have hYs : Y.size = s.size := by rw [← Array.length_toList, hYl, Lib.byteCells_length, ← Lib.size_eq]
    have us := Lib.run_unsafeString_row (P := Try.prog) ((w.alloc (.cells M 5)).setRow w.heap.size Y) 117 3 9 5 Try.underlying117 (by simp [Program.cellsOf, hi, hz1]) w.heap.size Y.size (by unfold World.shape?; rw [row]) s.data.toList
      (fun e => h0 (by rw [Lib.size_eq, e]; rfl)) (by rw [← Lib.size_eq]; omega) (by rw [← Lib.size_eq]; omega)
      (fun j x hx => Lib.cells_of_row row Y.size j _ (by rw [List.take_of_length_le (by rw [Array.length_toList]; exact Nat.le_refl _), hYl]; simp [Lib.byteCells, hx]))
    rw [← Lib.size_eq] at us
    have hz : ((s.size : Int) == 0) = false := by rw [beq_eq_false_iff_ne]; omega
    have hpos : 0 < s.size := by omega
    have B1 : Hid (Below w.heap.size w ((w.alloc (.cells M 5)).setRow w.heap.size Y)) := ((Below.refl _ w).alloc (Nat.le_refl _) _).trans ⟨rfl, rfl, rfl, by simp, fun k hk => setRow_other _ _ _ _ (by omega)⟩
    clear hY hYl row hMs
    go_enter Try.func51, Try.ntmps51
    go_wp2
    go_ret
    exact ⟨rfl, Lib.below_freeze B1.out (p := ⟨w.heap.size, 0, none⟩) (Nat.le_refl _) _⟩

set_option maxHeartbeats 400000 in
theorem clone_any (s : ByteArray) (w : World) (hs : s.size ≤ 1000) :
    Calls Try.prog 38 #[.string s] w fun e w' => e = .returned (.string s) ∧ Below w.heap.size w w' := by
  go_enter Try.func38, Try.ntmps38
  go_wp2_with (go_at_call 51; refine (sclone_any _ _ hs).mono ?_; rintro e w' ⟨rfl, hb⟩; have HB : Hid (Below w.heap.size w w') := hb; clear hb)
  go_ret
  exact ⟨rfl, by assumption⟩
end Go.Proofs.Ytakipjofboipmaa

/- A region that draws its order: operations that are quiet in a class of worlds, then a forced tail that may write: one walk serves every order. -/
namespace Go.Proofs.Ytakipjofboipmaa
open Go Go.Sort Go.RowKit

section
variable {P : Program} {ops : Array Oper} {md : Region.Mode} {C : World → Prop}

/-- The quiet head in whatever order, down to L. -/
def headQ (P : Program) (md : Region.Mode) (ops : Array Oper) (C : World → Prop) (n : Nat) (L : Array Bool → Act → Prop) : Nat → Array Bool → Act → Prop
  | 0, listed, a => L listed a
  | f + 1, listed, a => Region.ready md ops listed ≠ [] ∧ ∀ i ∈ Region.ready md ops listed, i < n ∧ qOp P ops C i (headQ P md ops C n L f (listed.setIfInBounds i true)) a

theorem headQ_any {n g : Nat} {L : Array Bool → Act → Prop} {Q : Exit → Act → World → Prop} (hL : ∀ listed a w, C w → L listed a → wpAny P md ops Q g listed a w) :
    ∀ (f : Nat) (listed : Array Bool) (a : Act) (w : World), C w → headQ P md ops C n L f listed a → wpAny P md ops Q (f + g) listed a w
  | 0, listed, a, w, hw, h => by rw [Nat.zero_add]; exact hL _ _ _ hw h
  | f + 1, listed, a, w, hw, h => by
    rw [Nat.add_right_comm]
    exact ⟨fun h0 => absurd h0 h.1, fun i hi => wpOp_of_qOp hw (fun a' w' hw' h' => headQ_any hL f _ a' w' hw' h') (h.2 i hi).2⟩

theorem headQ_first {n i : Nat} {oi : Oper} {v : Value} {L : Array Bool → Act → Prop} (hi : ops[i]? = some oi) (hsel : ∀ (j : Nat) (o : Oper) cs b, ops[j]? = some o → o.op ≠ .select cs b)
    (hs : Region.sinkB md ops n = true) (hc : Region.chainB md ops n = true) (hn : n < ops.size) (hin : i < n) (hend : ∀ listed a, L listed a → ∀ j ∈ Region.ready md ops listed, n ≤ j) :
    ∀ (f : Nat) (listed : Array Bool) (a : Act), HeadInv md ops n listed →
      (∀ j oj, ops[j]? = some oj → j ≠ i → listed.getD j true = false → (∀ e ∈ oj.after, Region.binds md e = true → e.on ≠ i) → oi.apart ops oj = true) →
      i ∈ Region.ready md ops listed → YieldsIn P ops C oi v a → headQ P md ops C n L f (listed.setIfInBounds i true) (a.put oi.dst v) → headQ P md ops C n L (f + 1) listed a := by
  intro f
  induction f with
  | zero =>
    intro listed a inv _ hr hy H
    have hun := (mem_ready.1 hr).1
    refine ⟨List.ne_nil_of_mem hr, fun j hj => ?_⟩
    have hjn : j < n := Nat.lt_of_not_le fun h => tail_waits hs hc hn inv _ i rfl hin hun j h hj
    refine ⟨hjn, ?_⟩
    by_cases hji : j = i
    · subst hji; exact hy.qOp hi H
    · have := hend _ _ H j (ready_mono hj hji); omega
  | succ f ih =>
    intro listed a inv hfree hr hy H
    have hun := (mem_ready.1 hr).1
    refine ⟨List.ne_nil_of_mem hr, fun j hj => ?_⟩
    have hjn : j < n := Nat.lt_of_not_le fun h => tail_waits hs hc hn inv _ i rfl hin hun j h hj
    refine ⟨hjn, ?_⟩
    by_cases hji : j = i
    · subst hji; exact hy.qOp hi H
    · obtain ⟨hjun, oj, hoj, hall⟩ := mem_ready.1 hj
      have hnot : ∀ e ∈ oj.after, Region.binds md e = true → e.on ≠ i := fun e he hb heq => by
        have g := hall e he hb
        rw [heq, getD_both hun] at g
        cases g
      have h2 := qOp_put hoj (hfree j oj hoj hji hjun hnot) (fun cs b => hsel i oi cs b hi) (fun cs b => hsel j oj cs b hoj) hy (H.2 j (ready_mono hj hji)).2
      refine qOp_mono (fun a' h3 => ih (listed.setIfInBounds j true) a' (inv.set hj hjn) (fun k ok hk hki hu hno => hfree k ok hk hki ?_ hno) (ready_mono hr (Ne.symm hji)) h3.1 ?_) h2
      · by_cases hjk : j = k
        · subst hjk; exact hjun
        · rw [getD_set_ne true hjk] at hu; exact hu
      · rw [Array.setIfInBounds_comm _ _ hji]
        exact h3.2

theorem headQ_lex {n g : Nat} {Lq : Act → Prop} (hsel : Region.noSelect ops = true) (hs : Region.sinkB md ops n = true) (hc : Region.chainB md ops n = true) (hn : n < ops.size) :
    ∀ (l : List Oper) (k : Nat) (listed : Array Bool) (a : Act), (∀ j, j < l.length → l[j]? = ops[k + j]?) → k + l.length = n → HeadInv md ops n listed → Region.lexHead md ops g l.length k listed = true → wpQuiet P ops C Lq l a →
    headQ P md ops C n (fun listed' a' => Region.seqB md ops g n listed' = true ∧ Lq a') l.length listed a
  | [], k, listed, a, _, hk, _, hB, h => by
    obtain rfl : k = n := by simpa using hk
    exact ⟨by simpa [Region.lexHead] using hB, h⟩
  | o :: l, k, listed, a, hl, hk, inv, hB, h => by
    have h0 : ops[k]? = some o := by simpa using (hl 0 (by simp)).symm
    simp only [List.length_cons, Region.lexHead, Bool.and_eq_true] at hB
    have hkn : k < n := by simp only [List.length_cons] at hk; omega
    have hr : k ∈ Region.ready md ops listed := by simpa using hB.1.1
    have hq : qOp P ops C k (wpQuiet P ops C Lq l) a := by unfold qOp; simp only [h0]; exact h
    obtain ⟨v, hy, hK⟩ := yieldsIn_of_qOp h0 hq
    exact headQ_first h0 (Region.noSelect_spec hsel) hs hc hn hkn (fun listed' a' hL => seqB_ready hL.1) l.length listed a inv (Region.free_spec h0 hB.1.2) hr hy
      (headQ_lex hsel hs hc hn l (k + 1) _ _ (fun j hj => by have := hl (j + 1) (by simp; omega); simpa [Nat.add_assoc, Nat.add_comm 1 j] using this) (by simp only [List.length_cons] at hk; omega) (inv.set hr hkn) hB.2 hK)

/-- The head quiet in the class 'some blocks laid, some draws', the tail as it stands in the text. -/
theorem wp_region_quiet_tail {id : Nat} {Q : Exit → Act → World → Prop} {a : Act} {w : World} {l : List Oper} (n : Nat) (hm : P.follows .mixedOrders = true) (hB : Region.lexTailB .any l.toArray n = true)
    (h : wpQuiet P l.toArray (fun w' => ∃ p : Regrown, w' = grow (redrawn w p.d) p.os) (fun a' => ∀ w', (∃ p : Regrown, w' = grow (redrawn w p.d) p.os) → wpList P l.toArray Q (l.drop n) a' w') (l.take n) a) : (Code.region id l.toArray true).wp P Q a w := by
  simp only [Region.lexTailB, Bool.and_eq_true, decide_eq_true_eq] at hB
  obtain ⟨⟨⟨⟨hsel, hn⟩, hs⟩, hc⟩, hlex⟩ := hB
  have hn' : n < l.length := by simpa using hn
  have htl : (l.take n).length = n := by simp; omega
  have hdl : (l.drop n).length = l.toArray.size - n := by simp
  have inv0 : HeadInv .any l.toArray n (Array.replicate l.toArray.size false) :=
    ⟨by simp, fun j oj _ hl => (by rw [getD_replicate_false] at hl; cases hl), fun t _ ht => getD_in (by simpa using ht) (getD_replicate_false _ _)⟩
  have H := headQ_lex (md := .any) (g := l.toArray.size - n) hsel hs hc hn (l.take n) 0 _ a (fun j hj => by
    have hj' : j < n := by rw [htl] at hj; exact hj
    simp [hj']) (by simpa using htl) inv0 (by rw [htl]; exact hlex) h
  refine wp_region_any hm ?_
  have := headQ_any (Q := Q) (g := l.toArray.size - n) (fun listed a' w' hw' hL => by
    have := wpAny_of_seq (md := .any) (Q' := Q) (l.drop n) n listed a' w' (fun j => by simp [List.getElem?_drop]) (by rw [hdl]; exact hL.1) (hL.2 w' hw')
    rwa [hdl] at this) _ _ _ { w with drawn := w.drawn + 1 } ⟨⟨w.drawn + 1, #[]⟩, by rw [grow_empty]; rfl⟩ H
  rw [htl, show n + (l.toArray.size - n) = l.toArray.size by omega] at this
  exact this
end
end Go.Proofs.Ytakipjofboipmaa

/- The walks of this proof: a pair of one's own; a key among pairs. -/
namespace Go.Proofs.Ytakipjofboipmaa
open Go.RowKit Go.Sort

theorem below_of_regrown {w w' : World} (h : ∃ p : Regrown, w' = grow (redrawn w p.d) p.os) : Below w.heap.size w w' := by
  obtain ⟨p, rfl⟩ := h
  exact below_regrown w p.d p.os

theorem clone_in (s : ByteArray) (hs : s.size ≤ 1000) (w : World) (d : Nat) (os : Array Obj) :
    Calls Try.prog 38 #[.string s] (grow (redrawn w d) os) fun e w'' => e = .returned (.string s) ∧ ∃ p : Regrown, w'' = grow (redrawn w p.d) p.os :=
  Calls.regrown_of (clone_any s _ hs)

set_option maxHeartbeats 4000000 in
set_option maxRecDepth 100000 in
theorem own_any (p : Pr) (w : World) (hk : p.k.size ≤ 1000) (hv : p.v.size ≤ 1000) :
    Calls Try.prog 25 #[.agg #[.string p.k, .string p.v, .bool p.g]] w fun e w' => e = .returned (.agg #[.string p.k, .string p.v, .bool p.g]) ∧ Below w.heap.size w w' := by
  go_enter Try.func25, Try.ntmps25
  go_wp2
  have b0 := cell_regrown (w := (w.alloc (Obj.cells #[Value.string p.k, Value.string p.v, Value.bool p.g] 30)).alloc (Obj.cells #[Value.string ⟨#[]⟩, Value.string ⟨#[]⟩, Value.bool false] 30)) (a := ⟨w.heap.size, 0, none⟩) (v := .string p.k) (by simp)
  have b1 := cell_regrown (w := (w.alloc (Obj.cells #[Value.string p.k, Value.string p.v, Value.bool p.g] 30)).alloc (Obj.cells #[Value.string ⟨#[]⟩, Value.string ⟨#[]⟩, Value.bool false] 30)) (a := ⟨w.heap.size, 1, none⟩) (v := .string p.v) (by simp)
  have b2 := cell_regrown (w := (w.alloc (Obj.cells #[Value.string p.k, Value.string p.v, Value.bool p.g] 30)).alloc (Obj.cells #[Value.string ⟨#[]⟩, Value.string ⟨#[]⟩, Value.bool false] 30)) (a := ⟨w.heap.size, 2, none⟩) (v := .bool p.g) (by simp)
  refine wp_region_quiet_tail 9 (by kernel_rfl) (by kernel_rfl) ?_
  simp only [List.take_succ_cons, List.take_zero, List.drop_succ_cons, List.drop_zero]
  repeat (first | go_big_quiet_step (first | exact clone_in _ hk _ _ _ | exact clone_in _ hv _ _ _) | quiet_step (first | exact clone_in _ hk _ _ _ | exact clone_in _ hv _ _ _))
  refine wpQuiet_nil ?_
  intro w2 hw'
  have hb := below_of_regrown hw'
  clear hw' b0 b1 b2
  have r0 := (hb.cell (p := ⟨w.heap.size + 1, 0, none⟩) (by simp)).trans (by simp : _ = some (Value.string ⟨#[]⟩))
  have r1 := (hb.cell (p := ⟨w.heap.size + 1, 1, none⟩) (by simp)).trans (by simp : _ = some (Value.string ⟨#[]⟩))
  have r2 := (hb.cell (p := ⟨w.heap.size + 1, 2, none⟩) (by simp)).trans (by simp : _ = some (Value.bool false))
  have f0 := (hb.frozen (p := ⟨w.heap.size + 1, 0, none⟩) (by simp)).trans (by simp : _ = false)
  have f1 := (hb.frozen (p := ⟨w.heap.size + 1, 1, none⟩) (by simp)).trans (by simp : _ = false)
  have f2 := (hb.frozen (p := ⟨w.heap.size + 1, 2, none⟩) (by simp)).trans (by simp : _ = false)
  have HB : Hid (Below w.heap.size w w2) := below_trans' (((Below.refl _ w).alloc (Nat.le_refl _) _).alloc (by simp) _) hb
  clear hb
  go_wp2
  exact bodyPost_ret (v := .agg #[.string p.k, .string p.v, .bool p.g]) (by simp [results, Try.results25, go_sem, r0, r1, r2]) rfl ⟨rfl, ((HB.out.setCell (Nat.le_succ _) _).setCell (Nat.le_succ _) _).setCell (Nat.le_succ _) _⟩

set_option maxHeartbeats 1000000 in
theorem hasKey_any (L : List Pr) (v : Value) (ao : Option Addr) (cap : Nat) (key : ByteArray) (w : World) (hv : v = .slice ao L.length cap) (hl : L.length ≤ 4)
    (hc : ∀ b, ∀ (k : Nat) p, L[k]? = some p → ao = some b → b.spot = none ∧ w.cell? ⟨b.block, b.off + k * 3, none⟩ = some (.string p.k) ∧ w.cell? ⟨b.block, b.off + k * 3 + 1, none⟩ = some (.string p.v) ∧ w.cell? ⟨b.block, b.off + k * 3 + 2, none⟩ = some (.bool p.g)) (hne : 0 < L.length → ao.isSome = true) :
    Calls Try.prog 24 #[v, .string key] w fun e w' => e = .returned (.bool (L.any fun p => decide (p.k = key))) ∧ Below w.heap.size w w' := by
  subst hv
  have HC : Hid _ := hc
  clear hc
  go_enter Try.func24, Try.ntmps24
  go_wp2
  go_loopw [9] (fun i wr => ∃ k : Nat, k ≤ L.length ∧ i = .int .i64 k ∧ Hid (Below w.heap.size w wr) ∧ Hid (∀ j p, j < k → L[j]? = some p → p.k ≠ key)) (fun i _ => L.length - (intOf i).toNat)
  case atStart => exact ⟨0, Nat.zero_le _, rfl, Below.refl _ _, fun j p h => absurd h (Nat.not_lt_zero _)⟩
  case round =>
    obtain ⟨k, hk, rfl, HB, HN⟩ := hrel
    by_cases hlt : k < L.length
    · obtain ⟨⟨g, off, spot⟩, rfl⟩ := Option.isSome_iff_exists.1 (hne (by omega))
      obtain ⟨p, hp⟩ : ∃ p, L[k]? = some p := ⟨_, List.getElem?_eq_getElem hlt⟩
      obtain ⟨hsp, c0, c1, c2⟩ := HC.out ⟨g, off, spot⟩ k p hp rfl
      simp only at hsp c0 c1 c2
      subst hsp
      have c0 := cell_later HB.out c0
      have c1 := cell_later HB.out c1
      have c2 := cell_later HB.out c2
      have hgl : g < wr.heap.size := block_lt_of_cell c0
      have HP : Hid (L[k]? = some p) := hp
      clear hp
      by_cases hkk : p.k = key
      · have hfin : Hid ((L.any fun p => decide (p.k = key)) = true) := List.any_eq_true.2 ⟨p, List.mem_of_getElem? HP.out, by simp [hkk]⟩
        subst hkk
        go_wp2
        go_ret
        exact ⟨by rw [hfin.out]; rfl, HB.out.alloc HB.out.size _⟩
      · have hnb := str_ne hkk
        go_wp2
        go_roundw
        case rel => exact ⟨k + 1, by omega, by go_num, HB.out.alloc HB.out.size _, fun j p' hj hp' => by
          rcases Nat.lt_succ_iff_lt_or_eq.1 hj with h | rfl
          · exact HN.out j p' h hp'
          · rw [HP.out] at hp'; cases hp'; exact hkk⟩
        case measure => simp [intOf]; omega
    · have hfin : Hid ((L.any fun p => decide (p.k = key)) = false) := by
        refine List.any_eq_false.2 fun p hp => ?_
        obtain ⟨j, hj, rfl⟩ := List.getElem_of_mem hp
        simpa using HN.out j _ (by omega) (List.getElem?_eq_getElem hj)
      go_wp2
      go_ret
      exact ⟨by rw [hfin.out]; rfl, HB.out⟩
end Go.Proofs.Ytakipjofboipmaa

/- The walks of this proof: the library's insertion sort over pairs. -/
namespace Go.Proofs.Ytakipjofboipmaa
open Go.RowKit Go.Sort

set_option maxHeartbeats 1000000 in
theorem byKey_any (a b : Pr) (w : World) :
    Calls Try.prog 27 #[.agg #[.string a.k, .string a.v, .bool a.g], .agg #[.string b.k, .string b.v, .bool b.g]] w fun e w' => e = .returned (.int .i64 (kc a.k b.k)) ∧ Below w.heap.size w w' := by
  go_enter Try.func27, Try.ntmps27
  go_wp2_with (go_at_call 41; refine (compare_any _ _ _).mono ?_; rintro e w' ⟨rfl, rfl⟩)
  go_ret
  exact ⟨rfl, ((Below.refl _ _).alloc (Nat.le_refl _) _).alloc (by simp) _⟩

theorem byKey_in (a b : Pr) (w : World) (d : Nat) (os : Array Obj) :
    Calls Try.prog 27 #[.agg #[.string a.k, .string a.v, .bool a.g], .agg #[.string b.k, .string b.v, .bool b.g]] (grow (redrawn w d) os) fun e w'' => e = .returned (.int .i64 (kc a.k b.k)) ∧ ∃ p : Regrown, w'' = grow (redrawn w p.d) p.os :=
  Calls.regrown_of (byKey_any a b _)

theorem owns_drew {w : World} {base : Nat} {e : TypeId} {size : Nat} {v : Value} {n : Nat} {xs : List Value} (h : w.ownsRow base e size v n xs) : w.drew.ownsRow base e size v n xs := h

/-- A pair stored into a row of pairs. -/
theorem put_pair {w : World} {base g cap : Nat} {L : List Pr} (h : w.ownsRow base 30 3 (.slice (some ⟨g, 0, none⟩) L.length cap) L.length (pcells L)) (hbg : base ≤ g) (k : Nat) (p : Pr) (hk : k < L.length) :
    (((w.setCell ⟨g, k * 3, none⟩ (.string p.k)).setCell ⟨g, k * 3 + 1, none⟩ (.string p.v)).setCell ⟨g, k * 3 + 2, none⟩ (.bool p.g)).ownsRow base 30 3 (.slice (some ⟨g, 0, none⟩) (L.set k p).length cap) (L.set k p).length (pcells (L.set k p)) ∧
    Below base w (((w.setCell ⟨g, k * 3, none⟩ (.string p.k)).setCell ⟨g, k * 3 + 1, none⟩ (.string p.v)).setCell ⟨g, k * 3 + 2, none⟩ (.bool p.g)) := by
  have h3 := (((h.stored (k * 3) (.string p.k)).1.stored (k * 3 + 1) (.string p.v)).1.stored (k * 3 + 2) (.bool p.g)).1
  rw [pcells_set L k p hk] at h3
  refine ⟨by rw [List.length_set]; exact h3, (((Below.refl _ _).setCell hbg _).setCell hbg _).setCell hbg _⟩

theorem swap_pairs {w : World} {base g cap : Nat} {L : List Pr} (h : w.ownsRow base 30 3 (.slice (some ⟨g, 0, none⟩) L.length cap) L.length (pcells L)) (hbg : base ≤ g) (m : Nat) (x y : Pr) (hm : m + 1 < L.length) :
    ((((((w.setCell ⟨g, (m + 1) * 3, none⟩ (.string x.k)).setCell ⟨g, (m + 1) * 3 + 1, none⟩ (.string x.v)).setCell ⟨g, (m + 1) * 3 + 2, none⟩ (.bool x.g)).setCell ⟨g, m * 3, none⟩ (.string y.k)).setCell ⟨g, m * 3 + 1, none⟩ (.string y.v)).setCell ⟨g, m * 3 + 2, none⟩ (.bool y.g)).ownsRow base 30 3 (.slice (some ⟨g, 0, none⟩) L.length cap) L.length (pcells (sw L m x y)) ∧
    Below base w ((((((w.setCell ⟨g, (m + 1) * 3, none⟩ (.string x.k)).setCell ⟨g, (m + 1) * 3 + 1, none⟩ (.string x.v)).setCell ⟨g, (m + 1) * 3 + 2, none⟩ (.bool x.g)).setCell ⟨g, m * 3, none⟩ (.string y.k)).setCell ⟨g, m * 3 + 1, none⟩ (.string y.v)).setCell ⟨g, m * 3 + 2, none⟩ (.bool y.g)) := by
  obtain ⟨h1, b1⟩ := put_pair h hbg (m + 1) x hm
  obtain ⟨h2, b2⟩ := put_pair h1 hbg m y (by simp; omega)
  simp only [List.length_set] at h2
  exact ⟨h2, b1.trans b2⟩

/-- What the sort comes to. -/
def SortPost (L : List Pr) (g cap base : Nat) (w : World) (e : Ending) (w' : World) : Prop :=
  e = .returned (.tuple #[]) ∧ ∃ M : List Pr, SamePr L M ∧ Upto M M.length ∧ w'.ownsRow base 30 3 (.slice (some ⟨g, 0, none⟩) M.length cap) M.length (pcells M) ∧ Below base w w'

set_option maxHeartbeats 1000000 in
set_option maxRecDepth 100000 in
theorem isort_any (L : List Pr) (g cap base : Nat) (w : World) (h : w.ownsRow base 30 3 (.slice (some ⟨g, 0, none⟩) L.length cap) L.length (pcells L)) (h1 : 1 ≤ L.length) (h4 : L.length ≤ 4) (hbg : base ≤ g) (hbase : base ≤ w.heap.size) (hd : Distinct L) :
    Calls Try.prog 52 #[.slice (some ⟨g, 0, none⟩) L.length cap, .int .i64 0, .int .i64 L.length, .func (.func 27) #[] #[]] w fun e w' => SortPost L g cap base w e w' := by
  have H : Hid (w.ownsRow base 30 3 (.slice (some ⟨g, 0, none⟩) L.length cap) L.length (pcells L)) := h
  have HD : Hid (Distinct L) := hd
  clear h hd
  go_enter Try.func52, Try.ntmps52
  go_wp2
  go_loopg [8, 9] L.length (fun kx s8 s9 wr => ∃ (i : Nat) (Lc : List Pr), s8 = .int .i64 i ∧ 1 ≤ i ∧ i ≤ L.length ∧ L.length - i ≤ kx ∧ Lc.length = L.length ∧ Hid (wr.ownsRow base 30 3 (.slice (some ⟨g, 0, none⟩) L.length cap) L.length (pcells Lc) ∧ SamePr L Lc ∧ Distinct Lc ∧ Upto Lc i ∧ Below base w wr))
  case atStart => exact ⟨1, L, rfl, Nat.le_refl _, h1, by omega, rfl, H.out, ⟨rfl, fun _ => Iff.rfl⟩, HD.out, fun a b p q hab hb => by omega, Below.refl _ _⟩
  case round =>
    obtain ⟨i, Lc, rfl, hi1, hin, hgk, hll, HO⟩ := hrel
    by_cases hlt : i < L.length
    · go_wp2
      go_loopg [9] i (fun kx s9 wr => ∃ (j : Nat) (Ld : List Pr), s9 = .int .i64 j ∧ j ≤ i ∧ j ≤ kx ∧ Ld.length = L.length ∧ Hid (wr.ownsRow base 30 3 (.slice (some ⟨g, 0, none⟩) L.length cap) L.length (pcells Ld) ∧ SamePr L Ld ∧ Distinct Ld ∧ But Ld j i ∧ Below base w wr))
      case atStart => exact ⟨i, Lc, rfl, Nat.le_refl _, Nat.le_refl _, hll, HO.out.1, HO.out.2.1, HO.out.2.2.1, but_start HO.out.2.2.2.1, HO.out.2.2.2.2⟩
      case round =>
        clear HO
        obtain ⟨j, Ld, rfl, hji, hgj, hld, HO⟩ := hrel
        by_cases hj0 : 0 < j
        · obtain ⟨m, rfl⟩ : ∃ m, j = m + 1 := ⟨j - 1, by omega⟩
          obtain ⟨x, hx⟩ : ∃ x, Ld[m]? = some x := ⟨_, List.getElem?_eq_getElem (by omega)⟩
          obtain ⟨y, hy⟩ : ∃ y, Ld[m + 1]? = some y := ⟨_, List.getElem?_eq_getElem (by omega)⟩
          rw [← hld] at HO
          obtain ⟨g', cap', hv', _, hgl, hcap, hcell⟩ := pr_cells HO.out.1 (Below.refl _ _) (by omega)
          simp only [Value.slice.injEq, Option.some.injEq, Addr.mk.injEq, and_true, true_and] at hv'
          obtain ⟨rfl, rfl⟩ := hv'
          obtain ⟨c0, c1, c2⟩ := hcell m x hx
          obtain ⟨d0, d1, d2⟩ := hcell (m + 1) y hy
          have c0' := cell_regrown c0
          have c1' := cell_regrown c1
          have c2' := cell_regrown c2
          have d0' := cell_regrown d0
          have d1' := cell_regrown d1
          have d2' := cell_regrown d2
          have hmi : (0 : Int) < (m : Int) + 1 := by omega
          have HX : Hid (Ld[m]? = some x ∧ Ld[m + 1]? = some y) := ⟨hx, hy⟩
          have hgl' : base ≤ wr.heap.size := Nat.le_trans hbase HO.out.2.2.2.2.size
          clear hx hy hcell
          by_cases hlv : kc y.k x.k < 0
          · go_wp2
            refine wp_region_quiet_below (by kernel_rfl) (by kernel_rfl) ?_
            repeat (first | go_big_quiet_step (exact byKey_in _ _ _ _ _) | quiet_step (exact byKey_in _ _ _ _ _))
            refine wpQuiet_nil ?_
            intro w2 hw'
            have hb := below_of_regrown hw'
            clear hw' c0' c1' c2' d0' d1' d2'
            have c0 := cell_later hb c0
            have c1 := cell_later hb c1
            have c2 := cell_later hb c2
            have d0 := cell_later hb d0
            have d1 := cell_later hb d1
            have d2 := cell_later hb d2
            have HO2 : Hid (w2.ownsRow base 30 3 (.slice (some ⟨g, 0, none⟩) Ld.length cap) Ld.length (pcells Ld) ∧ SamePr L Ld ∧ Distinct Ld ∧ But Ld (m + 1) i ∧ Below base w w2) := ⟨(Kp.of_below (B := 0) (ts := []) hb).owns HO.out.1 (by simp), HO.out.2.1, HO.out.2.2.1, HO.out.2.2.2.1, HO.out.2.2.2.2.trans (hb.mono hgl')⟩
            have hfz : ∀ o, w2.frozen? ⟨g, o, none⟩ = false := fun o => by
              rcases HO2.out.1.2 with ⟨h, _⟩ | ⟨g2, cap2, cur, hv, _, hg, _⟩
              · cases h
              · simp only [Value.slice.injEq, Option.some.injEq, Addr.mk.injEq, and_true, true_and] at hv
                obtain ⟨rfl, rfl⟩ := hv
                simp [World.frozen?, hg]
            have FIN := swap_pairs HO2.out.1 hbg m x y (by omega)
            have HF : Hid _ := FIN
            clear hb HO FIN
            have hm1 : (m : Int) < (L.length : Int) := by omega
            have hm2 : (m : Int) + 1 < (L.length : Int) := by omega
            have hmw : IntKind.i64.wrap (m : Int) = (m : Int) := by rw [IntKind.wrap_i64]; omega
            go_wp2
            go_region
            go_wp2
            go_roundg m
            case measure => omega
            case rel =>
              refine ⟨m, sw Ld m x y, rfl, by omega, Nat.le_refl _, by rw [sw_len]; exact hld, ?_⟩
              rw [← hld]
              exact ⟨owns_drew HF.out.1, HO2.out.2.1.trans (sw_same HX.out.1 HX.out.2), sw_distinct HO2.out.2.2.1 HX.out.1 HX.out.2, but_step HO2.out.2.2.2.1 hji HX.out.1 HX.out.2 hlv, (HO2.out.2.2.2.2.trans HF.out.2).drew⟩
          · go_wp2
            refine wp_region_quiet_below (by kernel_rfl) (by kernel_rfl) ?_
            repeat (first | go_big_quiet_step (exact byKey_in _ _ _ _ _) | quiet_step (exact byKey_in _ _ _ _ _))
            refine wpQuiet_nil ?_
            intro w2 hw'
            have hb := below_of_regrown hw'
            clear hw' c0' c1' c2' d0' d1' d2' c0 c1 c2 d0 d1 d2
            have HO2 : Hid (w2.ownsRow base 30 3 (.slice (some ⟨g, 0, none⟩) L.length cap) L.length (pcells Ld) ∧ SamePr L Ld ∧ Distinct Ld ∧ Upto Ld (i + 1) ∧ Below base w w2) := by
              refine ⟨by rw [← hld]; exact (Kp.of_below (B := 0) (ts := []) hb).owns HO.out.1 (by simp), HO.out.2.1, HO.out.2.2.1, but_stop HO.out.2.2.2.1 HO.out.2.2.1 hji (fun m' x' y' e hx' hy' => ?_), HO.out.2.2.2.2.trans (hb.mono hgl')⟩
              obtain rfl : m = m' := by omega
              rw [HX.out.1] at hx'; rw [HX.out.2] at hy'
              cases hx'; cases hy'
              omega
            clear hb HO
            go_wp2
            go_roundg (L.length - (i + 1))
            case measure => omega
            case rel => exact ⟨i + 1, Ld, by go_num, by omega, by omega, Nat.le_refl _, hld, HO2.out⟩
        · obtain rfl : j = 0 := by omega
          have HO2 : Hid (wr.ownsRow base 30 3 (.slice (some ⟨g, 0, none⟩) L.length cap) L.length (pcells Ld) ∧ SamePr L Ld ∧ Distinct Ld ∧ Upto Ld (i + 1) ∧ Below base w wr) := ⟨HO.out.1, HO.out.2.1, HO.out.2.2.1, but_stop HO.out.2.2.2.1 HO.out.2.2.1 (by omega) (fun m' x' y' e => by omega), HO.out.2.2.2.2⟩
          have hgl' : base ≤ wr.heap.size := Nat.le_trans hbase HO.out.2.2.2.2.size
          clear HO
          go_wp2
          refine wp_region_quiet_below (by kernel_rfl) (by kernel_rfl) ?_
          repeat (first | go_big_quiet_step (fail) | quiet_step (fail))
          refine wpQuiet_nil ?_
          intro w2 hw'
          have hb := below_of_regrown hw'
          have HO3 : Hid (w2.ownsRow base 30 3 (.slice (some ⟨g, 0, none⟩) L.length cap) L.length (pcells Ld) ∧ SamePr L Ld ∧ Distinct Ld ∧ Upto Ld (i + 1) ∧ Below base w w2) := ⟨(Kp.of_below (B := 0) (ts := []) hb).owns HO2.out.1 (by simp), HO2.out.2.1, HO2.out.2.2.1, HO2.out.2.2.2.1, HO2.out.2.2.2.2.trans (hb.mono hgl')⟩
          clear hb hw' HO2
          go_wp2
          go_roundg (L.length - (i + 1))
          case measure => omega
          case rel => exact ⟨i + 1, Ld, by go_num, by omega, by omega, Nat.le_refl _, hld, HO3.out⟩
    · obtain rfl : i = L.length := by omega
      go_wp2
      go_end0
      refine ⟨rfl, Lc, HO.out.2.1, by rw [hll]; exact HO.out.2.2.2.1, by rw [hll]; exact HO.out.1, HO.out.2.2.2.2⟩
end Go.Proofs.Ytakipjofboipmaa

/- The walks of this proof: slices.SortFunc at few pairs. -/
namespace Go.Proofs.Ytakipjofboipmaa
open Go.RowKit Go.Sort

set_option maxHeartbeats 1000000 in
set_option maxRecDepth 100000 in
theorem len64_any (n : Nat) (h1 : 1 ≤ n) (h4 : n ≤ 4) (w : World) :
    Calls Try.prog 61 #[.int .u64 n] w fun e w' => ∃ r : Int, e = .returned (.int .i64 r) ∧ w' = w := by
  obtain rfl | rfl | rfl | rfl : n = 1 ∨ n = 2 ∨ n = 3 ∨ n = 4 := by omega
  all_goals
    go_enter Try.func61, Try.ntmps61
    go_wp2
    go_ret
    exact ⟨_, rfl, rfl⟩

set_option maxHeartbeats 1000000 in
theorem blen_any (n : Nat) (h1 : 1 ≤ n) (h4 : n ≤ 4) (w : World) :
    Calls Try.prog 40 #[.int .u64 n] w fun e w' => ∃ r : Int, e = .returned (.int .i64 r) ∧ w' = w := by
  go_enter Try.func40, Try.ntmps40
  go_wp2_with (go_at_call 61; refine (len64_any n h1 h4 _).mono ?_; rintro e w' ⟨r, rfl, rfl⟩)
  go_ret
  exact ⟨_, rfl, rfl⟩

set_option maxHeartbeats 1000000 in
set_option maxRecDepth 100000 in
theorem pdq_any (L : List Pr) (g cap base : Nat) (r : Int) (w : World) (h : w.ownsRow base 30 3 (.slice (some ⟨g, 0, none⟩) L.length cap) L.length (pcells L)) (h1 : 1 ≤ L.length) (h4 : L.length ≤ 4) (hbg : base ≤ g) (hbase : base ≤ w.heap.size) (hd : Distinct L) :
    Calls Try.prog 39 #[.slice (some ⟨g, 0, none⟩) L.length cap, .int .i64 0, .int .i64 L.length, .int .i64 r, .func (.func 27) #[] #[]] w fun e w' => SortPost L g cap base w e w' := by
  have hi := isort_any L g cap base w h h1 h4 hbg hbase hd
  have HI : Hid _ := hi
  clear hi h hd
  go_enter Try.func39, Try.ntmps39
  go_wp2
  refine wp_loop_rounds 1 ?_
  rw [rounds_succ]
  go_wp2_with fail
  refine Calls.mono HI.out ?_
  rintro e w1 ⟨rfl, hpost⟩
  have HP : Hid _ := hpost
  clear hpost
  go_wp2
  go_end0
  exact ⟨rfl, HP.out⟩

set_option maxHeartbeats 1000000 in
theorem sortFunc_any (L : List Pr) (g cap base : Nat) (w : World) (h : w.ownsRow base 30 3 (.slice (some ⟨g, 0, none⟩) L.length cap) L.length (pcells L)) (h1 : 1 ≤ L.length) (h4 : L.length ≤ 4) (hbg : base ≤ g) (hbase : base ≤ w.heap.size) (hd : Distinct L) :
    Calls Try.prog 26 #[.slice (some ⟨g, 0, none⟩) L.length cap, .func (.func 27) #[] #[]] w fun e w' => SortPost L g cap base w e w' := by
  have hi := fun r => pdq_any L g cap base r w h h1 h4 hbg hbase hd
  have HI : Hid _ := hi
  clear hi h hd
  go_enter Try.func26, Try.ntmps26
  go_wp2_with fail
  refine (blen_any _ h1 h4 _).mono ?_
  rintro e w1 ⟨r, rfl, rfl⟩
  go_wp2_with fail
  refine Calls.mono (HI.out r) ?_
  rintro e w1 ⟨rfl, hpost⟩
  have HP : Hid _ := hpost
  clear hpost
  go_wp2
  go_end0
  exact ⟨rfl, HP.out⟩
end Go.Proofs.Ytakipjofboipmaa

/- The walks of this proof: the pairs of a batch that count, in order. -/
namespace Go.Proofs.Ytakipjofboipmaa
open Go.RowKit Go.Sort

/-- Whether a key comes again, asked of what is behind a pair. -/
theorem again_in {Lp : List Pr} {g k : Nat} (off c : Nat) (key : ByteArray) (w : World) (h4 : Lp.length ≤ 4) (hcell : ∀ (j : Nat) p, Lp[j]? = some p → w.cell? ⟨g, j * 3, none⟩ = some (.string p.k) ∧ w.cell? ⟨g, j * 3 + 1, none⟩ = some (.string p.v) ∧ w.cell? ⟨g, j * 3 + 2, none⟩ = some (.bool p.g))
    (hoff : k + 1 < Lp.length → off = (k + 1) * 3) (v : Value) (hv : v = .slice (some ⟨g, off, none⟩) (Lp.drop (k + 1)).length c) (d : Nat) (os : Array Obj) {r : Bool} (hr : ((Lp.drop (k + 1)).any fun q => decide (q.k = key)) = r) :
    Calls Try.prog 24 #[v, .string key] (grow (redrawn w d) os) fun e w'' => e = .returned (.bool r) ∧ ∃ p : Regrown, w'' = grow (redrawn w p.d) p.os := by
  subst hr
  refine Calls.regrown_of (hasKey_any (Lp.drop (k + 1)) v _ c key _ hv (by rw [List.length_drop]; omega) (fun b j p hp hb => ?_) (fun _ => rfl))
  simp only [Option.some.injEq] at hb
  subst hb
  rw [List.getElem?_drop] at hp
  have hl : k + 1 < Lp.length := by have := (List.getElem?_eq_some_iff.1 hp).1; omega
  obtain ⟨c0, c1, c2⟩ := hcell (k + 1 + j) p hp
  have e := hoff hl
  subst e
  have e3 : (k + 1) * 3 + j * 3 = (k + 1 + j) * 3 := by omega
  refine ⟨rfl, ?_, ?_, ?_⟩
  · simp only [e3]; exact cell_regrown c0 d os
  · simp only [e3]; exact cell_regrown c1 d os
  · simp only [e3]; exact cell_regrown c2 d os

theorem one_pair (w : World) (p : Pr) : ∀ j u, (Pr.cells p)[j]? = some u → (w.alloc (.cells #[.string p.k, .string p.v, .bool p.g] 30)).cell? ((⟨w.heap.size, 0, none⟩ : Addr).add j) = some u := by
  intro j u hj
  match j, hj with
  | 0, hj => simp [Pr.cells] at hj; subst hj; simp [Addr.add]
  | 1, hj => simp [Pr.cells] at hj; subst hj; simp [Addr.add]
  | 2, hj => simp [Pr.cells] at hj; subst hj; simp [Addr.add]
  | j + 3, hj => simp [Pr.cells] at hj

theorem pair_one (p : Pr) : ∀ u ∈ Pr.cells p, u.oneCell' = true := by
  intro u hu; simp [Pr.cells] at hu; rcases hu with rfl | rfl | rfl <;> rfl

/-- What Settle comes to. -/
def SettlePost (Lp : List Pr) (w : World) (e : Ending) (w' : World) : Prop :=
  ∃ (v : Value) (M : List Pr), e = .returned v ∧ SamePr (keep Lp) M ∧ Upto M M.length ∧ w'.ownsRow w.heap.size 30 3 v M.length (pcells M) ∧ Below w.heap.size w w'

set_option maxHeartbeats 2000000 in
set_option maxRecDepth 100000 in
theorem settle_any (Lp : List Pr) (v : Value) (base : Nat) (w : World) (h : w.ownsRow base 30 3 v Lp.length (pcells Lp)) (h1 : 1 ≤ Lp.length) (h4 : Lp.length ≤ 4) (ok : ∀ p ∈ Lp, PrOk p) :
    Calls Try.prog 11 #[v] w fun e w' => SettlePost Lp w e w' := by
  obtain ⟨i0, hi, hz0, hz1, hz2⟩ := info_parts Try.info30
  have HPR : Hid (∀ w', Below w.heap.size w w' → ∃ g cap, v = .slice (some ⟨g, 0, none⟩) Lp.length cap ∧ base ≤ g ∧ g < w.heap.size ∧ Lp.length ≤ cap ∧ ∀ (k : Nat) p, Lp[k]? = some p → w'.cell? ⟨g, k * 3, none⟩ = some (.string p.k) ∧ w'.cell? ⟨g, k * 3 + 1, none⟩ = some (.string p.v) ∧ w'.cell? ⟨g, k * 3 + 2, none⟩ = some (.bool p.g)) := fun w' hb => pr_cells h hb (by omega)
  obtain ⟨g, cap, rfl, _, hgw, hcap, hjunk⟩ := HPR.out w (Below.refl _ _)
  clear hjunk
  have HCELL : Hid (∀ w', Below w.heap.size w w' → ∀ (k : Nat) p, Lp[k]? = some p → w'.cell? ⟨g, k * 3, none⟩ = some (.string p.k) ∧ w'.cell? ⟨g, k * 3 + 1, none⟩ = some (.string p.v) ∧ w'.cell? ⟨g, k * 3 + 2, none⟩ = some (.bool p.g)) := fun w' hb => by
    obtain ⟨g', cap', e, _, _, _, hc⟩ := HPR.out w' hb
    simp only [Value.slice.injEq, Option.some.injEq, Addr.mk.injEq, and_true, true_and] at e
    obtain ⟨rfl, rfl⟩ := e
    exact hc
  have OK : Hid (∀ p ∈ Lp, PrOk p) := ok
  clear h HPR ok
  obtain ⟨M, hM⟩ : ∃ M, madeCells (Value.agg #[.string ⟨#[]⟩, .string ⟨#[]⟩, .bool false]).cells (((Lp.length : Nat) : Int).toNat * i0.size) = M := ⟨_, rfl⟩
  have hMs : M.size = Lp.length * 3 := by rw [← hM, size_madeCells, hz1]; simp
  have mk : ∀ W : World, (Instr.makeSlice 31 (.int .i64 0) (.int .i64 (Lp.length : Int))).run Try.prog W = .ok (.slice (some ⟨W.heap.size, 0, none⟩) 0 Lp.length) (W.alloc (.cells M 30)) := fun W => by
    have h := run_make (P := Try.prog) W 31 30 i0 (.agg #[.string ⟨#[]⟩, .string ⟨#[]⟩, .bool false]) Try.underlying31 hi hz0 .i64 .i64 0 (Lp.length : Int) (by omega) (by omega) (by rw [hz2]; omega) (by omega)
    rw [hM] at h
    simpa using h
  have OWN0 : Hid ((w.alloc (.cells M 30)).ownsRow w.heap.size 30 3 (.slice (some ⟨w.heap.size, 0, none⟩) 0 Lp.length) 0 []) := World.ownsRow_made w M Lp.length (Nat.le_refl _) (by unfold maxLen; omega) hMs
  have B0 : Hid (Below w.heap.size w (w.alloc (.cells M 30))) := (Below.refl _ _).alloc (Nat.le_refl _) _
  clear hM hMs
  go_enter Try.func11, Try.ntmps11
  go_wp2
  go_loopw [3, 11] (fun s3 i wr => ∃ (k : Nat) (T : List Pr), k ≤ Lp.length ∧ i = .int .i64 k ∧ T.length ≤ k ∧ Hid (T ++ keep (Lp.drop k) = keep Lp) ∧ Hid (wr.ownsRow w.heap.size 30 3 s3 T.length (pcells T)) ∧ Hid (Below w.heap.size w wr)) (fun _ i _ => Lp.length - (intOf i).toNat)
  case atStart => exact ⟨0, [], Nat.zero_le _, rfl, Nat.le_refl _, by simp [Hid], OWN0.out, B0.out⟩
  case round =>
    clear OWN0 B0 mk
    obtain ⟨k, T, hk, rfl, hTk, HT, HO, HB⟩ := hrel
    by_cases hlt : k < Lp.length
    · obtain ⟨p, hp⟩ : ∃ p, Lp[k]? = some p := ⟨_, List.getElem?_eq_getElem hlt⟩
      have hkd := keep_drop hp
      obtain ⟨c0, c1, c2⟩ := HCELL.out wr HB.out k p hp
      have OKp : Hid (PrOk p) := OK.out p (List.mem_of_getElem? hp)
      have hgr : g < wr.heap.size := Nat.lt_of_lt_of_le hgw HB.out.size
      have HB1 : Hid (∀ o, Below w.heap.size w (wr.alloc o)) := fun o => HB.out.alloc HB.out.size o
      have hsz : w.heap.size ≤ wr.heap.size := HB.out.size
      have hk1 : (k : Int) + 1 ≤ (Lp.length : Int) := by omega
      have hk0 : (0 : Int) ≤ (k : Int) + 1 := by omega
      have hkx : (p.k.size ≤ 1000) ∧ p.v.size ≤ 1000 := by have := OKp.out.hi; have := OKp.out.val; omega
      obtain ⟨r, hr⟩ : ∃ r, ((Lp.drop (k + 1)).any fun q => decide (q.k = p.k)) = r := ⟨_, rfl⟩
      rw [hr] at hkd
      have HR : Hid (((Lp.drop (k + 1)).any fun q => decide (q.k = p.k)) = r) := hr
      have HKD : Hid _ := hkd
      obtain ⟨ao3, cap3, rfl⟩ := slice_form HO.out
      clear hr hkd hp
      go_wp2
      refine wp_region_quiet_below (by kernel_rfl) (by kernel_rfl) ?_
      have b0 := cell_regrown (w := wr.alloc (.cells #[.string p.k, .string p.v, .bool p.g] 30)) (a := ⟨wr.heap.size, 0, none⟩) (v := .string p.k) (by simp)
      by_cases hce : cap = k + 1
      · subst hce
        repeat (first | go_big_quiet_step (first | exact again_in 0 0 _ _ h4 (HCELL.out _ (HB1.out _)) (fun h => absurd h (by omega)) _ (by rw [List.length_drop]; simp; omega) _ _ HR.out | exact again_in 0 (cap - (k + 1)) _ _ h4 (HCELL.out _ (HB1.out _)) (fun h => absurd h (by omega)) _ (by rw [List.length_drop]) _ _ HR.out) | quiet_step (first | exact again_in 0 0 _ _ h4 (HCELL.out _ (HB1.out _)) (fun h => absurd h (by omega)) _ (by rw [List.length_drop]; simp; omega) _ _ HR.out | exact again_in 0 (cap - (k + 1)) _ _ h4 (HCELL.out _ (HB1.out _)) (fun h => absurd h (by omega)) _ (by rw [List.length_drop]) _ _ HR.out))
        refine wpQuiet_nil ?_
        intro w2 hw'
        have hb := below_of_regrown hw'
        clear hw' b0
        have d0 := (hb.cell (p := ⟨wr.heap.size, 0, none⟩) (by simp)).trans (by simp : _ = some (Value.string p.k))
        have d1 := (hb.cell (p := ⟨wr.heap.size, 1, none⟩) (by simp)).trans (by simp : _ = some (Value.string p.v))
        have d2 := (hb.cell (p := ⟨wr.heap.size, 2, none⟩) (by simp)).trans (by simp : _ = some (Value.bool p.g))
        have hb2 : Below wr.heap.size wr w2 := below_trans' ((Below.refl _ wr).alloc (Nat.le_refl _) _) hb
        have HB2 : Hid (Below w.heap.size w w2) := below_trans' HB.out hb2
        have HO2 : Hid (w2.ownsRow w.heap.size 30 3 (.slice ao3 T.length cap3) T.length (pcells T)) := (Kp.of_below (B := 0) (ts := []) hb2).owns HO.out (by simp)
        clear hb hb2 HO c0 c1 c2
        cases r with
        | true =>
          go_wp2
          go_roundw
          case rel => exact ⟨k + 1, T, by omega, by go_num, by omega, by rw [← HT.out, HKD.out, if_pos rfl]; exact rfl, HO2.out, HB2.out⟩
          case measure => simp [intOf]; omega
        | false =>
          go_wp2_with fail
          refine (own_any p _ hkx.1 hkx.2).mono ?_
          rintro e w3 ⟨rfl, hb3⟩
          have HB3 : Hid (Below w.heap.size w w3) := below_trans' HB2.out hb3
          have HO3 : w3.ownsRow w.heap.size 30 3 (.slice ao3 T.length cap3) T.length (pcells T) := (Kp.of_below (B := 0) (ts := []) hb3).owns HO2.out (by simp)
          clear hb3 d0 d1 d2 HO2
          go_wp2_with (at_builtin; refine wpList_append_own _ rfl _ _ 31 rfl w.heap.size 30 i0 _ 3 40 Try.underlying31 hi hz0 hz1 hz2 rfl (by decide) _ _ _ rfl (HO3.alloc _) ⟨w3.heap.size, 0, none⟩ 1 1 (Pr.cells p) rfl rfl (by exact one_pair _ _) (pair_one p) (by unfold maxLen; omega) (by omega) (by have := HB3.out.size; simp; omega) ?_)
          intro v9 w4 ho4 hg4 _
          have HB4 : Hid (Below w.heap.size w w4) := app_below HB3.out HO3 hg4
          have HO4 : Hid (w4.ownsRow w.heap.size 30 3 v9 (T ++ [p]).length (pcells (T ++ [p]))) := by
            have : pcells (T ++ [p]) = pcells T ++ Pr.cells p := by simp [pcells]
            rw [this, List.length_append]; exact ho4
          clear ho4 hg4 HO3
          go_wp2
          go_roundw
          case rel => exact ⟨k + 1, T ++ [p], by omega, by go_num, by simp; omega, by rw [← HT.out, HKD.out, if_neg (by simp), List.append_assoc]; exact rfl, HO4.out, HB4.out⟩
          case measure => simp [intOf]; omega
      · repeat (first | go_big_quiet_step (exact again_in ((k + 1) * 3) (cap - (k + 1)) _ _ h4 (HCELL.out _ (HB1.out _)) (fun _ => rfl) _ (by rw [List.length_drop]) _ _ HR.out) | quiet_step (exact again_in ((k + 1) * 3) (cap - (k + 1)) _ _ h4 (HCELL.out _ (HB1.out _)) (fun _ => rfl) _ (by rw [List.length_drop]) _ _ HR.out))
        refine wpQuiet_nil ?_
        intro w2 hw'
        have hb := below_of_regrown hw'
        clear hw' b0
        have d0 := (hb.cell (p := ⟨wr.heap.size, 0, none⟩) (by simp)).trans (by simp : _ = some (Value.string p.k))
        have d1 := (hb.cell (p := ⟨wr.heap.size, 1, none⟩) (by simp)).trans (by simp : _ = some (Value.string p.v))
        have d2 := (hb.cell (p := ⟨wr.heap.size, 2, none⟩) (by simp)).trans (by simp : _ = some (Value.bool p.g))
        have hb2 : Below wr.heap.size wr w2 := below_trans' ((Below.refl _ wr).alloc (Nat.le_refl _) _) hb
        have HB2 : Hid (Below w.heap.size w w2) := below_trans' HB.out hb2
        have HO2 : Hid (w2.ownsRow w.heap.size 30 3 (.slice ao3 T.length cap3) T.length (pcells T)) := (Kp.of_below (B := 0) (ts := []) hb2).owns HO.out (by simp)
        clear hb hb2 HO c0 c1 c2
        cases r with
        | true =>
          go_wp2
          go_roundw
          case rel => exact ⟨k + 1, T, by omega, by go_num, by omega, by rw [← HT.out, HKD.out, if_pos rfl]; exact rfl, HO2.out, HB2.out⟩
          case measure => simp [intOf]; omega
        | false =>
          go_wp2_with fail
          refine (own_any p _ hkx.1 hkx.2).mono ?_
          rintro e w3 ⟨rfl, hb3⟩
          have HB3 : Hid (Below w.heap.size w w3) := below_trans' HB2.out hb3
          have HO3 : w3.ownsRow w.heap.size 30 3 (.slice ao3 T.length cap3) T.length (pcells T) := (Kp.of_below (B := 0) (ts := []) hb3).owns HO2.out (by simp)
          clear hb3 d0 d1 d2 HO2
          go_wp2_with (at_builtin; refine wpList_append_own _ rfl _ _ 31 rfl w.heap.size 30 i0 _ 3 40 Try.underlying31 hi hz0 hz1 hz2 rfl (by decide) _ _ _ rfl (HO3.alloc _) ⟨w3.heap.size, 0, none⟩ 1 1 (Pr.cells p) rfl rfl (by exact one_pair _ _) (pair_one p) (by unfold maxLen; omega) (by omega) (by have := HB3.out.size; simp; omega) ?_)
          intro v9 w4 ho4 hg4 _
          have HB4 : Hid (Below w.heap.size w w4) := app_below HB3.out HO3 hg4
          have HO4 : Hid (w4.ownsRow w.heap.size 30 3 v9 (T ++ [p]).length (pcells (T ++ [p]))) := by
            have : pcells (T ++ [p]) = pcells T ++ Pr.cells p := by simp [pcells]
            rw [this, List.length_append]; exact ho4
          clear ho4 hg4 HO3
          go_wp2
          go_roundw
          case rel => exact ⟨k + 1, T ++ [p], by omega, by go_num, by simp; omega, by rw [← HT.out, HKD.out, if_neg (by simp), List.append_assoc]; exact rfl, HO4.out, HB4.out⟩
          case measure => simp [intOf]; omega
    · obtain rfl : k = Lp.length := by omega
      have hT : T = keep Lp := by have := HT.out; rw [List.drop_of_length_le (Nat.le_refl _)] at this; simpa [keep] using this
      subst hT
      have hp1 := keep_pos h1
      have hpl := keep_len Lp
      obtain ⟨gs, caps, rfl, hbgs, hgsl⟩ := HO.out.form (by omega)
      have SF : Hid (Calls Try.prog 26 #[.slice (some ⟨gs, 0, none⟩) (keep Lp).length caps, .func (.func 27) #[] #[]] wr fun e w' => SortPost (keep Lp) gs caps w.heap.size wr e w') := sortFunc_any (keep Lp) gs caps w.heap.size wr HO.out hp1 (by omega) hbgs HB.out.size (keep_distinct Lp)
      clear HT HO
      go_wp2_with fail
      refine Calls.mono SF.out ?_
      rintro e w5 ⟨rfl, Ms, hsame, hup, hown, hbel⟩
      have HF : Hid (SamePr (keep Lp) Ms ∧ Upto Ms Ms.length ∧ w5.ownsRow w.heap.size 30 3 (.slice (some ⟨gs, 0, none⟩) Ms.length caps) Ms.length (pcells Ms) ∧ Below w.heap.size w w5) := ⟨hsame, hup, hown, HB.out.trans hbel⟩
      have hlm : Ms.length = (keep Lp).length := hsame.1
      clear hsame hup hown hbel
      go_wp2
      go_ret
      refine ⟨.slice (some ⟨gs, 0, none⟩) (keep Lp).length caps, Ms, rfl, HF.out.1, HF.out.2.1, ?_, HF.out.2.2.2⟩
      rw [← hlm]
      exact HF.out.2.2.1
end Go.Proofs.Ytakipjofboipmaa

/- The walks of this proof: the bytes of a record . -/
namespace Go.Proofs.Ytakipjofboipmaa
open Go.RowKit Go.Sort

/-- A slice of these bytes, from block 'base' on. -/
def BR (base : Nat) (v : Value) (l : List UInt8) (w : World) : Prop := w.ownsRow base 5 1 v l.length (bcells l)

theorem BR.below {base : Nat} {v : Value} {l : List UInt8} {w w' : World} (h : BR base v l w) (hb : Below w.heap.size w w') : BR base v l w' :=
  (Kp.of_below (B := 0) (ts := []) hb).owns h (by simp)

theorem BR.form {base : Nat} {v : Value} {l : List UInt8} {w : World} (h : BR base v l w) : ∃ ao cap, v = .slice ao l.length cap := slice_form h

theorem byte_of {n : Nat} (h : n < 256) : (UInt8.ofNat n).toNat = n := by rw [UInt8.toNat_ofNat', Nat.mod_eq_of_lt h]

/-- What was appended. -/
theorem BR.of {base : Nat} {v : Value} {n : Nat} {xs : List Value} {l : List UInt8} {w : World} (h : w.ownsRow base 5 1 v n xs) (hn : n = l.length) (hx : xs = bcells l) : BR base v l w := by
  subst hn hx; exact h

theorem strCells_b (s : ByteArray) : Lib.strCells s = bcells s.data.toList := rfl

def AppPost (base : Nat) (l : List UInt8) (w : World) (e : Ending) (w' : World) : Prop := ∃ v', e = .returned v' ∧ BR base v' l w' ∧ Kp base [5] w w'

set_option maxHeartbeats 1000000 in
theorem appendText_any (base : Nat) (v : Value) (l : List UInt8) (s : ByteArray) (w : World) (h : BR base v l w) (hb : base ≤ w.heap.size) (hn : l.length + 1 + s.size ≤ 1000000) (hs : s.size ≤ 8) :
    Calls Try.prog 48 #[v, .string s] w fun e w' => AppPost base (l ++ txB s) w e w' := by
  obtain ⟨i0, hi, hz0, hz1, hz2⟩ := info_parts Try.info5
  have hown : w.ownsRow base 5 1 v l.length (bcells l) := h
  clear h
  obtain ⟨n, hn0⟩ : ∃ n, l.length = n := ⟨_, rfl⟩
  obtain ⟨R, hR0⟩ : ∃ R, bcells l = R := ⟨_, rfl⟩
  rw [hn0, hR0] at hown
  rw [hn0] at hn
  have HN : Hid (l.length = n) := hn0
  have HR : Hid (bcells l = R) := hR0
  clear hn0 hR0
  obtain ⟨ao, cap, rfl⟩ := slice_form hown
  go_enter Try.func48, Try.ntmps48
  go_wp2_with (at_builtin; refine wpList_append_own _ rfl (.tmp 5) (.tmp 9) 43 rfl base 5 i0 _ 1 1 Try.underlying43 hi hz0 hz1 hz2 rfl (by decide) _ _ _ rfl (hown.alloc _) ⟨w.heap.size, 0, none⟩ 1 1 [.int .u8 (s.size : Int)] rfl rfl ?c1 ?c2 ?c3 ?c4 ?c5 ?_)
  case c1 =>
    intro j u hj
    match j, hj with
    | 0, hj => simp at hj; subst hj; simp [Addr.add]
    | j + 1, hj => simp at hj
  case c2 => intro u hu; simp at hu; subst hu; rfl
  case c3 => unfold maxLen; omega
  case c4 => omega
  case c5 => simp; omega
  intro v1 w1 ho1 hg1 _
  have B1 : Kp base [5] w w1 := ((Kp.refl base [5] w).alloc _).grown (hown.alloc _) hg1 (Nat.le_refl _) (by simp)
  have HB1 : Hid (Kp base [5] w w1) := B1
  have hb1 : base ≤ w1.heap.size := Nat.le_trans hb B1.size
  obtain ⟨ao1, cap1, rfl⟩ := slice_form ho1
  clear hg1 B1 hown
  go_wp2_with (at_builtin; refine Lib.wpList_append_own_string _ rfl (.tmp 10) (.tmp 11) 43 9 rfl base 5 i0 Try.underlying43 Try.underlying9 hi hz0 hz1 hz2 _ _ _ rfl ho1 s rfl ?d1 ?d2 ?d3 ?_)
  case d1 => unfold maxLen; omega
  case d2 => omega
  case d3 => exact hb1
  intro v2 w2 ho2 hg2 _
  have HF : Hid (BR base v2 (l ++ txB s) w2 ∧ Kp base [5] w w2) := by
    refine ⟨BR.of ho2 ?_ ?_, HB1.out.grown ho1 hg2 (Nat.le_refl _) (by simp)⟩
    · rw [List.length_append, txB_len, HN.out]; omega
    · rw [bcells_append, HR.out, strCells_b]
      simp only [txB, bcells, List.map_cons]
      rw [byte_of (by omega)]
  clear ho2 hg2 ho1
  go_wp2
  go_ret
  exact ⟨_, rfl, HF.out⟩

/-- One byte appended, at a step of a region that draws. -/
theorem BR.push {base : Nat} {l : List UInt8} {b : UInt8} {x : Int} {g cap : Nat} {w1 : World} (hx : (b.toNat : Int) = x) (h : w1.ownsRow base 5 1 (.slice (some ⟨g, 0, none⟩) (l.length + 1) cap) (l.length + 1) (bcells l ++ [.int .u8 x])) : BR base (.slice (some ⟨g, 0, none⟩) (l.length + 1) cap) (l ++ [b]) w1 := by
  subst hx
  exact BR.of h (by simp) (by simp [bcells])

set_option maxHeartbeats 2000000 in
set_option maxRecDepth 100000 in
theorem appendPair_any (base : Nat) (v : Value) (l : List UInt8) (p : Pr) (w : World) (h : BR base v l w) (hb : base ≤ w.heap.size) (hn : l.length + 100 ≤ 1000000) (ok : PrOk p) :
    Calls Try.prog 34 #[v, .agg #[.string p.k, .string p.v, .bool p.g]] w fun e w' => AppPost base (l ++ prB p) w e w' := by
  obtain ⟨i0, hi, hz0, hz1, hz2⟩ := info_parts Try.info5
  have HOWN : Hid (w.ownsRow base 5 1 v l.length (bcells l)) := h
  have hk6 := ok.hi
  have hv8 := ok.val
  clear h ok
  obtain ⟨k, vv, g⟩ := p
  simp only at hk6 hv8 ⊢
  have KA : Hid (∀ o, Kp base [5] w (w.alloc o)) := fun o => (Kp.refl _ _ _).alloc o
  cases g with
  | true =>
    obtain ⟨fin, hfin⟩ : ∃ fin, l ++ prB ⟨k, vv, true⟩ = fin := ⟨_, rfl⟩
    have HFIN : Hid (l ++ [1] ++ txB k = fin) := (by rw [← hfin]; simp [prB] : _ = fin)
    rw [hfin]
    clear hfin
    have HLEN : Hid ((l ++ [(1 : UInt8)]).length = l.length + 1) := List.length_append
    go_enter Try.func34, Try.ntmps34
    go_wp2
    go_region_held_law (fun w' => w'.cell? ⟨w.heap.size, 0, none⟩ = some (.string k)) (first | go_keep | assumption) (first
      | (refine step_append_lies _ rfl (.tmp 7) (.tmp 8) 43 rfl base 5 i0 _ 1 1 Try.underlying43 hi hz0 hz1 hz2 rfl (by decide) v l.length (bcells l) rfl (by exact (HOWN.out.alloc _).alloc _) ⟨w.heap.size + 1, 0, none⟩ 1 1 [.int .u8 1] rfl rfl (by intro j u hj; match j, hj with | 0, hj => (simp at hj; subst hj; simp [Addr.add]) | j + 1, hj => (simp at hj)) (by intro u hu; simp at hu; subst hu; rfl) (by omega) (by unfold maxLen; omega) (by omega) (by simp; omega) _ rfl ?_; intro g1 cap1 w1 ho1 hg1 hat hlt; have K1 : Hid (BR base (.slice (some ⟨g1, 0, none⟩) (l.length + 1) cap1) (l ++ [1]) w1) := BR.push rfl ho1; have B1 : Hid (Kp base [5] (w.alloc (.cells #[.string k, .string vv, .bool true] 30)) w1) := Kp.grown ((Kp.refl _ _ _).alloc _).drew (by exact (HOWN.out.alloc _).alloc _) hg1 (Nat.le_refl _) (by simp); have k0 : w1.cell? ⟨w.heap.size, 0, none⟩ = some (.string k) := (by simp [World.cell?, B1.out.keep (heap_alloc_new w _) (by simp)]); have k1 : w1.cell? ⟨w.heap.size, 1, none⟩ = some (.string vv) := (by simp [World.cell?, B1.out.keep (heap_alloc_new w _) (by simp)]); have hsz1 : base ≤ w1.heap.size := Nat.le_trans hb (Nat.le_trans (Nat.le_trans (Nat.le_succ _) (by simp)) B1.out.size); clear ho1 hg1 hat hlt)
      | (go_at_call 48; refine (appendText_any base _ (l ++ [1]) k _ K1.out hsz1 (by rw [HLEN.out]; omega) (by omega)).mono ?_; rintro e w2 ⟨v2, rfl, hbr2, hbl2⟩; have B2 := B1.out.trans hbl2; have HF : Hid (BR base v2 (l ++ [1] ++ txB k) w2 ∧ Kp base [5] w w2) := ⟨hbr2, (KA.out _).trans B2⟩; have m0 : w2.cell? ⟨w.heap.size, 0, none⟩ = some (.string k) := (by simp [World.cell?, B2.keep (heap_alloc_new w _) (by simp)]); clear hbr2 hbl2 B2))
    all_goals go_wp2
    all_goals go_ret
    all_goals (rw [← HFIN.out]; exact ⟨_, rfl, Hid.out (by assumption)⟩)
  | false =>
    obtain ⟨fin, hfin⟩ : ∃ fin, l ++ prB ⟨k, vv, false⟩ = fin := ⟨_, rfl⟩
    have HFIN : Hid (l ++ [0] ++ txB k ++ txB vv = fin) := (by rw [← hfin]; simp [prB] : _ = fin)
    rw [hfin]
    clear hfin
    have HLEN : Hid ((l ++ [(0 : UInt8)]).length = l.length + 1 ∧ (l ++ [(0 : UInt8)] ++ txB k).length = l.length + 1 + (k.size + 1)) := ⟨List.length_append, by rw [List.length_append, List.length_append, txB_len]; rfl⟩
    go_enter Try.func34, Try.ntmps34
    go_wp2
    go_region_held_law (fun w' => w'.cell? ⟨w.heap.size, 0, none⟩ = some (.string k) ∧ w'.cell? ⟨w.heap.size, 1, none⟩ = some (.string vv)) (first | go_keep | (constructor <;> assumption)) (first
      | (refine step_append_lies _ rfl (.tmp 13) (.tmp 14) 43 rfl base 5 i0 _ 1 1 Try.underlying43 hi hz0 hz1 hz2 rfl (by decide) v l.length (bcells l) rfl (by exact (HOWN.out.alloc _).alloc _) ⟨w.heap.size + 1, 0, none⟩ 1 1 [.int .u8 0] rfl rfl (by intro j u hj; match j, hj with | 0, hj => (simp at hj; subst hj; simp [Addr.add]) | j + 1, hj => (simp at hj)) (by intro u hu; simp at hu; subst hu; rfl) (by omega) (by unfold maxLen; omega) (by omega) (by simp; omega) _ rfl ?_; intro g1 cap1 w1 ho1 hg1 hat hlt; have K1 : Hid (BR base (.slice (some ⟨g1, 0, none⟩) (l.length + 1) cap1) (l ++ [0]) w1) := BR.push rfl ho1; have B1 : Hid (Kp base [5] (w.alloc (.cells #[.string k, .string vv, .bool false] 30)) w1) := Kp.grown ((Kp.refl _ _ _).alloc _).drew (by exact (HOWN.out.alloc _).alloc _) hg1 (Nat.le_refl _) (by simp); have k0 : w1.cell? ⟨w.heap.size, 0, none⟩ = some (.string k) := (by simp [World.cell?, B1.out.keep (heap_alloc_new w _) (by simp)]); have k1 : w1.cell? ⟨w.heap.size, 1, none⟩ = some (.string vv) := (by simp [World.cell?, B1.out.keep (heap_alloc_new w _) (by simp)]); have hsz1 : base ≤ w1.heap.size := Nat.le_trans hb (Nat.le_trans (Nat.le_trans (Nat.le_succ _) (by simp)) B1.out.size); clear ho1 hg1 hat hlt)
      | (go_at_call_of 48 (Value.string k); refine (appendText_any base _ (l ++ [0]) k _ K1.out hsz1 (by rw [HLEN.out.1]; omega) (by omega)).mono ?_; rintro e w2 ⟨v2, rfl, hbr2, hbl2⟩; have B2 : Hid _ := B1.out.trans hbl2; have K2 : Hid (BR base v2 (l ++ [0] ++ txB k) w2) := hbr2; have hsz2 : base ≤ w2.heap.size := Nat.le_trans hsz1 hbl2.size; have m0 : w2.cell? ⟨w.heap.size, 0, none⟩ = some (.string k) := (by simp [World.cell?, B2.out.keep (heap_alloc_new w _) (by simp)]); have m1 : w2.cell? ⟨w.heap.size, 1, none⟩ = some (.string vv) := (by simp [World.cell?, B2.out.keep (heap_alloc_new w _) (by simp)]); clear hbr2 hbl2)
      | (go_at_call_of 48 (Value.string vv); refine (appendText_any base _ (l ++ [0] ++ txB k) vv _ K2.out hsz2 (by rw [HLEN.out.2]; omega) (by omega)).mono ?_; rintro e w3 ⟨v3, rfl, hbr3, hbl3⟩; have B3 := B2.out.trans hbl3; have HF : Hid (BR base v3 (l ++ [0] ++ txB k ++ txB vv) w3 ∧ Kp base [5] w w3) := ⟨hbr3, (KA.out _).trans B3⟩; have m0 : w3.cell? ⟨w.heap.size, 0, none⟩ = some (.string k) := (by simp [World.cell?, B3.keep (heap_alloc_new w _) (by simp)]); have m1 : w3.cell? ⟨w.heap.size, 1, none⟩ = some (.string vv) := (by simp [World.cell?, B3.keep (heap_alloc_new w _) (by simp)]); clear hbr3 hbl3 B3))
    all_goals go_wp2
    all_goals go_ret
    all_goals (rw [← HFIN.out]; exact ⟨_, rfl, Hid.out (by assumption)⟩)
end Go.Proofs.Ytakipjofboipmaa
