/- The state of a script: who owns which block; the program's store and the document's side by side; the book. -/
import Derived.Test.YtakipjofboipmaaGreatDoorJ26
import Derived.Test.YtakipjofboipmaaGreatDoorJ8
import Derived.Test.YtakipjofboipmaaGreatDoorJ28
import Derived.Test.YtakipjofboipmaaGreatDoorJ30
import Derived.Test.YtakipjofboipmaaGreatDoorJ23
namespace Go.Proofs.YtakipjofboipmaaGreatDoor
open Go.RowKit Go.Sort

/-- What a call that turns a store comes to. -/
def StPost (D F : Nat → Prop) (sb : Nat) (x' : St) (ts : List Nat) (w w' : World) : Prop :=
  ∃ D' F' : Nat → Prop, (∀ k, D' k → D k) ∧ (∀ k, F' k → F k ∨ (D k ∧ w.heap.size ≤ k)) ∧ (∀ k, F' k → ¬ D' k) ∧ Opn D' w' ∧ StoreAt D' F' sb x' w' ∧ Kd D ts w w'

/-- The blocks of one owner. -/
def Dm (own : Nat → Nat) (id : Nat) : Nat → Prop := fun k => own k = id
/-- The blocks of one owner, and all that are not there yet. -/
def Dc (own : Nat → Nat) (N id : Nat) : Nat → Prop := fun k => own k = id ∨ N ≤ k

theorem Dc_open (own : Nat → Nat) (id : Nat) (w : World) : Opn (Dc own w.heap.size id) w := fun _ hk => .inr hk

theorem OwnsIn.mono {w : World} {D D' : Nat → Prop} {e : TypeId} {size : Nat} {v : Value} {n : Nat} {xs : List Value} (h : OwnsIn w D e size v n xs) (hd : ∀ b, b < w.heap.size → D b → D' b) : OwnsIn w D' e size v n xs :=
  ⟨h.own, fun g hg => hd g (h.own.lt g hg).2 (h.dom g hg)⟩

theorem OwnsIn.kx {X : Nat → Nat → Prop} {w w' : World} {D : Nat → Prop} {e : TypeId} {size : Nat} {v : Value} {n : Nat} {xs : List Value} (h : OwnsIn w D e size v n xs) (k : Kx X w w') (hx : ∀ b, b < w.heap.size → D b → ¬ X b e) : OwnsIn w' D e size v n xs :=
  ⟨k.owns h.own fun g hg hl => hx g hl (h.dom g hg), h.dom⟩

theorem TabsIn.mono {w : World} {D D' F F' : Nat → Prop} {vL : Value} {T : List Lb} (h : TabsIn w D F vL T) (hd : ∀ b, b < w.heap.size → D b → D' b) (hf : ∀ b, b < w.heap.size → F b → F' b) : TabsIn w D' F' vL T := by
  obtain ⟨Vs, hl, ho, hr⟩ := h
  exact ⟨Vs, hl, ho.mono hd, fun i t v ht hv => (hr i t v ht hv).mono hf⟩

theorem StoreAt.mono {w : World} {D D' F F' : Nat → Prop} {sb : Nat} {x : St} (h : StoreAt D F sb x w) (hd : ∀ b, b < w.heap.size → D b → D' b) (hf : ∀ b, b < w.heap.size → F b → F' b) : StoreAt D' F' sb x w := by
  obtain ⟨vE, vL, vR, vS, hB, hs, hE, hT, hR, hS⟩ := h
  exact ⟨vE, vL, vR, vS, hd sb (lt_of_block hs) hB, hs, hE.mono hd, hT.mono hd hf, ⟨hR.1, fun g hg => hd g (hR.1.lt hg) (hR.2 g hg)⟩, hS.mono hd⟩

theorem OwnsJ.kx {X : Nat → Nat → Prop} {w w' : World} {D : Nat → Prop} {v : Value} {l : List UInt8} (h : OwnsJ w D v l) (k : Kx X w w') (hx : ∀ b, b < w.heap.size → D b → ¬ X b 5) : OwnsJ w' D v l := by
  refine ⟨?_, h.2⟩
  rcases h.1 with h1 | ⟨g, cap, cur, fz, rfl, hb, r⟩
  · exact .inl h1
  · exact .inr ⟨g, cap, cur, fz, rfl, k.keep hb (hx g (lt_of_block hb) (h.2 g rfl)), r⟩

theorem StoreAt.kx {X : Nat → Nat → Prop} {w w' : World} {D F : Nat → Prop} {sb : Nat} {x : St} (h : StoreAt D F sb x w) (k : Kx X w w') (hx : ∀ b e, b < w.heap.size → D b → ¬ X b e) (hf : ∀ b e, b < w.heap.size → F b → ¬ X b e) : StoreAt D F sb x w' := by
  obtain ⟨vE, vL, vR, vS, hB, hs, hE, ⟨Vs, hv, hT, hr⟩, hR, hS⟩ := h
  exact ⟨vE, vL, vR, vS, hB, k.keep hs (hx sb _ (lt_of_block hs) hB), hE.kx k fun b hl hd => hx b _ hl hd, ⟨Vs, hv, hT.kx k fun b hl hd => hx b _ hl hd, fun i t v ht hv => (hr i t v ht hv).kx k fun b hl hd => hf b _ hl hd⟩, hR.kx k (fun b hl hd => hx b _ hl hd), hS.kx k fun b hl hd => hx b _ hl hd⟩

theorem RAll.mono {w : World} {D D' : Nat → Prop} {vA : Value} {A : List (List Pr)} (h : RAll D w vA A) (hd : ∀ b, b < w.heap.size → D b → D' b) : RAll D' w vA A := by
  obtain ⟨Ws, h1, h2⟩ := h
  exact ⟨Ws, h1.mono hd, fun i b hb => by obtain ⟨vi, h3, h4⟩ := h2 i b hb; exact ⟨vi, h3, h4.mono hd⟩⟩

theorem TabAt.mono {w : World} {D D' : Nat → Prop} {vT : Value} {T : List Tb} (h : TabAt D w vT T) (hd : ∀ b, b < w.heap.size → D b → D' b) : TabAt D' w vT T := by
  obtain ⟨Vs, h0, h1, h2⟩ := h
  exact ⟨Vs, h0, h1.mono hd, fun i b hb => by obtain ⟨vi, h3, h4⟩ := h2 i b hb; exact ⟨vi, h3, h4.mono hd⟩⟩

theorem RefT.mono {w : World} {D D' : Nat → Prop} {rb : Nat} {y : Rf} {la sy : Int} {T : List Tb} (h : RefT D rb y la sy T w) (hd : ∀ b, b < w.heap.size → D b → D' b) : RefT D' rb y la sy T w := by
  obtain ⟨vA, vS, vT, hB, hs, hA, hS, hT⟩ := h
  exact ⟨vA, vS, vT, hd rb (lt_of_block hs) hB, hs, hA.mono hd, hS.mono hd, hT.mono hd⟩

theorem RefT.kx {X : Nat → Nat → Prop} {w w' : World} {D : Nat → Prop} {rb : Nat} {y : Rf} {la sy : Int} {T : List Tb} (h : RefT D rb y la sy T w) (k : Kx X w w') (hx : ∀ b e, b < w.heap.size → D b → ¬ X b e) : RefT D rb y la sy T w' := by
  obtain ⟨vA, vS, vT, hB, hs, ⟨Ws, h1, h2⟩, hS, ⟨Us, h5, h6, h7⟩⟩ := h
  exact ⟨vA, vS, vT, hB, k.keep hs (hx rb _ (lt_of_block hs) hB), ⟨Ws, h1.kx k fun b hl hd => hx b _ hl hd, fun i b hb => by obtain ⟨vi, h3, h4⟩ := h2 i b hb; exact ⟨vi, h3, h4.kx k fun b hl hd => hx b _ hl hd⟩⟩, hS.kx k fun b hl hd => hx b _ hl hd,
    ⟨Us, h5, h6.kx k fun b hl hd => hx b _ hl hd, fun i b hb => by obtain ⟨vi, h3, h4⟩ := h7 i b hb; exact ⟨vi, h3, h4.kx k fun b hl hd => hx b _ hl hd⟩⟩⟩

theorem BkAt.mono {w : World} {D D' : Nat → Prop} {wb : Nat} {vss vrs : Value} {q : BkQ} {P : List (Int × Nat)} {n : Int} (h : BkAt D wb vss vrs q P n w) (hd : ∀ b, b < w.heap.size → D b → D' b) : BkAt D' wb vss vrs q P n w := by
  obtain ⟨vps, vpm, Vs, hB, hs, hps, hpm, hl⟩ := h
  exact ⟨vps, vpm, Vs, hd wb (lt_of_block hs) hB, hs, hps.mono hd, hpm.mono hd, hl⟩

theorem BkAt.kx {X : Nat → Nat → Prop} {w w' : World} {D : Nat → Prop} {wb : Nat} {vss vrs : Value} {q : BkQ} {P : List (Int × Nat)} {n : Int} (h : BkAt D wb vss vrs q P n w) (k : Kx X w w') (hx : ∀ b e, b < w.heap.size → D b → ¬ X b e) (h57 : ∀ b, b < w.heap.size → ¬ X b 57) : BkAt D wb vss vrs q P n w' := by
  obtain ⟨vps, vpm, Vs, hB, hs, hps, hpm, hl⟩ := h
  exact ⟨vps, vpm, Vs, hB, k.keep hs (hx wb _ (lt_of_block hs) hB), hps.kx k fun b hl hd => hx b _ hl hd, hpm.kx k fun b hl hd => hx b _ hl hd, hl.kx k h57⟩

theorem BkE.mono {w : World} {D D' : Nat → Prop} {v u : Value} {P : List (Int × Nat)} (h : BkE D v u P w) (hd : ∀ b, b < w.heap.size → D b → D' b) : BkE D' v u P w := by
  obtain ⟨Ve, h1, h2, h3⟩ := h
  exact ⟨Ve, h1.mono hd, h2.mono hd, fun i m l hi => by obtain ⟨vi, h4, h5⟩ := h3 i m l hi; exact ⟨vi, h4, h5.mono hd⟩⟩

theorem BkE.kx {X : Nat → Nat → Prop} {w w' : World} {D : Nat → Prop} {v u : Value} {P : List (Int × Nat)} (h : BkE D v u P w) (k : Kx X w w') (hx : ∀ b e, b < w.heap.size → D b → ¬ X b e) : BkE D v u P w' := by
  obtain ⟨Ve, h1, h2, h3⟩ := h
  exact ⟨Ve, h1.kx k fun b hl hd => hx b _ hl hd, h2.kx k fun b hl hd => hx b _ hl hd, fun i m l hi => by obtain ⟨vi, h4, h5⟩ := h3 i m l hi; exact ⟨vi, h4, h5.kx k fun b hl hd => hx b _ hl hd⟩⟩

theorem BkT.mono {w : World} {D D' : Nat → Prop} {v u : Value} {P : List (Int × Nat)} (h : BkT D v u P w) (hd : ∀ b, b < w.heap.size → D b → D' b) : BkT D' v u P w := by
  obtain ⟨Ve, h1, h2, h3⟩ := h
  exact ⟨Ve, h1.mono hd, h2.mono hd, fun i m l hi => by obtain ⟨vi, h4, h5⟩ := h3 i m l hi; exact ⟨vi, h4, h5.mono hd⟩⟩

theorem BkT.kx {X : Nat → Nat → Prop} {w w' : World} {D : Nat → Prop} {v u : Value} {P : List (Int × Nat)} (h : BkT D v u P w) (k : Kx X w w') (hx : ∀ b e, b < w.heap.size → D b → ¬ X b e) : BkT D v u P w' := by
  obtain ⟨Ve, h1, h2, h3⟩ := h
  exact ⟨Ve, h1.kx k fun b hl hd => hx b _ hl hd, h2.kx k fun b hl hd => hx b _ hl hd, fun i m l hi => by obtain ⟨vi, h4, h5⟩ := h3 i m l hi; exact ⟨vi, h4, h5.kx k fun b hl hd => hx b _ hl hd⟩⟩

/-- What stands in the book: the lists of pairs, of entries, of tables, each by its mark and length; the last mark. -/
structure Bk where
  P : List (Int × Nat)
  Pe : List (Int × Nat)
  Pt : List (Int × Nat)
  n : Int

/-- The world's struct and its book: owner 1 has the struct and the pairs' rows, owner 2 what is of entries, owner 3 what is of tables. -/
def BookAt (own : Nat → Nat) (wb : Nat) (vss vrs : Value) (b : Bk) (w : World) : Prop :=
  ∃ q : BkQ, BkAt (Dm own 1) wb vss vrs q b.P b.n w ∧ BkE (Dm own 2) q.es q.em b.Pe w ∧ BkT (Dm own 3) q.ts q.tm b.Pt w

theorem BookAt.mono {own own' : Nat → Nat} {wb : Nat} {vss vrs : Value} {b : Bk} {w : World} (h : BookAt own wb vss vrs b w) (hd : ∀ k, k < w.heap.size → (own k = 1 ∨ own k = 2 ∨ own k = 3) → own' k = own k) : BookAt own' wb vss vrs b w := by
  obtain ⟨q, h1, h2, h3⟩ := h
  exact ⟨q, h1.mono fun k hk e => (hd k hk (.inl e)).trans e, h2.mono fun k hk e => (hd k hk (.inr (.inl e))).trans e, h3.mono fun k hk e => (hd k hk (.inr (.inr e))).trans e⟩

theorem BookAt.kx {X : Nat → Nat → Prop} {own : Nat → Nat} {wb : Nat} {vss vrs : Value} {b : Bk} {w w' : World} (h : BookAt own wb vss vrs b w) (k : Kx X w w') (hx : ∀ c e, c < w.heap.size → (own c = 1 ∨ own c = 2 ∨ own c = 3) → ¬ X c e) (h57 : ∀ c, c < w.heap.size → ¬ X c 57) : BookAt own wb vss vrs b w' := by
  obtain ⟨q, h1, h2, h3⟩ := h
  exact ⟨q, h1.kx k (fun c e hl hd => hx c e hl (.inl hd)) h57, h2.kx k (fun c e hl hd => hx c e hl (.inr (.inl hd))), h3.kx k (fun c e hl hd => hx c e hl (.inr (.inr hd)))⟩

theorem BookAt.below {own : Nat → Nat} {wb : Nat} {vss vrs : Value} {b : Bk} {w w' : World} (h : BookAt own wb vss vrs b w) (hb : Below w.heap.size w w') : BookAt own wb vss vrs b w' :=
  h.kx (Kx.of_below (X := fun _ _ => False) hb) (fun _ _ _ _ h => h) (fun _ _ h => h)

/-- The book behind at most t steps. -/
structure BkB (t : Nat) (b : Bk) : Prop where
  n0 : 0 ≤ b.n
  n1 : b.n ≤ t
  pl : b.P.length ≤ 4 * t
  pel : b.Pe.length ≤ 4 * t
  ptl : b.Pt.length ≤ 4 * t
  pb : ∀ p ∈ b.P, -b.n ≤ p.1 ∧ p.1 ≤ 0 ∧ p.2 ≤ 4400000000000
  peb : ∀ p ∈ b.Pe, p.2 ≤ 4400000000000
  ptb : ∀ p ∈ b.Pt, p.2 ≤ 4400000000000

theorem BkB.later {t : Nat} {b : Bk} (h : BkB t b) : BkB (t + 1) b :=
  ⟨h.n0, by have := h.n1; omega, by have := h.pl; omega, by have := h.pel; omega, by have := h.ptl; omega, h.pb, h.peb, h.ptb⟩

/-- The document's store, in the words of the program's. -/
def RfT (D : Nat → Prop) (rb : Nat) (y : Rf) (x : St) (w : World) : Prop := RefT D rb y x.la (x.la + x.sy) x.T w

/-- The program's store and the document's, behind at most t steps. -/
structure Both (t : Nat) (x : St) (y : Rf) : Prop where
  sm : Sm x y
  ok : StOk x
  bs : x.B = y.A.drop x.la.toNat
  abt : ∀ b ∈ y.A, Bt b
  len : x.E.length ≤ 4 * y.A.length
  lastle : y.A.length ≤ t + 1250000
  rlle : rl y.A ≤ 73 * t + 10000000
  tl : x.T.length ≤ t
  ats : ∀ s ∈ y.S, 0 ≤ s.q ∧ s.q ≤ y.A.length
  nums : ∀ s ∈ y.S, s.n ≤ y.num
  dis : y.S.Pairwise fun a b => a.n ≠ b.n
  num0 : 0 ≤ y.num
  numle : y.num ≤ t

theorem Both.rf {t : Nat} {x : St} {y : Rf} (h : Both t x y) (ht : t ≤ 1099511627776) : RfOk y :=
  ⟨by rw [← h.sm.snaps]; exact h.ok.snaps, by have := h.lastle; omega, fun b hb => (h.abt b hb).hi, h.ats⟩

theorem Both.later {t : Nat} {x : St} {y : Rf} (h : Both t x y) : Both (t + 1) x y :=
  ⟨h.sm, h.ok, h.bs, h.abt, h.len, by have := h.lastle; omega, by have := h.rlle; omega, by have := h.tl; omega, h.ats, h.nums, h.dis, h.num0, by have := h.numle; omega⟩

theorem Both.lastx {t : Nat} {x : St} {y : Rf} (h : Both t x y) (ht : t ≤ 1099511627776) : x.last < 1100000000000 ∧ 0 ≤ x.last := by
  have h1 := h.sm.last
  have h2 := h.lastle
  omega

theorem Both.few {t : Nat} {x : St} {y : Rf} (h : Both t x y) (ht : t ≤ 1099511627776) : x.E.length < 4399999999990 := by
  have h1 := h.len
  have h2 := h.lastle
  omega

theorem Both.la {t : Nat} {x : St} {y : Rf} (h : Both t x y) : 0 ≤ x.la ∧ x.la ≤ y.A.length := by
  have h1 := h.ok.lv.la0
  have h2 := h.ok.lv.la2
  have h3 := h.sm.last
  omega

theorem settle_eq {L M C : List Pr} (hM : Settles L M) (hC : SamePr (keep L) C) (hu : Upto C C.length) : M = C := by
  have hp : ∀ {A B : List Pr}, Upto A A.length → Upto B B.length → (∀ p, p ∈ A ↔ p ∈ B) → A.map (toEn 0) = B.map (toEn 0) := fun {A B} ha hb h => sorted_ext (sorted_new ha) (sorted_new hb) fun e => by
    simp only [List.mem_map]
    constructor
    · rintro ⟨p, hp, rfl⟩; exact ⟨p, (h p).1 hp, rfl⟩
    · rintro ⟨p, hp, rfl⟩; exact ⟨p, (h p).2 hp, rfl⟩
  have h1 := hp hM.2 hu fun p => by rw [hM.1.2 p, hC.2 p]
  have hinj : ∀ a b : Pr, toEn 0 a = toEn 0 b → a = b := fun a b h => by
    obtain ⟨k, v, g⟩ := a
    obtain ⟨k', v', g'⟩ := b
    simp only [toEn, En.mk.injEq] at h
    simp only [Pr.mk.injEq]
    grind
  exact List.map_inj_right (fun a b h => hinj a b h) |>.1 h1

theorem wrs_la (x : St) (b : List Pr) (s : Bool) : (x.wrs b s).la = x.la := by unfold St.wrs; split <;> rfl
theorem wrs_T (x : St) (b : List Pr) (s : Bool) : (x.wrs b s).T = x.T := by unfold St.wrs; split <;> rfl
theorem wrs_S (x : St) (b : List Pr) (s : Bool) : (x.wrs b s).S = x.S := by unfold St.wrs; split <;> rfl
theorem wrs_B (x : St) (b : List Pr) (s : Bool) : (x.wrs b s).B = x.B ++ [b] := by unfold St.wrs; split <;> rfl
theorem wrs_E (x : St) (b : List Pr) (s : Bool) : (x.wrs b s).E = srt (x.E ++ b.map (toEn (x.last + 1))) := by unfold St.wrs; split <;> rfl
theorem wrs_last (x : St) (b : List Pr) (s : Bool) : (x.wrs b s).last = x.last + 1 := by unfold St.wrs; split <;> rfl
theorem wrs_num (x : St) (b : List Pr) (s : Bool) : (x.wrs b s).lastSnap = x.lastSnap := by unfold St.wrs; split <;> rfl
theorem wrs_sy {x : St} (lv : Lv x) (b : List Pr) (s : Bool) : (x.wrs b s).la + (x.wrs b s).sy = if s then x.last + 1 else x.la + x.sy := by
  have := lv.la1
  cases s
  · simp [St.wrs, St.wr]
  · simp only [St.wrs, St.wr, St.syn, if_true, List.length_append, List.length_cons, List.length_nil]
    omega

theorem drop_snoc {α : Type} (A : List α) (c : α) {n : Nat} (h : n ≤ A.length) : (A ++ [c]).drop n = A.drop n ++ [c] := List.drop_append_of_le_length h

theorem rl_snoc {A : List (List Pr)} {b : List Pr} (h : Bt b) : rl (A ++ [b]) ≤ rl A + 73 := by
  unfold rl
  rw [List.flatMap_append, List.length_append]
  have := (recB_len h).2
  simp only [List.flatMap_cons, List.flatMap_nil, List.append_nil]
  omega

theorem Both.wrote {t : Nat} {x : St} {y : Rf} {L C : List Pr} (h : Both t x y) (ht : t ≤ 1099511627776) (hf : flt L = 0) (hC : SamePr (keep L) C) (hu : Upto C C.length) (sync : Bool) :
    Both (t + 1) (x.wrs C sync) { y with A := y.A ++ [C] } := by
  obtain ⟨h1, h4, hok⟩ := flt_ok hf
  have hset : Settles L C := ⟨hC, hu⟩
  have hbt : Bt C := hset.bt h1 h4 hok
  have hla := h.sm.last
  have hl2 := h.lastx ht
  have hfe := h.few ht
  have hla2 := h.la
  have hlen : (y.A ++ [C]).length = y.A.length + 1 := by simp
  refine ⟨⟨by rw [wrs_S]; exact h.sm.snaps, by rw [wrs_last, hla]; simp, by rw [wrs_num]; exact h.sm.num, ?_⟩, h.ok.wrs hbt (by omega) (by omega) sync, ?_, fun b hb => ?_, ?_, ?_, ?_, ?_, fun s hs => ?_, h.nums, h.dis, h.num0, ?_⟩
  · rw [wrs_E]
    show Rel _ (y.A ++ [C])
    refine rel_snoc (M := C) h.sm.rel (keep_keep hC hu hC) fun e => ?_
    rw [srt_mem, List.mem_append, hla]
  · rw [wrs_B, wrs_la, h.bs]
    show _ = (y.A ++ [C]).drop _
    rw [drop_snoc _ _ (by omega)]
  · rcases List.mem_append.1 hb with hb | hb
    · exact h.abt b hb
    · rw [List.mem_singleton] at hb; subst hb; exact hbt
  · rw [wrs_E, srt_len, List.length_append, List.length_map]
    have := h.len
    have := hbt.hi
    show _ ≤ 4 * (y.A ++ [C]).length
    omega
  · have := h.lastle
    show (y.A ++ [C]).length ≤ _
    omega
  · have := h.rlle
    have := rl_snoc (A := y.A) hbt
    show rl (y.A ++ [C]) ≤ _
    omega
  · rw [wrs_T]; have := h.tl; omega
  · have := h.ats s hs
    show 0 ≤ s.q ∧ s.q ≤ ((y.A ++ [C]).length : Int)
    omega
  · have := h.numle; show y.num ≤ _; omega

theorem Both.snapped {t : Nat} {x : St} {y : Rf} (h : Both t x y) (h4 : y.S.length < 4) :
    Both (t + 1) { x with S := x.S ++ [⟨x.lastSnap + 1, x.last⟩], lastSnap := x.lastSnap + 1 } { y with S := y.S ++ [⟨y.num + 1, y.A.length⟩], num := y.num + 1 } := by
  have hn := h.sm.num
  have hla := h.sm.last
  have hla2 := h.ok.lv.la2
  have hs := h.sm.snaps
  refine ⟨⟨?_, h.sm.last, ?_, h.sm.rel⟩, h.ok.snapsTo _ _ (by rw [hs]; simp; omega) (fun s hs => ?_), h.bs, h.abt, h.len, ?_, ?_, ?_, fun s hs => ?_, fun s hs => ?_, ?_, ?_, ?_⟩
  · show x.S ++ _ = y.S ++ _
    rw [hs, hn, hla]
  · show x.lastSnap + 1 = y.num + 1
    rw [hn]
  · rcases List.mem_append.1 hs with hs | hs
    · exact .inr hs
    · rw [List.mem_singleton] at hs; subst hs; exact .inl hla2
  · have := h.lastle; show y.A.length ≤ _; omega
  · have := h.rlle; show rl y.A ≤ _; omega
  · have := h.tl; show x.T.length ≤ _; omega
  · rcases List.mem_append.1 hs with hs | hs
    · exact h.ats s hs
    · simp at hs; subst hs; simp
  · show s.n ≤ y.num + 1
    rcases List.mem_append.1 hs with hs | hs
    · have := h.nums s hs; omega
    · simp at hs; subst hs; simp
  · show (y.S ++ _).Pairwise _
    rw [List.pairwise_append]
    refine ⟨h.dis, by simp, fun a ha b hb => ?_⟩
    simp at hb; subst hb
    have := h.nums a ha
    simp only; omega
  · have := h.num0; show 0 ≤ y.num + 1; omega
  · have := h.numle; show y.num + 1 ≤ _; omega

theorem drop_same {S : List Sn} {n : Int} (hd : S.Pairwise fun a b => a.n ≠ b.n) {i : Nat} (hi : sidx S n = some i) : S.eraseIdx i = S.filter (notN n) ∧ (S.filter (notN n)).length ≠ S.length := by
  induction S generalizing i with
  | nil => simp [sidx] at hi
  | cons s S ih =>
    obtain ⟨h1, h2⟩ := List.pairwise_cons.1 hd
    unfold sidx at hi ih
    rw [List.findIdx?_cons] at hi
    by_cases hs : s.n = n
    · simp only [hs, decide_true, if_true, Option.some.injEq] at hi
      subst hi
      have hf : S.filter (notN n) = S := by
        rw [List.filter_eq_self]
        intro a ha
        have := h1 a ha
        simp [notN]
        rw [← hs]
        exact fun e => this e.symm
      have hn : notN n s = false := by simp [notN, hs]
      rw [List.filter_cons, hn, hf]
      simp
    · simp only [hs, decide_false, Bool.false_eq_true, if_false, Option.map_eq_some_iff] at hi
      obtain ⟨j, hj, rfl⟩ := hi
      obtain ⟨h3, h4⟩ := ih h2 hj
      rw [List.filter_cons]
      have hn : notN n s = true := by simp [notN, hs]
      rw [if_pos hn, List.eraseIdx_cons_succ, h3]
      exact ⟨rfl, by simpa using h4⟩

theorem drop_none {S : List Sn} {n : Int} (hi : sidx S n = none) : (S.filter (notN n)).length = S.length := by
  unfold sidx at hi
  rw [List.findIdx?_eq_none_iff] at hi
  rw [List.filter_eq_self.2]
  intro a ha
  have := hi a ha
  simpa [notN] using this

theorem Both.dropped {t : Nat} {x : St} {y : Rf} (h : Both t x y) {n : Int} {i : Nat} (hi : sidx x.S n = some i) : Both (t + 1) { x with S := x.S.eraseIdx i } { y with S := y.S.filter (notN n) } := by
  have hs := h.sm.snaps
  rw [hs] at hi
  have h1 := drop_same h.dis hi
  have hsub : ∀ s, s ∈ y.S.filter (notN n) → s ∈ y.S := fun s hs => (List.mem_filter.1 hs).1
  refine ⟨⟨?_, h.sm.last, h.sm.num, h.sm.rel⟩, h.ok.drop i, h.bs, h.abt, h.len, ?_, ?_, ?_, fun s hs => h.ats s (hsub s hs), fun s hs => h.nums s (hsub s hs), ?_, h.num0, ?_⟩
  · show x.S.eraseIdx i = _
    rw [hs]; exact h1.1
  · have := h.lastle; show y.A.length ≤ _; omega
  · have := h.rlle; show rl y.A ≤ _; omega
  · have := h.tl; show x.T.length ≤ _; omega
  · exact h.dis.sublist List.filter_sublist
  · have := h.numle; show y.num ≤ _; omega

/-- A step, as it lies in memory. -/
structure OpD where
  K : Int
  A : Int
  B : Int
  W : Int
  S : ByteArray
  F : Bool
  L : List Pr
  aP : Option Addr
  cP : Nat
  aC : Option Addr
  lC : Nat
  cC : Nat
  aK : Option Addr
  lK : Nat
  cK : Nat

def OpD.cells (o : OpD) : Array Value := #[.int .i64 o.K, .int .i64 o.A, .int .i64 o.B, .int .i64 o.W, .string o.S, .bool o.F, .slice o.aP o.L.length o.cP, .slice o.aC o.lC o.cC, .slice o.aK o.lK o.cK]
def OpD.val (o : OpD) : Value := .agg o.cells

structure OpOk (o : OpD) (N0 : Nat) (w : World) : Prop where
  lies : ∀ w', Below N0 w w' → PairsAt w' (.slice o.aP o.L.length o.cP) o.L
  str : o.S.size ≤ 140737488351232
  w0 : -9223372036854775808 ≤ o.W
  w1 : o.W ≤ 9223372036854775807

theorem OpOk.pairs {o : OpD} {N0 : Nat} {w : World} (h : OpOk o N0 w) : PairsAt w (.slice o.aP o.L.length o.cP) o.L := h.lies w (Below.refl _ _)

theorem OpOk.on {o : OpD} {N0 : Nat} {w w' : World} (h : OpOk o N0 w) (hb : Below N0 w w') : OpOk o N0 w' := ⟨fun w2 h2 => h.lies w2 (hb.trans h2), h.str, h.w0, h.w1⟩

/-- What a step of store i finds: owner 3i+4 has the program's store, 3i+5 the document's, 3i+6 the entries that the program laid down. -/
structure Pre (own : Nat → Nat) (i wb sb rb : Nat) (vss vrs : Value) (x : St) (y : Rf) (b : Bk) (t N0 : Nat) (w : World) : Prop where
  st : StoreAt (Dm own (3 * i + 4)) (Dm own (3 * i + 6)) sb x w
  rf : RfT (Dm own (3 * i + 5)) rb y x w
  bk : BookAt own wb vss vrs b w
  bo : Both t x y
  bb : BkB t b
  low : ∀ k, own k ≠ 0 → N0 ≤ k
  lowN : N0 ≤ w.heap.size
  tab : ∀ w', Below N0 w w' → Tab w'
  small : t ≤ 1099511627776

/-- What a step may turn. -/
def StepX (own : Nat → Nat) (i N : Nat) (k e : Nat) : Prop :=
  N ≤ k ∨ (e ≠ 57 ∧ (own k = 3 * i + 4 ∨ own k = 3 * i + 5 ∨ (own k = 1 ∧ e ∈ [36, 38, 3]) ∨ own k = 2 ∨ own k = 3))

/-- What a step leaves. -/
def StepPost (own : Nat → Nat) (i wb sb rb : Nat) (vss vrs : Value) (t N0 : Nat) (w : World) (e : Ending) (w' : World) : Prop :=
  e = .returned (.bool true) ∧ Kx (StepX own i w.heap.size) w w' ∧ ∃ (own' : Nat → Nat) (x : St) (y : Rf) (b : Bk), (∀ k, k < w.heap.size → own' k = own k) ∧ Pre own' i wb sb rb vss vrs x y b (t + 1) N0 w'

theorem Pre.below {own : Nat → Nat} {i wb sb rb : Nat} {vss vrs : Value} {x : St} {y : Rf} {b : Bk} {t N0 : Nat} {w w' : World} (h : Pre own i wb sb rb vss vrs x y b t N0 w) (hb : Below w.heap.size w w') : Pre own i wb sb rb vss vrs x y b t N0 w' :=
  ⟨h.st.below hb, RefT.below h.rf hb, h.bk.below hb, h.bo, h.bb, h.low, Nat.le_trans h.lowN hb.size, fun w2 h2 => h.tab w2 ((hb.mono h.lowN).trans h2), h.small⟩

theorem StepX.low {own : Nat → Nat} {i N N0 : Nat} (hlow : ∀ k, own k ≠ 0 → N0 ≤ k) (hN : N0 ≤ N) (k e : Nat) (h : StepX own i N k e) : N0 ≤ k := by
  rcases h with h | ⟨_, h⟩
  · omega
  · exact hlow k (by omega)

/-- Behind a part that only made memory. -/
theorem StepPost.of_below {own : Nat → Nat} {i wb sb rb : Nat} {vss vrs : Value} {t N0 : Nat} {w w1 w' : World} {e : Ending} (hb : Below w.heap.size w w1) (h : StepPost own i wb sb rb vss vrs t N0 w1 e w') : StepPost own i wb sb rb vss vrs t N0 w e w' := by
  obtain ⟨h1, h2, own', x, y, b, h3, h4⟩ := h
  have hs := hb.size
  refine ⟨h1, (Kx.of_below hb).trans (h2.mono fun k e _ hx => ?_), own', x, y, b, fun k hk => h3 k (by omega), h4⟩
  rcases hx with hx | hx
  · exact .inl (by omega)
  · exact .inr hx

/-- A step that leaves both stores and the book as they were. -/
theorem StepPost.same {own : Nat → Nat} {i wb sb rb : Nat} {vss vrs : Value} {x : St} {y : Rf} {b : Bk} {t N0 : Nat} {w w' : World} (h : Pre own i wb sb rb vss vrs x y b t N0 w) (hb : Below w.heap.size w w') (ht : t + 1 ≤ 1099511627776) : StepPost own i wb sb rb vss vrs t N0 w (.returned (.bool true)) w' := by
  refine ⟨rfl, Kx.of_below hb, own, x, y, b, fun _ _ => rfl, ?_⟩
  have h' := h.below hb
  exact ⟨h'.st, h'.rf, h'.bk, h'.bo.later, h'.bb.later, h'.low, h'.lowN, h'.tab, ht⟩

/-- The owners as they stand in a world: what is not there has none. -/
def cut (own : Nat → Nat) (N : Nat) : Nat → Nat := fun k => if k < N then own k else 0

theorem cut_lt {own : Nat → Nat} {N k : Nat} (h : k < N) : cut own N k = own k := by simp [cut, h]
theorem cut_ge {own : Nat → Nat} {N k : Nat} (h : N ≤ k) : cut own N k = 0 := by simp [cut]; omega

/-- The program's store, for a call. -/
theorem Pre.store {own : Nat → Nat} {i wb sb rb : Nat} {vss vrs : Value} {x : St} {y : Rf} {b : Bk} {t N0 : Nat} {w w1 : World} (h : Pre own i wb sb rb vss vrs x y b t N0 w) (hb : Below w.heap.size w w1) : StoreAt (Dc (cut own w.heap.size) w1.heap.size (3 * i + 4)) (Dm (cut own w.heap.size) (3 * i + 6)) sb x w1 :=
  (h.st.mono (fun _ hk e => .inl ((cut_lt hk).trans e)) fun _ hk e => (cut_lt hk).trans e).below hb

theorem Pre.dis {own : Nat → Nat} {i N M : Nat} (hN : N ≤ M) : ∀ k, Dm (cut own N) (3 * i + 6) k → ¬ Dc (cut own N) M (3 * i + 4) k := by
  intro k h1 h2
  unfold Dm at h1
  rcases h2 with h2 | h2
  · omega
  · rw [cut_ge (by omega)] at h1; omega

/-- The document's, behind a call upon the program's. -/
theorem Pre.ref {own : Nat → Nat} {i wb sb rb : Nat} {vss vrs : Value} {x : St} {y : Rf} {b : Bk} {t N0 : Nat} {w w1 w2 : World} {ts : List Nat} (h : Pre own i wb sb rb vss vrs x y b t N0 w) (hb : Below w.heap.size w w1) (k : Kd (Dc (cut own w.heap.size) w1.heap.size (3 * i + 4)) ts w1 w2) : RefT (Dc (cut own w.heap.size) w2.heap.size (3 * i + 5)) rb y x.la (x.la + x.sy) x.T w2 := by
  have h1 : RefT (Dm (cut own w.heap.size) (3 * i + 5)) rb y x.la (x.la + x.sy) x.T w1 := RefT.below (h.rf.mono fun k hk e => (cut_lt hk).trans e) hb
  refine (h1.apart k fun c h1 h2 h3 => ?_).mono fun k _ e => .inl e
  unfold Dm at h1
  rcases h3 with h3 | h3 <;> omega

/-- The owners behind a step's two calls. -/
def own1 (own : Nat → Nat) (D F : Nat → Prop) [DecidablePred D] [DecidablePred F] (i N N1 M : Nat) : Nat → Nat := fun k =>
  if k < N then own k else if k < N1 then 0 else if k < M then (if D k then 3 * i + 4 else if F k then 3 * i + 6 else 0) else 3 * i + 5

theorem own1_old {own : Nat → Nat} {D F : Nat → Prop} [DecidablePred D] [DecidablePred F] {i N N1 M k : Nat} (h : k < N) : own1 own D F i N N1 M k = own k := by simp [own1, h]
theorem own1_lent {own : Nat → Nat} {D F : Nat → Prop} [DecidablePred D] [DecidablePred F] {i N N1 M k : Nat} (h : N ≤ k) (h1 : k < N1) : own1 own D F i N N1 M k = 0 := by
  unfold own1
  rw [if_neg (by omega), if_pos h1]
theorem own1_st {own : Nat → Nat} {D F : Nat → Prop} [DecidablePred D] [DecidablePred F] {i N N1 M k : Nat} (hn : N ≤ N1) (h : N1 ≤ k) (h1 : k < M) (hd : D k) : own1 own D F i N N1 M k = 3 * i + 4 := by
  unfold own1
  rw [if_neg (by omega), if_neg (by omega), if_pos h1, if_pos hd]
theorem own1_laid {own : Nat → Nat} {D F : Nat → Prop} [DecidablePred D] [DecidablePred F] {i N N1 M k : Nat} (hn : N ≤ N1) (h : N1 ≤ k) (h1 : k < M) (hd : ¬ D k) (hf : F k) : own1 own D F i N N1 M k = 3 * i + 6 := by
  unfold own1
  rw [if_neg (by omega), if_neg (by omega), if_pos h1, if_neg hd, if_pos hf]
theorem own1_ref {own : Nat → Nat} {D F : Nat → Prop} [DecidablePred D] [DecidablePred F] {i N N1 M k : Nat} (hn : N ≤ N1) (h : N1 ≤ M) (h1 : M ≤ k) : own1 own D F i N N1 M k = 3 * i + 5 := by
  unfold own1
  rw [if_neg (by omega), if_neg (by omega), if_neg (by omega)]
theorem own1_mid {own : Nat → Nat} {D F : Nat → Prop} [DecidablePred D] [DecidablePred F] {i N N1 M k : Nat} (h : N ≤ k) (h1 : k < M) : own1 own D F i N N1 M k ≠ 3 * i + 5 := by
  unfold own1
  rw [if_neg (by omega)]
  split
  · omega
  · try rw [if_pos h1]
    split
    · omega
    · split <;> omega

/-- What two calls of store i may turn. -/
def TwoX (own : Nat → Nat) (i N : Nat) (k e : Nat) : Prop := N ≤ k ∨ (e ≠ 57 ∧ (own k = 3 * i + 4 ∨ own k = 3 * i + 5))

theorem TwoX.step {own : Nat → Nat} {i N k e : Nat} (h : TwoX own i N k e) : StepX own i N k e := by
  rcases h with h | ⟨h, h1 | h1⟩
  · exact .inl h
  · exact .inr ⟨h, .inl h1⟩
  · exact .inr ⟨h, .inr (.inl h1)⟩

/-- The program's call, then the document's, then what is written into what was lent. -/
theorem two_fin {own : Nat → Nat} {i wb sb rb : Nat} {vss vrs : Value} {x x' : St} {y y' : Rf} {b : Bk} {t N0 : Nat} {w w1 w2 w3 w4 : World} {ts2 ts3 : List Nat} {G : Nat → Prop} (hp : Pre own i wb sb rb vss vrs x y b t N0 w) (hb : Below w.heap.size w w1)
    (h2 : StPost (Dc (cut own w.heap.size) w1.heap.size (3 * i + 4)) (Dm (cut own w.heap.size) (3 * i + 6)) sb x' ts2 w1 w2) (ht2 : 57 ∉ ts2)
    (h3 : RfT (Dc (cut own w.heap.size) w2.heap.size (3 * i + 5)) rb y' x' w3) (k3 : Kd (Dc (cut own w.heap.size) w2.heap.size (3 * i + 5)) ts3 w2 w3) (ht3 : 57 ∉ ts3)
    (k4 : Kd G [57] w3 w4) (hG : ∀ k, k < w3.heap.size → G k → w.heap.size ≤ k ∧ k < w1.heap.size)
    (bo : Both (t + 1) x' y') (ht : t + 1 ≤ 1099511627776) : StepPost own i wb sb rb vss vrs t N0 w (.returned (.bool true)) w4 := by
  obtain ⟨D', F', hD, hF, hFD, hO, hst, k2⟩ := h2
  have s1 := hb.size
  have s2 := k2.size
  have s3 := k3.size
  have s4 := k4.size
  have hNs : N0 ≤ w.heap.size := hp.lowN
  have X1 : Kx (TwoX own i w.heap.size) w w1 := Kx.of_below hb
  have X2 : Kx (TwoX own i w.heap.size) w1 w2 := Kx.of_kd k2 fun k e _ hd he => by
    by_cases hk : k < w.heap.size
    · rcases hd with hd | hd
      · rw [cut_lt hk] at hd
        exact .inr ⟨fun h => ht2 (h ▸ he), .inl hd⟩
      · omega
    · exact .inl (by omega)
  have X3 : Kx (TwoX own i w.heap.size) w2 w3 := Kx.of_kd k3 fun k e _ hd he => by
    by_cases hk : k < w.heap.size
    · rcases hd with hd | hd
      · rw [cut_lt hk] at hd
        exact .inr ⟨fun h => ht3 (h ▸ he), .inr hd⟩
      · omega
    · exact .inl (by omega)
  have X4 : Kx (TwoX own i w.heap.size) w3 w4 := Kx.of_kd k4 fun k e hk hd he => .inl (hG k hk hd).1
  have X : Kx (TwoX own i w.heap.size) w w4 := ((X1.trans X2).trans X3).trans X4
  classical
  obtain ⟨own', ho'⟩ : ∃ own', own1 own D' F' i w.heap.size w1.heap.size w2.heap.size = own' := ⟨_, rfl⟩
  have st2 : StoreAt (Dm own' (3 * i + 4)) (Dm own' (3 * i + 6)) sb x' w2 := by
    refine hst.mono (fun k hk hd => ?_) fun k hk hf => ?_
    · show own' k = _
      rw [← ho']
      rcases hD k hd with h | h
      · by_cases hw : k < w.heap.size
        · rw [own1_old hw, ← cut_lt (own := own) hw]; exact h
        · rw [cut_ge (by omega)] at h; omega
      · exact own1_st s1 h hk hd
    · show own' k = _
      rw [← ho']
      rcases hF k hf with h | ⟨_, h⟩
      · unfold Dm at h
        by_cases hw : k < w.heap.size
        · rw [own1_old hw, ← cut_lt (own := own) hw]; exact h
        · rw [cut_ge (by omega)] at h; omega
      · exact own1_laid s1 h hk (hFD k hf) hf
  have hdd : ∀ k, k < w2.heap.size → Dc (cut own w.heap.size) w2.heap.size (3 * i + 5) k → own' k = 3 * i + 5 := fun k hk h => by
    rcases h with h | h
    · by_cases hw : k < w.heap.size
      · rw [← ho', own1_old hw, ← cut_lt (own := own) hw]; exact h
      · rw [cut_ge (by omega)] at h; omega
    · omega
  have st3 : StoreAt (Dm own' (3 * i + 4)) (Dm own' (3 * i + 6)) sb x' w3 := by
    refine st2.apart k3 (fun k h1 h2 h3 => ?_) fun k h1 h2 h3 => ?_
    · have := hdd k h2 h3
      unfold Dm at h1
      omega
    · have := hdd k h2 h3
      unfold Dm at h1
      omega
  have st4 : StoreAt (Dm own' (3 * i + 4)) (Dm own' (3 * i + 6)) sb x' w4 := by
    obtain ⟨vE, vL, vR, vS, hB, hs, hE, hT, hR, hS⟩ := st3
    exact ⟨vE, vL, vR, vS, hB, k4.keep hs (by simp), k4.ownsIn hE (by simp), hT.kd k4 (by simp) (by simp), k4.ownsJ hR (by simp), k4.ownsIn hS (by simp)⟩
  have rf3 : RefT (Dm own' (3 * i + 5)) rb y' x'.la (x'.la + x'.sy) x'.T w3 := by
    refine RefT.mono h3 fun k hk h => ?_
    show own' k = _
    by_cases hw : k < w2.heap.size
    · exact hdd k hw h
    · rw [← ho']; exact own1_ref s1 s2 (by omega)
  have rf4 : RefT (Dm own' (3 * i + 5)) rb y' x'.la (x'.la + x'.sy) x'.T w4 := by
    refine rf3.apart k4 fun k h1 h2 h3 => ?_
    have h5 := hG k h2 h3
    unfold Dm at h1
    rw [← ho', own1_lent h5.1 h5.2] at h1
    omega
  have hbk : BookAt own' wb vss vrs b w4 := by
    have h5 : BookAt own' wb vss vrs b w := hp.bk.mono fun k hk _ => by rw [← ho', own1_old hk]
    refine h5.kx X (fun c e hc ho hx => ?_) fun c hc hx => ?_
    · rw [← ho', own1_old hc] at ho
      rcases hx with hx | ⟨_, hx⟩ <;> omega
    · rcases hx with hx | ⟨hx, _⟩
      · omega
      · exact hx rfl
  have hlow : ∀ k, own' k ≠ 0 → N0 ≤ k := fun k hk => by
    by_cases hw : k < w.heap.size
    · rw [← ho', own1_old hw] at hk; exact hp.low k hk
    · omega
  have hold : ∀ k, k < w.heap.size → own' k = own k := fun k hk => by rw [← ho', own1_old hk]
  clear hst st2 st3 rf3 X1 X2 X3 X4 ho'
  refine ⟨rfl, X.mono fun k e _ h => h.step, own', x', y', b, hold, ⟨st4, rf4, hbk, bo, hp.bb.later, hlow, by omega, fun w5 h5 => hp.tab w5 ((X.below hNs fun k e h => ?_).trans h5), ht⟩⟩
  exact StepX.low hp.low hNs k e h.step

/-- A call that keeps the two sets. -/
theorem StPost.of {D F : Nat → Prop} {sb : Nat} {x : St} {ts : List Nat} {w w' : World} (h : StoreAt D F sb x w') (k : Kd D ts w w') (hO : Opn D w) (hd : ∀ b, F b → ¬ D b) : StPost D F sb x ts w w' :=
  ⟨D, F, fun _ h => h, fun _ h => .inl h, hd, hO.later k.size, h, k⟩

set_option maxHeartbeats 400000 in
theorem num_any (e0 : Int) (w : World) : Calls Tryz.prog 14 #[.int .i64 e0] w fun e w' => e = .returned (.int .i64 e0) ∧ w' = w := by
  go_enter Tryz.func14, Tryz.ntmps14
  go_wp2
  go_ret
  exact ⟨rfl, rfl⟩

/-- A pair of rows: the part ahead of the room. -/
theorem own_prefix {w : World} {base g n m cap : Nat} {A B : List Pr} (h : w.ownsRow base 57 3 (.slice (some ⟨g, 0, none⟩) n cap) n (pcells (A ++ B))) (hm : m = A.length) (hn : m ≤ n) : w.ownsRow base 57 3 (.slice (some ⟨g, 0, none⟩) m cap) m (pcells A) := by
  subst hm
  rcases h.2 with ⟨h0, _⟩ | ⟨g', cap', cur, hv, hb, hg, r1, r2, r3, r4⟩
  · cases h0
  · simp only [Value.slice.injEq, Option.some.injEq, Addr.mk.injEq, and_true, true_and] at hv
    obtain ⟨rfl, rfl⟩ := hv
    refine ⟨pcells_len A, .inr ⟨g, cap, cur, rfl, hb, hg, by omega, r2, r3, ?_⟩⟩
    have h5 : (cur.toList.take (n * 3)).take (A.length * 3) = cur.toList.take (A.length * 3) := by rw [List.take_take, Nat.min_eq_left (Nat.mul_le_mul_right _ hn)]
    rw [← h5, r4, pcells_app, ← pcells_len A]
    exact List.take_left
end Go.Proofs.YtakipjofboipmaaGreatDoor

/- The walks of this proof: a step that writes. -/
namespace Go.Proofs.YtakipjofboipmaaGreatDoor
open Go.RowKit Go.Sort

theorem Pre.lowD {own : Nat → Nat} {i wb sb rb : Nat} {vss vrs : Value} {x : St} {y : Rf} {b : Bk} {t N0 : Nat} {w : World} (h : Pre own i wb sb rb vss vrs x y b t N0 w) {id M : Nat} (hid : id ≠ 0) (hM : N0 ≤ M) (k : Nat) (hk : Dc (cut own w.heap.size) M id k) : N0 ≤ k := by
  rcases hk with hk | hk
  · by_cases hkN : k < w.heap.size
    · rw [cut_lt hkN] at hk; exact h.low k (by omega)
    · have := h.lowN; omega
  · omega

theorem writes_fin {own : Nat → Nat} {i wb sb rb : Nat} {vss vrs : Value} {x : St} {y : Rf} {b : Bk} {t N0 : Nat} {w w1 w2 w3 w4 : World} {L M C : List Pr} {s : Bool} {g : Nat}
    (pre : Pre own i wb sb rb vss vrs x y b t N0 w) (ht : t + 1 ≤ 1099511627776) (hb1 : Below w.heap.size w w1) (hf : flt L = 0) (hM : Settles L M)
    (hst : StoreAt (Dc (cut own w.heap.size) w1.heap.size (3 * i + 4)) (Dm (cut own w.heap.size) (3 * i + 6)) sb (x.wrs M s) w2) (k2 : Kd (Dc (cut own w.heap.size) w1.heap.size (3 * i + 4)) [82, 5, 61] w1 w2)
    (hC : SamePr (keep L) C) (hu : Upto C C.length) (hrf : RefT (Dc (cut own w.heap.size) w2.heap.size (3 * i + 5)) rb { y with A := y.A ++ [C] } x.la (if s then (y.A.length : Int) + 1 else x.la + x.sy) x.T w3) (k3 : Kd (Dc (cut own w.heap.size) w2.heap.size (3 * i + 5)) [85, 38] w2 w3)
    (k4 : Kd (fun k => k = g ∨ w3.heap.size ≤ k) [57] w3 w4) (hg0 : w.heap.size ≤ g) (hg1 : g < w1.heap.size) : StepPost own i wb sb rb vss vrs t N0 w (.returned (.bool true)) w4 := by
  obtain rfl := settle_eq hM hC hu
  have e1 : RfT (Dc (cut own w.heap.size) w2.heap.size (3 * i + 5)) rb { y with A := y.A ++ [M] } (x.wrs M s) w3 := by
    unfold RfT
    rw [wrs_sy pre.bo.ok.lv, wrs_la, wrs_T, pre.bo.sm.last]
    exact hrf
  refine two_fin pre hb1 (StPost.of hst k2 (Dc_open _ _ _) (Pre.dis hb1.size)) (by simp) e1 k3 (by simp) k4 (fun k hk h => ?_) (pre.bo.wrote (by have := pre.small; omega) hf hC hu s) ht
  rcases h with rfl | h
  · exact ⟨hg0, hg1⟩
  · omega

set_option maxHeartbeats 4000000 in
set_option maxRecDepth 100000 in
theorem writes_any (own : Nat → Nat) (i wb sb rb : Nat) (vss vrs : Value) (x : St) (y : Rf) (b : Bk) (t N0 : Nat) (o : OpD) (w : World) (pre : Pre own i wb sb rb vss vrs x y b t N0 w) (ok : OpOk o N0 w) (ht : t + 1 ≤ 1099511627776) :
    Calls Tryz.prog 22 #[.pointer (some ⟨wb, 0, none⟩), .pointer (some ⟨sb, 0, none⟩), .pointer (some ⟨rb, 0, none⟩), o.val] w fun e w' => StepPost own i wb sb rb vss vrs t N0 w e w' := by
  obtain ⟨wA, hwA⟩ : ∃ wA, w.alloc (.cells o.cells 41) = wA := ⟨_, rfl⟩
  have HWA : Hid (w.alloc (.cells o.cells 41) = wA) := hwA
  have BA : Hid (Below w.heap.size w wA) := by rw [← hwA]; exact (Below.refl _ _).alloc (Nat.le_refl _) _
  have OA : Hid (wA.heap[w.heap.size]? = some (.cells o.cells 41 (0, 0)) ∧ wA.heap.size = w.heap.size + 1) := by rw [← hwA]; exact ⟨heap_alloc_new w _, by simp⟩
  have HLENT : Hid _ := lent_any o.L (.slice o.aP o.L.length o.cP) wA (ok.pairs.below BA.out)
  have PRE : Hid _ := pre
  have OK : Hid (OpOk o N0 w) := ok
  generalize hpost : (fun (e : Ending) (w' : World) => StepPost own i wb sb rb vss vrs t N0 w e w') = PP
  have HPP : Hid (∀ w', StepPost own i wb sb rb vss vrs t N0 w (.returned (.bool true)) w' → PP (.returned (.bool true)) w') := fun w' h => by rw [← hpost]; exact h
  clear pre ok hpost hwA
  unfold OpD.val
  unfold OpD.cells at HWA OA ⊢
  go_enter Tryz.func22, Tryz.ntmps22
  go_wp2_with fail
  rw [HWA.out]
  refine Calls.mono HLENT.out ?_
  rintro e w1 ⟨rfl, ho1, hb1⟩
  obtain ⟨g, hg⟩ : ∃ g, wA.heap.size = g := ⟨_, rfl⟩
  rw [hg] at ho1 ⊢
  have HG : Hid (g = w.heap.size + 1) := by rw [← hg]; exact OA.out.2
  have HO1 : Hid (w1.ownsRow g 57 3 (.slice (some ⟨g, 0, none⟩) (o.L.length + 8) (o.L.length + 8)) (o.L.length + 8) (pcells (o.L ++ bhs 8))) := ho1
  have B1 : Hid (Below w.heap.size w w1) := BA.out.trans (hb1.mono BA.out.size)
  have ob1 : Hid (w1.heap[w.heap.size]? = some (.cells #[.int .i64 o.K, .int .i64 o.A, .int .i64 o.B, .int .i64 o.W, .string o.S, .bool o.F, .slice o.aP o.L.length o.cP, .slice o.aC o.lC o.cC, .slice o.aK o.lK o.cK] 41 (0, 0))) := (hb1.block _ (lt_of_block OA.out.1)).trans OA.out.1
  have q5 : w1.cell? ⟨w.heap.size, 5, none⟩ = some (.bool o.F) := by simp [World.cell?, ob1.out]
  have q6 : w1.cell? ⟨w.heap.size, 6, none⟩ = some (.slice o.aP o.L.length o.cP) := by simp [World.cell?, ob1.out]
  have hgl : Hid (g < w1.heap.size) := (ho1.lt g rfl).2
  obtain ⟨hpl, hps⟩ : o.L.length ≤ 3518437208780 ∧ ∀ p ∈ o.L, p.k.size ≤ 140737488351232 ∧ p.v.size ≤ 140737488351232 := by
    obtain ⟨_, _, _, h1, h2, _⟩ := OK.out.pairs
    exact ⟨h1, h2⟩
  have HPS : Hid (∀ p ∈ o.L, p.k.size ≤ 140737488351232 ∧ p.v.size ≤ 140737488351232) := hps
  have hcap : (o.L.length : Int) ≤ (o.L.length : Int) + 8 := by omega
  clear ho1 hb1 hg hps HLENT
  by_cases hf : flt o.L = 0
  · obtain ⟨hl1, hl4, hok⟩ := flt_ok hf
    have hbo := PRE.out.bo
    have hsm := PRE.out.small
    have hlast : Hid (x.last = y.A.length) := hbo.sm.last
    have HW : Hid (∀ w', Below w1.heap.size w1 w' → w'.heap.size = w1.heap.size → Calls Tryz.prog 54 #[.pointer (some ⟨sb, 0, none⟩), .slice (some ⟨g, 0, none⟩) o.L.length (o.L.length + 8), .bool o.F] w' fun e w'' => BatchPost (Dc (cut own w.heap.size) w1.heap.size (3 * i + 4)) (Dm (cut own w.heap.size) (3 * i + 6)) sb x o.L o.F w' e w'') := fun w' hb hsz => by
      have hl2 := hbo.lastx (by omega)
      have hfe := hbo.few (by omega)
      refine writeCall_any (Dc (cut own w.heap.size) w1.heap.size (3 * i + 4)) (Dm (cut own w.heap.size) (3 * i + 6)) sb x o.L _ g o.F w' ((PRE.out.store B1.out).below hb) ?_ (Pre.dis B1.out.size) hbo.ok (own_prefix ((Kp.of_below (B := 0) (ts := []) hb).owns HO1.out (by simp)) rfl (by omega)) hl1 hl4 hok (by omega) (by omega)
      rw [← hsz]; exact Dc_open _ _ _
    have HR : Hid (∀ w', Kd (Dc (cut own w.heap.size) w1.heap.size (3 * i + 4)) [82, 5, 61] w1 w' → Calls Tryz.prog 55 #[.pointer (some ⟨rb, 0, none⟩), .slice o.aP o.L.length o.cP, .bool o.F] w' fun e w'' => e = .returned (.tuple #[.int .i64 ((y.A.length : Int) + 1), .int .i64 0]) ∧ ∃ C, SamePr (keep o.L) C ∧ Upto C C.length ∧ RefT (Dc (cut own w.heap.size) w'.heap.size (3 * i + 5)) rb { y with A := y.A ++ [C] } x.la (if o.F then (y.A.length : Int) + 1 else x.la + x.sy) x.T w'' ∧ Kd (Dc (cut own w.heap.size) w'.heap.size (3 * i + 5)) [85, 38] w' w'') := fun w' k2 => by
      have hlow : Below N0 w1 w' := k2.belowN (Nat.le_trans PRE.out.lowN B1.out.size) (PRE.out.lowD (by omega) (Nat.le_trans PRE.out.lowN B1.out.size))
      refine (refWriteT_any (Dc (cut own w.heap.size) w'.heap.size (3 * i + 5)) rb y x.la (x.la + x.sy) x.T o.L _ o.F w' (PRE.out.ref B1.out k2) (Dc_open _ _ _) (hbo.rf (by omega)) ?_).mono ?_
      · exact OK.out.lies w' ((B1.out.mono PRE.out.lowN).trans hlow)
      · rintro e w'' (⟨h1, _⟩ | ⟨_, h2, h3⟩)
        · exact absurd hf h1
        · exact ⟨h2, h3⟩
    have HU : Hid (∀ w2 w3, Kd (Dc (cut own w.heap.size) w1.heap.size (3 * i + 4)) [82, 5, 61] w1 w2 → Kd (Dc (cut own w.heap.size) w2.heap.size (3 * i + 5)) [85, 38] w2 w3 → Calls Tryz.prog 56 #[.slice (some ⟨g, 0, none⟩) (o.L.length + 8) (o.L.length + 8), .slice o.aP o.L.length o.cP] w3 fun e w'' => e = .returned (.bool true) ∧ Kd (fun k => k = g ∨ w3.heap.size ≤ k) [57] w3 w'') := fun w2 w3 k2 k3 => by
      have h0 := PRE.out.lowN
      have h1 := B1.out.size
      have b2 : Below N0 w1 w2 := k2.belowN (by omega) (PRE.out.lowD (by omega) (by omega))
      have b3 : Below N0 w2 w3 := k3.belowN (by have := k2.size; omega) (PRE.out.lowD (by omega) (by have := k2.size; omega))
      exact unspoilt_any o.L _ g g w3 (OK.out.lies w3 (((B1.out.mono h0).trans b2).trans b3)) (k3.owns (k2.owns HO1.out (by simp)) (by simp))
    have HOB : Hid (∀ w2, Kd (Dc (cut own w.heap.size) w1.heap.size (3 * i + 4)) [82, 5, 61] w1 w2 → w2.heap[w.heap.size]? = some (.cells #[.int .i64 o.K, .int .i64 o.A, .int .i64 o.B, .int .i64 o.W, .string o.S, .bool o.F, .slice o.aP o.L.length o.cP, .slice o.aC o.lC o.cC, .slice o.aK o.lK o.cK] 41 (0, 0))) := fun w2 k2 => k2.keep ob1.out (by simp)
    have HFIN : Hid (∀ (w2 w3 w4 : World) (M C : List Pr), Settles o.L M → StoreAt (Dc (cut own w.heap.size) w1.heap.size (3 * i + 4)) (Dm (cut own w.heap.size) (3 * i + 6)) sb (x.wrs M o.F) w2 → Kd (Dc (cut own w.heap.size) w1.heap.size (3 * i + 4)) [82, 5, 61] w1 w2 → SamePr (keep o.L) C → Upto C C.length → RefT (Dc (cut own w.heap.size) w2.heap.size (3 * i + 5)) rb { y with A := y.A ++ [C] } x.la (if o.F then (y.A.length : Int) + 1 else x.la + x.sy) x.T w3 → Kd (Dc (cut own w.heap.size) w2.heap.size (3 * i + 5)) [85, 38] w2 w3 → Kd (fun k => k = g ∨ w3.heap.size ≤ k) [57] w3 w4 → StepPost own i wb sb rb vss vrs t N0 w (.returned (.bool true)) w4) := fun w2 w3 w4 M C a1 a5 a6 a7 a8 a9 a10 a11 =>
      writes_fin PRE.out ht B1.out hf a1 a5 a6 a7 a8 a9 a10 a11 (by have := HG.out; omega) hgl.out
    clear hf hok hbo hl1
    go_wp2
    go_region_with (go_at_call 54; refine (HW.out _ (by exact (Below.refl _ _).drew) (by rfl)).mono ?_; rintro e w2 ⟨rfl, M, a1, a5, a6⟩; have A2 : Hid (Settles o.L M ∧ StoreAt (Dc (cut own w.heap.size) w1.heap.size (3 * i + 4)) (Dm (cut own w.heap.size) (3 * i + 6)) sb (x.wrs M o.F) w2 ∧ Kd (Dc (cut own w.heap.size) w1.heap.size (3 * i + 4)) [82, 5, 61] w1 w2) := ⟨a1, a5, ⟨a6.os, a6.tape, a6.output, a6.size, a6.block⟩⟩; have ob2 := HOB.out w2 A2.out.2.2; have m5 : w2.cell? ⟨w.heap.size, 5, none⟩ = some (.bool o.F) := (by simp [World.cell?, ob2]); have m6 : w2.cell? ⟨w.heap.size, 6, none⟩ = some (.slice o.aP o.L.length o.cP) := (by simp [World.cell?, ob2]); clear a1 a5 a6 ob2)
    all_goals (
      go_wp2_with fail
      refine Calls.mono (HR.out _ A2.out.2.2) ?_
      rintro e w3 ⟨rfl, C, a1, a2, a3, a4⟩
      have A3 : Hid (SamePr (keep o.L) C ∧ Upto C C.length ∧ RefT (Dc (cut own w.heap.size) w2.heap.size (3 * i + 5)) rb { y with A := y.A ++ [C] } x.la (if o.F then (y.A.length : Int) + 1 else x.la + x.sy) x.T w3 ∧ Kd (Dc (cut own w.heap.size) w2.heap.size (3 * i + 5)) [85, 38] w2 w3) := ⟨a1, a2, a3, a4⟩
      have ob3 := a4.keep (HOB.out w2 A2.out.2.2) (by simp)
      have r6 : w3.cell? ⟨w.heap.size, 6, none⟩ = some (.slice o.aP o.L.length o.cP) := by simp [World.cell?, ob3]
      clear a1 a2 a3 a4 ob3
      go_wp2_with fail
      refine Calls.mono (HU.out _ _ A2.out.2.2 A3.out.2.2.2) ?_
      rintro e w4 ⟨rfl, k4⟩
      have HF : Hid (StepPost own i wb sb rb vss vrs t N0 w (.returned (.bool true)) w4) := HFIN.out w2 w3 w4 M C A2.out.1 A2.out.2.1 A2.out.2.2 A3.out.1 A3.out.2.1 A3.out.2.2.1 A3.out.2.2.2 k4
      have hla := hlast.out
      clear k4
      go_wp2_with (go_at_call 14; refine (num_any _ _).mono ?_; rintro e w5 ⟨rfl, rfl⟩)
      exact HPP.out _ HF.out)
  · have HW : Hid (∀ w', Below w1.heap.size w1 w' → Calls Tryz.prog 54 #[.pointer (some ⟨sb, 0, none⟩), .slice (some ⟨g, 0, none⟩) o.L.length (o.L.length + 8), .bool o.F] w' fun e w'' => e = .returned (.tuple #[.int .i64 0, .int .i64 (flt o.L)]) ∧ Below w'.heap.size w' w'') := fun w' hb =>
      writeBad_any sb o.L _ g o.F w' (own_prefix ((Kp.of_below (B := 0) (ts := []) hb).owns HO1.out (by simp)) rfl (by omega)) hpl HPS.out hf
    have HR : Hid (∀ w', Below w.heap.size w w' → Calls Tryz.prog 55 #[.pointer (some ⟨rb, 0, none⟩), .slice o.aP o.L.length o.cP, .bool o.F] w' fun e w'' => e = .returned (.tuple #[.int .i64 0, .int .i64 (flt o.L)]) ∧ Below w'.heap.size w' w'') := fun w' hb => by
      refine (refWriteT_any (Dc own w'.heap.size (3 * i + 5)) rb y x.la (x.la + x.sy) x.T o.L _ o.F w' ((RefT.below PRE.out.rf hb).mono fun b _ hd => .inl hd) (Dc_open own _ w') (PRE.out.bo.rf (by have := PRE.out.small; omega)) (OK.out.pairs.below hb)).mono ?_
      rintro e w'' (⟨_, h2, h3⟩ | ⟨h2, _⟩)
      · exact ⟨h2, h3⟩
      · exact absurd h2 hf
    have HU : Hid (∀ w', Below w1.heap.size w1 w' → Calls Tryz.prog 56 #[.slice (some ⟨g, 0, none⟩) (o.L.length + 8) (o.L.length + 8), .slice o.aP o.L.length o.cP] w' fun e w'' => e = .returned (.bool true) ∧ Kd (fun k => k = g ∨ w'.heap.size ≤ k) [57] w' w'') := fun w' hb =>
      unspoilt_any o.L _ g g w' (OK.out.pairs.below (B1.out.trans (hb.mono B1.out.size))) ((Kp.of_below (B := 0) (ts := []) hb).owns HO1.out (by simp))
    generalize flt o.L = fv at HW HR
    clear hf
    go_wp2
    go_region_with (go_at_call 54; refine (HW.out _ (by exact (Below.refl _ _).drew)).mono ?_; rintro e w2 ⟨rfl, hb2⟩; have B2 : Hid (Below w1.heap.size w1 w2) := ⟨hb2.os, hb2.tape, hb2.output, hb2.size, hb2.block⟩; have m5 : w2.cell? ⟨w.heap.size, 5, none⟩ = some (.bool o.F) := cell_later B2.out q5; have m6 : w2.cell? ⟨w.heap.size, 6, none⟩ = some (.slice o.aP o.L.length o.cP) := cell_later B2.out q6; clear hb2)
    all_goals (
      go_wp2_with fail
      refine Calls.mono (HR.out _ (B1.out.trans (B2.out.mono B1.out.size))) ?_
      rintro e w3 ⟨rfl, hb3⟩
      have B3 : Hid (Below w1.heap.size w1 w3) := below_trans' B2.out hb3
      have r6 : w3.cell? ⟨w.heap.size, 6, none⟩ = some (.slice o.aP o.L.length o.cP) := cell_later hb3 m6
      clear hb3
      go_wp2_with fail
      refine Calls.mono (HU.out _ B3.out) ?_
      rintro e w4 ⟨rfl, k4⟩
      have HF : Hid (StepPost own i wb sb rb vss vrs t N0 w (.returned (.bool true)) w4) := by
        have hb4 : Below w.heap.size w w3 := B1.out.trans (B3.out.mono B1.out.size)
        refine StepPost.same PRE.out (hb4.trans (k4.belowN hb4.size fun k hk => ?_)) ht
        rcases hk with rfl | hk
        · have := HG.out; omega
        · have := hb4.size; omega
      clear k4
      go_wp2_with (go_at_call 14; refine (num_any _ _).mono ?_; rintro e w5 ⟨rfl, rfl⟩)
      exact HPP.out _ HF.out)
end Go.Proofs.YtakipjofboipmaaGreatDoor
