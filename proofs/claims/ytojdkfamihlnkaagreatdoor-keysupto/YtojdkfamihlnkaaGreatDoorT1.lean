/- The state of a script: who owns which block; the program's store and the document's side by side. -/
import Derived.Test.YtojdkfamihlnkaaGreatDoorL6
import Derived.Test.YtojdkfamihlnkaaGreatDoorO
namespace Go.Proofs.YtojdkfamihlnkaaGreatDoor
open Go.RowKit Go.Sort

/-- The blocks of one owner. -/
def Dm (own : Nat → Nat) (id : Nat) : Nat → Prop := fun k => own k = id
/-- The blocks of one owner, and all that are not there yet. -/
def Dc (own : Nat → Nat) (N id : Nat) : Nat → Prop := fun k => own k = id ∨ N ≤ k

theorem Dc_open (own : Nat → Nat) (id : Nat) (w : World) : Opn (Dc own w.heap.size id) w := fun _ hk => .inr hk

theorem OwnsIn.mono {w : World} {D D' : Nat → Prop} {e : TypeId} {size : Nat} {v : Value} {n : Nat} {xs : List Value} (h : OwnsIn w D e size v n xs) (hd : ∀ b, b < w.heap.size → D b → D' b) : OwnsIn w D' e size v n xs :=
  ⟨h.own, fun g hg => hd g (h.own.lt g hg).2 (h.dom g hg)⟩

theorem StoreAt.mono {w : World} {D D' : Nat → Prop} {sb : Nat} {x : St} (h : StoreAt D sb x w) (hd : ∀ b, b < w.heap.size → D b → D' b) : StoreAt D' sb x w := by
  obtain ⟨vE, vR, vS, R, hB, hs, hE, hR, hS, hl⟩ := h
  exact ⟨vE, vR, vS, R, hd sb (lt_of_block hs) hB, hs, hE.mono hd, hR.mono hd, hS.mono hd, hl⟩

theorem AllAt.mono {w : World} {D D' : Nat → Prop} {vA : Value} {A : List (List Pr)} (h : AllAt D w vA A) (hd : ∀ b, b < w.heap.size → D b → D' b) : AllAt D' w vA A := by
  obtain ⟨Ws, h1, h2⟩ := h
  exact ⟨Ws, h1.mono hd, fun i b hb => by obtain ⟨vi, h3, h4⟩ := h2 i b hb; exact ⟨vi, h3, h4.mono hd⟩⟩

theorem RefAt.mono {w : World} {D D' : Nat → Prop} {rb : Nat} {y : Rf} (h : RefAt D rb y w) (hd : ∀ b, b < w.heap.size → D b → D' b) : RefAt D' rb y w := by
  obtain ⟨vA, vS, vT, la, sy, hB, hs, hA, hS⟩ := h
  exact ⟨vA, vS, vT, la, sy, hd rb (lt_of_block hs) hB, hs, hA.mono hd, hS.mono hd⟩

theorem BkAt.mono {w : World} {D D' : Nat → Prop} {wb : Nat} {vss vrs : Value} {P : List (Int × Nat)} {n : Int} (h : BkAt D wb vss vrs P n w) (hd : ∀ b, b < w.heap.size → D b → D' b) : BkAt D' wb vss vrs P n w := by
  obtain ⟨vps, vpm, Vs, hB, hs, hps, hpm, hl⟩ := h
  exact ⟨vps, vpm, Vs, hd wb (lt_of_block hs) hB, hs, hps.mono hd, hpm.mono hd, hl⟩

theorem OwnsIn.kx {X : Nat → Nat → Prop} {w w' : World} {D : Nat → Prop} {e : TypeId} {size : Nat} {v : Value} {n : Nat} {xs : List Value} (h : OwnsIn w D e size v n xs) (k : Kx X w w') (hx : ∀ b, b < w.heap.size → D b → ¬ X b e) : OwnsIn w' D e size v n xs :=
  ⟨k.owns h.own fun g hg hl => hx g hl (h.dom g hg), h.dom⟩

theorem StoreAt.kx {X : Nat → Nat → Prop} {w w' : World} {D : Nat → Prop} {sb : Nat} {x : St} (h : StoreAt D sb x w) (k : Kx X w w') (hx : ∀ b e, b < w.heap.size → D b → ¬ X b e) : StoreAt D sb x w' := by
  obtain ⟨vE, vR, vS, R, hB, hs, hE, hR, hS, hl⟩ := h
  exact ⟨vE, vR, vS, R, hB, k.keep hs (hx sb _ (lt_of_block hs) hB), hE.kx k fun b hl hd => hx b _ hl hd, hR.kx k fun b hl hd => hx b _ hl hd, hS.kx k fun b hl hd => hx b _ hl hd, hl⟩

theorem RefAt.kx {X : Nat → Nat → Prop} {w w' : World} {D : Nat → Prop} {rb : Nat} {y : Rf} (h : RefAt D rb y w) (k : Kx X w w') (hx : ∀ b e, b < w.heap.size → D b → ¬ X b e) : RefAt D rb y w' := by
  obtain ⟨vA, vS, vT, la, sy, hB, hs, ⟨Ws, h1, h2⟩, hS⟩ := h
  exact ⟨vA, vS, vT, la, sy, hB, k.keep hs (hx rb _ (lt_of_block hs) hB), ⟨Ws, h1.kx k fun b hl hd => hx b _ hl hd, fun i b hb => by obtain ⟨vi, h3, h4⟩ := h2 i b hb; exact ⟨vi, h3, h4.kx k fun b hl hd => hx b _ hl hd⟩⟩, hS.kx k fun b hl hd => hx b _ hl hd⟩

theorem BkAt.kx {X : Nat → Nat → Prop} {w w' : World} {D : Nat → Prop} {wb : Nat} {vss vrs : Value} {P : List (Int × Nat)} {n : Int} (h : BkAt D wb vss vrs P n w) (k : Kx X w w') (hx : ∀ b e, b < w.heap.size → D b → ¬ X b e) (h57 : ∀ b, b < w.heap.size → ¬ X b 57) : BkAt D wb vss vrs P n w' := by
  obtain ⟨vps, vpm, Vs, hB, hs, hps, hpm, hl⟩ := h
  exact ⟨vps, vpm, Vs, hB, k.keep hs (hx wb _ (lt_of_block hs) hB), hps.kx k fun b hl hd => hx b _ hl hd, hpm.kx k fun b hl hd => hx b _ hl hd, hl.kx k h57⟩

theorem BkAt.below {w w' : World} {D : Nat → Prop} {wb : Nat} {vss vrs : Value} {P : List (Int × Nat)} {n : Int} (h : BkAt D wb vss vrs P n w) (hb : Below w.heap.size w w') : BkAt D wb vss vrs P n w' :=
  h.kx (Kx.of_below (X := fun _ _ => False) hb) (fun _ _ _ _ h => h) (fun _ _ h => h)

/-- The program's store and the document's, behind at most t steps. -/
structure Both (t : Nat) (x : St) (y : Rf) : Prop where
  sm : Sm x y
  sorted : Sorted x.E
  len : x.E.length ≤ 4 * t
  seqs : ∀ e ∈ x.E, e.s ≤ x.last
  keys : ∀ e ∈ x.E, e.k.size ≤ 6
  lastle : y.A.length ≤ t
  snaps : y.S.length ≤ 4
  ats : ∀ s ∈ y.S, 0 ≤ s.q ∧ s.q ≤ y.A.length
  nums : ∀ s ∈ y.S, s.n ≤ y.num
  dis : y.S.Pairwise fun a b => a.n ≠ b.n
  num0 : 0 ≤ y.num
  numle : y.num ≤ t
  four : ∀ b ∈ y.A, b.length ≤ 4
  jl : x.jl ≤ 1000 * t

theorem Both.st {t : Nat} {x : St} {y : Rf} (h : Both t x y) (ht : t ≤ 2000000) : StOk x :=
  ⟨h.sorted, by have := h.len; omega, fun e he => by have h1 := h.seqs e he; have h2 := h.sm.last; have h3 := h.lastle; omega, fun e he => by have := h.keys e he; omega, by rw [h.sm.snaps]; exact h.snaps⟩

theorem Both.rf {t : Nat} {x : St} {y : Rf} (h : Both t x y) (ht : t ≤ 2000000) : RfOk y :=
  ⟨h.snaps, by have := h.lastle; omega, h.four, h.ats⟩

theorem Both.later {t : Nat} {x : St} {y : Rf} (h : Both t x y) : Both (t + 1) x y :=
  ⟨h.sm, h.sorted, by have := h.len; omega, h.seqs, h.keys, by have := h.lastle; omega, h.snaps, h.ats, h.nums, h.dis, h.num0, by have := h.numle; omega, h.four, by have := h.jl; omega⟩

theorem Both.new (t : Nat) : Both t ⟨[], [], 0, 0, 0, 0⟩ ⟨[], [], 0⟩ :=
  ⟨⟨rfl, rfl, rfl, fun e => ⟨fun h => by simp at h, fun ⟨i, b, p, h, _⟩ => by simp at h⟩⟩, List.Pairwise.nil, Nat.zero_le _, by simp, by simp, Nat.zero_le _, by simp, by simp, by simp, List.Pairwise.nil, by simp, by simp, by simp, Nat.zero_le _⟩

theorem Both.wrote {t : Nat} {x : St} {y : Rf} {L M C : List Pr} {F : List En} {n : Int} (h : Both t x y) (hf : flt L = 0) (hM : SamePr (keep L) M) (hs : Sorted F) (hF : ∀ e, e ∈ F ↔ e ∈ x.E ∨ e ∈ M.map (toEn (x.last + 1))) (hFl : F.length = x.E.length + M.length) (hC : SamePr (keep L) C) (hu : Upto C C.length) :
    Both (t + 1) { x with E := F, last := x.last + 1, jl := x.jl + 1000, synced := n } { y with A := y.A ++ [C] } := by
  obtain ⟨h1, h4, hok⟩ := flt_ok hf
  have hkl := keep_len L
  have hMl := hM.1
  have hCl := hC.1
  have hla := h.sm.last
  refine ⟨⟨h.sm.snaps, ?_, h.sm.num, ?_⟩, hs, ?_, ?_, ?_, ?_, h.snaps, ?_, h.nums, h.dis, h.num0, ?_, ?_, ?_⟩
  · show x.last + 1 = _
    rw [hla, List.length_append]; simp
  · show Rel F (y.A ++ [C])
    refine rel_snoc h.sm.rel (keep_keep hC hu hM) ?_
    rw [← hla]; exact hF
  · have := h.len; show F.length ≤ _; omega
  · intro e he
    show e.s ≤ x.last + 1
    rcases (hF e).1 he with h5 | h5
    · have := h.seqs e h5; omega
    · obtain ⟨p, _, rfl⟩ := List.mem_map.1 h5
      simp [toEn]
  · intro e he
    rcases (hF e).1 he with h5 | h5
    · exact h.keys e h5
    · obtain ⟨p, hp, rfl⟩ := List.mem_map.1 h5
      exact (hok p (keep_sub ((hM.2 p).1 hp))).hi
  · have := h.lastle; show (y.A ++ [C]).length ≤ _; simp; omega
  · intro s hsn
    have := h.ats s hsn
    show 0 ≤ s.q ∧ s.q ≤ ((y.A ++ [C]).length : Int)
    simp; omega
  · have := h.numle; show y.num ≤ _; omega
  · intro b hb
    rcases List.mem_append.1 hb with hb | hb
    · exact h.four b hb
    · simp at hb; subst hb; omega
  · have := h.jl; show x.jl + 1000 ≤ _; omega

theorem Both.snapped {t : Nat} {x : St} {y : Rf} (h : Both t x y) (h4 : y.S.length < 4) :
    Both (t + 1) { x with S := x.S ++ [⟨x.lastSnap + 1, x.last⟩], lastSnap := x.lastSnap + 1 } { y with S := y.S ++ [⟨y.num + 1, y.A.length⟩], num := y.num + 1 } := by
  have hn := h.sm.num
  have hla := h.sm.last
  refine ⟨⟨?_, h.sm.last, ?_, h.sm.rel⟩, h.sorted, ?_, h.seqs, h.keys, ?_, ?_, ?_, ?_, ?_, ?_, ?_, h.four, ?_⟩
  · show x.S ++ _ = y.S ++ _
    rw [h.sm.snaps, hn, hla]
  · show x.lastSnap + 1 = y.num + 1
    rw [hn]
  · have := h.len; show x.E.length ≤ _; omega
  · have := h.lastle; show y.A.length ≤ _; omega
  · show (y.S ++ _).length ≤ 4; simp; omega
  · intro s hs
    rcases List.mem_append.1 hs with hs | hs
    · exact h.ats s hs
    · simp at hs; subst hs; simp
  · intro s hs
    show s.n ≤ y.num + 1
    rcases List.mem_append.1 hs with hs | hs
    · have := h.nums s hs; omega
    · simp at hs; subst hs; simp
  · show (y.S ++ _).Pairwise _
    rw [List.pairwise_append]
    refine ⟨h.dis, by simp, fun a ha b hb => ?_⟩
    simp at hb; subst hb
    have := h.nums a ha
    simp only; omega
  · have := h.num0; show 0 ≤ y.num + 1; omega
  · have := h.numle; show y.num + 1 ≤ _; omega
  · have := h.jl; show x.jl ≤ _; omega

theorem drop_same {S : List Sn} {n : Int} (hd : S.Pairwise fun a b => a.n ≠ b.n) {i : Nat} (hi : sidx S n = some i) : S.eraseIdx i = S.filter (notN n) ∧ (S.filter (notN n)).length ≠ S.length := by
  induction S generalizing i with
  | nil => simp [sidx] at hi
  | cons s S ih =>
    obtain ⟨h1, h2⟩ := List.pairwise_cons.1 hd
    unfold sidx at hi ih
    rw [List.findIdx?_cons] at hi
    by_cases hs : s.n = n
    · simp only [hs, decide_true, if_true, Option.some.injEq] at hi
      subst hi
      have hf : S.filter (notN n) = S := by
        rw [List.filter_eq_self]
        intro a ha
        have := h1 a ha
        simp [notN]
        rw [← hs]
        exact fun e => this e.symm
      have hn : notN n s = false := by simp [notN, hs]
      rw [List.filter_cons, hn, hf]
      simp
    · simp only [hs, decide_false, Bool.false_eq_true, if_false, Option.map_eq_some_iff] at hi
      obtain ⟨j, hj, rfl⟩ := hi
      obtain ⟨h3, h4⟩ := ih h2 hj
      rw [List.filter_cons]
      have hn : notN n s = true := by simp [notN, hs]
      rw [if_pos hn, List.eraseIdx_cons_succ, h3]
      exact ⟨rfl, by simpa using h4⟩

theorem drop_none {S : List Sn} {n : Int} (hi : sidx S n = none) : (S.filter (notN n)).length = S.length := by
  unfold sidx at hi
  rw [List.findIdx?_eq_none_iff] at hi
  rw [List.filter_eq_self.2]
  intro a ha
  have := hi a ha
  simpa [notN] using this

theorem Both.dropped {t : Nat} {x : St} {y : Rf} (h : Both t x y) {n : Int} {i : Nat} (hi : sidx x.S n = some i) : Both (t + 1) { x with S := x.S.eraseIdx i } { y with S := y.S.filter (notN n) } := by
  have hs := h.sm.snaps
  rw [hs] at hi
  have h1 := drop_same h.dis hi
  have hsub : ∀ s, s ∈ y.S.filter (notN n) → s ∈ y.S := fun s hs => (List.mem_filter.1 hs).1
  refine ⟨⟨?_, h.sm.last, h.sm.num, h.sm.rel⟩, h.sorted, ?_, h.seqs, h.keys, ?_, ?_, fun s hs => h.ats s (hsub s hs), fun s hs => h.nums s (hsub s hs), ?_, h.num0, ?_, h.four, ?_⟩
  · show x.S.eraseIdx i = _
    rw [hs]; exact h1.1
  · have := h.len; show x.E.length ≤ _; omega
  · have := h.lastle; show y.A.length ≤ _; omega
  · show (y.S.filter (notN n)).length ≤ 4
    have h5 := List.length_filter_le (notN n) y.S
    have := h.snaps; omega
  · exact h.dis.sublist List.filter_sublist
  · have := h.numle; show y.num ≤ _; omega
  · have := h.jl; show x.jl ≤ _; omega


/-- A step, as it lies in memory. -/
structure OpD where
  K : Int
  A : Int
  B : Int
  W : Int
  S : ByteArray
  F : Bool
  L : List Pr
  aP : Option Addr
  cP : Nat
  aC : Option Addr
  lC : Nat
  cC : Nat
  aK : Option Addr
  lK : Nat
  cK : Nat

def OpD.cells (o : OpD) : Array Value := #[.int .i64 o.K, .int .i64 o.A, .int .i64 o.B, .int .i64 o.W, .string o.S, .bool o.F, .slice o.aP o.L.length o.cP, .slice o.aC o.lC o.cC, .slice o.aK o.lK o.cK]
def OpD.val (o : OpD) : Value := .agg o.cells

structure OpOk (o : OpD) (N0 : Nat) (w : World) : Prop where
  lies : ∀ w', Below N0 w w' → PairsAt w' (.slice o.aP o.L.length o.cP) o.L
  str : o.S.size ≤ 10000000
  w0 : -9223372036854775808 ≤ o.W
  w1 : o.W ≤ 9223372036854775807

theorem OpOk.pairs {o : OpD} {N0 : Nat} {w : World} (h : OpOk o N0 w) : PairsAt w (.slice o.aP o.L.length o.cP) o.L := h.lies w (Below.refl _ _)

theorem OpOk.on {o : OpD} {N0 : Nat} {w w' : World} (h : OpOk o N0 w) (hb : Below N0 w w') : OpOk o N0 w' := ⟨fun w2 h2 => h.lies w2 (hb.trans h2), h.str, h.w0, h.w1⟩

/-- What a step finds. -/
structure Pre (own : Nat → Nat) (is ir wb sb rb : Nat) (vss vrs : Value) (x : St) (y : Rf) (P : List (Int × Nat)) (n : Int) (t N0 : Nat) (w : World) : Prop where
  st : StoreAt (Dm own is) sb x w
  rf : RefAt (Dm own ir) rb y w
  bk : BkAt (Dm own 1) wb vss vrs P n w
  bo : Both t x y
  low : ∀ k, own k ≠ 0 → N0 ≤ k
  lowN : N0 ≤ w.heap.size
  tab : ∀ w', Below N0 w w' → Tab w'
  small : t ≤ 1100000
  n0 : 0 ≤ n
  n1 : n ≤ t
  pl : P.length ≤ 4 * t
  pb : ∀ p ∈ P, -(t : Int) ≤ p.1 ∧ p.1 ≤ 0 ∧ p.2 ≤ 4 * t + 4
  ids : is ≠ ir ∧ is ≠ 1 ∧ ir ≠ 1 ∧ is ≠ 0 ∧ ir ≠ 0

/-- What a step may turn. -/
def StepX (own : Nat → Nat) (is ir N : Nat) (k e : Nat) : Prop :=
  N ≤ k ∨ (own k = is ∧ e ∈ [81, 5, 61, 165]) ∨ (own k = ir ∧ e ∈ [84, 38, 133]) ∨ (own k = 1 ∧ e ∈ [36, 38, 3])

/-- What a step leaves. -/
def StepPost (own : Nat → Nat) (is ir wb sb rb : Nat) (vss vrs : Value) (t N0 : Nat) (w : World) (e : Ending) (w' : World) : Prop :=
  e = .returned (.bool true) ∧ Kx (StepX own is ir w.heap.size) w w' ∧ ∃ (own' : Nat → Nat) (x : St) (y : Rf) (P : List (Int × Nat)) (n : Int), (∀ k, k < w.heap.size → own' k = own k) ∧ Pre own' is ir wb sb rb vss vrs x y P n (t + 1) N0 w'

theorem Pre.below {own : Nat → Nat} {is ir wb sb rb : Nat} {vss vrs : Value} {x : St} {y : Rf} {P : List (Int × Nat)} {n : Int} {t N0 : Nat} {w w' : World} (h : Pre own is ir wb sb rb vss vrs x y P n t N0 w) (hb : Below w.heap.size w w') : Pre own is ir wb sb rb vss vrs x y P n t N0 w' :=
  ⟨h.st.below hb, h.rf.below hb, h.bk.below hb, h.bo, h.low, Nat.le_trans h.lowN hb.size, fun w2 h2 => h.tab w2 ((hb.mono h.lowN).trans h2), h.small, h.n0, h.n1, h.pl, h.pb, h.ids⟩

theorem StepX.low {own : Nat → Nat} {is ir N N0 : Nat} (hlow : ∀ k, own k ≠ 0 → N0 ≤ k) (hN : N0 ≤ N) (hi : is ≠ ir ∧ is ≠ 1 ∧ ir ≠ 1 ∧ is ≠ 0 ∧ ir ≠ 0) (k e : Nat) (h : StepX own is ir N k e) : N0 ≤ k := by
  rcases h with h | ⟨h, _⟩ | ⟨h, _⟩ | ⟨h, _⟩
  · omega
  · exact hlow k (by rw [h]; exact hi.2.2.2.1)
  · exact hlow k (by rw [h]; exact hi.2.2.2.2)
  · exact hlow k (by rw [h]; omega)

/-- Behind a part that only made memory. -/
theorem StepPost.of_below {own : Nat → Nat} {is ir wb sb rb : Nat} {vss vrs : Value} {t N0 : Nat} {w w1 w' : World} {e : Ending} (hb : Below w.heap.size w w1) (h : StepPost own is ir wb sb rb vss vrs t N0 w1 e w') : StepPost own is ir wb sb rb vss vrs t N0 w e w' := by
  obtain ⟨h1, h2, own', x, y, P, n, h3, h4⟩ := h
  have hs := hb.size
  refine ⟨h1, (Kx.of_below hb).trans (h2.mono fun k e _ hx => ?_), own', x, y, P, n, fun k hk => h3 k (by omega), h4⟩
  rcases hx with hx | hx
  · exact .inl (by omega)
  · exact .inr hx

/-- A step that leaves both stores and the book as they were. -/
theorem StepPost.same {own : Nat → Nat} {is ir wb sb rb : Nat} {vss vrs : Value} {x : St} {y : Rf} {P : List (Int × Nat)} {n : Int} {t N0 : Nat} {w w' : World} (h : Pre own is ir wb sb rb vss vrs x y P n t N0 w) (hb : Below w.heap.size w w') (ht : t + 1 ≤ 1100000) : StepPost own is ir wb sb rb vss vrs t N0 w (.returned (.bool true)) w' := by
  refine ⟨rfl, Kx.of_below hb, own, x, y, P, n, fun _ _ => rfl, ?_⟩
  have h' := h.below hb
  exact ⟨h'.st, h'.rf, h'.bk, h'.bo.later, h'.low, h'.lowN, h'.tab, ht, h'.n0, by have := h'.n1; omega, by have := h'.pl; omega, fun p hp => by have := h'.pb p hp; omega, h'.ids⟩

set_option maxHeartbeats 400000 in
theorem num_any (e0 : Int) (w : World) : Calls Tryz.prog 12 #[.int .i64 e0] w fun e w' => e = .returned (.int .i64 e0) ∧ w' = w := by
  go_enter Tryz.func12, Tryz.ntmps12
  go_wp2
  go_ret
  exact ⟨rfl, rfl⟩

/-- A pair of rows: the part ahead of the room. -/
theorem own_prefix {w : World} {base g n m cap : Nat} {A B : List Pr} (h : w.ownsRow base 57 3 (.slice (some ⟨g, 0, none⟩) n cap) n (pcells (A ++ B))) (hm : m = A.length) (hn : m ≤ n) : w.ownsRow base 57 3 (.slice (some ⟨g, 0, none⟩) m cap) m (pcells A) := by
  subst hm
  rcases h.2 with ⟨h0, _⟩ | ⟨g', cap', cur, hv, hb, hg, r1, r2, r3, r4⟩
  · cases h0
  · simp only [Value.slice.injEq, Option.some.injEq, Addr.mk.injEq, and_true, true_and] at hv
    obtain ⟨rfl, rfl⟩ := hv
    refine ⟨pcells_len A, .inr ⟨g, cap, cur, rfl, hb, hg, by omega, r2, r3, ?_⟩⟩
    have h5 : (cur.toList.take (n * 3)).take (A.length * 3) = cur.toList.take (A.length * 3) := by rw [List.take_take, Nat.min_eq_left (Nat.mul_le_mul_right _ hn)]
    rw [← h5, r4, pcells_app, ← pcells_len A]
    exact List.take_left
end Go.Proofs.YtojdkfamihlnkaaGreatDoor
