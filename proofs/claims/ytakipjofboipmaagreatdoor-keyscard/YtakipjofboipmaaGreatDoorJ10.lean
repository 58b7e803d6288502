/- The walks of this proof: a store in memory; Get and Scan. -/
import Derived.Test.YtakipjofboipmaaGreatDoorJ6
import Derived.Test.YtakipjofboipmaaGreatDoorJ9
namespace Go.Proofs.YtakipjofboipmaaGreatDoor
open Go.RowKit Go.Sort

/-- What a store holds: all entries that batches ever made (they need not lie there any more); the batches, as they count, since the last one that was laid down, and how many of them are synced; the entries of the table in memory; the tables that were laid down; the last batch that was; snapshots; the last snapshot's number; the last batch's. -/
structure St where
  E : List En
  B : List (List Pr)
  sy : Nat
  M : List En
  T : List Lb
  la : Int
  S : List Sn
  lastSnap : Int
  last : Int

/-- The journal's bytes. -/
def St.J (x : St) : List UInt8 := x.B.flatMap recB

/-- Tables as cells: entries, level. -/
def lcells (T : List Lb) (Vs : List Value) : List Value := (T.zip Vs).flatMap fun x => [x.2, .int .i64 x.1.1]

/-- The row of tables lies in D, their entries in F. -/
def TabsIn (w : World) (D F : Nat → Prop) (vL : Value) (T : List Lb) : Prop :=
  ∃ Vs : List Value, Vs.length = T.length ∧ OwnsIn w D 209 2 vL T.length (lcells T Vs) ∧ ∀ (k : Nat) t v, T[k]? = some t → Vs[k]? = some v → OwnsIn w F 61 4 v t.2.length (ecells t.2)

/-- A store that lies in block sb, its rows in D, its tables' entries in F. -/
def StoreAt (D F : Nat → Prop) (sb : Nat) (x : St) (w : World) : Prop :=
  ∃ (vE vL vR vS : Value), D sb ∧ w.heap[sb]? = some (.cells #[vE, vL, vR, .int .i64 (rl (x.B.take x.sy)), .int .i64 x.la, vS, .int .i64 x.lastSnap, .int .i64 x.last] 82 (0, 0)) ∧
    OwnsIn w D 61 4 vE x.M.length (ecells x.M) ∧ TabsIn w D F vL x.T ∧ OwnsJ w D vR x.J ∧ OwnsIn w D 205 2 vS x.S.length (scells x.S)

/-- What is true of a store's levels. -/
structure Lv (x : St) : Prop where
  msorted : Sorted x.M
  mem : ∀ e, e ∈ x.M ↔ e ∈ x.E ∧ x.la < e.s
  tsub : ∀ t ∈ x.T, ∀ e ∈ t.2, e ∈ x.E ∧ e.s ≤ x.la
  tsorted : ∀ t ∈ x.T, Sorted t.2
  tne : ∀ t ∈ x.T, t.2 ≠ []
  lay : LayX (x.T.map (·.2))
  lev : x.T.Pairwise fun a b => a.1 < b.1 ∨ (a.1 = 0 ∧ b.1 = 0)
  lev2 : ∀ t ∈ x.T, 0 ≤ t.1 ∧ t.1 ≤ 2
  view : ∀ q, (x.la ≤ q ∨ ∃ s ∈ x.S, s.q = q) → ∀ k, skO (fndL (x.T.map (·.2)) k q) = skO (fnd (x.E.filter fun e => decide (e.s ≤ x.la)) k q)
  tfew : x.T.length < 4500000000000
  la0 : 0 ≤ x.la
  la1 : x.last = x.la + x.B.length
  bok : ∀ b ∈ x.B, Bt b
  bsy : x.sy ≤ x.B.length
  bent : ∀ e, (e ∈ x.E ∧ x.la < e.s) ↔ ∃ (i : Nat) (b : List Pr) (p : Pr), x.B[i]? = some b ∧ p ∈ b ∧ e = toEn (x.la + 1 + i) p

theorem Lv.la2 {x : St} (h : Lv x) : x.la ≤ x.last := by have := h.la1; omega

theorem flat_le {B : List (List Pr)} (h : ∀ b ∈ B, Bt b) : rl B ≤ B.length * 73 := by
  have := flat_bounds recB 8 73 B fun b hb => recB_len (h b hb)
  unfold rl
  omega

theorem Lv.jl {x : St} (h : Lv x) (hl : x.last < 1100000000000) : x.J.length + 1000 ≤ 140737488355328 := by
  have := flat_le h.bok
  have h1 := h.la1
  have h0 := h.la0
  have : x.B.length < 1100000000000 := by omega
  show rl x.B + 1000 ≤ _
  omega

/-- What is true of every store. -/
structure StOk (x : St) : Prop where
  slast : ∀ e ∈ x.E, e.s ≤ x.last
  sorted : Sorted x.E
  few : x.E.length < 4500000000000
  seqs : ∀ e ∈ x.E, e.s ≤ 9223372036854775807
  keys : ∀ e ∈ x.E, e.k.size ≤ 1000
  snaps : x.S.length ≤ 4
  lv : Lv x

theorem sorted_nodup {E : List En} (h : Sorted E) : E.Nodup := by
  refine List.Pairwise.imp ?_ h
  intro a b hab he
  subst he
  unfold elt at hab
  rw [oc_lt, kc_self] at hab
  rcases hab with h | h <;> omega

open Classical in
theorem sub_len {A E : List En} (hA : Sorted A) (hE : Sorted E) (hs : ∀ e ∈ A, e ∈ E) : A.length ≤ E.length := by
  have h : A.Perm (E.filter fun e => decide (e ∈ A)) := by
    rw [List.perm_ext_iff_of_nodup (sorted_nodup hA) ((sorted_nodup hE).sublist List.filter_sublist)]
    intro e
    simp only [List.mem_filter, decide_eq_true_eq]
    exact ⟨fun h => ⟨hs e h, h⟩, fun h => h.2⟩
  rw [h.length_eq]
  exact List.length_filter_le _ _

theorem TabsIn.kd {D' : Nat → Prop} {w w' : World} {D F : Nat → Prop} {vL : Value} {T : List Lb} {ts : List Nat} (h : TabsIn w D F vL T) (k : Kd D' ts w w') (h1 : 209 ∉ ts) (h2 : 61 ∉ ts) : TabsIn w' D F vL T := by
  obtain ⟨Vs, hl, ho, hr⟩ := h
  exact ⟨Vs, hl, k.ownsIn ho h1, fun i t v ht hv => k.ownsIn (hr i t v ht hv) h2⟩

/-- Entries that nobody writes any more. -/
theorem TabsIn.kept {D' : Nat → Prop} {w w' : World} {D F : Nat → Prop} {vL : Value} {T : List Lb} {ts : List Nat} (h : TabsIn w D F vL T) (k : Kd D' ts w w') (h1 : 209 ∉ ts) (hF : ∀ b, b < w.heap.size → F b → ¬ D' b) : TabsIn w' D F vL T := by
  obtain ⟨Vs, hl, ho, hr⟩ := h
  refine ⟨Vs, hl, k.ownsIn ho h1, fun i t v ht hv => ?_⟩
  have := hr i t v ht hv
  exact ⟨k.ownsN this.own fun g hg => hF g (this.own.lt g hg).2 (this.dom g hg), this.dom⟩

theorem lcells_get {T : List Lb} {Vs : List Value} {k : Nat} {t : Lb} {v : Value} (ht : T[k]? = some t) (hv : Vs[k]? = some v) : (lcells T Vs)[k * 2]? = some v ∧ (lcells T Vs)[k * 2 + 1]? = some (.int .i64 t.1) := by
  have hz : (T.zip Vs)[k]? = some (t, v) := by rw [List.getElem?_zip_eq_some]; exact ⟨ht, hv⟩
  exact ⟨flat_get _ 2 (fun _ => rfl) _ k (t, v) 0 hz (by omega), flat_get _ 2 (fun _ => rfl) _ k (t, v) 1 hz (by omega)⟩

theorem lcells_len {T : List Lb} {Vs : List Value} (h : Vs.length = T.length) : (lcells T Vs).length = T.length * 2 := by
  unfold lcells
  rw [flat_len _ 2 (fun _ => rfl), List.length_zip]
  rw [h, Nat.min_self]

theorem TabsIn.row {w : World} {D F : Nat → Prop} {vL : Value} {T : List Lb} (h : TabsIn w D F vL T) : LdRow w vL T := by
  obtain ⟨Vs, hl, ho, hr⟩ := h
  obtain ⟨ao, cap, rfl⟩ := slice_form ho.own
  refine ⟨ao, cap, rfl, fun hpos => ?_⟩
  rcases ho.own.2 with ⟨h0, _⟩ | ⟨g, cap', cur, hv, hb, hg, hnc, _⟩
  · simp only [Value.slice.injEq] at h0; omega
  · simp only [Value.slice.injEq] at hv
    obtain ⟨rfl, _, rfl⟩ := hv
    refine ⟨g, rfl, hnc, fun k t ht => ?_⟩
    have hk : k < T.length := (List.getElem?_eq_some_iff.1 ht).1
    obtain ⟨v, hv⟩ : ∃ v, Vs[k]? = some v := ⟨_, List.getElem?_eq_getElem (by omega)⟩
    obtain ⟨g1, g2⟩ := lcells_get ht hv
    have hlen := lcells_len hl
    refine ⟨v, ?_, enrow_of_owns (hr k t v ht hv).own, ?_⟩
    · rw [ho.own.cellAt _ (by omega)]; exact g1
    · rw [ho.own.cellAt _ (by omega)]; exact g2

theorem Lv.ok {x : St} (h : Lv x) (hs : Sorted x.E) (hf : x.E.length < 4500000000000) : LvOk x.M x.T where
  few := Nat.lt_of_le_of_lt (sub_len h.msorted hs fun e he => ((h.mem e).1 he).1) hf
  sorted := h.msorted
  tfew := h.tfew
  tabs t ht := ⟨Nat.lt_of_le_of_lt (sub_len (h.tsorted t ht) hs fun e he => (h.tsub t ht e he).1) hf, h.tsorted t ht⟩

theorem Lv.layX {x : St} (h : Lv x) : LayX (runs x.M x.T) := by
  unfold runs LayX
  refine List.pairwise_cons.2 ⟨fun b hb e he e' he' _ => ?_, h.lay⟩
  obtain ⟨t, ht, rfl⟩ := List.mem_map.1 hb
  have h1 := ((h.mem e).1 he).2
  have h2 := (h.tsub t ht e' he').2
  omega

/-- Are two entries one? -/
def sameE (a b : En) : Bool := decide (a.k = b.k) && decide (a.s = b.s) && decide (a.g = b.g) && decide (a.v = b.v)
theorem sameE_iff {a b : En} : sameE a b = true ↔ a = b := by
  obtain ⟨k, s, g, v⟩ := a
  obtain ⟨k', s', g', v'⟩ := b
  simp only [sameE, Bool.and_eq_true, decide_eq_true_eq, En.mk.injEq]
  exact ⟨fun h => ⟨h.1.1.1, h.1.1.2, h.1.2, h.2⟩, fun h => ⟨⟨⟨h.1, h.2.1⟩, h.2.2.1⟩, h.2.2.2⟩⟩

/-- The entries that lie there, in one order. -/
def there (x : St) : List En := x.E.filter fun e => (runs x.M x.T).any fun a => a.any fun b => sameE e b

theorem there_sub (x : St) : (there x).Sublist x.E := List.filter_sublist

theorem StOk.gh {x : St} (h : StOk x) : Gh (there x) x.M x.T := by
  have hs : Sorted (there x) := h.sorted.sublist (there_sub x)
  have hm : ∀ e, e ∈ there x ↔ ∃ a ∈ runs x.M x.T, e ∈ a := fun e => by
    have hany : ((runs x.M x.T).any fun a => a.any fun b => sameE e b) = true ↔ ∃ a ∈ runs x.M x.T, e ∈ a := by
      simp only [List.any_eq_true, sameE_iff]
      constructor
      · rintro ⟨a, ha, b, hb, rfl⟩
        exact ⟨a, ha, hb⟩
      · rintro ⟨a, ha, hb⟩
        exact ⟨a, ha, e, hb, rfl⟩
    unfold there
    rw [List.mem_filter, hany]
    constructor
    · exact fun g => g.2
    · rintro ⟨a, ha, he⟩
      refine ⟨?_, a, ha, he⟩
      unfold runs at ha
      rcases List.mem_cons.1 ha with rfl | ha
      · exact ((h.lv.mem e).1 he).1
      · obtain ⟨t, ht, rfl⟩ := List.mem_map.1 ha
        exact (h.lv.tsub t ht e he).1
  refine ⟨hs, hm, fun k q => fnd_layers hs hm h.lv.layX (fun a ha => ?_) k q, Nat.lt_of_le_of_lt (there_sub x).length_le h.few, fun e he => h.seqs e ((there_sub x).subset he), fun e he => h.keys e ((there_sub x).subset he)⟩
  unfold runs at ha
  rcases List.mem_cons.1 ha with rfl | ha
  · exact h.lv.msorted
  · obtain ⟨t, ht, rfl⟩ := List.mem_map.1 ha
    exact h.lv.tsorted t ht

/-- What is seen of all entries is what is seen of those that lie there. -/
theorem StOk.sees {x : St} (h : StOk x) {q : Int} (hq : x.la ≤ q ∨ ∃ s ∈ x.S, s.q = q) (k : ByteArray) : skO (fndL (runs x.M x.T) k q) = sk x.E k q := by
  have h1 : fnd x.E k q = fndL [x.M, x.E.filter fun e => decide (e.s ≤ x.la)] k q := by
    refine fnd_layers h.sorted (fun e => ?_) ?_ ?_ k q
    · simp only [List.mem_cons, List.not_mem_nil, or_false, exists_eq_or_imp, exists_eq_left, List.mem_filter, decide_eq_true_eq, h.lv.mem]
      constructor
      · intro he
        by_cases hl : x.la < e.s
        · exact .inl ⟨he, hl⟩
        · exact .inr ⟨he, by omega⟩
      · rintro (g | g) <;> exact g.1
    · refine List.pairwise_cons.2 ⟨fun b hb e he e' he' _ => ?_, List.pairwise_singleton _ _⟩
      rw [List.mem_singleton] at hb
      subst hb
      have h1 := ((h.lv.mem e).1 he).2
      have h2 := (List.mem_filter.1 he').2
      simp only [decide_eq_true_eq] at h2
      omega
    · intro a ha
      rcases List.mem_cons.1 ha with rfl | ha
      · exact h.lv.msorted
      · rw [List.mem_singleton] at ha
        subst ha
        exact h.sorted.sublist List.filter_sublist
  rw [sk_eq, h1]
  unfold runs
  rw [fndL_cons, fndL_cons, fndL_one]
  cases fnd x.M k q with
  | some e => rfl
  | none => exact h.lv.view q hq k

theorem StoreAt.below {D F : Nat → Prop} {sb : Nat} {x : St} {w w' : World} (h : StoreAt D F sb x w) (hb : Below w.heap.size w w') : StoreAt D F sb x w' := by
  obtain ⟨vE, vL, vR, vS, hB, hs, hE, hT, hR, hS⟩ := h
  have k := Kd.of_below (D := D) (ts := []) hb
  exact ⟨vE, vL, vR, vS, hB, k.keep hs (by simp), k.ownsIn hE (by simp), hT.kd k (by simp) (by simp), k.ownsJ hR (by simp), k.ownsIn hS (by simp)⟩

/-- A store that a call upon other blocks leaves alone. -/
theorem StoreAt.apart {D F D' : Nat → Prop} {sb : Nat} {ts : List Nat} {x : St} {w w' : World} (h : StoreAt D F sb x w) (k : Kd D' ts w w') (hd : ∀ b, D b → b < w.heap.size → ¬ D' b) (hf : ∀ b, F b → b < w.heap.size → ¬ D' b) : StoreAt D F sb x w' := by
  obtain ⟨vE, vL, vR, vS, hB, hs, hE, ⟨Vs, hv, hT, hr⟩, hR, hS⟩ := h
  have f : ∀ {D0 : Nat → Prop} {e size v n xs}, (∀ b, D0 b → b < w.heap.size → ¬ D' b) → OwnsIn w D0 e size v n xs → OwnsIn w' D0 e size v n xs := fun hd ho => ⟨k.ownsN ho.own fun g hg => hd g (ho.dom g hg) (ho.own.lt g hg).2, ho.dom⟩
  exact ⟨vE, vL, vR, vS, hB, k.keepN hs (hd sb hB (lt_of_block hs)), f hd hE, ⟨Vs, hv, f hd hT, fun i t v ht hv => f hf (hr i t v ht hv)⟩, k.ownsJN hR hd, f hd hS⟩

theorem seqOf_seen {x : St} {n q : Int} (h : seqOf x.S x.last n = some q) (hl : x.la ≤ x.last) : x.la ≤ q ∨ ∃ s ∈ x.S, s.q = q := by
  unfold seqOf at h
  split at h
  · cases h; exact .inl hl
  · unfold snq at h
    obtain ⟨s, hs, rfl⟩ := Option.map_eq_some_iff.1 h
    exact .inr ⟨s, List.mem_of_find?_eq_some hs, rfl⟩

theorem scan_there {x : St} (h : StOk x) {f : ByteArray} {q : Int} {L : List Pr} {cur : Option ByteArray} (hq : x.la ≤ q ∨ ∃ s ∈ x.S, s.q = q) (hi : ScanInv (there x) f q L cur) : ScanInv x.E f q L cur := by
  have gh := h.gh
  have hsk : ∀ k, sk (there x) k q = sk x.E k q := fun k => by rw [← h.sees hq k, sk_eq, gh.fnd]
  have hsub := there_sub x
  refine ⟨hi.ord, fun p hp => ?_, fun e he hf hc y hy => ?_, fun c hc => ?_, ?_⟩
  · obtain ⟨a, b, c⟩ := hi.seen p hp
    exact ⟨a, by rw [← hsk]; exact b, c⟩
  · rw [← hsk] at hy
    have hy' := hy
    rw [sk_eq] at hy
    cases hfn : fnd (there x) e.k q with
    | none => rw [hfn] at hy; simp [skO] at hy
    | some e' =>
      obtain ⟨h1, h2, h3⟩ := fnd_some hfn
      have := hi.all e' h1 (by rw [h2]; exact hf) (fun c hc' => by rw [h2]; exact hc c hc') y (by rw [h2]; exact hy')
      rwa [h2] at this
  · obtain ⟨a, e, he, hk⟩ := hi.here c hc
    exact ⟨a, e, hsub.subset he, hk⟩
  · have h1 := hi.len
    cases cur with
    | none => simp only [cnt] at h1 ⊢; have := hsub.length_le; omega
    | some c =>
      simp only [cnt] at h1 ⊢
      have e1 := List.length_eq_countP_add_countP (fun e : En => decide (0 ≤ kc e.k c)) (l := there x)
      have e2 := List.length_eq_countP_add_countP (fun e : En => decide (0 ≤ kc e.k c)) (l := x.E)
      have e3 := hsub.countP_le (p := fun a : En => decide ¬(decide (0 ≤ kc a.k c) = true))
      omega

set_option maxHeartbeats 400000 in
theorem isKey_any (s : ByteArray) (w : World) (hs : s.size ≤ maxLen) :
    Calls Tryz.prog 57 #[.string s] w fun e w' => e = .returned (.bool (decide (1 ≤ s.size) && decide (s.size ≤ 6))) ∧ w' = w := by
  unfold maxLen at hs
  by_cases h1 : 1 ≤ s.size
  · have e : decide ((s.size : Int) ≤ 6) = (decide (1 ≤ s.size) && decide (s.size ≤ 6)) := by
      simp only [h1, decide_true, Bool.true_and, decide_eq_decide]; omega
    rw [← e]
    clear e
    go_enter Tryz.func57, Tryz.ntmps57
    go_wp2
    go_ret
    exact ⟨rfl, rfl⟩
  · simp only [h1, decide_false, Bool.false_and]
    go_enter Tryz.func57, Tryz.ntmps57
    go_wp2
    go_ret
    exact ⟨rfl, rfl⟩

theorem seenVal_skO (r : Option En) : seenVal r = skVal (skO r) := by
  cases r with
  | none => rfl
  | some e => simp only [seenVal, skO]; cases e.g <;> rfl

/-- What Get answers. -/
def getVal (x : St) (k : ByteArray) (n : Int) : Value :=
  if 1 ≤ k.size ∧ k.size ≤ 6 then
    match seqOf x.S x.last n with
    | none => .tuple #[.string ⟨#[]⟩, .int .i64 5]
    | some q => match sk x.E k q with
      | some v => .tuple #[.string v, .int .i64 0]
      | none => .tuple #[.string ⟨#[]⟩, .int .i64 6]
  else .tuple #[.string ⟨#[]⟩, .int .i64 1]

set_option maxHeartbeats 1000000 in
theorem get_any (x : St) (D F : Nat → Prop) (sb : Nat) (k : ByteArray) (n : Int) (w : World) (hx : StoreAt D F sb x w) (ok : StOk x) (hk : k.size ≤ maxLen) :
    Calls Tryz.prog 23 #[.pointer (some ⟨sb, 0, none⟩), .string k, .int .i64 n] w fun e w' => e = .returned (getVal x k n) ∧ Below w.heap.size w w' := by
  have hkey := isKey_any k w hk
  unfold getVal
  by_cases hkk : 1 ≤ k.size ∧ k.size ≤ 6
  · rw [if_pos hkk]
    simp only [hkk.1, hkk.2, decide_true, Bool.and_self] at hkey
    have HK : Hid _ := hkey
    clear hkey hk
    obtain ⟨vE, vL, vR, vS, hB, hs, hE, hT, hR, hS⟩ := id hx
    have c0 : w.cell? ⟨sb, 0, none⟩ = some vE := by simp [World.cell?, hs]
    have c1 : w.cell? ⟨sb, 1, none⟩ = some vL := by simp [World.cell?, hs]
    have c3 : w.cell? ⟨sb, 5, none⟩ = some vS := by simp [World.cell?, hs]
    have c5 : w.cell? ⟨sb, 7, none⟩ = some (.int .i64 x.last) := by simp [World.cell?, hs]
    have hq := seqAt_any x.S vS 0 sb n x.last w ok.snaps c3 c5 hS.own
    generalize hsq : seqOf x.S x.last n = r at hq
    have HQ : Hid _ := hq
    cases r with
    | none =>
      clear hx hs hE hT hR hS hq c0 c1 c3 c5
      simp only
      go_enter Tryz.func23, Tryz.ntmps23
      go_wp2_with fail
      refine Calls.mono HK.out ?_
      rintro e w0 ⟨rfl, rfl⟩
      go_wp2_with fail
      refine Calls.mono HQ.out ?_
      rintro e w1 ⟨rfl, hb⟩
      have HB : Hid (Below w0.heap.size w0 w1) := hb
      clear hb
      unfold seqVal
      go_wp2
      go_ret2
      exact ⟨rfl, HB.out⟩
    | some q =>
      simp only
      have hsn : ∀ w1, Below w.heap.size w w1 → Calls Tryz.prog 59 #[.pointer (some ⟨sb, 0, none⟩), .string k, .int .i64 q] w1 fun e w' => e = .returned (skVal (sk x.E k q)) ∧ Below w1.heap.size w1 w' := fun w1 hb => by
        rw [← ok.sees (seqOf_seen hsq ok.lv.la2) k, ← seenVal_skO]
        exact seen_any x.M x.T vE vL sb k q w1 (ok.lv.ok ok.sorted ok.few) (cell_later hb c0) ((enrow_of_owns hE.own).below hb) (cell_later hb c1) (hT.row.below hb)
      generalize sk x.E k q = r2 at hsn
      have HSN : Hid _ := hsn
      clear hx hs hE hT hR hS hq hsn c0 c1 c3 c5
      cases r2 with
      | none =>
        go_enter Tryz.func23, Tryz.ntmps23
        go_wp2_with fail
        refine Calls.mono HK.out ?_
        rintro e w0 ⟨rfl, rfl⟩
        go_wp2_with fail
        refine Calls.mono HQ.out ?_
        rintro e w1 ⟨rfl, hb⟩
        have HB : Hid (Below w0.heap.size w0 w1) := hb
        clear hb
        unfold seqVal
        go_wp2_with fail
        refine Calls.mono (HSN.out _ HB.out) ?_
        rintro e w2 ⟨rfl, hb⟩
        have HB2 : Hid (Below w0.heap.size w0 w2) := below_trans' HB.out hb
        clear hb
        unfold skVal
        go_wp2
        go_ret2
        exact ⟨rfl, HB2.out⟩
      | some v =>
        go_enter Tryz.func23, Tryz.ntmps23
        go_wp2_with fail
        refine Calls.mono HK.out ?_
        rintro e w0 ⟨rfl, rfl⟩
        go_wp2_with fail
        refine Calls.mono HQ.out ?_
        rintro e w1 ⟨rfl, hb⟩
        have HB : Hid (Below w0.heap.size w0 w1) := hb
        clear hb
        unfold seqVal
        go_wp2_with fail
        refine Calls.mono (HSN.out _ HB.out) ?_
        rintro e w2 ⟨rfl, hb⟩
        have HB2 : Hid (Below w0.heap.size w0 w2) := below_trans' HB.out hb
        clear hb
        unfold skVal
        go_wp2
        go_ret2
        exact ⟨rfl, HB2.out⟩
  · rw [if_neg hkk]
    have hf : (decide (1 ≤ k.size) && decide (k.size ≤ 6)) = false := by
      rw [Bool.and_eq_false_iff]
      by_cases h1 : 1 ≤ k.size
      · exact .inr (decide_eq_false_iff_not.2 fun h => hkk ⟨h1, h⟩)
      · exact .inl (decide_eq_false_iff_not.2 h1)
    rw [hf] at hkey
    have HK : Hid _ := hkey
    clear hkey hk hx
    go_enter Tryz.func23, Tryz.ntmps23
    go_wp2_with fail
    refine Calls.mono HK.out ?_
    rintro e w0 ⟨rfl, rfl⟩
    go_wp2
    go_ret2
    exact ⟨rfl, Below.refl _ _⟩

/-- What Scan answers. -/
def ScanAns (x : St) (f : ByteArray) (most n : Int) (w : World) (e : Ending) (w' : World) : Prop :=
  match seqOf x.S x.last n with
  | none => e = .returned (.tuple #[.slice none 0 0, .int .i64 5]) ∧ Below w.heap.size w w'
  | some q => if most < 0 then e = .returned (.tuple #[.slice none 0 0, .int .i64 4]) ∧ Below w.heap.size w w' else
      ∃ (vl : Value) (L : List Pr) (cur : Option ByteArray), e = .returned (.tuple #[vl, .int .i64 0]) ∧ w'.ownsRow w.heap.size 57 3 vl L.length (pcells L) ∧ Below w.heap.size w w' ∧ ScanInv x.E f q L cur ∧ (cur = none ∨ most ≤ L.length) ∧ L.length ≤ most

set_option maxHeartbeats 1000000 in
theorem scan_any (x : St) (D F : Nat → Prop) (sb : Nat) (f : ByteArray) (most n : Int) (w : World) (hx : StoreAt D F sb x w) (ok : StOk x) :
    Calls Tryz.prog 62 #[.pointer (some ⟨sb, 0, none⟩), .string f, .int .i64 most, .int .i64 n] w fun e w' => ScanAns x f most n w e w' := by
  obtain ⟨vE, vL, vR, vS, hB, hs, hE, hT, hR, hS⟩ := id hx
  have c0 : w.cell? ⟨sb, 0, none⟩ = some vE := by simp [World.cell?, hs]
  have c1 : w.cell? ⟨sb, 1, none⟩ = some vL := by simp [World.cell?, hs]
  have c3 : w.cell? ⟨sb, 5, none⟩ = some vS := by simp [World.cell?, hs]
  have c5 : w.cell? ⟨sb, 7, none⟩ = some (.int .i64 x.last) := by simp [World.cell?, hs]
  have hq := seqAt_any x.S vS 0 sb n x.last w ok.snaps c3 c5 hS.own
  unfold ScanAns
  generalize hsq : seqOf x.S x.last n = r at hq
  have HQ : Hid _ := hq
  cases r with
  | none =>
    clear hx hs hE hT hR hS hq c0 c1 c3 c5
    simp only
    go_enter Tryz.func62, Tryz.ntmps62
    go_wp2_with fail
    refine Calls.mono HQ.out ?_
    rintro e w1 ⟨rfl, hb⟩
    have HB : Hid (Below w.heap.size w w1) := hb
    clear hb
    unfold seqVal
    go_wp2
    go_ret2
    exact ⟨rfl, HB.out⟩
  | some q =>
    simp only
    by_cases hm : most < 0
    · simp only [hm, if_true]
      clear hx hs hE hT hR hS hq c0 c1 c3 c5
      go_enter Tryz.func62, Tryz.ntmps62
      go_wp2_with fail
      refine Calls.mono HQ.out ?_
      rintro e w1 ⟨rfl, hb⟩
      have HB : Hid (Below w.heap.size w w1) := hb
      clear hb
      unfold seqVal
      go_wp2
      go_ret2
      exact ⟨rfl, HB.out⟩
    · simp only [hm, if_false]
      have HSF : Hid (∀ w1, Below w.heap.size w w1 → Calls Tryz.prog 108 #[.pointer (some ⟨sb, 0, none⟩), .string f, .int .i64 most, .int .i64 q] w1 fun e w' => ScanPost x.E f most q w1 e w') := fun w1 hb =>
        (seenFrom_any (there x) x.M x.T vE vL sb f most q w1 ok.gh (ok.lv.ok ok.sorted ok.few) (cell_later hb c0) ((enrow_of_owns hE.own).below hb) (cell_later hb c1) (hT.row.below hb)).mono fun e w' ⟨vl, L, cur, h1, h2, h3, h4, h5⟩ => ⟨vl, L, cur, h1, h2, h3, scan_there ok (seqOf_seen hsq ok.lv.la2) h4, h5⟩
      clear hx hs hE hT hR hS hq c0 c1 c3 c5
      generalize hpost : (fun (e : Ending) (w' : World) => ∃ (vl : Value) (L : List Pr) (cur : Option ByteArray), e = .returned (.tuple #[vl, .int .i64 0]) ∧ w'.ownsRow w.heap.size 57 3 vl L.length (pcells L) ∧ Below w.heap.size w w' ∧ ScanInv x.E f q L cur ∧ (cur = none ∨ most ≤ L.length) ∧ L.length ≤ most) = PP
      have HPP : Hid _ := hpost
      clear hpost
      go_enter Tryz.func62, Tryz.ntmps62
      go_wp2_with fail
      refine Calls.mono HQ.out ?_
      rintro e w1 ⟨rfl, hb⟩
      have HB : Hid (Below w.heap.size w w1) := hb
      clear hb
      unfold seqVal
      go_wp2_with fail
      refine Calls.mono (HSF.out _ HB.out) ?_
      rintro e w2 ⟨vl, L, cur, rfl, ho, hb2, hI, hc, hlm⟩
      have R1 : Hid (w2.ownsRow w.heap.size 57 3 vl L.length (pcells L) ∧ Below w.heap.size w w2 ∧ ScanInv x.E f q L cur ∧ (cur = none ∨ most ≤ L.length) ∧ (L.length : Int) ≤ most) := ⟨owns_base ho HB.out.size, below_trans' HB.out hb2, hI, hc, hlm (by omega)⟩
      clear ho hb2 hI hc hlm
      go_wp2
      rw [← HPP.out]
      exact ⟨vl, L, cur, rfl, R1.out⟩
end Go.Proofs.YtakipjofboipmaaGreatDoor
