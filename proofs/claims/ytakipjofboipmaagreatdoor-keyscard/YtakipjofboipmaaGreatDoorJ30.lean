/- Plain mathematics of this proof: what a store is behind a call. -/
import Derived.Test.YtakipjofboipmaaGreatDoorJ29
import Derived.Test.YtakipjofboipmaaGreatDoorJ21
namespace Go.Proofs.YtakipjofboipmaaGreatDoor

theorem filter_ext {E E' : List En} (h : Sorted E) (h' : Sorted E') {p : En → Bool} (hm : ∀ e, p e = true → (e ∈ E ↔ e ∈ E')) : E.filter p = E'.filter p :=
  sorted_ext (h.sublist List.filter_sublist) (h'.sublist List.filter_sublist) fun e => by
    simp only [List.mem_filter]
    constructor
    · exact fun g => ⟨(hm e g.2).1 g.1, g.2⟩
    · exact fun g => ⟨(hm e g.2).2 g.1, g.2⟩

/-- Another batch is written. -/
theorem StOk.wr {x : St} (ok : StOk x) {b : List Pr} (bt : Bt b) (hl : x.last < 1100000000000) (hf : x.E.length + 4 < 4500000000000) : StOk (x.wr b) := by
  have hsE : Sorted (x.wr b).E := srt_new ok.sorted bt.up ok.slast
  have hmE : ∀ e, e ∈ (x.wr b).E ↔ e ∈ x.E ∨ e ∈ b.map (toEn (x.last + 1)) := fun e => by
    show e ∈ srt _ ↔ _; rw [srt_mem, List.mem_append]
  have hnew : ∀ e, e ∈ b.map (toEn (x.last + 1)) → e.s = x.last + 1 := fun e he => by
    obtain ⟨p, _, rfl⟩ := List.mem_map.1 he; rfl
  have hla := ok.lv.la2
  have h4 := bt.hi
  refine ⟨fun e he => ?_, hsE, ?_, fun e he => ?_, fun e he => ?_, ok.snaps, ?_⟩
  · rcases (hmE e).1 he with h | h
    · have := ok.slast e h; show e.s ≤ x.last + 1; omega
    · rw [hnew e h]; exact Int.le_refl _
  · show (srt _).length < _
    rw [srt_len, List.length_append, List.length_map]; omega
  · rcases (hmE e).1 he with h | h
    · exact ok.seqs e h
    · rw [hnew e h]; omega
  · rcases (hmE e).1 he with h | h
    · exact ok.keys e h
    · obtain ⟨p, hp, rfl⟩ := List.mem_map.1 h
      have := (bt.ok p hp).hi
      show p.k.size ≤ 1000; omega
  · have lv := ok.lv
    have hM : Sorted (x.wr b).M := srt_new lv.msorted bt.up fun e he => ok.slast e ((lv.mem e).1 he).1
    refine ⟨hM, fun e => ?_, fun t ht e he => ?_, lv.tsorted, lv.tne, lv.lay, lv.lev, lv.lev2, fun q hq k => ?_, lv.tfew, lv.la0, ?_, fun c hc => ?_, ?_, fun e => ?_⟩
    · show e ∈ srt _ ↔ _
      rw [srt_mem, List.mem_append, hmE, lv.mem]
      show _ ↔ _ ∧ x.la < e.s
      constructor
      · rintro (h | h)
        · exact ⟨.inl h.1, h.2⟩
        · exact ⟨.inr h, by rw [hnew e h]; omega⟩
      · rintro ⟨h | h, h2⟩
        · exact .inl ⟨h, h2⟩
        · exact .inr h
    · have := lv.tsub t ht e he
      exact ⟨(hmE e).2 (.inl this.1), this.2⟩
    · have e1 : (x.wr b).E.filter (fun e => decide (e.s ≤ x.la)) = x.E.filter fun e => decide (e.s ≤ x.la) := filter_ext hsE ok.sorted fun e he => by
        simp only [decide_eq_true_eq] at he
        rw [hmE]
        constructor
        · rintro (h | h)
          · exact h
          · rw [hnew e h] at he; omega
        · exact .inl
      show skO (fndL (x.T.map (·.2)) k q) = skO (fnd ((x.wr b).E.filter fun e => decide (e.s ≤ x.la)) k q)
      rw [e1]
      exact lv.view q hq k
    · have := lv.la1
      show x.last + 1 = x.la + ((x.B ++ [b]).length : Nat)
      rw [List.length_append]
      simp only [List.length_cons, List.length_nil]
      omega
    · rcases List.mem_append.1 hc with h | h
      · exact lv.bok c h
      · rw [List.mem_singleton] at h; subst h; exact bt
    · show x.sy ≤ (x.B ++ [b]).length
      have := lv.bsy
      rw [List.length_append]; omega
    · rw [hmE]
      show (_ ∧ x.la < e.s) ↔ ∃ (i : Nat) (c : List Pr) (p : Pr), (x.B ++ [b])[i]? = some c ∧ p ∈ c ∧ e = toEn (x.la + 1 + i) p
      have l1 := lv.la1
      constructor
      · rintro ⟨h | h, h2⟩
        · obtain ⟨i, c, p, hi, hp, he⟩ := (lv.bent e).1 ⟨h, h2⟩
          exact ⟨i, c, p, by rw [List.getElem?_append_left (List.getElem?_eq_some_iff.1 hi).1]; exact hi, hp, he⟩
        · obtain ⟨p, hp, rfl⟩ := List.mem_map.1 h
          exact ⟨x.B.length, b, p, by simp, hp, by congr 1; omega⟩
      · rintro ⟨i, c, p, hi, hp, rfl⟩
        refine ⟨?_, by show x.la < x.la + 1 + i; omega⟩
        by_cases hib : i < x.B.length
        · rw [List.getElem?_append_left hib] at hi
          exact .inl ((lv.bent _).2 ⟨i, c, p, hi, hp, rfl⟩).1
        · rw [List.getElem?_append_right (by omega)] at hi
          have hi0 : i - x.B.length = 0 := by
            have := (List.getElem?_eq_some_iff.1 hi).1
            simp at this; omega
          rw [hi0] at hi
          simp at hi
          subst hi
          refine .inr (List.mem_map.2 ⟨p, hp, ?_⟩)
          congr 1; omega

theorem StOk.syn {x : St} (ok : StOk x) : StOk x.syn := by
  have lv := ok.lv
  exact ⟨ok.slast, ok.sorted, ok.few, ok.seqs, ok.keys, ok.snaps, ⟨lv.msorted, lv.mem, lv.tsub, lv.tsorted, lv.tne, lv.lay, lv.lev, lv.lev2, lv.view, lv.tfew, lv.la0, lv.la1, lv.bok, Nat.le_refl _, lv.bent⟩⟩

theorem StOk.wrs {x : St} (ok : StOk x) {b : List Pr} (bt : Bt b) (hl : x.last < 1100000000000) (hf : x.E.length + 4 < 4500000000000) (sync : Bool) : StOk (x.wrs b sync) := by
  unfold St.wrs
  split
  · exact (ok.wr bt hl hf).syn
  · exact ok.wr bt hl hf

/-- Other snapshots, which see what is seen. -/
theorem StOk.snapsTo {x : St} (ok : StOk x) (S' : List Sn) (n : Int) (h4 : S'.length ≤ 4) (h : ∀ s ∈ S', x.la ≤ s.q ∨ s ∈ x.S) : StOk { x with S := S', lastSnap := n } := by
  have lv := ok.lv
  refine ⟨ok.slast, ok.sorted, ok.few, ok.seqs, ok.keys, h4, ⟨lv.msorted, lv.mem, lv.tsub, lv.tsorted, lv.tne, lv.lay, lv.lev, lv.lev2, fun q hq k => lv.view q ?_ k, lv.tfew, lv.la0, lv.la1, lv.bok, lv.bsy, lv.bent⟩⟩
  rcases hq with hq | ⟨s, hs, rfl⟩
  · exact .inl hq
  · rcases h s hs with h | h
    · exact .inl h
    · exact .inr ⟨s, h, rfl⟩

theorem StOk.drop {x : St} (ok : StOk x) (i : Nat) : StOk { x with S := x.S.eraseIdx i } :=
  ok.snapsTo _ x.lastSnap (Nat.le_trans (List.eraseIdx_sublist x.S i).length_le ok.snaps) fun _ hs => .inr ((List.eraseIdx_sublist x.S i).subset hs)

def St.Q (x : St) : List Int := x.S.map (·.q)

/-- What was written is laid down. -/
def St.fl (x : St) : St := { x with B := [], sy := 0, M := [], T := (0, ndAll x.Q false x.M) :: x.T, la := x.last }

theorem fnd_all {x : St} (ok : StOk x) (k : ByteArray) (q : Int) : fnd x.E k q = (fnd x.M k q).or (fnd (x.E.filter fun e => decide (e.s ≤ x.la)) k q) := by
  rw [← fndL_one (x.E.filter _), ← fndL_cons]
  refine fnd_layers ok.sorted (fun e => ?_) ?_ ?_ k q
  · simp only [List.mem_cons, List.not_mem_nil, or_false, exists_eq_or_imp, exists_eq_left, List.mem_filter, decide_eq_true_eq, ok.lv.mem]
    constructor
    · intro he
      by_cases hl : x.la < e.s
      · exact .inl ⟨he, hl⟩
      · exact .inr ⟨he, by omega⟩
    · rintro (g | g) <;> exact g.1
  · refine List.pairwise_cons.2 ⟨fun b hb e he e' he' _ => ?_, List.pairwise_singleton _ _⟩
    rw [List.mem_singleton] at hb
    subst hb
    have h1 := ((ok.lv.mem e).1 he).2
    have h2 := (List.mem_filter.1 he').2
    simp only [decide_eq_true_eq] at h2
    omega
  · intro a ha
    rcases List.mem_cons.1 ha with rfl | ha
    · exact ok.lv.msorted
    · rw [List.mem_singleton] at ha
      subst ha
      exact ok.sorted.sublist List.filter_sublist

theorem skO_or {a b c : Option En} (h : skO b = skO c) : skO (a.or b) = skO (a.or c) := by cases a <;> simp [h]

theorem M_ne {x : St} (ok : StOk x) (h : x.B ≠ []) : x.M ≠ [] := by
  intro hM
  obtain ⟨b, B, hB⟩ := List.exists_cons_of_ne_nil h
  have hb := ok.lv.bok b (by rw [hB]; exact List.mem_cons_self)
  obtain ⟨p, c, hp⟩ := List.exists_cons_of_ne_nil (l := b) (fun e => by have := hb.lo; rw [e] at this; simp at this)
  have := (ok.lv.bent (toEn (x.la + 1 + (0 : Nat)) p)).2 ⟨0, b, p, by rw [hB]; rfl, by rw [hp]; exact List.mem_cons_self, rfl⟩
  have := (ok.lv.mem _).2 this
  rw [hM] at this
  simp at this

theorem StOk.fl {x : St} (ok : StOk x) (h : x.B ≠ []) (hT : x.T.length + 1 < 4500000000000) : StOk x.fl := by
  have lv := ok.lv
  have hla := lv.la2
  have sub := ndAll_sub x.Q false x.M
  refine ⟨ok.slast, ok.sorted, ok.few, ok.seqs, ok.keys, ok.snaps, ⟨List.Pairwise.nil, fun e => ?_, fun t ht e he => ?_, fun t ht => ?_, fun t ht => ?_, ?_, ?_, fun t ht => ?_, fun q hq k => ?_, by simpa [St.fl] using hT, ?_, ?_, by simp [St.fl], Nat.zero_le _, fun e => ?_⟩⟩
  · show e ∈ [] ↔ e ∈ x.E ∧ x.last < e.s
    simp only [List.not_mem_nil, false_iff, not_and]
    intro he
    have := ok.slast e he
    omega
  · rcases List.mem_cons.1 ht with rfl | ht
    · have := (lv.mem e).1 (sub.subset he)
      exact ⟨this.1, ok.slast e this.1⟩
    · have := lv.tsub t ht e he
      exact ⟨this.1, by show e.s ≤ x.last; omega⟩
  · rcases List.mem_cons.1 ht with rfl | ht
    · exact lv.msorted.sublist sub
    · exact lv.tsorted t ht
  · rcases List.mem_cons.1 ht with rfl | ht
    · exact ndAll_ne _ (M_ne ok h)
    · exact lv.tne t ht
  · show LayX (_ :: _)
    refine List.pairwise_cons.2 ⟨fun b hb e he e' he' _ => ?_, lv.lay⟩
    obtain ⟨t, ht, rfl⟩ := List.mem_map.1 hb
    have h1 := ((lv.mem e).1 (sub.subset he)).2
    have h2 := (lv.tsub t ht e' he').2
    omega
  · refine List.pairwise_cons.2 ⟨fun b hb => ?_, lv.lev⟩
    have := (lv.lev2 b hb).1
    by_cases h0 : b.1 = 0
    · exact .inr ⟨rfl, h0⟩
    · exact .inl (by show (0 : Int) < b.1; omega)
  · rcases List.mem_cons.1 ht with rfl | ht
    · exact ⟨Int.le_refl _, by show (0 : Int) ≤ 2; omega⟩
    · exact lv.lev2 t ht
  · have hE : x.E.filter (fun e => decide (e.s ≤ x.last)) = x.E := List.filter_eq_self.2 fun e he => by simpa using ok.slast e he
    show skO (fndL (ndAll x.Q false x.M :: x.T.map (·.2)) k q) = skO (fnd (x.E.filter fun e => decide (e.s ≤ x.last)) k q)
    have hq' : x.last ≤ q ∨ ∃ s ∈ x.S, s.q = q := hq
    rw [hE, fnd_all ok, fndL_cons, ndAll_fnd x.Q lv.msorted]
    · refine skO_or (lv.view q ?_ k)
      rcases hq' with h | h
      · exact .inl (by omega)
      · exact .inr h
    · rcases hq' with h | ⟨s, hs, rfl⟩
      · exact .inr fun e he => by have := ok.slast e ((lv.mem e).1 he).1; omega
      · exact .inl (List.mem_map.2 ⟨s, hs, rfl⟩)
  · show 0 ≤ x.last
    have := lv.la0; omega
  · show x.last = x.last + (([] : List (List Pr)).length : Nat)
    simp
  · show (e ∈ x.E ∧ x.last < e.s) ↔ ∃ (i : Nat) (b : List Pr) (p : Pr), ([] : List (List Pr))[i]? = some b ∧ _
    constructor
    · rintro ⟨h1, h2⟩
      have := ok.slast e h1
      omega
    · rintro ⟨i, b, p, hi, _⟩
      simp at hi

/-- Where the tables of a level, and of those behind it, begin. -/
def stIdx (T : List Lb) (l : Int) : Nat := T.findIdx fun t => decide (l ≤ t.1)

theorem stIdx_le (T : List Lb) (l : Int) : stIdx T l ≤ T.length := List.findIdx_le_length

theorem st_below {T : List Lb} {l : Int} {t : Lb} (h : t ∈ T.take (stIdx T l)) : t.1 < l := by
  obtain ⟨j, hj, ht⟩ := mem_take_get.1 h
  obtain ⟨hjl, rfl⟩ := List.getElem?_eq_some_iff.1 ht
  have := List.not_of_lt_findIdx (p := fun t : Lb => decide (l ≤ t.1)) (xs := T) hj
  simpa using this

theorem lev_mono {T : List Lb} (h : T.Pairwise fun a b => a.1 < b.1 ∨ (a.1 = 0 ∧ b.1 = 0)) {i j : Nat} (hij : i ≤ j) (hj : j < T.length) : (T[i]'(by omega)).1 ≤ T[j].1 := by
  rcases Nat.eq_or_lt_of_le hij with rfl | hlt
  · exact Int.le_refl _
  · have := List.pairwise_iff_getElem.1 h i j (by omega) hj hlt
    omega

theorem st_above {T : List Lb} (h : T.Pairwise fun a b => a.1 < b.1 ∨ (a.1 = 0 ∧ b.1 = 0)) {l : Int} {t : Lb} (ht : t ∈ T.drop (stIdx T l)) : l ≤ t.1 := by
  obtain ⟨j, hj⟩ := List.mem_iff_getElem?.1 ht
  rw [List.getElem?_drop] at hj
  obtain ⟨hjl, rfl⟩ := List.getElem?_eq_some_iff.1 hj
  have hs : stIdx T l < T.length := by omega
  have h1 := List.findIdx_getElem (p := fun t : Lb => decide (l ≤ t.1)) (xs := T) (w := hs)
  simp only [decide_eq_true_eq] at h1
  exact Int.le_trans h1 (lev_mono h (Nat.le_add_right _ _) hjl)

theorem stIdx_mono {T : List Lb} {l m : Int} (h : l ≤ m) : stIdx T l ≤ stIdx T m := by
  refine Nat.le_of_not_lt fun hlt => ?_
  have hs : stIdx T m < T.length := Nat.lt_of_lt_of_le hlt (stIdx_le _ _)
  have h1 := List.findIdx_getElem (p := fun t : Lb => decide (m ≤ t.1)) (xs := T) (w := hs)
  have h2 := List.not_of_lt_findIdx (p := fun t : Lb => decide (l ≤ t.1)) (xs := T) hlt
  simp only [decide_eq_true_eq] at h1
  simp at h2
  have : T[stIdx T m].1 < l := h2
  have : m ≤ T[stIdx T m].1 := h1
  omega

/-- The tables of a level and of the next. -/
def St.mid (x : St) (l : Int) : List Lb := (x.T.drop (stIdx x.T l)).take (stIdx x.T (l + 2) - stIdx x.T l)
/-- All their entries, in order. -/
def St.mixed (x : St) (l : Int) : List En := srt ((x.mid l).flatMap (·.2))
/-- A table, if there is something in it. -/
def oneT (l : Int) : List En → List Lb
  | [] => []
  | e :: r => [(l, e :: r)]
/-- A level is merged into the next. -/
def St.mg (x : St) (l : Int) : St := { x with T := x.T.take (stIdx x.T l) ++ oneT (l + 1) (ndAll x.Q (l + 1 == 2) (x.mixed l)) ++ x.T.drop (stIdx x.T (l + 2)) }

theorem T_split (x : St) (l : Int) : x.T = x.T.take (stIdx x.T l) ++ x.mid l ++ x.T.drop (stIdx x.T (l + 2)) := by
  have h := stIdx_mono (T := x.T) (l := l) (m := l + 2) (by omega)
  unfold St.mid
  have e1 : (x.T.drop (stIdx x.T l)).drop (stIdx x.T (l + 2) - stIdx x.T l) = x.T.drop (stIdx x.T (l + 2)) := by
    rw [List.drop_drop]; congr 1; omega
  rw [← e1, List.append_assoc, List.take_append_drop, List.take_append_drop]

theorem mem_oneT {l : Int} {R : List En} {t : Lb} (h : t ∈ oneT l R) : t = (l, R) ∧ R ≠ [] := by
  cases R with
  | nil => simp [oneT] at h
  | cons e r => simp [oneT] at h; exact ⟨h, by simp⟩

theorem oneT_len (l : Int) (R : List En) : (oneT l R).length ≤ 1 := by cases R <;> simp [oneT]

theorem dist_flat {X : List (List En)} (hl : LayX X) (hs : ∀ a ∈ X, Sorted a) : DistE (X.flatMap id) := by
  induction X with
  | nil => simp [DistE]
  | cons a X ih =>
    obtain ⟨h1, h2⟩ := List.pairwise_cons.1 hl
    rw [List.flatMap_cons]
    refine List.pairwise_append.2 ⟨sorted_dist (hs a List.mem_cons_self), ih h2 (fun b hb => hs b (List.mem_cons_of_mem _ hb)), fun e he e' he' hh => ?_⟩
    obtain ⟨b, hb, hb'⟩ := List.mem_flatMap.1 he'
    have := h1 b hb e he e' hb' hh.1
    have := hh.2
    omega

theorem mid_mem {x : St} {l : Int} {t : Lb} (h : t ∈ x.mid l) : t ∈ x.T := List.mem_of_mem_drop (List.mem_of_mem_take h)

theorem mixed_mem {x : St} {l : Int} {e : En} : e ∈ x.mixed l ↔ ∃ t ∈ x.mid l, e ∈ t.2 := by
  unfold St.mixed
  rw [srt_mem, List.mem_flatMap]

theorem mixed_sorted {x : St} (ok : StOk x) (l : Int) : Sorted (x.mixed l) := by
  have hsub : (x.mid l).Sublist x.T := (List.take_sublist _ _).trans (List.drop_sublist _ _)
  have hd := dist_flat (X := (x.mid l).map (·.2)) (List.Pairwise.sublist (hsub.map (fun t : Lb => t.2)) ok.lv.lay) (fun a ha => by
    obtain ⟨t, ht, rfl⟩ := List.mem_map.1 ha
    exact ok.lv.tsorted t (hsub.subset ht))
  refine srt_sorted ?_
  rw [List.flatMap_map] at hd
  exact hd

theorem LayX_append {X Y : List (List En)} : LayX (X ++ Y) ↔ LayX X ∧ LayX Y ∧ ∀ a ∈ X, ∀ b ∈ Y, ∀ e ∈ a, ∀ e' ∈ b, e.k = e'.k → e'.s < e.s := by
  unfold LayX
  rw [List.pairwise_append]

theorem fndL_oneT (l : Int) (R : List En) (k : ByteArray) (q : Int) : fndL ((oneT l R).map (·.2)) k q = fnd R k q := by
  cases R with
  | nil => rfl
  | cons e r => exact fndL_one _ _ _

theorem StOk.mg {x : St} (ok : StOk x) {l : Int} (h0 : 0 ≤ l) (h2 : l < 2) : StOk (x.mg l) := by
  have lv := ok.lv
  have sub := ndAll_sub x.Q (l + 1 == 2) (x.mixed l)
  obtain ⟨R, hR⟩ : ∃ R, ndAll x.Q (l + 1 == 2) (x.mixed l) = R := ⟨_, rfl⟩
  have hRm : ∀ e ∈ R, ∃ t ∈ x.mid l, e ∈ t.2 := fun e he => mixed_mem.1 (sub.subset (by rw [hR]; exact he))
  have hRs : Sorted R := by rw [← hR]; exact (mixed_sorted ok l).sublist sub
  obtain ⟨T1, hT1⟩ : ∃ T1, x.T.take (stIdx x.T l) = T1 := ⟨_, rfl⟩
  obtain ⟨T2, hT2⟩ : ∃ T2, x.T.drop (stIdx x.T (l + 2)) = T2 := ⟨_, rfl⟩
  have hTx : x.T = T1 ++ x.mid l ++ T2 := by rw [← hT1, ← hT2]; exact T_split x l
  have hTm : (x.mg l).T = T1 ++ oneT (l + 1) R ++ T2 := by rw [← hT1, ← hT2, ← hR]; rfl
  have l1 : ∀ t ∈ T1, t.1 < l := fun t ht => st_below (by rw [hT1]; exact ht)
  have l2 : ∀ t ∈ T2, l + 2 ≤ t.1 := fun t ht => st_above lv.lev (by rw [hT2]; exact ht)
  have hold : ∀ t, t ∈ T1 ∨ t ∈ T2 → t ∈ x.T := fun t ht => by
    rw [hTx]; simp only [List.mem_append]; rcases ht with h | h
    · exact .inl (.inl h)
    · exact .inr h
  have hmem : ∀ t, t ∈ (x.mg l).T → (t ∈ T1 ∨ t ∈ T2) ∨ (t = (l + 1, R) ∧ R ≠ []) := fun t ht => by
    rw [hTm] at ht
    simp only [List.mem_append] at ht
    rcases ht with (h | h) | h
    · exact .inl (.inl h)
    · exact .inr (mem_oneT h)
    · exact .inl (.inr h)
  have hlay := lv.lay
  have hlev := lv.lev
  rw [hTx] at hlay hlev
  simp only [List.map_append] at hlay
  obtain ⟨hlA, hlT2, hl3⟩ := LayX_append.1 hlay
  obtain ⟨hlT1, hlMid, hl12⟩ := LayX_append.1 hlA
  obtain ⟨hvA, hvT2, hv3⟩ := List.pairwise_append.1 hlev
  obtain ⟨hvT1, hvMid, hv12⟩ := List.pairwise_append.1 hvA
  refine ⟨ok.slast, ok.sorted, ok.few, ok.seqs, ok.keys, ok.snaps, ⟨lv.msorted, lv.mem, fun t ht e he => ?_, fun t ht => ?_, fun t ht => ?_, ?_, ?_, fun t ht => ?_, fun q hq k => ?_, ?_, lv.la0, lv.la1, lv.bok, lv.bsy, lv.bent⟩⟩
  · rcases hmem t ht with h | ⟨rfl, _⟩
    · exact lv.tsub t (hold t h) e he
    · obtain ⟨t', ht', he'⟩ := hRm e he
      exact lv.tsub t' (mid_mem ht') e he'
  · rcases hmem t ht with h | ⟨rfl, _⟩
    · exact lv.tsorted t (hold t h)
    · exact hRs
  · rcases hmem t ht with h | ⟨rfl, h⟩
    · exact lv.tne t (hold t h)
    · exact h
  · show LayX ((x.mg l).T.map (·.2))
    rw [hTm]
    simp only [List.map_append]
    refine LayX_append.2 ⟨LayX_append.2 ⟨hlT1, ?_, fun a ha b hb e he e' he' hk => ?_⟩, hlT2, fun a ha b hb e he e' he' hk => ?_⟩
    · cases R with
      | nil => simp [oneT, LayX]
      | cons y ys => simp [oneT, LayX]
    · obtain ⟨t, ht, rfl⟩ := List.mem_map.1 hb
      obtain ⟨rfl, _⟩ := mem_oneT ht
      obtain ⟨t', ht', he2⟩ := hRm e' he'
      exact hl12 a ha t'.2 (List.mem_map.2 ⟨t', ht', rfl⟩) e he e' he2 hk
    · rcases List.mem_append.1 ha with ha | ha
      · exact hl3 a (List.mem_append_left _ ha) b hb e he e' he' hk
      · obtain ⟨t, ht, rfl⟩ := List.mem_map.1 ha
        obtain ⟨rfl, _⟩ := mem_oneT ht
        obtain ⟨t', ht', he2⟩ := hRm e he
        exact hl3 t'.2 (List.mem_append_right _ (List.mem_map.2 ⟨t', ht', rfl⟩)) b hb e he2 e' he' hk
  · show (x.mg l).T.Pairwise _
    rw [hTm]
    refine List.pairwise_append.2 ⟨List.pairwise_append.2 ⟨hvT1, ?_, fun a ha b hb => ?_⟩, hvT2, fun a ha b hb => ?_⟩
    · cases R with
      | nil => simp [oneT]
      | cons y ys => simp [oneT]
    · obtain ⟨rfl, _⟩ := mem_oneT hb
      have := l1 a ha
      exact .inl (by show a.1 < l + 1; omega)
    · have hb2 := l2 b hb
      rcases List.mem_append.1 ha with ha | ha
      · have := l1 a ha; exact .inl (by omega)
      · obtain ⟨rfl, _⟩ := mem_oneT ha
        exact .inl (by show l + 1 < b.1; omega)
  · rcases hmem t ht with h | ⟨rfl, _⟩
    · exact lv.lev2 t (hold t h)
    · exact ⟨by show 0 ≤ l + 1; omega, by show l + 1 ≤ 2; omega⟩
  · show skO (fndL ((x.mg l).T.map (·.2)) k q) = skO (fnd (x.E.filter fun e => decide (e.s ≤ x.la)) k q)
    have hv := lv.view q hq k
    rw [← hv, hTm]
    conv => rhs; rw [hTx]
    simp only [List.map_append, fndL_append, fndL_oneT]
    have hfm : fnd (x.mixed l) k q = fndL ((x.mid l).map (·.2)) k q := fnd_layers (mixed_sorted ok l) (fun e => by
        rw [mixed_mem]
        constructor
        · rintro ⟨t, ht, he⟩; exact ⟨t.2, List.mem_map.2 ⟨t, ht, rfl⟩, he⟩
        · rintro ⟨a, ha, he⟩
          obtain ⟨t, ht, rfl⟩ := List.mem_map.1 ha
          exact ⟨t, ht, he⟩) hlMid (fun a ha => by
        obtain ⟨t, ht, rfl⟩ := List.mem_map.1 ha
        exact lv.tsorted t (mid_mem ht)) k q
    have hat : At x.Q (x.mixed l) q := by
      rcases hq with h | ⟨s, hs, rfl⟩
      · refine .inr fun e he => ?_
        obtain ⟨t, ht, he'⟩ := mixed_mem.1 he
        have := (lv.tsub t (mid_mem ht) e he').2
        have : x.la ≤ q := h
        omega
      · exact .inl (List.mem_map.2 ⟨s, hs, rfl⟩)
    rw [← hfm, ← hR, Option.or_assoc, Option.or_assoc]
    by_cases hlast : l + 1 = 2
    · have hT20 : T2 = [] := by
        refine List.eq_nil_iff_forall_not_mem.2 fun t ht => ?_
        have := l2 t ht
        have := (lv.lev2 t (hold t (.inr ht))).2
        omega
      rw [hT20]
      refine skO_or ?_
      simp only [List.map_nil, fndL_nil, Option.or_none]
      exact ndAll_sk x.Q _ (mixed_sorted ok l) hat k
    · have hb : (l + 1 == 2) = false := by simp [hlast]
      rw [hb, ndAll_fnd x.Q (mixed_sorted ok l) hat k]
  · have h1 := lv.tfew
    have h2 : (x.mg l).T.length ≤ x.T.length := by
      rw [hTm]
      conv => rhs; rw [hTx]
      simp only [List.length_append]
      cases hR' : R with
      | nil => simp [oneT]
      | cons y ys =>
        obtain ⟨t, ht, _⟩ := hRm y (by rw [hR']; exact List.mem_cons_self)
        have := List.length_pos_of_mem ht
        have := oneT_len (l + 1) (y :: ys)
        omega
    omega
end Go.Proofs.YtakipjofboipmaaGreatDoor
