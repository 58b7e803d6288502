/- The walks of this proof: whether a snapshot sees from one number to another. -/
import Derived.Test.YtakipjofboipmaaGreatDoorJ3
import Derived.Test.YtakipjofboipmaaGreatDoorJ4
namespace Go.Proofs.YtakipjofboipmaaGreatDoor
open Go.RowKit Go.Sort

/-- A slice value that holds these numbers. -/
def IntRow (w : World) (v : Value) (Q : List Int) : Prop :=
  ∃ ao cap, v = .slice ao Q.length cap ∧ (0 < Q.length → ∃ g, ao = some ⟨g, 0, none⟩ ∧ Q.length ≤ cap ∧ ∀ (k : Nat) q, Q[k]? = some q → w.cell? ⟨g, k, none⟩ = some (.int .i64 q))

theorem IntRow.below {w w' : World} {v : Value} {Q : List Int} (h : IntRow w v Q) (hb : Below w.heap.size w w') : IntRow w' v Q := by
  obtain ⟨ao, cap, hv, h⟩ := h
  refine ⟨ao, cap, hv, fun hl => ?_⟩
  obtain ⟨g, hg, hc, h⟩ := h hl
  exact ⟨g, hg, hc, fun k q hq => cell_later hb (h k q hq)⟩

/-- Does one of these numbers lie from a to below b? -/
def inGap (Q : List Int) (a b : Int) : Bool := Q.any fun q => decide (a ≤ q) && decide (q < b)

set_option maxHeartbeats 400000 in
theorem within_any (a b q : Int) (pa pb : Nat) (w : World) (ha : w.cell? ⟨pa, 0, none⟩ = some (.int .i64 a)) (hb : w.cell? ⟨pb, 0, none⟩ = some (.int .i64 b)) :
    Calls Tryz.prog 274 #[.int .i64 q, .pointer (some ⟨pa, 0, none⟩), .pointer (some ⟨pb, 0, none⟩)] w fun e w' => e = .returned (.bool (decide (a ≤ q) && decide (q < b))) ∧ w' = w := by
  by_cases h : a ≤ q
  · simp only [h, decide_true, Bool.true_and]
    go_enter Tryz.func274, Tryz.ntmps274
    go_wp2
    go_ret
    exact ⟨rfl, rfl⟩
  · simp only [h, decide_false, Bool.false_and]
    go_enter Tryz.func274, Tryz.ntmps274
    go_wp2
    go_ret
    exact ⟨rfl, rfl⟩

set_option maxHeartbeats 1000000 in
theorem indexInt_any (Q : List Int) (v : Value) (a b : Int) (pa pb : Nat) (w : World) (h : IntRow w v Q) (h4 : Q.length ≤ 1000000) (ha : w.cell? ⟨pa, 0, none⟩ = some (.int .i64 a)) (hb : w.cell? ⟨pb, 0, none⟩ = some (.int .i64 b)) :
    Calls Tryz.prog 284 #[v, .func (.func 274) #[] #[.pointer (some ⟨pa, 0, none⟩), .pointer (some ⟨pb, 0, none⟩)]] w fun e w' => (∃ r : Int, e = .returned (.int .i64 r) ∧ decide (0 ≤ r) = inGap Q a b) ∧ w' = w := by
  obtain ⟨ao, cap, rfl, hrow⟩ := h
  have HR : Hid _ := hrow
  clear hrow
  go_enter Tryz.func284, Tryz.ntmps284
  go_wp2
  go_loopw [8] (fun i wr => ∃ k : Nat, k ≤ Q.length ∧ i = .int .i64 k ∧ wr = w ∧ Hid (∀ (j : Nat) q, j < k → Q[j]? = some q → (decide (a ≤ q) && decide (q < b)) = false)) (fun i _ => Q.length - (intOf i).toNat)
  case atStart => exact ⟨0, Nat.zero_le _, rfl, rfl, fun j q h => absurd h (Nat.not_lt_zero _)⟩
  case round =>
    obtain ⟨k, hk, rfl, rfl, HN⟩ := hrel
    by_cases hlt : k < Q.length
    · obtain ⟨g, rfl, hcap, hcell⟩ := HR.out (by omega)
      obtain ⟨q, hq⟩ : ∃ q, Q[k]? = some q := ⟨_, List.getElem?_eq_getElem hlt⟩
      have c0 := hcell k q hq
      have hw := within_any a b q pa pb wr ha hb
      by_cases hin : (decide (a ≤ q) && decide (q < b)) = true
      · rw [hin] at hw
        have HW : Hid _ := hw
        have HG : Hid (inGap Q a b = true) := List.any_eq_true.2 ⟨q, List.mem_of_getElem? hq, hin⟩
        clear hw hin hcell hq
        go_wp2_with (refine Calls.mono HW.out ?_; rintro e w2 ⟨rfl, rfl⟩)
        go_ret
        exact ⟨⟨_, rfl, by rw [HG.out]; simp⟩, rfl⟩
      · rw [Bool.not_eq_true] at hin
        rw [hin] at hw
        have HW : Hid _ := hw
        have HN2 : Hid (∀ (j : Nat) q, j < k + 1 → Q[j]? = some q → (decide (a ≤ q) && decide (q < b)) = false) := fun j q' hj hq' => by
          by_cases e : j = k
          · subst e; rw [hq] at hq'; cases hq'; exact hin
          · exact HN.out j q' (by omega) hq'
        clear hw hin hcell hq
        go_wp2_with (refine Calls.mono HW.out ?_; rintro e w2 ⟨rfl, rfl⟩)
        go_roundw
        case rel => exact ⟨k + 1, by omega, by go_num, by first | rfl | trivial, HN2⟩
        case measure => simp [intOf]; omega
    · obtain rfl : k = Q.length := by omega
      have HG : Hid (inGap Q a b = false) := List.any_eq_false.2 fun q hq => by
        obtain ⟨j, hj, rfl⟩ := List.getElem_of_mem hq
        rw [HN.out j _ hj (List.getElem?_eq_getElem hj)]
        simp
      go_wp2
      go_ret
      exact ⟨⟨_, rfl, by rw [HG.out]; simp⟩, rfl⟩

set_option maxHeartbeats 1000000 in
theorem containsInt_any (Q : List Int) (v : Value) (a b : Int) (pa pb : Nat) (w : World) (h : IntRow w v Q) (h4 : Q.length ≤ 1000000) (ha : w.cell? ⟨pa, 0, none⟩ = some (.int .i64 a)) (hb : w.cell? ⟨pb, 0, none⟩ = some (.int .i64 b)) :
    Calls Tryz.prog 273 #[v, .func (.func 274) #[] #[.pointer (some ⟨pa, 0, none⟩), .pointer (some ⟨pb, 0, none⟩)]] w fun e w' => e = .returned (.bool (inGap Q a b)) ∧ w' = w := by
  have hi := indexInt_any Q v a b pa pb w h h4 ha hb
  have HI : Hid _ := hi
  clear hi h
  go_enter Tryz.func273, Tryz.ntmps273
  go_wp2_with fail
  refine Calls.mono HI.out ?_
  rintro e w0 ⟨⟨r, rfl, hr⟩, rfl⟩
  have HR : Hid _ := hr
  clear hr
  go_wp2
  go_ret
  exact ⟨by rw [← HR.out]; rfl, rfl⟩

set_option maxHeartbeats 1000000 in
theorem hasWithin_any (Q : List Int) (v : Value) (a b : Int) (w : World) (h : IntRow w v Q) (h4 : Q.length ≤ 1000000) :
    Calls Tryz.prog 252 #[v, .int .i64 a, .int .i64 b] w fun e w' => e = .returned (.bool (inGap Q a b)) ∧ Below w.heap.size w w' := by
  have HC : Hid (∀ w1, Below w.heap.size w w1 → ∀ pa pb, w1.cell? ⟨pa, 0, none⟩ = some (.int .i64 a) → w1.cell? ⟨pb, 0, none⟩ = some (.int .i64 b) → Calls Tryz.prog 273 #[v, .func (.func 274) #[] #[.pointer (some ⟨pa, 0, none⟩), .pointer (some ⟨pb, 0, none⟩)]] w1 fun e w' => e = .returned (.bool (inGap Q a b)) ∧ w' = w1) := fun w1 hb pa pb ha hb' => containsInt_any Q v a b pa pb w1 (h.below hb) h4 ha hb'
  clear h
  have HB : Hid (Below w.heap.size w ((w.alloc (.cells #[.int .i64 a] 3)).alloc (.cells #[.int .i64 b] 3))) := ((Below.refl _ _).alloc (Nat.le_refl _) _).alloc (by simp) _
  go_enter Tryz.func252, Tryz.ntmps252
  go_wp2_with fail
  refine Calls.mono (HC.out _ HB.out _ _ (by simp) (by simp)) ?_
  rintro e w1 ⟨rfl, rfl⟩
  go_wp2
  go_ret
  exact ⟨rfl, HB.out⟩
end Go.Proofs.YtakipjofboipmaaGreatDoor

/- Plain mathematics of this proof: of one key's entries those that are needed. -/
namespace Go.Proofs.YtakipjofboipmaaGreatDoor

/-- Of one key's entries behind p, those that a snapshot sees. -/
def sbsT (Q : List Int) : En → List En → List En
  | _, [] => []
  | p, e :: r => (if inGap Q e.s p.s then [e] else []) ++ sbsT Q e r

/-- Of one key's entries the first, and those that a snapshot sees. -/
def sbs (Q : List Int) : List En → List En
  | [] => []
  | e :: r => e :: sbsT Q e r

theorem sbsT_snoc (Q : List Int) : ∀ (r : List En) (p a e : En), (p :: r).getLast? = some a → sbsT Q p (r ++ [e]) = sbsT Q p r ++ if inGap Q e.s a.s then [e] else []
  | [], p, a, e, h => by simp at h; subst h; simp [sbsT]
  | x :: r, p, a, e, h => by
    rw [List.getLast?_cons_cons] at h
    rw [List.cons_append, sbsT, sbsT, sbsT_snoc Q r x a e h, List.append_assoc]

theorem sbs_take (Q : List Int) (G : List En) (k : Nat) (a e : En) (ha : G[k]? = some a) (he : G[k + 1]? = some e) : sbs Q (G.take (k + 2)) = sbs Q (G.take (k + 1)) ++ if inGap Q e.s a.s then [e] else [] := by
  rw [List.take_add_one (i := k + 1), he]
  have h1 : (G.take (k + 1)).getLast? = some a := by
    rw [List.take_add_one, ha]; simp
  cases hg : G.take (k + 1) with
  | nil => rw [hg] at h1; simp at h1
  | cons p r =>
    rw [hg] at h1
    show sbs Q (p :: r ++ [e]) = _
    rw [List.cons_append, sbs, sbs, sbsT_snoc Q r p a e h1]
    rfl

theorem sbsT_sub (Q : List Int) : ∀ (p : En) (r : List En), (sbsT Q p r).Sublist r
  | _, [] => by simp [sbsT]
  | p, e :: r => by
    rw [sbsT]
    split
    · exact List.Sublist.cons_cons _ (sbsT_sub Q e r)
    · exact List.Sublist.cons _ (sbsT_sub Q e r)

theorem sbsT_len (Q : List Int) : ∀ (r : List En) (p : En), (p :: r).Pairwise (fun a b => b.s < a.s) → (sbsT Q p r).length ≤ (Q.filter fun q => decide (q < p.s)).length
  | [], _, _ => by simp [sbsT]
  | e :: r, p, h => by
    obtain ⟨h1, h2⟩ := List.pairwise_cons.1 h
    have ih := sbsT_len Q r e h2
    have hlt := h1 e (List.mem_cons_self ..)
    have hsub : (Q.filter fun q => decide (q < e.s)).length ≤ (Q.filter fun q => decide (q < p.s)).length := by
      rw [← List.countP_eq_length_filter, ← List.countP_eq_length_filter]
      exact List.countP_mono_left fun x _ hx => by simp at hx ⊢; omega
    rw [sbsT]
    cases hg : inGap Q e.s p.s with
    | false => simp; omega
    | true =>
      have : (Q.filter fun q => decide (q < e.s)).length + 1 ≤ (Q.filter fun q => decide (q < p.s)).length := by
        rw [← List.countP_eq_length_filter, ← List.countP_eq_length_filter]
        refine countP_less _ _ Q (fun x _ hx => by simp at hx ⊢; omega) ?_
        unfold inGap at hg
        obtain ⟨q, hq, hh⟩ := List.any_eq_true.1 hg
        simp at hh
        exact ⟨q, hq, by simp; omega, by simp; omega⟩
      simp; omega

theorem sbs_len (Q : List Int) (G : List En) (h : G.Pairwise (fun a b => b.s < a.s)) : (sbs Q G).length ≤ Q.length + 1 := by
  cases G with
  | nil => simp [sbs]
  | cons e r =>
    have := sbsT_len Q r e h
    have h2 := List.length_filter_le (fun q => decide (q < e.s)) Q
    simp [sbs]; omega

/-- Without the deletions at the end. -/
def dtg : List En → List En
  | [] => []
  | e :: r => match dtg r with
    | [] => if e.g then [] else [e]
    | y :: ys => e :: y :: ys

theorem dtg_snoc (e : En) : ∀ L : List En, dtg (L ++ [e]) = if e.g then dtg L else L ++ [e]
  | [] => by cases h : e.g <;> simp [dtg, h]
  | a :: L => by
    rw [List.cons_append, dtg, dtg_snoc e L]
    cases h : e.g with
    | false =>
      simp only [Bool.false_eq_true, if_false]
      cases L <;> rfl
    | true => simp only [if_true]; rw [dtg]

theorem dtg_take (L : List En) (m : Nat) (e : En) (h : L[m]? = some e) : dtg (L.take (m + 1)) = if e.g then dtg (L.take m) else L.take (m + 1) := by
  rw [List.take_add_one, h]
  exact dtg_snoc e _

theorem dtg_len : ∀ L : List En, (dtg L).length ≤ L.length
  | [] => by simp [dtg]
  | e :: r => by
    have := dtg_len r
    rw [dtg]
    split
    · split <;> simp
    · rename_i y ys h; rw [h] at this; simp at this ⊢; omega

/-- What is needed of one key's entries. -/
def ndOf (Q : List Int) (last : Bool) (G : List En) : List En := if last then dtg (sbs Q G) else sbs Q G

theorem ndOf_len (Q : List Int) (last : Bool) (G : List En) (h : G.Pairwise (fun a b => b.s < a.s)) : (ndOf Q last G).length ≤ Q.length + 1 := by
  have h1 := sbs_len Q G h
  unfold ndOf
  split
  · exact Nat.le_trans (dtg_len _) h1
  · exact h1

/-- From i on n entries of one key, and no more. -/
structure IsGrp (O : List En) (i n : Nat) : Prop where
  pos : 0 < n
  le : i + n ≤ O.length
  same : ∀ j a b, j < n → O[i]? = some a → O[i + j]? = some b → b.k = a.k
  more : ∀ a b, O[i]? = some a → O[i + n]? = some b → b.k ≠ a.k

/-- Groups from the head on up to i. -/
def Grps (O : List En) (xs : List (Nat × Nat)) (i : Nat) : Prop :=
  ∀ M : List (Nat × Nat) → Nat → Prop, M [] 0 → (∀ xs i n, M xs i → IsGrp O i n → M (xs ++ [(i, n)]) (i + n)) → M xs i
theorem Grps.nil {O : List En} : Grps O [] 0 := fun _ h _ => h
theorem Grps.snoc {O : List En} {xs : List (Nat × Nat)} {i n : Nat} (h : Grps O xs i) (g : IsGrp O i n) : Grps O (xs ++ [(i, n)]) (i + n) :=
  fun M h0 h1 => h1 _ _ _ (h M h0 h1) g

def grpOf (O : List En) (p : Nat × Nat) : List En := (O.drop p.1).take p.2

theorem Grps.len {O : List En} {xs : List (Nat × Nat)} {i : Nat} (h : Grps O xs i) : xs.length ≤ i ∧ i ≤ O.length := by
  refine h (fun xs i => xs.length ≤ i ∧ i ≤ O.length) ⟨Nat.le_refl _, Nat.zero_le _⟩ fun xs i n ih g => ?_
  have := g.pos
  have := g.le
  rw [List.length_append]
  simp
  omega

end Go.Proofs.YtakipjofboipmaaGreatDoor

/- Plain mathematics of this proof: one key's entries, the greatest number first. -/
namespace Go.Proofs.YtakipjofboipmaaGreatDoor

theorem grp_desc {O : List En} (hs : Sorted O) {i n : Nat} (g : ∀ j a b, j < n → O[i]? = some a → O[i + j]? = some b → b.k = a.k) : (grpOf O (i, n)).Pairwise (fun a b => b.s < a.s) := by
  have hsub : (grpOf O (i, n)).Sublist O := (List.take_sublist _ _).trans (List.drop_sublist _ _)
  have hso : Sorted (grpOf O (i, n)) := hs.sublist hsub
  refine List.pairwise_iff_getElem.2 fun p q hp hq hpq => ?_
  have := sorted_lt hso hpq hq
  unfold elt at this
  rw [oc_lt] at this
  have get : ∀ j (hj : j < (grpOf O (i, n)).length), O[i + j]? = some (grpOf O (i, n))[j] ∧ j < n := fun j hj => by
    have h2 : (grpOf O (i, n))[j]? = some (grpOf O (i, n))[j] := List.getElem?_eq_getElem hj
    have hjn : j < n := by
      have : (grpOf O (i, n)).length ≤ n := by unfold grpOf; simp; omega
      omega
    refine ⟨?_, hjn⟩
    rw [← h2]
    unfold grpOf
    rw [List.getElem?_take_of_lt hjn, List.getElem?_drop]
  obtain ⟨g1, l1⟩ := get p hp
  obtain ⟨g2, l2⟩ := get q hq
  have hi : i < O.length := by have := (List.getElem?_eq_some_iff.1 g1).1; omega
  obtain ⟨a, ha⟩ : ∃ a, O[i]? = some a := ⟨_, List.getElem?_eq_getElem hi⟩
  have e1 := g p a _ l1 ha g1
  have e2 := g q a _ l2 ha g2
  rcases this with h | h
  · rw [e1, e2, kc_self] at h; omega
  · exact h.2

end Go.Proofs.YtakipjofboipmaaGreatDoor

/- Plain mathematics of this proof: what is needed of a whole run, and what is seen of it. -/
namespace Go.Proofs.YtakipjofboipmaaGreatDoor

/-- What is needed of a run, key by key. -/
def ndF (Q : List Int) (last : Bool) : Nat → List En → List En
  | 0, _ => []
  | _ + 1, [] => []
  | n + 1, e :: r => ndOf Q last (e :: r.takeWhile fun x => decide (x.k = e.k)) ++ ndF Q last n (r.dropWhile fun x => decide (x.k = e.k))
def ndAll (Q : List Int) (last : Bool) (l : List En) : List En := ndF Q last l.length l

theorem ndF_len (Q : List Int) (last : Bool) : ∀ (n m : Nat) (l : List En), l.length ≤ n → l.length ≤ m → ndF Q last n l = ndF Q last m l
  | 0, 0, _, _, _ => rfl
  | 0, _ + 1, [], _, _ => rfl
  | 0, _ + 1, _ :: _, h, _ => by simp at h
  | _ + 1, 0, [], _, _ => rfl
  | _ + 1, 0, _ :: _, _, h => by simp at h
  | _ + 1, _ + 1, [], _, _ => rfl
  | n + 1, m + 1, e :: r, h1, h2 => by
    have := (List.dropWhile_sublist (fun x : En => decide (x.k = e.k)) (l := r)).length_le
    simp only [List.length_cons] at h1 h2
    show _ ++ ndF Q last n _ = _ ++ ndF Q last m _
    rw [ndF_len Q last n m _ (by omega) (by omega)]

theorem ndAll_nil (Q : List Int) (last : Bool) : ndAll Q last [] = [] := rfl
theorem ndAll_cons (Q : List Int) (last : Bool) (e : En) (r : List En) : ndAll Q last (e :: r) = ndOf Q last (e :: r.takeWhile fun x => decide (x.k = e.k)) ++ ndAll Q last (r.dropWhile fun x => decide (x.k = e.k)) := by
  have := (List.dropWhile_sublist (fun x : En => decide (x.k = e.k)) (l := r)).length_le
  show _ ++ ndF Q last r.length _ = _ ++ ndF Q last _ _
  rw [ndF_len Q last _ _ _ this (Nat.le_refl _)]
theorem ndAll_ind {M : List En → Prop} (case1 : M []) (case2 : ∀ e r, M (r.dropWhile fun x => decide (x.k = e.k)) → M (e :: r)) (O : List En) : M O := by
  suffices h : ∀ n (l : List En), l.length ≤ n → M l from h _ O (Nat.le_refl _)
  intro n
  induction n with
  | zero => intro l hl; cases l with
    | nil => exact case1
    | cons e r => simp at hl
  | succ n ih => intro l hl; cases l with
    | nil => exact case1
    | cons e r =>
      have := (List.dropWhile_sublist (fun x : En => decide (x.k = e.k)) (l := r)).length_le
      simp only [List.length_cons] at hl
      exact case2 e r (ih _ (by omega))

theorem takeWhile_take {α : Type} (p : α → Bool) : ∀ (l : List α) (n : Nat), (∀ x ∈ l.take n, p x = true) → (∀ x, l[n]? = some x → p x = false) → n ≤ l.length → l.takeWhile p = l.take n ∧ l.dropWhile p = l.drop n
  | [], n, _, _, h => by simp at h; subst h; simp
  | a :: l, 0, _, h, _ => by
    have := h a rfl
    simp [this]
  | a :: l, n + 1, h1, h2, hn => by
    have ha := h1 a (by simp)
    have ih := takeWhile_take p l n (fun x hx => h1 x (by simp [hx])) (fun x hx => h2 x (by simpa using hx)) (by simpa using hn)
    simp [ha, ih.1, ih.2]

theorem ndAll_grp (Q : List Int) (last : Bool) {O : List En} {i n : Nat} (g : IsGrp O i n) : ndAll Q last (O.drop i) = ndOf Q last (grpOf O (i, n)) ++ ndAll Q last (O.drop (i + n)) := by
  have hp := g.pos
  have hl := g.le
  obtain ⟨m, rfl⟩ : ∃ m, n = m + 1 := ⟨n - 1, by omega⟩
  have hd : O.drop i = O[i] :: O.drop (i + 1) := List.drop_eq_getElem_cons (by omega)
  have h := takeWhile_take (fun x : En => decide (x.k = O[i].k)) (O.drop (i + 1)) m (fun x hx => by
      obtain ⟨j, hj⟩ := List.mem_iff_getElem?.1 hx
      have hjm : j < m := by
        have := (List.getElem?_eq_some_iff.1 hj).1
        simp at this; omega
      rw [List.getElem?_take_of_lt hjm, List.getElem?_drop] at hj
      simp only [decide_eq_true_eq]
      exact g.same (j + 1) O[i] x (by omega) (List.getElem?_eq_getElem (by omega)) (by rw [← hj]; congr 1; omega)) (fun x hx => by
      rw [List.getElem?_drop] at hx
      simp only [decide_eq_false_iff_not]
      exact g.more O[i] x (List.getElem?_eq_getElem (by omega)) (by rw [← hx]; congr 1; omega)) (by simp; omega)
  rw [hd, ndAll_cons, h.1, h.2, List.drop_drop]
  have e1 : O[i] :: (O.drop (i + 1)).take m = grpOf O (i, m + 1) := by
    show _ = (O.drop i).take (m + 1)
    rw [hd, List.take_succ_cons]
  rw [e1]
  congr 2
  congr 1
  omega

theorem ndAll_grps (Q : List Int) (last : Bool) {O : List En} {xs : List (Nat × Nat)} {i : Nat} (h : Grps O xs i) : (xs.flatMap fun p => ndOf Q last (grpOf O p)) ++ ndAll Q last (O.drop i) = ndAll Q last O := by
  refine h (fun xs i => (xs.flatMap fun p => ndOf Q last (grpOf O p)) ++ ndAll Q last (O.drop i) = ndAll Q last O) (by simp) fun xs i n ih g => ?_
  rw [List.flatMap_append, List.append_assoc]
  simp only [List.flatMap_cons, List.flatMap_nil, List.append_nil]
  rw [← ndAll_grp Q last g]
  exact ih

theorem ndAll_all (Q : List Int) (last : Bool) {O : List En} {xs : List (Nat × Nat)} (h : Grps O xs O.length) : (xs.flatMap fun p => ndOf Q last (grpOf O p)) = ndAll Q last O := by
  have := ndAll_grps Q last h
  rwa [List.drop_length, ndAll_nil, List.append_nil] at this

theorem dtg_sub : ∀ L : List En, (dtg L).Sublist L
  | [] => by simp [dtg]
  | e :: r => by
    have ih := dtg_sub r
    rw [dtg]
    split
    · split
      · exact List.nil_sublist _
      · exact List.Sublist.cons_cons _ (List.nil_sublist _)
    · rename_i y ys h
      rw [h] at ih
      exact List.Sublist.cons_cons _ ih

theorem ndOf_sub (Q : List Int) (last : Bool) (G : List En) : (ndOf Q last G).Sublist G := by
  have h : (sbs Q G).Sublist G := by
    cases G with
    | nil => simp [sbs]
    | cons e r => exact List.Sublist.cons_cons _ (sbsT_sub Q e r)
  unfold ndOf
  split
  · exact (dtg_sub _).trans h
  · exact h

theorem ndAll_sub (Q : List Int) (last : Bool) (O : List En) : (ndAll Q last O).Sublist O := by
  induction O using ndAll_ind with
  | case1 => simp [ndAll_nil]
  | case2 e r ih =>
    rw [ndAll_cons]
    have h1 := ndOf_sub Q last (e :: r.takeWhile fun x => decide (x.k = e.k))
    have h2 := h1.append ih
    rwa [List.cons_append, List.takeWhile_append_dropWhile] at h2

theorem ndAll_ne (Q : List Int) {O : List En} (h : O ≠ []) : ndAll Q false O ≠ [] := by
  cases O with
  | nil => exact absurd rfl h
  | cons e r => rw [ndAll_cons]; simp [ndOf, sbs]

/-- At these numbers it is seen: those of snapshots, and those above all. -/
def At (Q : List Int) (O : List En) (q : Int) : Prop := q ∈ Q ∨ ∀ e ∈ O, e.s ≤ q

/-- The first of descending numbers that is not above q. -/
def fst (G : List En) (q : Int) : Option En := G.find? fun e => decide (e.s ≤ q)

theorem sbsT_fst (Q : List Int) {q : Int} (hq : q ∈ Q) : ∀ (r : List En) (p : En), (p :: r).Pairwise (fun a b => b.s < a.s) → q < p.s → fst (sbsT Q p r) q = fst r q
  | [], _, _, _ => rfl
  | e :: r, p, h, hp => by
    obtain ⟨h1, h2⟩ := List.pairwise_cons.1 h
    unfold fst at *
    rw [sbsT]
    by_cases he : e.s ≤ q
    · have hg : inGap Q e.s p.s = true := by
        unfold inGap
        exact List.any_eq_true.2 ⟨q, hq, by simp; omega⟩
      simp [hg, he]
    · have ih := sbsT_fst Q hq r e h2 (by omega)
      unfold fst at ih
      by_cases hg : inGap Q e.s p.s
      · simp [hg, he, ih]
      · simp [hg, he, ih]

theorem sbs_fst (Q : List Int) {G : List En} (h : G.Pairwise (fun a b => b.s < a.s)) {q : Int} (hq : At Q G q) : fst (sbs Q G) q = fst G q := by
  cases G with
  | nil => rfl
  | cons e r =>
    by_cases he : e.s ≤ q
    · simp [sbs, fst, he]
    · rcases hq with hq | hq
      · have := sbsT_fst Q hq r e h (by omega)
        unfold fst at this ⊢
        simp [sbs, he, this]
      · exact absurd (hq e List.mem_cons_self) he

theorem dtg_fst : ∀ {G : List En} (_ : G.Pairwise (fun a b => b.s < a.s)) (q : Int), skO (fst (dtg G) q) = skO (fst G q)
  | [], _, _ => rfl
  | e :: r, h, q => by
    obtain ⟨h1, h2⟩ := List.pairwise_cons.1 h
    have ih := dtg_fst h2 q
    rw [dtg]
    split
    · rename_i hd
      rw [hd] at ih
      by_cases he : e.s ≤ q
      · by_cases hg : e.g
        · simp [fst, he, hg, skO]
        · simp [fst, he, hg]
      · have e1 : fst (e :: r) q = fst r q := by simp [fst, he]
        rw [e1, ← ih]
        split
        · rfl
        · simp [fst, he]
    · rename_i y ys hd
      rw [← hd]
      by_cases he : e.s ≤ q
      · simp [fst, he]
      · have e1 : fst (e :: r) q = fst r q := by simp [fst, he]
        have e2 : fst (e :: dtg r) q = fst (dtg r) q := by simp [fst, he]
        rw [e1, e2, ih]

theorem find_congr {α : Type} {p q : α → Bool} : ∀ {l : List α}, (∀ x ∈ l, p x = q x) → l.find? p = l.find? q
  | [], _ => rfl
  | a :: l, h => by
    rw [List.find?_cons, List.find?_cons, h a List.mem_cons_self, find_congr fun x hx => h x (List.mem_cons_of_mem _ hx)]

theorem fnd_grp {G r : List En} {k : ByteArray} (hG : ∀ e ∈ G, e.k = k) (hr : ∀ e ∈ r, e.k ≠ k) (k' : ByteArray) (q : Int) : fnd (G ++ r) k' q = if k' = k then fst G q else fnd r k' q := by
  unfold fnd fst
  rw [List.find?_append]
  by_cases h : k' = k
  · subst h
    have e1 : G.find? (fun e => decide (e.k = k' ∧ e.s ≤ q)) = G.find? fun e => decide (e.s ≤ q) := by
      exact find_congr fun x hx => by simp [hG x hx]
    have e2 : r.find? (fun e => decide (e.k = k' ∧ e.s ≤ q)) = none := List.find?_eq_none.2 fun x hx => by simp [hr x hx]
    rw [e1, e2, if_pos rfl, Option.or_none]
  · have e1 : G.find? (fun e => decide (e.k = k' ∧ e.s ≤ q)) = none := List.find?_eq_none.2 fun x hx => by
      have := hG x hx
      simp only [decide_eq_true_eq, not_and]
      intro e; exact absurd (e.symm.trans this) h
    rw [e1, if_neg h, Option.none_or]

theorem sorted_split {e : En} {r : List En} (hs : Sorted (e :: r)) :
    (∀ x ∈ e :: r.takeWhile (fun x => decide (x.k = e.k)), x.k = e.k) ∧ (∀ x ∈ r.dropWhile (fun x => decide (x.k = e.k)), x.k ≠ e.k) ∧
    (e :: r.takeWhile (fun x => decide (x.k = e.k))).Pairwise (fun a b => b.s < a.s) ∧ Sorted (r.dropWhile fun x => decide (x.k = e.k)) := by
  obtain ⟨h1, h2⟩ := List.pairwise_cons.1 hs
  have hk : ∀ x ∈ e :: r.takeWhile (fun x => decide (x.k = e.k)), x.k = e.k := fun x hx => by
    rcases List.mem_cons.1 hx with rfl | hx
    · rfl
    · simpa using List.all_eq_true.1 (List.all_takeWhile (p := fun x => decide (x.k = e.k)) (l := r)) x hx
  refine ⟨hk, ?_, ?_, h2.sublist (List.dropWhile_sublist _)⟩
  · have hsd : Sorted (r.dropWhile fun x => decide (x.k = e.k)) := h2.sublist (List.dropWhile_sublist _)
    have hhd : ∀ x, (r.dropWhile fun x => decide (x.k = e.k)).head? = some x → x.k ≠ e.k := fun x hx => by
      have := List.head?_dropWhile_not (p := fun x => decide (x.k = e.k)) (l := r)
      rw [hx] at this
      simpa using this
    intro x hx hxk
    cases hd : r.dropWhile fun x => decide (x.k = e.k) with
    | nil => rw [hd] at hx; simp at hx
    | cons y ys =>
      have hy := hhd y (by rw [hd]; rfl)
      rw [hd] at hx hsd
      rcases List.mem_cons.1 hx with rfl | hx
      · exact hy hxk
      · have hyx := (List.pairwise_cons.1 hsd).1 x hx
        have hey := h1 y ((List.dropWhile_sublist _).subset (by rw [hd]; exact List.mem_cons_self))
        unfold elt at hyx hey
        rw [oc_lt] at hyx hey
        rw [hxk] at hyx
        have hn := kc_neg e.k y.k
        rcases hyx with g | g
        · rcases hey with g2 | g2
          · omega
          · exact hy g2.1.symm
        · exact hy g.1
  · have hso : Sorted (e :: r.takeWhile fun x => decide (x.k = e.k)) := hs.sublist (List.Sublist.cons_cons _ (List.takeWhile_sublist _))
    refine (List.Pairwise.and_mem.1 hso).imp fun {a b} h => ?_
    obtain ⟨ha, hb, hab⟩ := h
    unfold elt at hab
    rw [oc_lt, hk a ha, hk b hb, kc_self] at hab
    rcases hab with g | g
    · omega
    · exact g.2

/-- What is seen of what is needed. -/
theorem ndAll_fnd (Q : List Int) {O : List En} (hs : Sorted O) {q : Int} (hq : At Q O q) (k : ByteArray) : fnd (ndAll Q false O) k q = fnd O k q := by
  induction O using ndAll_ind with
  | case1 => simp [ndAll_nil]
  | case2 e r ih =>
    obtain ⟨h1, h2, h3, h4⟩ := sorted_split hs
    have ih' := ih h4 (hq.imp id fun h x hx => h x (List.mem_cons_of_mem _ ((List.dropWhile_sublist _).subset hx)))
    rw [ndAll_cons]
    have e0 : e :: r = (e :: r.takeWhile fun x => decide (x.k = e.k)) ++ r.dropWhile fun x => decide (x.k = e.k) := by
      rw [List.cons_append, List.takeWhile_append_dropWhile]
    conv => rhs; rw [e0]
    rw [fnd_grp (fun x hx => h1 x ((ndOf_sub _ _ _).subset hx)) (fun x hx => h2 x ((ndAll_sub _ _ _).subset hx)), fnd_grp h1 h2, ih']
    have : fst (ndOf Q false (e :: r.takeWhile fun x => decide (x.k = e.k))) q = fst (e :: r.takeWhile fun x => decide (x.k = e.k)) q := by
      unfold ndOf
      simp only [Bool.false_eq_true, if_false]
      exact sbs_fst Q h3 (hq.imp id fun h x hx => h x (by rw [e0]; exact List.mem_append_left _ hx))
    rw [this]

theorem sbs_desc (Q : List Int) {G : List En} (h : G.Pairwise (fun a b => b.s < a.s)) : (sbs Q G).Pairwise (fun a b => b.s < a.s) := by
  refine h.sublist ?_
  cases G with
  | nil => simp [sbs]
  | cons e r => exact List.Sublist.cons_cons _ (sbsT_sub Q e r)

theorem ndAll_sk (Q : List Int) (last : Bool) {O : List En} (hs : Sorted O) {q : Int} (hq : At Q O q) (k : ByteArray) : skO (fnd (ndAll Q last O) k q) = skO (fnd O k q) := by
  cases last with
  | false => rw [ndAll_fnd Q hs hq]
  | true =>
    induction O using ndAll_ind with
    | case1 => simp [ndAll_nil]
    | case2 e r ih =>
      obtain ⟨h1, h2, h3, h4⟩ := sorted_split hs
      have ih' := ih h4 (hq.imp id fun h x hx => h x (List.mem_cons_of_mem _ ((List.dropWhile_sublist _).subset hx)))
      rw [ndAll_cons]
      have e0 : e :: r = (e :: r.takeWhile fun x => decide (x.k = e.k)) ++ r.dropWhile fun x => decide (x.k = e.k) := by
        rw [List.cons_append, List.takeWhile_append_dropWhile]
      conv => rhs; rw [e0]
      rw [fnd_grp (fun x hx => h1 x ((ndOf_sub _ _ _).subset hx)) (fun x hx => h2 x ((ndAll_sub _ _ _).subset hx)), fnd_grp h1 h2]
      split
      · unfold ndOf
        simp only [if_true]
        rw [dtg_fst (sbs_desc Q h3), sbs_fst Q h3 (hq.imp id fun h x hx => h x (by rw [e0]; exact List.mem_append_left _ hx))]
      · exact ih'

end Go.Proofs.YtakipjofboipmaaGreatDoor
