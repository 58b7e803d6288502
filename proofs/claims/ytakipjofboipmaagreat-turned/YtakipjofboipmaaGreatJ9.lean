/- The walks of this proof: slices.Insert of one table, wherever; slices.Delete of tables. -/
import Derived.Test.YtakipjofboipmaaGreatJ8
import Derived.Test.YtakipjofboipmaaGreatJ5
import Derived.Test.YtakipjofboipmaaGreatJ1
import Derived.Test.YtakipjofboipmaaGreatJ7
namespace Go.Proofs.YtakipjofboipmaaGreat
open Go.RowKit Go.Sort

/-- slices.Insert of one table. -/
theorem insert_any (D : Nat → Prop) (v : Value) (n i : Nat) (xs : List Value) (a b : Value) (vb : Nat) (w : World) (ho : OwnsIn w D 169 2 v n xs) (hD : Opn D w) (hx1 : ∀ u ∈ xs, u.oneCell' = true) (hv : w.heap[vb]? = some (.cells #[a, b] 169 (0, 0))) (h1 : a.oneCell' = true ∧ b.oneCell' = true) (hne : v.ownBlock ≠ some vb) (hin : i ≤ n) (hn : n < 1000000000) :
    Calls Tryz.prog 93 #[v, .int .i64 i, .slice (some ⟨vb, 0, none⟩) 1 1] w fun e w' => InsPost D n i xs a b w e w' := by
  by_cases hlt : i < n
  · rcases ho.own.2 with ⟨_, h0⟩ | ⟨g, cap, cur, rfl, hb, hg, hnc, hcm, hcs, hx⟩
    · omega
    · have hDg : D g := ho.dom g rfl
      have hvg : vb ≠ g := fun e => hne (by rw [e]; rfl)
      by_cases hr : n + 1 ≤ cap
      · refine (insert_room g n cap i xs cur a b vb w hg hcs hx hx1 hv h1 hvg hlt hr hn).mono ?_
        rintro e w' ⟨rfl, cur', hs', ht', hg', hgr⟩
        have hxl := ho.own.1
        refine ⟨_, rfl, ⟨⟨?_, .inr ⟨g, cap, cur', rfl, Nat.zero_le _, hg', hr, hcm, by rw [hs', hcs], ht'⟩⟩, fun g' e => by simp only [Value.ownBlock, Option.some.injEq] at e; subst e; exact hDg⟩, ⟨hgr.os, hgr.tape, hgr.output, hgr.size, fun k hk hor => hgr.block k hk (fun e => ?_)⟩⟩
        · simp only [List.length_append, List.length_take, List.length_drop, hxl, List.length_cons, List.length_nil]; omega
        · obtain rfl : k = g := Option.some.inj e
          rcases hor with h | h
          · exact h hDg
          · exact h _ _ _ hg (by simp)
      · obtain rfl : cap = n := by omega
        have hxc : cur.toList = xs := by rw [← hx, List.take_of_length_le (by rw [Array.length_toList, hcs]; exact Nat.le_refl _)]
        refine (insert_grow g cap i xs cur a b vb w hg hcs hxc hx1 hv h1 hlt hn).mono ?_
        rintro e w' ⟨C, rfl, ho', hb'⟩
        exact ⟨_, rfl, OwnsIn.fresh ho' hD (Nat.le_refl _), Kd.of_below hb'⟩
  · obtain rfl : i = n := by omega
    exact insert_end D v i xs a b vb w ho hD hv h1 hn

def DelPost2 (g cap i j n : Nat) (cur : Array Value) (w : World) (e : Ending) (w' : World) : Prop :=
  e = .returned (.slice (some ⟨g, 0, none⟩) (i + (n - j)) cap) ∧ w.grownBy w' (some g) ∧ ∃ cur' : Array Value, w'.heap[g]? = some (.cells cur' 169 (0, 0)) ∧ cur'.size = cur.size ∧ cur'.toList.take ((i + (n - j)) * 2) = cur.toList.take (i * 2) ++ (cur.toList.drop (j * 2)).take ((n - j) * 2)

set_option maxHeartbeats 2000000 in
set_option maxRecDepth 100000 in
theorem delete2_any (g cap i j n : Nat) (cur : Array Value) (w : World) (hg : w.heap[g]? = some (.cells cur 169 (0, 0))) (hij : i < j) (hjn : j ≤ n) (hc : n ≤ cap) (hs : cur.size = cap * 2) (hn : n < 1000000000) (h1c : ∀ u ∈ cur.toList.take (n * 2), u.oneCell' = true) :
    Calls Tryz.prog 97 #[.slice (some ⟨g, 0, none⟩) n cap, .int .i64 i, .int .i64 j] w fun e w' => DelPost2 g cap i j n cur w e w' := by
  obtain ⟨i0, hi, hz0, hz1, hz2⟩ := info_parts Tryz.info169
  have hcl : cur.toList.length = cap * 2 := by rw [Array.length_toList, hs]
  obtain ⟨m, hm⟩ : ∃ m, n - j = m := ⟨_, rfl⟩
  obtain ⟨d, hd⟩ : ∃ d, j - i = d + 1 := ⟨j - i - 1, by omega⟩
  obtain ⟨news, hnews⟩ : ∃ news, (cur.toList.drop (j * 2)).take (m * 2) = news := ⟨_, rfl⟩
  have hnl : news.length = m * 2 := by rw [← hnews]; simp only [List.length_take, List.length_drop, hcl]; omega
  have hn1 : Hid (∀ u ∈ news, u.oneCell' = true) := fun u hu => h1c u (by
    rw [← hnews, show m * 2 = n * 2 - j * 2 by omega, ← List.drop_take] at hu
    exact List.mem_of_mem_drop hu)
  have hcel : Hid (∀ k u, news[k]? = some u → w.cell? ((⟨g, j * 2, none⟩ : Addr).add k) = some u) := by
    rw [← hnews]; exact row_part hg _ _
  obtain ⟨row1, hrow⟩ : ∃ row1, (cur.toList.take (i * 2) ++ news ++ cur.toList.drop (i * 2 + news.length)).toArray = row1 := ⟨_, rfl⟩
  have hr1 : (w.drew.setRow g row1).heap[g]? = some (.cells row1 169 (0, 0)) := setRow_heap w.drew g cur _ 169 _ hg
  have hrs : row1.size = cap * 2 := by
    rw [← hrow]
    simp only [List.size_toArray, List.length_append, List.length_take, List.length_drop, hcl, hnl]
    omega
  obtain ⟨zs, hzs⟩ : ∃ zs, (Builtin.zeroCells (Value.agg #[.slice none 0 0, .int .i64 0]).cells (d + 1)).toList = zs := ⟨_, rfl⟩
  have hzl : zs.length = (d + 1) * 2 := by rw [← hzs]; exact zeros_len _
  have hz1c : ∀ u ∈ zs, u.oneCell' = true := fun u hu => by
    rw [← hzs] at hu
    simp only [Builtin.zeroCells, Value.cells, Array.toList_map, List.mem_map] at hu
    obtain ⟨k, _, rfl⟩ := hu
    show (#[Value.slice none 0 0, Value.int .i64 0] : Array Value)[k % 2]!.oneCell' = true
    rcases Nat.mod_two_eq_zero_or_one k with h | h <;> rw [h] <;> rfl
  obtain ⟨row2, hrow2⟩ : ∃ row2, (row1.toList.take ((i + m) * 2) ++ zs ++ row1.toList.drop ((i + m) * 2 + zs.length)).toArray = row2 := ⟨_, rfl⟩
  have hclr : ∀ c, (Builtin.clear_ #[109] 0 #[.slice (some ⟨g, (i + m) * 2, none⟩) (d + 1) c]).run Tryz.prog (w.drew.setRow g row1) = .ok (.tuple #[]) ((w.drew.setRow g row1).setRow g row2) := fun c => by
    rw [← hrow2]
    exact run_clear_row (w.drew.setRow g row1) 109 0 169 _ Tryz.underlying109 (by simp [zeroValue, typeInfo, hi, hz0]) g ((i + m) * 2) d c row1 hr1 zs hzs (by rw [hzl, hrs]; omega) hz1c
  have FIN : Hid (DelPost2 g cap i j n cur w (.returned (.slice (some ⟨g, 0, none⟩) (i + m) cap)) ((w.drew.setRow g row1).setRow g row2)) := by
    refine ⟨by rw [hm], ⟨rfl, rfl, rfl, by simp, fun k _ hk => ?_⟩, row2, setRow_heap _ g row1 _ 169 _ hr1, ?_, ?_⟩
    · have hk' : k ≠ g := fun e => hk (by rw [e])
      rw [setRow_other _ _ _ _ hk', setRow_other _ _ _ _ hk']
      rfl
    · rw [← hrow2]
      simp only [List.size_toArray, List.length_append, List.length_take, List.length_drop, Array.length_toList, hs, hrs, hzl]
      omega
    · rw [hm, hnews, ← hrow2]
      show List.take _ (_ ++ _ ++ _) = _
      rw [List.append_assoc, List.take_left' (by simp only [List.length_take, Array.length_toList, hrs]; omega), ← hrow]
      show List.take _ (_ ++ _ ++ _) = _
      rw [List.take_left' (by simp only [List.length_append, List.length_take, hcl, hnl]; omega)]
  have HG : Hid (w.heap[g]? = some (.cells cur 169 (0, 0))) := hg
  have HS : Hid (cur.size = cap * 2) := hs
  have HR1 : Hid _ := hrow
  have HNL : Hid (news.length = m * 2) := hnl
  have hne : ((i : Int) == (j : Int)) = false := by simp; omega
  have hij2 : i ≤ j := by omega
  have hin : i ≤ n := by omega
  have hic : i ≤ cap := by omega
  have hlen : i + (n - j) ≤ n := by omega
  have hsub : n - (i + (n - j)) = d + 1 := by omega
  have hci : ¬ cap = i + (n - j) := by omega
  have hcm1 : (i : Int) + ((n - j : Nat) : Int) ≤ (n : Int) := by omega
  have HN0 : Hid (m = 0 → news = []) := fun h => List.eq_nil_of_length_eq_zero (by rw [hnl, h])
  have HM : Hid (n - j = m) := hm
  have HX : Hid (i + (n - j) = i + m) := (by rw [hm] : i + (n - j) = i + m)
  clear hg hnews hs h1c hrow hnl hr1 hrs hzs hzl hz1c hrow2 hcl
  by_cases hce : cap = j
  · have hjn2 : n = j := by omega
    have hm0 : m = 0 := by omega
    subst hce
    subst hjn2
    have hn0 := HN0.out hm0
    subst hm0
    subst hn0
    have hij3 : (i : Int) ≤ (n : Int) := by omega
    simp only [Nat.sub_self, Nat.add_zero] at hlen hsub hci hcm1 hclr FIN
    go_enter Tryz.func97, Tryz.ntmps97
    go_wp2
    go_region_law (refine step_append_row rfl (.tmp 22) (.tmp 25) 109 rfl 169 i0 2 Tryz.underlying109 hi hz1 g i n (by simp [Act.eval, Act.put]) ⟨g, 0, none⟩ 0 0 [] (by simp [Act.eval, Act.put]) cur (by exact HG.out) rfl (by simp) (by simp) (by omega) (by rw [HS.out]; simp; omega) ?_; rw [HR1.out])
    go_wp2
    go_ret
    exact FIN.out
  · obtain rfl := HM.out
    clear HX HM hm
    go_enter Tryz.func97, Tryz.ntmps97
    go_wp2
    go_region_law (refine step_append_row rfl (.tmp 22) (.tmp 25) 109 rfl 169 i0 2 Tryz.underlying109 hi hz1 g i cap (by simp [Act.eval, Act.put]) ⟨g, j * 2, none⟩ (n - j) (cap - j) news (by simp [Act.eval, Act.put]) cur (by exact HG.out) HNL.out (by exact hcel.out) hn1.out (by omega) (by rw [HS.out, HNL.out]; omega) ?_; rw [HR1.out])
    go_wp2
    go_ret
    exact FIN.out
end Go.Proofs.YtakipjofboipmaaGreat

/- The walks of this proof: whether a snapshot sees from one number to another. -/
namespace Go.Proofs.YtakipjofboipmaaGreat
open Go.RowKit Go.Sort

/-- A slice value that holds these numbers. -/
def IntRow (w : World) (v : Value) (Q : List Int) : Prop :=
  ∃ ao cap, v = .slice ao Q.length cap ∧ (0 < Q.length → ∃ g, ao = some ⟨g, 0, none⟩ ∧ Q.length ≤ cap ∧ ∀ (k : Nat) q, Q[k]? = some q → w.cell? ⟨g, k, none⟩ = some (.int .i64 q))

theorem IntRow.below {w w' : World} {v : Value} {Q : List Int} (h : IntRow w v Q) (hb : Below w.heap.size w w') : IntRow w' v Q := by
  obtain ⟨ao, cap, hv, h⟩ := h
  refine ⟨ao, cap, hv, fun hl => ?_⟩
  obtain ⟨g, hg, hc, h⟩ := h hl
  exact ⟨g, hg, hc, fun k q hq => cell_later hb (h k q hq)⟩

/-- Does one of these numbers lie from a to below b? -/
def inGap (Q : List Int) (a b : Int) : Bool := Q.any fun q => decide (a ≤ q) && decide (q < b)

set_option maxHeartbeats 400000 in
theorem within_any (a b q : Int) (pa pb : Nat) (w : World) (ha : w.cell? ⟨pa, 0, none⟩ = some (.int .i64 a)) (hb : w.cell? ⟨pb, 0, none⟩ = some (.int .i64 b)) :
    Calls Tryz.prog 225 #[.int .i64 q, .pointer (some ⟨pa, 0, none⟩), .pointer (some ⟨pb, 0, none⟩)] w fun e w' => e = .returned (.bool (decide (a ≤ q) && decide (q < b))) ∧ w' = w := by
  by_cases h : a ≤ q
  · simp only [h, decide_true, Bool.true_and]
    go_enter Tryz.func225, Tryz.ntmps225
    go_wp2
    go_ret
    exact ⟨rfl, rfl⟩
  · simp only [h, decide_false, Bool.false_and]
    go_enter Tryz.func225, Tryz.ntmps225
    go_wp2
    go_ret
    exact ⟨rfl, rfl⟩

set_option maxHeartbeats 1000000 in
theorem indexInt_any (Q : List Int) (v : Value) (a b : Int) (pa pb : Nat) (w : World) (h : IntRow w v Q) (h4 : Q.length ≤ 1000000) (ha : w.cell? ⟨pa, 0, none⟩ = some (.int .i64 a)) (hb : w.cell? ⟨pb, 0, none⟩ = some (.int .i64 b)) :
    Calls Tryz.prog 243 #[v, .func (.func 225) #[] #[.pointer (some ⟨pa, 0, none⟩), .pointer (some ⟨pb, 0, none⟩)]] w fun e w' => (∃ r : Int, e = .returned (.int .i64 r) ∧ decide (0 ≤ r) = inGap Q a b) ∧ w' = w := by
  obtain ⟨ao, cap, rfl, hrow⟩ := h
  have HR : Hid _ := hrow
  clear hrow
  go_enter Tryz.func243, Tryz.ntmps243
  go_wp2
  go_loopw [8] (fun i wr => ∃ k : Nat, k ≤ Q.length ∧ i = .int .i64 k ∧ wr = w ∧ Hid (∀ (j : Nat) q, j < k → Q[j]? = some q → (decide (a ≤ q) && decide (q < b)) = false)) (fun i _ => Q.length - (intOf i).toNat)
  case atStart => exact ⟨0, Nat.zero_le _, rfl, rfl, fun j q h => absurd h (Nat.not_lt_zero _)⟩
  case round =>
    obtain ⟨k, hk, rfl, rfl, HN⟩ := hrel
    by_cases hlt : k < Q.length
    · obtain ⟨g, rfl, hcap, hcell⟩ := HR.out (by omega)
      obtain ⟨q, hq⟩ : ∃ q, Q[k]? = some q := ⟨_, List.getElem?_eq_getElem hlt⟩
      have c0 := hcell k q hq
      have hw := within_any a b q pa pb wr ha hb
      by_cases hin : (decide (a ≤ q) && decide (q < b)) = true
      · rw [hin] at hw
        have HW : Hid _ := hw
        have HG : Hid (inGap Q a b = true) := List.any_eq_true.2 ⟨q, List.mem_of_getElem? hq, hin⟩
        clear hw hin hcell hq
        go_wp2_with (refine Calls.mono HW.out ?_; rintro e w2 ⟨rfl, rfl⟩)
        go_ret
        exact ⟨⟨_, rfl, by rw [HG.out]; simp⟩, rfl⟩
      · rw [Bool.not_eq_true] at hin
        rw [hin] at hw
        have HW : Hid _ := hw
        have HN2 : Hid (∀ (j : Nat) q, j < k + 1 → Q[j]? = some q → (decide (a ≤ q) && decide (q < b)) = false) := fun j q' hj hq' => by
          by_cases e : j = k
          · subst e; rw [hq] at hq'; cases hq'; exact hin
          · exact HN.out j q' (by omega) hq'
        clear hw hin hcell hq
        go_wp2_with (refine Calls.mono HW.out ?_; rintro e w2 ⟨rfl, rfl⟩)
        go_roundw
        case rel => exact ⟨k + 1, by omega, by go_num, by first | rfl | trivial, HN2⟩
        case measure => simp [intOf]; omega
    · obtain rfl : k = Q.length := by omega
      have HG : Hid (inGap Q a b = false) := List.any_eq_false.2 fun q hq => by
        obtain ⟨j, hj, rfl⟩ := List.getElem_of_mem hq
        rw [HN.out j _ hj (List.getElem?_eq_getElem hj)]
        simp
      go_wp2
      go_ret
      exact ⟨⟨_, rfl, by rw [HG.out]; simp⟩, rfl⟩

set_option maxHeartbeats 1000000 in
theorem containsInt_any (Q : List Int) (v : Value) (a b : Int) (pa pb : Nat) (w : World) (h : IntRow w v Q) (h4 : Q.length ≤ 1000000) (ha : w.cell? ⟨pa, 0, none⟩ = some (.int .i64 a)) (hb : w.cell? ⟨pb, 0, none⟩ = some (.int .i64 b)) :
    Calls Tryz.prog 224 #[v, .func (.func 225) #[] #[.pointer (some ⟨pa, 0, none⟩), .pointer (some ⟨pb, 0, none⟩)]] w fun e w' => e = .returned (.bool (inGap Q a b)) ∧ w' = w := by
  have hi := indexInt_any Q v a b pa pb w h h4 ha hb
  have HI : Hid _ := hi
  clear hi h
  go_enter Tryz.func224, Tryz.ntmps224
  go_wp2_with fail
  refine Calls.mono HI.out ?_
  rintro e w0 ⟨⟨r, rfl, hr⟩, rfl⟩
  have HR : Hid _ := hr
  clear hr
  go_wp2
  go_ret
  exact ⟨by rw [← HR.out]; rfl, rfl⟩

set_option maxHeartbeats 1000000 in
theorem hasWithin_any (Q : List Int) (v : Value) (a b : Int) (w : World) (h : IntRow w v Q) (h4 : Q.length ≤ 1000000) :
    Calls Tryz.prog 207 #[v, .int .i64 a, .int .i64 b] w fun e w' => e = .returned (.bool (inGap Q a b)) ∧ Below w.heap.size w w' := by
  have HC : Hid (∀ w1, Below w.heap.size w w1 → ∀ pa pb, w1.cell? ⟨pa, 0, none⟩ = some (.int .i64 a) → w1.cell? ⟨pb, 0, none⟩ = some (.int .i64 b) → Calls Tryz.prog 224 #[v, .func (.func 225) #[] #[.pointer (some ⟨pa, 0, none⟩), .pointer (some ⟨pb, 0, none⟩)]] w1 fun e w' => e = .returned (.bool (inGap Q a b)) ∧ w' = w1) := fun w1 hb pa pb ha hb' => containsInt_any Q v a b pa pb w1 (h.below hb) h4 ha hb'
  clear h
  have HB : Hid (Below w.heap.size w ((w.alloc (.cells #[.int .i64 a] 3)).alloc (.cells #[.int .i64 b] 3))) := ((Below.refl _ _).alloc (Nat.le_refl _) _).alloc (by simp) _
  go_enter Tryz.func207, Tryz.ntmps207
  go_wp2_with fail
  refine Calls.mono (HC.out _ HB.out _ _ (by simp) (by simp)) ?_
  rintro e w1 ⟨rfl, rfl⟩
  go_wp2
  go_ret
  exact ⟨rfl, HB.out⟩
end Go.Proofs.YtakipjofboipmaaGreat

/- Plain mathematics of this proof: of one key's entries those that are needed. -/
namespace Go.Proofs.YtakipjofboipmaaGreat

/-- Of one key's entries behind p, those that a snapshot sees. -/
def sbsT (Q : List Int) : En → List En → List En
  | _, [] => []
  | p, e :: r => (if inGap Q e.s p.s then [e] else []) ++ sbsT Q e r

/-- Of one key's entries the first, and those that a snapshot sees. -/
def sbs (Q : List Int) : List En → List En
  | [] => []
  | e :: r => e :: sbsT Q e r

theorem sbsT_snoc (Q : List Int) : ∀ (r : List En) (p a e : En), (p :: r).getLast? = some a → sbsT Q p (r ++ [e]) = sbsT Q p r ++ if inGap Q e.s a.s then [e] else []
  | [], p, a, e, h => by simp at h; subst h; simp [sbsT]
  | x :: r, p, a, e, h => by
    rw [List.getLast?_cons_cons] at h
    rw [List.cons_append, sbsT, sbsT, sbsT_snoc Q r x a e h, List.append_assoc]

theorem sbs_take (Q : List Int) (G : List En) (k : Nat) (a e : En) (ha : G[k]? = some a) (he : G[k + 1]? = some e) : sbs Q (G.take (k + 2)) = sbs Q (G.take (k + 1)) ++ if inGap Q e.s a.s then [e] else [] := by
  rw [List.take_add_one (i := k + 1), he]
  have h1 : (G.take (k + 1)).getLast? = some a := by
    rw [List.take_add_one, ha]; simp
  cases hg : G.take (k + 1) with
  | nil => rw [hg] at h1; simp at h1
  | cons p r =>
    rw [hg] at h1
    show sbs Q (p :: r ++ [e]) = _
    rw [List.cons_append, sbs, sbs, sbsT_snoc Q r p a e h1]
    rfl

theorem sbsT_sub (Q : List Int) : ∀ (p : En) (r : List En), (sbsT Q p r).Sublist r
  | _, [] => by simp [sbsT]
  | p, e :: r => by
    rw [sbsT]
    split
    · exact List.Sublist.cons_cons _ (sbsT_sub Q e r)
    · exact List.Sublist.cons _ (sbsT_sub Q e r)

theorem sbsT_len (Q : List Int) : ∀ (r : List En) (p : En), (p :: r).Pairwise (fun a b => b.s < a.s) → (sbsT Q p r).length ≤ (Q.filter fun q => decide (q < p.s)).length
  | [], _, _ => by simp [sbsT]
  | e :: r, p, h => by
    obtain ⟨h1, h2⟩ := List.pairwise_cons.1 h
    have ih := sbsT_len Q r e h2
    have hlt := h1 e (List.mem_cons_self ..)
    have hsub : (Q.filter fun q => decide (q < e.s)).length ≤ (Q.filter fun q => decide (q < p.s)).length := by
      rw [← List.countP_eq_length_filter, ← List.countP_eq_length_filter]
      exact List.countP_mono_left fun x _ hx => by simp at hx ⊢; omega
    rw [sbsT]
    cases hg : inGap Q e.s p.s with
    | false => simp; omega
    | true =>
      have : (Q.filter fun q => decide (q < e.s)).length + 1 ≤ (Q.filter fun q => decide (q < p.s)).length := by
        rw [← List.countP_eq_length_filter, ← List.countP_eq_length_filter]
        refine countP_less _ _ Q (fun x _ hx => by simp at hx ⊢; omega) ?_
        unfold inGap at hg
        obtain ⟨q, hq, hh⟩ := List.any_eq_true.1 hg
        simp at hh
        exact ⟨q, hq, by simp; omega, by simp; omega⟩
      simp; omega

theorem sbs_len (Q : List Int) (G : List En) (h : G.Pairwise (fun a b => b.s < a.s)) : (sbs Q G).length ≤ Q.length + 1 := by
  cases G with
  | nil => simp [sbs]
  | cons e r =>
    have := sbsT_len Q r e h
    have h2 := List.length_filter_le (fun q => decide (q < e.s)) Q
    simp [sbs]; omega

/-- Without the deletions at the end. -/
def dtg : List En → List En
  | [] => []
  | e :: r => match dtg r with
    | [] => if e.g then [] else [e]
    | y :: ys => e :: y :: ys

theorem dtg_snoc (e : En) : ∀ L : List En, dtg (L ++ [e]) = if e.g then dtg L else L ++ [e]
  | [] => by cases h : e.g <;> simp [dtg, h]
  | a :: L => by
    rw [List.cons_append, dtg, dtg_snoc e L]
    cases h : e.g with
    | false =>
      simp only [Bool.false_eq_true, if_false]
      cases L <;> rfl
    | true => simp only [if_true]; rw [dtg]

theorem dtg_take (L : List En) (m : Nat) (e : En) (h : L[m]? = some e) : dtg (L.take (m + 1)) = if e.g then dtg (L.take m) else L.take (m + 1) := by
  rw [List.take_add_one, h]
  exact dtg_snoc e _

theorem dtg_len : ∀ L : List En, (dtg L).length ≤ L.length
  | [] => by simp [dtg]
  | e :: r => by
    have := dtg_len r
    rw [dtg]
    split
    · split <;> simp
    · rename_i y ys h; rw [h] at this; simp at this ⊢; omega

/-- What is needed of one key's entries. -/
def ndOf (Q : List Int) (last : Bool) (G : List En) : List En := if last then dtg (sbs Q G) else sbs Q G

theorem ndOf_len (Q : List Int) (last : Bool) (G : List En) (h : G.Pairwise (fun a b => b.s < a.s)) : (ndOf Q last G).length ≤ Q.length + 1 := by
  have h1 := sbs_len Q G h
  unfold ndOf
  split
  · exact Nat.le_trans (dtg_len _) h1
  · exact h1

/-- From i on n entries of one key, and no more. -/
structure IsGrp (O : List En) (i n : Nat) : Prop where
  pos : 0 < n
  le : i + n ≤ O.length
  same : ∀ j a b, j < n → O[i]? = some a → O[i + j]? = some b → b.k = a.k
  more : ∀ a b, O[i]? = some a → O[i + n]? = some b → b.k ≠ a.k

/-- Groups from the head on up to i. -/
def Grps (O : List En) (xs : List (Nat × Nat)) (i : Nat) : Prop :=
  ∀ M : List (Nat × Nat) → Nat → Prop, M [] 0 → (∀ xs i n, M xs i → IsGrp O i n → M (xs ++ [(i, n)]) (i + n)) → M xs i
theorem Grps.nil {O : List En} : Grps O [] 0 := fun _ h _ => h
theorem Grps.snoc {O : List En} {xs : List (Nat × Nat)} {i n : Nat} (h : Grps O xs i) (g : IsGrp O i n) : Grps O (xs ++ [(i, n)]) (i + n) :=
  fun M h0 h1 => h1 _ _ _ (h M h0 h1) g

def grpOf (O : List En) (p : Nat × Nat) : List En := (O.drop p.1).take p.2

theorem Grps.len {O : List En} {xs : List (Nat × Nat)} {i : Nat} (h : Grps O xs i) : xs.length ≤ i ∧ i ≤ O.length := by
  refine h (fun xs i => xs.length ≤ i ∧ i ≤ O.length) ⟨Nat.le_refl _, Nat.zero_le _⟩ fun xs i n ih g => ?_
  have := g.pos
  have := g.le
  rw [List.length_append]
  simp
  omega

end Go.Proofs.YtakipjofboipmaaGreat

/- Plain mathematics of this proof: one key's entries, the greatest number first. -/
namespace Go.Proofs.YtakipjofboipmaaGreat

theorem grp_desc {O : List En} (hs : Sorted O) {i n : Nat} (g : ∀ j a b, j < n → O[i]? = some a → O[i + j]? = some b → b.k = a.k) : (grpOf O (i, n)).Pairwise (fun a b => b.s < a.s) := by
  have hsub : (grpOf O (i, n)).Sublist O := (List.take_sublist _ _).trans (List.drop_sublist _ _)
  have hso : Sorted (grpOf O (i, n)) := hs.sublist hsub
  refine List.pairwise_iff_getElem.2 fun p q hp hq hpq => ?_
  have := sorted_lt hso hpq hq
  unfold elt at this
  rw [oc_lt] at this
  have get : ∀ j (hj : j < (grpOf O (i, n)).length), O[i + j]? = some (grpOf O (i, n))[j] ∧ j < n := fun j hj => by
    have h2 : (grpOf O (i, n))[j]? = some (grpOf O (i, n))[j] := List.getElem?_eq_getElem hj
    have hjn : j < n := by
      have : (grpOf O (i, n)).length ≤ n := by unfold grpOf; simp; omega
      omega
    refine ⟨?_, hjn⟩
    rw [← h2]
    unfold grpOf
    rw [List.getElem?_take_of_lt hjn, List.getElem?_drop]
  obtain ⟨g1, l1⟩ := get p hp
  obtain ⟨g2, l2⟩ := get q hq
  have hi : i < O.length := by have := (List.getElem?_eq_some_iff.1 g1).1; omega
  obtain ⟨a, ha⟩ : ∃ a, O[i]? = some a := ⟨_, List.getElem?_eq_getElem hi⟩
  have e1 := g p a _ l1 ha g1
  have e2 := g q a _ l2 ha g2
  rcases this with h | h
  · rw [e1, e2, kc_self] at h; omega
  · exact h.2

end Go.Proofs.YtakipjofboipmaaGreat

/- Plain mathematics of this proof: what is needed of a whole run, and what is seen of it. -/
namespace Go.Proofs.YtakipjofboipmaaGreat

/-- What is needed of a run, key by key. -/
def ndF (Q : List Int) (last : Bool) : Nat → List En → List En
  | 0, _ => []
  | _ + 1, [] => []
  | n + 1, e :: r => ndOf Q last (e :: r.takeWhile fun x => decide (x.k = e.k)) ++ ndF Q last n (r.dropWhile fun x => decide (x.k = e.k))
def ndAll (Q : List Int) (last : Bool) (l : List En) : List En := ndF Q last l.length l

theorem ndF_len (Q : List Int) (last : Bool) : ∀ (n m : Nat) (l : List En), l.length ≤ n → l.length ≤ m → ndF Q last n l = ndF Q last m l
  | 0, 0, _, _, _ => rfl
  | 0, _ + 1, [], _, _ => rfl
  | 0, _ + 1, _ :: _, h, _ => by simp at h
  | _ + 1, 0, [], _, _ => rfl
  | _ + 1, 0, _ :: _, _, h => by simp at h
  | _ + 1, _ + 1, [], _, _ => rfl
  | n + 1, m + 1, e :: r, h1, h2 => by
    have := (List.dropWhile_sublist (fun x : En => decide (x.k = e.k)) (l := r)).length_le
    simp only [List.length_cons] at h1 h2
    show _ ++ ndF Q last n _ = _ ++ ndF Q last m _
    rw [ndF_len Q last n m _ (by omega) (by omega)]

theorem ndAll_nil (Q : List Int) (last : Bool) : ndAll Q last [] = [] := rfl
theorem ndAll_cons (Q : List Int) (last : Bool) (e : En) (r : List En) : ndAll Q last (e :: r) = ndOf Q last (e :: r.takeWhile fun x => decide (x.k = e.k)) ++ ndAll Q last (r.dropWhile fun x => decide (x.k = e.k)) := by
  have := (List.dropWhile_sublist (fun x : En => decide (x.k = e.k)) (l := r)).length_le
  show _ ++ ndF Q last r.length _ = _ ++ ndF Q last _ _
  rw [ndF_len Q last _ _ _ this (Nat.le_refl _)]
theorem ndAll_ind {M : List En → Prop} (case1 : M []) (case2 : ∀ e r, M (r.dropWhile fun x => decide (x.k = e.k)) → M (e :: r)) (O : List En) : M O := by
  suffices h : ∀ n (l : List En), l.length ≤ n → M l from h _ O (Nat.le_refl _)
  intro n
  induction n with
  | zero => intro l hl; cases l with
    | nil => exact case1
    | cons e r => simp at hl
  | succ n ih => intro l hl; cases l with
    | nil => exact case1
    | cons e r =>
      have := (List.dropWhile_sublist (fun x : En => decide (x.k = e.k)) (l := r)).length_le
      simp only [List.length_cons] at hl
      exact case2 e r (ih _ (by omega))

theorem takeWhile_take {α : Type} (p : α → Bool) : ∀ (l : List α) (n : Nat), (∀ x ∈ l.take n, p x = true) → (∀ x, l[n]? = some x → p x = false) → n ≤ l.length → l.takeWhile p = l.take n ∧ l.dropWhile p = l.drop n
  | [], n, _, _, h => by simp at h; subst h; simp
  | a :: l, 0, _, h, _ => by
    have := h a rfl
    simp [this]
  | a :: l, n + 1, h1, h2, hn => by
    have ha := h1 a (by simp)
    have ih := takeWhile_take p l n (fun x hx => h1 x (by simp [hx])) (fun x hx => h2 x (by simpa using hx)) (by simpa using hn)
    simp [ha, ih.1, ih.2]

theorem ndAll_grp (Q : List Int) (last : Bool) {O : List En} {i n : Nat} (g : IsGrp O i n) : ndAll Q last (O.drop i) = ndOf Q last (grpOf O (i, n)) ++ ndAll Q last (O.drop (i + n)) := by
  have hp := g.pos
  have hl := g.le
  obtain ⟨m, rfl⟩ : ∃ m, n = m + 1 := ⟨n - 1, by omega⟩
  have hd : O.drop i = O[i] :: O.drop (i + 1) := List.drop_eq_getElem_cons (by omega)
  have h := takeWhile_take (fun x : En => decide (x.k = O[i].k)) (O.drop (i + 1)) m (fun x hx => by
      obtain ⟨j, hj⟩ := List.mem_iff_getElem?.1 hx
      have hjm : j < m := by
        have := (List.getElem?_eq_some_iff.1 hj).1
        simp at this; omega
      rw [List.getElem?_take_of_lt hjm, List.getElem?_drop] at hj
      simp only [decide_eq_true_eq]
      exact g.same (j + 1) O[i] x (by omega) (List.getElem?_eq_getElem (by omega)) (by rw [← hj]; congr 1; omega)) (fun x hx => by
      rw [List.getElem?_drop] at hx
      simp only [decide_eq_false_iff_not]
      exact g.more O[i] x (List.getElem?_eq_getElem (by omega)) (by rw [← hx]; congr 1; omega)) (by simp; omega)
  rw [hd, ndAll_cons, h.1, h.2, List.drop_drop]
  have e1 : O[i] :: (O.drop (i + 1)).take m = grpOf O (i, m + 1) := by
    show _ = (O.drop i).take (m + 1)
    rw [hd, List.take_succ_cons]
  rw [e1]
  congr 2
  congr 1
  omega

theorem ndAll_grps (Q : List Int) (last : Bool) {O : List En} {xs : List (Nat × Nat)} {i : Nat} (h : Grps O xs i) : (xs.flatMap fun p => ndOf Q last (grpOf O p)) ++ ndAll Q last (O.drop i) = ndAll Q last O := by
  refine h (fun xs i => (xs.flatMap fun p => ndOf Q last (grpOf O p)) ++ ndAll Q last (O.drop i) = ndAll Q last O) (by simp) fun xs i n ih g => ?_
  rw [List.flatMap_append, List.append_assoc]
  simp only [List.flatMap_cons, List.flatMap_nil, List.append_nil]
  rw [← ndAll_grp Q last g]
  exact ih

theorem ndAll_all (Q : List Int) (last : Bool) {O : List En} {xs : List (Nat × Nat)} (h : Grps O xs O.length) : (xs.flatMap fun p => ndOf Q last (grpOf O p)) = ndAll Q last O := by
  have := ndAll_grps Q last h
  rwa [List.drop_length, ndAll_nil, List.append_nil] at this

theorem dtg_sub : ∀ L : List En, (dtg L).Sublist L
  | [] => by simp [dtg]
  | e :: r => by
    have ih := dtg_sub r
    rw [dtg]
    split
    · split
      · exact List.nil_sublist _
      · exact List.Sublist.cons_cons _ (List.nil_sublist _)
    · rename_i y ys h
      rw [h] at ih
      exact List.Sublist.cons_cons _ ih

theorem ndOf_sub (Q : List Int) (last : Bool) (G : List En) : (ndOf Q last G).Sublist G := by
  have h : (sbs Q G).Sublist G := by
    cases G with
    | nil => simp [sbs]
    | cons e r => exact List.Sublist.cons_cons _ (sbsT_sub Q e r)
  unfold ndOf
  split
  · exact (dtg_sub _).trans h
  · exact h

theorem ndAll_sub (Q : List Int) (last : Bool) (O : List En) : (ndAll Q last O).Sublist O := by
  induction O using ndAll_ind with
  | case1 => simp [ndAll_nil]
  | case2 e r ih =>
    rw [ndAll_cons]
    have h1 := ndOf_sub Q last (e :: r.takeWhile fun x => decide (x.k = e.k))
    have h2 := h1.append ih
    rwa [List.cons_append, List.takeWhile_append_dropWhile] at h2

theorem ndAll_ne (Q : List Int) {O : List En} (h : O ≠ []) : ndAll Q false O ≠ [] := by
  cases O with
  | nil => exact absurd rfl h
  | cons e r => rw [ndAll_cons]; simp [ndOf, sbs]

/-- At these numbers it is seen: those of snapshots, and those above all. -/
def At (Q : List Int) (O : List En) (q : Int) : Prop := q ∈ Q ∨ ∀ e ∈ O, e.s ≤ q

/-- The first of descending numbers that is not above q. -/
def fst (G : List En) (q : Int) : Option En := G.find? fun e => decide (e.s ≤ q)

theorem sbsT_fst (Q : List Int) {q : Int} (hq : q ∈ Q) : ∀ (r : List En) (p : En), (p :: r).Pairwise (fun a b => b.s < a.s) → q < p.s → fst (sbsT Q p r) q = fst r q
  | [], _, _, _ => rfl
  | e :: r, p, h, hp => by
    obtain ⟨h1, h2⟩ := List.pairwise_cons.1 h
    unfold fst at *
    rw [sbsT]
    by_cases he : e.s ≤ q
    · have hg : inGap Q e.s p.s = true := by
        unfold inGap
        exact List.any_eq_true.2 ⟨q, hq, by simp; omega⟩
      simp [hg, he]
    · have ih := sbsT_fst Q hq r e h2 (by omega)
      unfold fst at ih
      by_cases hg : inGap Q e.s p.s
      · simp [hg, he, ih]
      · simp [hg, he, ih]

theorem sbs_fst (Q : List Int) {G : List En} (h : G.Pairwise (fun a b => b.s < a.s)) {q : Int} (hq : At Q G q) : fst (sbs Q G) q = fst G q := by
  cases G with
  | nil => rfl
  | cons e r =>
    by_cases he : e.s ≤ q
    · simp [sbs, fst, he]
    · rcases hq with hq | hq
      · have := sbsT_fst Q hq r e h (by omega)
        unfold fst at this ⊢
        simp [sbs, he, this]
      · exact absurd (hq e List.mem_cons_self) he

theorem dtg_fst : ∀ {G : List En} (_ : G.Pairwise (fun a b => b.s < a.s)) (q : Int), skO (fst (dtg G) q) = skO (fst G q)
  | [], _, _ => rfl
  | e :: r, h, q => by
    obtain ⟨h1, h2⟩ := List.pairwise_cons.1 h
    have ih := dtg_fst h2 q
    rw [dtg]
    split
    · rename_i hd
      rw [hd] at ih
      by_cases he : e.s ≤ q
      · by_cases hg : e.g
        · simp [fst, he, hg, skO]
        · simp [fst, he, hg]
      · have e1 : fst (e :: r) q = fst r q := by simp [fst, he]
        rw [e1, ← ih]
        split
        · rfl
        · simp [fst, he]
    · rename_i y ys hd
      rw [← hd]
      by_cases he : e.s ≤ q
      · simp [fst, he]
      · have e1 : fst (e :: r) q = fst r q := by simp [fst, he]
        have e2 : fst (e :: dtg r) q = fst (dtg r) q := by simp [fst, he]
        rw [e1, e2, ih]

theorem find_congr {α : Type} {p q : α → Bool} : ∀ {l : List α}, (∀ x ∈ l, p x = q x) → l.find? p = l.find? q
  | [], _ => rfl
  | a :: l, h => by
    rw [List.find?_cons, List.find?_cons, h a List.mem_cons_self, find_congr fun x hx => h x (List.mem_cons_of_mem _ hx)]

theorem fnd_grp {G r : List En} {k : ByteArray} (hG : ∀ e ∈ G, e.k = k) (hr : ∀ e ∈ r, e.k ≠ k) (k' : ByteArray) (q : Int) : fnd (G ++ r) k' q = if k' = k then fst G q else fnd r k' q := by
  unfold fnd fst
  rw [List.find?_append]
  by_cases h : k' = k
  · subst h
    have e1 : G.find? (fun e => decide (e.k = k' ∧ e.s ≤ q)) = G.find? fun e => decide (e.s ≤ q) := by
      exact find_congr fun x hx => by simp [hG x hx]
    have e2 : r.find? (fun e => decide (e.k = k' ∧ e.s ≤ q)) = none := List.find?_eq_none.2 fun x hx => by simp [hr x hx]
    rw [e1, e2, if_pos rfl, Option.or_none]
  · have e1 : G.find? (fun e => decide (e.k = k' ∧ e.s ≤ q)) = none := List.find?_eq_none.2 fun x hx => by
      have := hG x hx
      simp only [decide_eq_true_eq, not_and]
      intro e; exact absurd (e.symm.trans this) h
    rw [e1, if_neg h, Option.none_or]

theorem sorted_split {e : En} {r : List En} (hs : Sorted (e :: r)) :
    (∀ x ∈ e :: r.takeWhile (fun x => decide (x.k = e.k)), x.k = e.k) ∧ (∀ x ∈ r.dropWhile (fun x => decide (x.k = e.k)), x.k ≠ e.k) ∧
    (e :: r.takeWhile (fun x => decide (x.k = e.k))).Pairwise (fun a b => b.s < a.s) ∧ Sorted (r.dropWhile fun x => decide (x.k = e.k)) := by
  obtain ⟨h1, h2⟩ := List.pairwise_cons.1 hs
  have hk : ∀ x ∈ e :: r.takeWhile (fun x => decide (x.k = e.k)), x.k = e.k := fun x hx => by
    rcases List.mem_cons.1 hx with rfl | hx
    · rfl
    · simpa using List.all_eq_true.1 (List.all_takeWhile (p := fun x => decide (x.k = e.k)) (l := r)) x hx
  refine ⟨hk, ?_, ?_, h2.sublist (List.dropWhile_sublist _)⟩
  · have hsd : Sorted (r.dropWhile fun x => decide (x.k = e.k)) := h2.sublist (List.dropWhile_sublist _)
    have hhd : ∀ x, (r.dropWhile fun x => decide (x.k = e.k)).head? = some x → x.k ≠ e.k := fun x hx => by
      have := List.head?_dropWhile_not (p := fun x => decide (x.k = e.k)) (l := r)
      rw [hx] at this
      simpa using this
    intro x hx hxk
    cases hd : r.dropWhile fun x => decide (x.k = e.k) with
    | nil => rw [hd] at hx; simp at hx
    | cons y ys =>
      have hy := hhd y (by rw [hd]; rfl)
      rw [hd] at hx hsd
      rcases List.mem_cons.1 hx with rfl | hx
      · exact hy hxk
      · have hyx := (List.pairwise_cons.1 hsd).1 x hx
        have hey := h1 y ((List.dropWhile_sublist _).subset (by rw [hd]; exact List.mem_cons_self))
        unfold elt at hyx hey
        rw [oc_lt] at hyx hey
        rw [hxk] at hyx
        have hn := kc_neg e.k y.k
        rcases hyx with g | g
        · rcases hey with g2 | g2
          · omega
          · exact hy g2.1.symm
        · exact hy g.1
  · have hso : Sorted (e :: r.takeWhile fun x => decide (x.k = e.k)) := hs.sublist (List.Sublist.cons_cons _ (List.takeWhile_sublist _))
    refine (List.Pairwise.and_mem.1 hso).imp fun {a b} h => ?_
    obtain ⟨ha, hb, hab⟩ := h
    unfold elt at hab
    rw [oc_lt, hk a ha, hk b hb, kc_self] at hab
    rcases hab with g | g
    · omega
    · exact g.2

/-- What is seen of what is needed. -/
theorem ndAll_fnd (Q : List Int) {O : List En} (hs : Sorted O) {q : Int} (hq : At Q O q) (k : ByteArray) : fnd (ndAll Q false O) k q = fnd O k q := by
  induction O using ndAll_ind with
  | case1 => simp [ndAll_nil]
  | case2 e r ih =>
    obtain ⟨h1, h2, h3, h4⟩ := sorted_split hs
    have ih' := ih h4 (hq.imp id fun h x hx => h x (List.mem_cons_of_mem _ ((List.dropWhile_sublist _).subset hx)))
    rw [ndAll_cons]
    have e0 : e :: r = (e :: r.takeWhile fun x => decide (x.k = e.k)) ++ r.dropWhile fun x => decide (x.k = e.k) := by
      rw [List.cons_append, List.takeWhile_append_dropWhile]
    conv => rhs; rw [e0]
    rw [fnd_grp (fun x hx => h1 x ((ndOf_sub _ _ _).subset hx)) (fun x hx => h2 x ((ndAll_sub _ _ _).subset hx)), fnd_grp h1 h2, ih']
    have : fst (ndOf Q false (e :: r.takeWhile fun x => decide (x.k = e.k))) q = fst (e :: r.takeWhile fun x => decide (x.k = e.k)) q := by
      unfold ndOf
      simp only [Bool.false_eq_true, if_false]
      exact sbs_fst Q h3 (hq.imp id fun h x hx => h x (by rw [e0]; exact List.mem_append_left _ hx))
    rw [this]

theorem sbs_desc (Q : List Int) {G : List En} (h : G.Pairwise (fun a b => b.s < a.s)) : (sbs Q G).Pairwise (fun a b => b.s < a.s) := by
  refine h.sublist ?_
  cases G with
  | nil => simp [sbs]
  | cons e r => exact List.Sublist.cons_cons _ (sbsT_sub Q e r)

theorem ndAll_sk (Q : List Int) (last : Bool) {O : List En} (hs : Sorted O) {q : Int} (hq : At Q O q) (k : ByteArray) : skO (fnd (ndAll Q last O) k q) = skO (fnd O k q) := by
  cases last with
  | false => rw [ndAll_fnd Q hs hq]
  | true =>
    induction O using ndAll_ind with
    | case1 => simp [ndAll_nil]
    | case2 e r ih =>
      obtain ⟨h1, h2, h3, h4⟩ := sorted_split hs
      have ih' := ih h4 (hq.imp id fun h x hx => h x (List.mem_cons_of_mem _ ((List.dropWhile_sublist _).subset hx)))
      rw [ndAll_cons]
      have e0 : e :: r = (e :: r.takeWhile fun x => decide (x.k = e.k)) ++ r.dropWhile fun x => decide (x.k = e.k) := by
        rw [List.cons_append, List.takeWhile_append_dropWhile]
      conv => rhs; rw [e0]
      rw [fnd_grp (fun x hx => h1 x ((ndOf_sub _ _ _).subset hx)) (fun x hx => h2 x ((ndAll_sub _ _ _).subset hx)), fnd_grp h1 h2]
      split
      · unfold ndOf
        simp only [if_true]
        rw [dtg_fst (sbs_desc Q h3), sbs_fst Q h3 (hq.imp id fun h x hx => h x (by rw [e0]; exact List.mem_append_left _ hx))]
      · exact ih'

end Go.Proofs.YtakipjofboipmaaGreat

/- Plain mathematics of this proof: what a store is behind a call. -/
namespace Go.Proofs.YtakipjofboipmaaGreat

theorem filter_ext {E E' : List En} (h : Sorted E) (h' : Sorted E') {p : En → Bool} (hm : ∀ e, p e = true → (e ∈ E ↔ e ∈ E')) : E.filter p = E'.filter p :=
  sorted_ext (h.sublist List.filter_sublist) (h'.sublist List.filter_sublist) fun e => by
    simp only [List.mem_filter]
    constructor
    · exact fun g => ⟨(hm e g.2).1 g.1, g.2⟩
    · exact fun g => ⟨(hm e g.2).2 g.1, g.2⟩

/-- Another batch is written. -/
theorem StOk.wr {x : St} (ok : StOk x) {b : List Pr} (bt : Bt b) (hl : x.last < 1000000000) (hf : x.E.length + 4 < 1000000000) : StOk (x.wr b) := by
  have hsE : Sorted (x.wr b).E := srt_new ok.sorted bt.up ok.slast
  have hmE : ∀ e, e ∈ (x.wr b).E ↔ e ∈ x.E ∨ e ∈ b.map (toEn (x.last + 1)) := fun e => by
    show e ∈ srt _ ↔ _; rw [srt_mem, List.mem_append]
  have hnew : ∀ e, e ∈ b.map (toEn (x.last + 1)) → e.s = x.last + 1 := fun e he => by
    obtain ⟨p, _, rfl⟩ := List.mem_map.1 he; rfl
  have hla := ok.lv.la2
  have h4 := bt.hi
  refine ⟨fun e he => ?_, hsE, ?_, fun e he => ?_, fun e he => ?_, ok.snaps, ?_⟩
  · rcases (hmE e).1 he with h | h
    · have := ok.slast e h; show e.s ≤ x.last + 1; omega
    · rw [hnew e h]; exact Int.le_refl _
  · show (srt _).length < _
    rw [srt_len, List.length_append, List.length_map]; omega
  · rcases (hmE e).1 he with h | h
    · exact ok.seqs e h
    · rw [hnew e h]; omega
  · rcases (hmE e).1 he with h | h
    · exact ok.keys e h
    · obtain ⟨p, hp, rfl⟩ := List.mem_map.1 h
      have := (bt.ok p hp).hi
      show p.k.size ≤ 1000; omega
  · have lv := ok.lv
    have hM : Sorted (x.wr b).M := srt_new lv.msorted bt.up fun e he => ok.slast e ((lv.mem e).1 he).1
    refine ⟨hM, fun e => ?_, fun t ht e he => ?_, lv.tsorted, lv.tne, lv.lay, lv.lev, lv.lev2, fun q hq k => ?_, lv.tfew, lv.la0, ?_, fun c hc => ?_, ?_, fun e => ?_⟩
    · show e ∈ srt _ ↔ _
      rw [srt_mem, List.mem_append, hmE, lv.mem]
      show _ ↔ _ ∧ x.la < e.s
      constructor
      · rintro (h | h)
        · exact ⟨.inl h.1, h.2⟩
        · exact ⟨.inr h, by rw [hnew e h]; omega⟩
      · rintro ⟨h | h, h2⟩
        · exact .inl ⟨h, h2⟩
        · exact .inr h
    · have := lv.tsub t ht e he
      exact ⟨(hmE e).2 (.inl this.1), this.2⟩
    · have e1 : (x.wr b).E.filter (fun e => decide (e.s ≤ x.la)) = x.E.filter fun e => decide (e.s ≤ x.la) := filter_ext hsE ok.sorted fun e he => by
        simp only [decide_eq_true_eq] at he
        rw [hmE]
        constructor
        · rintro (h | h)
          · exact h
          · rw [hnew e h] at he; omega
        · exact .inl
      show skO (fndL (x.T.map (·.2)) k q) = skO (fnd ((x.wr b).E.filter fun e => decide (e.s ≤ x.la)) k q)
      rw [e1]
      exact lv.view q hq k
    · have := lv.la1
      show x.last + 1 = x.la + ((x.B ++ [b]).length : Nat)
      rw [List.length_append]
      simp only [List.length_cons, List.length_nil]
      omega
    · rcases List.mem_append.1 hc with h | h
      · exact lv.bok c h
      · rw [List.mem_singleton] at h; subst h; exact bt
    · show x.sy ≤ (x.B ++ [b]).length
      have := lv.bsy
      rw [List.length_append]; omega
    · rw [hmE]
      show (_ ∧ x.la < e.s) ↔ ∃ (i : Nat) (c : List Pr) (p : Pr), (x.B ++ [b])[i]? = some c ∧ p ∈ c ∧ e = toEn (x.la + 1 + i) p
      have l1 := lv.la1
      constructor
      · rintro ⟨h | h, h2⟩
        · obtain ⟨i, c, p, hi, hp, he⟩ := (lv.bent e).1 ⟨h, h2⟩
          exact ⟨i, c, p, by rw [List.getElem?_append_left (List.getElem?_eq_some_iff.1 hi).1]; exact hi, hp, he⟩
        · obtain ⟨p, hp, rfl⟩ := List.mem_map.1 h
          exact ⟨x.B.length, b, p, by simp, hp, by congr 1; omega⟩
      · rintro ⟨i, c, p, hi, hp, rfl⟩
        refine ⟨?_, by show x.la < x.la + 1 + i; omega⟩
        by_cases hib : i < x.B.length
        · rw [List.getElem?_append_left hib] at hi
          exact .inl ((lv.bent _).2 ⟨i, c, p, hi, hp, rfl⟩).1
        · rw [List.getElem?_append_right (by omega)] at hi
          have hi0 : i - x.B.length = 0 := by
            have := (List.getElem?_eq_some_iff.1 hi).1
            simp at this; omega
          rw [hi0] at hi
          simp at hi
          subst hi
          refine .inr (List.mem_map.2 ⟨p, hp, ?_⟩)
          congr 1; omega

theorem StOk.syn {x : St} (ok : StOk x) : StOk x.syn := by
  have lv := ok.lv
  exact ⟨ok.slast, ok.sorted, ok.few, ok.seqs, ok.keys, ok.snaps, ⟨lv.msorted, lv.mem, lv.tsub, lv.tsorted, lv.tne, lv.lay, lv.lev, lv.lev2, lv.view, lv.tfew, lv.la0, lv.la1, lv.bok, Nat.le_refl _, lv.bent⟩⟩

theorem StOk.wrs {x : St} (ok : StOk x) {b : List Pr} (bt : Bt b) (hl : x.last < 1000000000) (hf : x.E.length + 4 < 1000000000) (sync : Bool) : StOk (x.wrs b sync) := by
  unfold St.wrs
  split
  · exact (ok.wr bt hl hf).syn
  · exact ok.wr bt hl hf

/-- Other snapshots, which see what is seen. -/
theorem StOk.snapsTo {x : St} (ok : StOk x) (S' : List Sn) (n : Int) (h4 : S'.length ≤ 4) (h : ∀ s ∈ S', x.la ≤ s.q ∨ s ∈ x.S) : StOk { x with S := S', lastSnap := n } := by
  have lv := ok.lv
  refine ⟨ok.slast, ok.sorted, ok.few, ok.seqs, ok.keys, h4, ⟨lv.msorted, lv.mem, lv.tsub, lv.tsorted, lv.tne, lv.lay, lv.lev, lv.lev2, fun q hq k => lv.view q ?_ k, lv.tfew, lv.la0, lv.la1, lv.bok, lv.bsy, lv.bent⟩⟩
  rcases hq with hq | ⟨s, hs, rfl⟩
  · exact .inl hq
  · rcases h s hs with h | h
    · exact .inl h
    · exact .inr ⟨s, h, rfl⟩

theorem StOk.snap {x : St} (ok : StOk x) (h4 : x.S.length < 4) : StOk { x with S := x.S ++ [⟨x.lastSnap + 1, x.last⟩], lastSnap := x.lastSnap + 1 } :=
  ok.snapsTo _ _ (by simp; omega) fun s hs => by
    rcases List.mem_append.1 hs with h | h
    · exact .inr h
    · rw [List.mem_singleton] at h; subst h; exact .inl ok.lv.la2

theorem StOk.drop {x : St} (ok : StOk x) (i : Nat) : StOk { x with S := x.S.eraseIdx i } :=
  ok.snapsTo _ x.lastSnap (Nat.le_trans (List.eraseIdx_sublist x.S i).length_le ok.snaps) fun _ hs => .inr ((List.eraseIdx_sublist x.S i).subset hs)

def St.Q (x : St) : List Int := x.S.map (·.q)

/-- What was written is laid down. -/
def St.fl (x : St) : St := { x with B := [], sy := 0, M := [], T := (0, ndAll x.Q false x.M) :: x.T, la := x.last }

theorem fnd_all {x : St} (ok : StOk x) (k : ByteArray) (q : Int) : fnd x.E k q = (fnd x.M k q).or (fnd (x.E.filter fun e => decide (e.s ≤ x.la)) k q) := by
  rw [← fndL_one (x.E.filter _), ← fndL_cons]
  refine fnd_layers ok.sorted (fun e => ?_) ?_ ?_ k q
  · simp only [List.mem_cons, List.not_mem_nil, or_false, exists_eq_or_imp, exists_eq_left, List.mem_filter, decide_eq_true_eq, ok.lv.mem]
    constructor
    · intro he
      by_cases hl : x.la < e.s
      · exact .inl ⟨he, hl⟩
      · exact .inr ⟨he, by omega⟩
    · rintro (g | g) <;> exact g.1
  · refine List.pairwise_cons.2 ⟨fun b hb e he e' he' _ => ?_, List.pairwise_singleton _ _⟩
    rw [List.mem_singleton] at hb
    subst hb
    have h1 := ((ok.lv.mem e).1 he).2
    have h2 := (List.mem_filter.1 he').2
    simp only [decide_eq_true_eq] at h2
    omega
  · intro a ha
    rcases List.mem_cons.1 ha with rfl | ha
    · exact ok.lv.msorted
    · rw [List.mem_singleton] at ha
      subst ha
      exact ok.sorted.sublist List.filter_sublist

theorem skO_or {a b c : Option En} (h : skO b = skO c) : skO (a.or b) = skO (a.or c) := by cases a <;> simp [h]

theorem M_ne {x : St} (ok : StOk x) (h : x.B ≠ []) : x.M ≠ [] := by
  intro hM
  obtain ⟨b, B, hB⟩ := List.exists_cons_of_ne_nil h
  have hb := ok.lv.bok b (by rw [hB]; exact List.mem_cons_self)
  obtain ⟨p, c, hp⟩ := List.exists_cons_of_ne_nil (l := b) (fun e => by have := hb.lo; rw [e] at this; simp at this)
  have := (ok.lv.bent (toEn (x.la + 1 + (0 : Nat)) p)).2 ⟨0, b, p, by rw [hB]; rfl, by rw [hp]; exact List.mem_cons_self, rfl⟩
  have := (ok.lv.mem _).2 this
  rw [hM] at this
  simp at this

theorem StOk.fl {x : St} (ok : StOk x) (h : x.B ≠ []) (hT : x.T.length + 1 < 1000000000) : StOk x.fl := by
  have lv := ok.lv
  have hla := lv.la2
  have sub := ndAll_sub x.Q false x.M
  refine ⟨ok.slast, ok.sorted, ok.few, ok.seqs, ok.keys, ok.snaps, ⟨List.Pairwise.nil, fun e => ?_, fun t ht e he => ?_, fun t ht => ?_, fun t ht => ?_, ?_, ?_, fun t ht => ?_, fun q hq k => ?_, by simpa [St.fl] using hT, ?_, ?_, by simp [St.fl], Nat.zero_le _, fun e => ?_⟩⟩
  · show e ∈ [] ↔ e ∈ x.E ∧ x.last < e.s
    simp only [List.not_mem_nil, false_iff, not_and]
    intro he
    have := ok.slast e he
    omega
  · rcases List.mem_cons.1 ht with rfl | ht
    · have := (lv.mem e).1 (sub.subset he)
      exact ⟨this.1, ok.slast e this.1⟩
    · have := lv.tsub t ht e he
      exact ⟨this.1, by show e.s ≤ x.last; omega⟩
  · rcases List.mem_cons.1 ht with rfl | ht
    · exact lv.msorted.sublist sub
    · exact lv.tsorted t ht
  · rcases List.mem_cons.1 ht with rfl | ht
    · exact ndAll_ne _ (M_ne ok h)
    · exact lv.tne t ht
  · show LayX (_ :: _)
    refine List.pairwise_cons.2 ⟨fun b hb e he e' he' _ => ?_, lv.lay⟩
    obtain ⟨t, ht, rfl⟩ := List.mem_map.1 hb
    have h1 := ((lv.mem e).1 (sub.subset he)).2
    have h2 := (lv.tsub t ht e' he').2
    omega
  · refine List.pairwise_cons.2 ⟨fun b hb => ?_, lv.lev⟩
    have := (lv.lev2 b hb).1
    by_cases h0 : b.1 = 0
    · exact .inr ⟨rfl, h0⟩
    · exact .inl (by show (0 : Int) < b.1; omega)
  · rcases List.mem_cons.1 ht with rfl | ht
    · exact ⟨Int.le_refl _, by show (0 : Int) ≤ 2; omega⟩
    · exact lv.lev2 t ht
  · have hE : x.E.filter (fun e => decide (e.s ≤ x.last)) = x.E := List.filter_eq_self.2 fun e he => by simpa using ok.slast e he
    show skO (fndL (ndAll x.Q false x.M :: x.T.map (·.2)) k q) = skO (fnd (x.E.filter fun e => decide (e.s ≤ x.last)) k q)
    have hq' : x.last ≤ q ∨ ∃ s ∈ x.S, s.q = q := hq
    rw [hE, fnd_all ok, fndL_cons, ndAll_fnd x.Q lv.msorted]
    · refine skO_or (lv.view q ?_ k)
      rcases hq' with h | h
      · exact .inl (by omega)
      · exact .inr h
    · rcases hq' with h | ⟨s, hs, rfl⟩
      · exact .inr fun e he => by have := ok.slast e ((lv.mem e).1 he).1; omega
      · exact .inl (List.mem_map.2 ⟨s, hs, rfl⟩)
  · show 0 ≤ x.last
    have := lv.la0; omega
  · show x.last = x.last + (([] : List (List Pr)).length : Nat)
    simp
  · show (e ∈ x.E ∧ x.last < e.s) ↔ ∃ (i : Nat) (b : List Pr) (p : Pr), ([] : List (List Pr))[i]? = some b ∧ _
    constructor
    · rintro ⟨h1, h2⟩
      have := ok.slast e h1
      omega
    · rintro ⟨i, b, p, hi, _⟩
      simp at hi

/-- Where the tables of a level, and of those behind it, begin. -/
def stIdx (T : List Lb) (l : Int) : Nat := T.findIdx fun t => decide (l ≤ t.1)

theorem stIdx_le (T : List Lb) (l : Int) : stIdx T l ≤ T.length := List.findIdx_le_length

theorem st_below {T : List Lb} {l : Int} {t : Lb} (h : t ∈ T.take (stIdx T l)) : t.1 < l := by
  obtain ⟨j, hj, ht⟩ := mem_take_get.1 h
  obtain ⟨hjl, rfl⟩ := List.getElem?_eq_some_iff.1 ht
  have := List.not_of_lt_findIdx (p := fun t : Lb => decide (l ≤ t.1)) (xs := T) hj
  simpa using this

theorem lev_mono {T : List Lb} (h : T.Pairwise fun a b => a.1 < b.1 ∨ (a.1 = 0 ∧ b.1 = 0)) {i j : Nat} (hij : i ≤ j) (hj : j < T.length) : (T[i]'(by omega)).1 ≤ T[j].1 := by
  rcases Nat.eq_or_lt_of_le hij with rfl | hlt
  · exact Int.le_refl _
  · have := List.pairwise_iff_getElem.1 h i j (by omega) hj hlt
    omega

theorem st_above {T : List Lb} (h : T.Pairwise fun a b => a.1 < b.1 ∨ (a.1 = 0 ∧ b.1 = 0)) {l : Int} {t : Lb} (ht : t ∈ T.drop (stIdx T l)) : l ≤ t.1 := by
  obtain ⟨j, hj⟩ := List.mem_iff_getElem?.1 ht
  rw [List.getElem?_drop] at hj
  obtain ⟨hjl, rfl⟩ := List.getElem?_eq_some_iff.1 hj
  have hs : stIdx T l < T.length := by omega
  have h1 := List.findIdx_getElem (p := fun t : Lb => decide (l ≤ t.1)) (xs := T) (w := hs)
  simp only [decide_eq_true_eq] at h1
  exact Int.le_trans h1 (lev_mono h (Nat.le_add_right _ _) hjl)

theorem stIdx_mono {T : List Lb} {l m : Int} (h : l ≤ m) : stIdx T l ≤ stIdx T m := by
  refine Nat.le_of_not_lt fun hlt => ?_
  have hs : stIdx T m < T.length := Nat.lt_of_lt_of_le hlt (stIdx_le _ _)
  have h1 := List.findIdx_getElem (p := fun t : Lb => decide (m ≤ t.1)) (xs := T) (w := hs)
  have h2 := List.not_of_lt_findIdx (p := fun t : Lb => decide (l ≤ t.1)) (xs := T) hlt
  simp only [decide_eq_true_eq] at h1
  simp at h2
  have : T[stIdx T m].1 < l := h2
  have : m ≤ T[stIdx T m].1 := h1
  omega

/-- The tables of a level and of the next. -/
def St.mid (x : St) (l : Int) : List Lb := (x.T.drop (stIdx x.T l)).take (stIdx x.T (l + 2) - stIdx x.T l)
/-- All their entries, in order. -/
def St.mixed (x : St) (l : Int) : List En := srt ((x.mid l).flatMap (·.2))
/-- A table, if there is something in it. -/
def oneT (l : Int) : List En → List Lb
  | [] => []
  | e :: r => [(l, e :: r)]
/-- A level is merged into the next. -/
def St.mg (x : St) (l : Int) : St := { x with T := x.T.take (stIdx x.T l) ++ oneT (l + 1) (ndAll x.Q (l + 1 == 2) (x.mixed l)) ++ x.T.drop (stIdx x.T (l + 2)) }

theorem T_split (x : St) (l : Int) : x.T = x.T.take (stIdx x.T l) ++ x.mid l ++ x.T.drop (stIdx x.T (l + 2)) := by
  have h := stIdx_mono (T := x.T) (l := l) (m := l + 2) (by omega)
  unfold St.mid
  have e1 : (x.T.drop (stIdx x.T l)).drop (stIdx x.T (l + 2) - stIdx x.T l) = x.T.drop (stIdx x.T (l + 2)) := by
    rw [List.drop_drop]; congr 1; omega
  rw [← e1, List.append_assoc, List.take_append_drop, List.take_append_drop]

theorem mem_oneT {l : Int} {R : List En} {t : Lb} (h : t ∈ oneT l R) : t = (l, R) ∧ R ≠ [] := by
  cases R with
  | nil => simp [oneT] at h
  | cons e r => simp [oneT] at h; exact ⟨h, by simp⟩

theorem oneT_len (l : Int) (R : List En) : (oneT l R).length ≤ 1 := by cases R <;> simp [oneT]

theorem dist_flat {X : List (List En)} (hl : LayX X) (hs : ∀ a ∈ X, Sorted a) : DistE (X.flatMap id) := by
  induction X with
  | nil => simp [DistE]
  | cons a X ih =>
    obtain ⟨h1, h2⟩ := List.pairwise_cons.1 hl
    rw [List.flatMap_cons]
    refine List.pairwise_append.2 ⟨sorted_dist (hs a List.mem_cons_self), ih h2 (fun b hb => hs b (List.mem_cons_of_mem _ hb)), fun e he e' he' hh => ?_⟩
    obtain ⟨b, hb, hb'⟩ := List.mem_flatMap.1 he'
    have := h1 b hb e he e' hb' hh.1
    have := hh.2
    omega

theorem mid_mem {x : St} {l : Int} {t : Lb} (h : t ∈ x.mid l) : t ∈ x.T := List.mem_of_mem_drop (List.mem_of_mem_take h)

theorem mixed_mem {x : St} {l : Int} {e : En} : e ∈ x.mixed l ↔ ∃ t ∈ x.mid l, e ∈ t.2 := by
  unfold St.mixed
  rw [srt_mem, List.mem_flatMap]

theorem mixed_sorted {x : St} (ok : StOk x) (l : Int) : Sorted (x.mixed l) := by
  have hsub : (x.mid l).Sublist x.T := (List.take_sublist _ _).trans (List.drop_sublist _ _)
  have hd := dist_flat (X := (x.mid l).map (·.2)) (List.Pairwise.sublist (hsub.map (fun t : Lb => t.2)) ok.lv.lay) (fun a ha => by
    obtain ⟨t, ht, rfl⟩ := List.mem_map.1 ha
    exact ok.lv.tsorted t (hsub.subset ht))
  refine srt_sorted ?_
  rw [List.flatMap_map] at hd
  exact hd

theorem LayX_append {X Y : List (List En)} : LayX (X ++ Y) ↔ LayX X ∧ LayX Y ∧ ∀ a ∈ X, ∀ b ∈ Y, ∀ e ∈ a, ∀ e' ∈ b, e.k = e'.k → e'.s < e.s := by
  unfold LayX
  rw [List.pairwise_append]

theorem fndL_oneT (l : Int) (R : List En) (k : ByteArray) (q : Int) : fndL ((oneT l R).map (·.2)) k q = fnd R k q := by
  cases R with
  | nil => rfl
  | cons e r => exact fndL_one _ _ _

theorem StOk.mg {x : St} (ok : StOk x) {l : Int} (h0 : 0 ≤ l) (h2 : l < 2) : StOk (x.mg l) := by
  have lv := ok.lv
  have sub := ndAll_sub x.Q (l + 1 == 2) (x.mixed l)
  obtain ⟨R, hR⟩ : ∃ R, ndAll x.Q (l + 1 == 2) (x.mixed l) = R := ⟨_, rfl⟩
  have hRm : ∀ e ∈ R, ∃ t ∈ x.mid l, e ∈ t.2 := fun e he => mixed_mem.1 (sub.subset (by rw [hR]; exact he))
  have hRs : Sorted R := by rw [← hR]; exact (mixed_sorted ok l).sublist sub
  obtain ⟨T1, hT1⟩ : ∃ T1, x.T.take (stIdx x.T l) = T1 := ⟨_, rfl⟩
  obtain ⟨T2, hT2⟩ : ∃ T2, x.T.drop (stIdx x.T (l + 2)) = T2 := ⟨_, rfl⟩
  have hTx : x.T = T1 ++ x.mid l ++ T2 := by rw [← hT1, ← hT2]; exact T_split x l
  have hTm : (x.mg l).T = T1 ++ oneT (l + 1) R ++ T2 := by rw [← hT1, ← hT2, ← hR]; rfl
  have l1 : ∀ t ∈ T1, t.1 < l := fun t ht => st_below (by rw [hT1]; exact ht)
  have l2 : ∀ t ∈ T2, l + 2 ≤ t.1 := fun t ht => st_above lv.lev (by rw [hT2]; exact ht)
  have hold : ∀ t, t ∈ T1 ∨ t ∈ T2 → t ∈ x.T := fun t ht => by
    rw [hTx]; simp only [List.mem_append]; rcases ht with h | h
    · exact .inl (.inl h)
    · exact .inr h
  have hmem : ∀ t, t ∈ (x.mg l).T → (t ∈ T1 ∨ t ∈ T2) ∨ (t = (l + 1, R) ∧ R ≠ []) := fun t ht => by
    rw [hTm] at ht
    simp only [List.mem_append] at ht
    rcases ht with (h | h) | h
    · exact .inl (.inl h)
    · exact .inr (mem_oneT h)
    · exact .inl (.inr h)
  have hlay := lv.lay
  have hlev := lv.lev
  rw [hTx] at hlay hlev
  simp only [List.map_append] at hlay
  obtain ⟨hlA, hlT2, hl3⟩ := LayX_append.1 hlay
  obtain ⟨hlT1, hlMid, hl12⟩ := LayX_append.1 hlA
  obtain ⟨hvA, hvT2, hv3⟩ := List.pairwise_append.1 hlev
  obtain ⟨hvT1, hvMid, hv12⟩ := List.pairwise_append.1 hvA
  refine ⟨ok.slast, ok.sorted, ok.few, ok.seqs, ok.keys, ok.snaps, ⟨lv.msorted, lv.mem, fun t ht e he => ?_, fun t ht => ?_, fun t ht => ?_, ?_, ?_, fun t ht => ?_, fun q hq k => ?_, ?_, lv.la0, lv.la1, lv.bok, lv.bsy, lv.bent⟩⟩
  · rcases hmem t ht with h | ⟨rfl, _⟩
    · exact lv.tsub t (hold t h) e he
    · obtain ⟨t', ht', he'⟩ := hRm e he
      exact lv.tsub t' (mid_mem ht') e he'
  · rcases hmem t ht with h | ⟨rfl, _⟩
    · exact lv.tsorted t (hold t h)
    · exact hRs
  · rcases hmem t ht with h | ⟨rfl, h⟩
    · exact lv.tne t (hold t h)
    · exact h
  · show LayX ((x.mg l).T.map (·.2))
    rw [hTm]
    simp only [List.map_append]
    refine LayX_append.2 ⟨LayX_append.2 ⟨hlT1, ?_, fun a ha b hb e he e' he' hk => ?_⟩, hlT2, fun a ha b hb e he e' he' hk => ?_⟩
    · cases R with
      | nil => simp [oneT, LayX]
      | cons y ys => simp [oneT, LayX]
    · obtain ⟨t, ht, rfl⟩ := List.mem_map.1 hb
      obtain ⟨rfl, _⟩ := mem_oneT ht
      obtain ⟨t', ht', he2⟩ := hRm e' he'
      exact hl12 a ha t'.2 (List.mem_map.2 ⟨t', ht', rfl⟩) e he e' he2 hk
    · rcases List.mem_append.1 ha with ha | ha
      · exact hl3 a (List.mem_append_left _ ha) b hb e he e' he' hk
      · obtain ⟨t, ht, rfl⟩ := List.mem_map.1 ha
        obtain ⟨rfl, _⟩ := mem_oneT ht
        obtain ⟨t', ht', he2⟩ := hRm e he
        exact hl3 t'.2 (List.mem_append_right _ (List.mem_map.2 ⟨t', ht', rfl⟩)) b hb e he2 e' he' hk
  · show (x.mg l).T.Pairwise _
    rw [hTm]
    refine List.pairwise_append.2 ⟨List.pairwise_append.2 ⟨hvT1, ?_, fun a ha b hb => ?_⟩, hvT2, fun a ha b hb => ?_⟩
    · cases R with
      | nil => simp [oneT]
      | cons y ys => simp [oneT]
    · obtain ⟨rfl, _⟩ := mem_oneT hb
      have := l1 a ha
      exact .inl (by show a.1 < l + 1; omega)
    · have hb2 := l2 b hb
      rcases List.mem_append.1 ha with ha | ha
      · have := l1 a ha; exact .inl (by omega)
      · obtain ⟨rfl, _⟩ := mem_oneT ha
        exact .inl (by show l + 1 < b.1; omega)
  · rcases hmem t ht with h | ⟨rfl, _⟩
    · exact lv.lev2 t (hold t h)
    · exact ⟨by show 0 ≤ l + 1; omega, by show l + 1 ≤ 2; omega⟩
  · show skO (fndL ((x.mg l).T.map (·.2)) k q) = skO (fnd (x.E.filter fun e => decide (e.s ≤ x.la)) k q)
    have hv := lv.view q hq k
    rw [← hv, hTm]
    conv => rhs; rw [hTx]
    simp only [List.map_append, fndL_append, fndL_oneT]
    have hfm : fnd (x.mixed l) k q = fndL ((x.mid l).map (·.2)) k q := fnd_layers (mixed_sorted ok l) (fun e => by
        rw [mixed_mem]
        constructor
        · rintro ⟨t, ht, he⟩; exact ⟨t.2, List.mem_map.2 ⟨t, ht, rfl⟩, he⟩
        · rintro ⟨a, ha, he⟩
          obtain ⟨t, ht, rfl⟩ := List.mem_map.1 ha
          exact ⟨t, ht, he⟩) hlMid (fun a ha => by
        obtain ⟨t, ht, rfl⟩ := List.mem_map.1 ha
        exact lv.tsorted t (mid_mem ht)) k q
    have hat : At x.Q (x.mixed l) q := by
      rcases hq with h | ⟨s, hs, rfl⟩
      · refine .inr fun e he => ?_
        obtain ⟨t, ht, he'⟩ := mixed_mem.1 he
        have := (lv.tsub t (mid_mem ht) e he').2
        have : x.la ≤ q := h
        omega
      · exact .inl (List.mem_map.2 ⟨s, hs, rfl⟩)
    rw [← hfm, ← hR, Option.or_assoc, Option.or_assoc]
    by_cases hlast : l + 1 = 2
    · have hT20 : T2 = [] := by
        refine List.eq_nil_iff_forall_not_mem.2 fun t ht => ?_
        have := l2 t ht
        have := (lv.lev2 t (hold t (.inr ht))).2
        omega
      rw [hT20]
      refine skO_or ?_
      simp only [List.map_nil, fndL_nil, Option.or_none]
      exact ndAll_sk x.Q _ (mixed_sorted ok l) hat k
    · have hb : (l + 1 == 2) = false := by simp [hlast]
      rw [hb, ndAll_fnd x.Q (mixed_sorted ok l) hat k]
  · have h1 := lv.tfew
    have h2 : (x.mg l).T.length ≤ x.T.length := by
      rw [hTm]
      conv => rhs; rw [hTx]
      simp only [List.length_append]
      cases hR' : R with
      | nil => simp [oneT]
      | cons y ys =>
        obtain ⟨t, ht, _⟩ := hRm y (by rw [hR']; exact List.mem_cons_self)
        have := List.length_pos_of_mem ht
        have := oneT_len (l + 1) (y :: ys)
        omega
    omega
end Go.Proofs.YtakipjofboipmaaGreat
