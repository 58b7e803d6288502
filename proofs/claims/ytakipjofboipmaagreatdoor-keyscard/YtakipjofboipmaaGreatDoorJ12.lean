/- The walks of this proof: letting a snapshot go. -/
import Derived.Laws.CopyRow
import Derived.Test.YtakipjofboipmaaGreatDoorJ11
namespace Go.Proofs.YtakipjofboipmaaGreatDoor
open Go.RowKit Go.Sort

/-- append within one row, as one step of a region that draws: the row written out. -/
theorem step_append_row {P : Program} {ops : Array Oper} {o : Oper} {a : Act} {w : World} {K : Act → World → Prop} {Q : Exit → Act → World → Prop} {E : Prop}
    (hgd : o.guard = none) (s x : Operand) (t : TypeId) (hop : o.op = Op.call { callee := Callee.builtin Builtin.append, args := #[s, x], argTypes := #[t, t] })
    (e : TypeId) (i : TypeInfo) (size : Nat) (ht : P.underlying t = some (.slice e)) (hi : P.info? e = some i) (hsz : i.size = size)
    (g n cap : Nat) (hs : a.eval s = .slice (some ⟨g, 0, none⟩) n cap)
    (ad : Addr) (m c : Nat) (news : List Value) (hx : a.eval x = .slice (some ad) m c) (cur : Array Value) (hg : w.heap[g]? = some (.cells cur e (0, 0))) (hl : news.length = m * size) (hnews : ∀ j u, news[j]? = some u → w.cell? (ad.add j) = some u) (h1 : ∀ u ∈ news, u.oneCell' = true)
    (hroom : n + m ≤ cap) (hfit : n * size + news.length ≤ cur.size)
    (hK : K (a.put o.dst (.slice (some ⟨g, 0, none⟩) (n + m) cap)) (w.setRow g (cur.toList.take (n * size) ++ news ++ cur.toList.drop (n * size + news.length)).toArray)) :
    if Region.wanted o (yielded ops a.tmps) = true then Oper.wp P o a w K Q else E := by
  have hw : Region.wanted o (yielded ops a.tmps) = true := by simp [Region.wanted, hgd]
  rw [if_pos hw]
  subst hsz
  have hrun := run_append_room (P := P) w t o.type e i ht hi g n cap cur hg ad m c news hl hnews h1 hroom hfit
  unfold Oper.wp
  simp only [execOp, hop, resolve, invoke, builtin, Sem.run_bind, Sem.run_pure, Result.andThen_ok, List.map_toArray, List.map_cons, List.map_nil, hs, hx, hrun]
  exact hK

/-- clear of elements in a row, the row written out. -/
theorem run_clear_row {P : Program} (w : World) (t ty e : TypeId) (z : Value) (ht : P.underlying t = some (.slice e)) (hz : (zeroValue e).run P w = .ok z w)
    (g off n c : Nat) (cur : Array Value) (hg : w.heap[g]? = some (.cells cur e (0, 0))) (cs : List Value) (hcs : (Builtin.zeroCells z.cells (n + 1)).toList = cs) (hfit : off + cs.length ≤ cur.size) (h1 : ∀ v ∈ cs, v.oneCell' = true) :
    (Builtin.clear_ #[t] ty #[.slice (some ⟨g, off, none⟩) (n + 1) c]).run P w = .ok (.tuple #[]) (w.setRow g (cur.toList.take off ++ cs ++ cur.toList.drop (off + cs.length)).toArray) := by
  have hst := run_storeCells_at P g off e cs 0 cur w hg (by simpa using hfit) h1
  simp only [Nat.add_zero] at hst
  simp [Builtin.clear_, run_underlying ht, hz, hcs, hst]

/-- What Delete leaves of a row. -/
def DelPost (g cap i m : Nat) (cur : Array Value) (w : World) (e : Ending) (w' : World) : Prop :=
  e = .returned (.slice (some ⟨g, 0, none⟩) (i + m) cap) ∧ w.grownBy w' (some g) ∧ ∃ cur' : Array Value, w'.heap[g]? = some (.cells cur' 205 (0, 0)) ∧ cur'.size = cur.size ∧ cur'.toList.take ((i + m) * 2) = cur.toList.take (i * 2) ++ (cur.toList.drop ((i + 1) * 2)).take (m * 2)

set_option maxHeartbeats 1000000 in
set_option maxRecDepth 100000 in
theorem delete_any (g cap i m : Nat) (cur : Array Value) (w : World) (hg : w.heap[g]? = some (.cells cur 205 (0, 0))) (hc : i + m + 1 ≤ cap) (hs : cur.size = cap * 2) (h4 : i + m + 1 ≤ 4) (h1c : ∀ u ∈ cur.toList.take ((i + m + 1) * 2), u.oneCell' = true) :
    Calls Tryz.prog 111 #[.slice (some ⟨g, 0, none⟩) (i + m + 1) cap, .int .i64 i, .int .i64 (i + 1)] w fun e w' => DelPost g cap i m cur w e w' := by
  obtain ⟨i0, hi, hz0, hz1, hz2⟩ := info_parts Tryz.info205
  obtain ⟨news, hnews⟩ : ∃ news, (cur.toList.drop ((i + 1) * 2)).take (m * 2) = news := ⟨_, rfl⟩
  have hnl : news.length = m * 2 := by rw [← hnews]; simp; omega
  have hn1 : Hid (∀ u ∈ news, u.oneCell' = true) := fun u hu => h1c u (by
    rw [← hnews] at hu
    obtain ⟨j, hj, rfl⟩ := List.getElem_of_mem hu
    simp only [List.getElem_take, List.getElem_drop]
    refine List.mem_iff_getElem.2 ⟨(i + 1) * 2 + j, by simp at hj ⊢; omega, by simp⟩)
  have hcel : Hid (∀ j u, news[j]? = some u → w.cell? ((⟨g, (i + 1) * 2, none⟩ : Addr).add j) = some u) := fun j u hj => by
    rw [← hnews, List.getElem?_take] at hj
    split at hj
    · rw [List.getElem?_drop] at hj
      have hadd : (⟨g, (i + 1) * 2, none⟩ : Addr).add j = ⟨g, (i + 1) * 2 + j, none⟩ := by unfold Addr.add; split <;> simp_all
      rw [hadd, cell_of_row w g _ cur 205 (0, 0) hg]
      simpa using hj
    · cases hj
  have HG : Hid (w.heap[g]? = some (.cells cur 205 (0, 0))) := hg
  have HN : Hid ((cur.toList.drop ((i + 1) * 2)).take (m * 2) = news) := hnews
  have HS : Hid (cur.size = cap * 2) := hs
  have hic : i ≤ cap := by omega
  have hi1 : (i : Int) + 1 ≤ (i : Int) + (m : Int) + 1 := by omega
  have h00 : (0 : Int) ≤ (i : Int) + 1 := by omega
  have hne : ((i : Int) == (i : Int) + 1) = false := by simp; omega
  clear hg hnews hs h1c
  generalize hrow : (cur.toList.take (i * 2) ++ news ++ cur.toList.drop (i * 2 + news.length)).toArray = row1
  have HR1 : Hid _ := hrow
  clear hrow
  have HNL : Hid (news.length = m * 2) := hnl
  clear hnl
  have hr1 : Hid ((w.drew.setRow g row1).heap[g]? = some (.cells row1 205 (0, 0))) := setRow_heap w.drew g cur _ 205 _ HG.out
  have hz128 : Hid (∀ w : World, (zeroValue 205).run Tryz.prog w = .ok (.agg #[.int .i64 0, .int .i64 0]) w) := fun w => by simp [zeroValue, typeInfo, hi, hz0]
  have hrs0 : row1.size = cap * 2 := by
    rw [← HR1.out]
    simp only [List.size_toArray, List.length_append, List.length_take, List.length_drop, Array.length_toList, HNL.out, HS.out]
    omega
  have hrs : Hid (row1.size = cap * 2) := hrs0
  clear hrs0
  obtain ⟨row2, hrow2⟩ : ∃ row2, (row1.toList.take ((i + m) * 2) ++ [Value.int .i64 0, .int .i64 0] ++ row1.toList.drop ((i + m) * 2 + 2)).toArray = row2 := ⟨_, rfl⟩
  have HR2 : Hid _ := hrow2
  have hclr : ∀ c, (Builtin.clear_ #[78] 0 #[.slice (some ⟨g, (i + m) * 2, none⟩) 1 c]).run Tryz.prog (w.drew.setRow g row1) = .ok (.tuple #[]) ((w.drew.setRow g row1).setRow g row2) := fun c => by
    rw [← hrow2]
    exact run_clear_row (w.drew.setRow g row1) 78 0 205 (.agg #[.int .i64 0, .int .i64 0]) Tryz.underlying78 (hz128.out _) g ((i + m) * 2) 0 c row1 hr1.out [.int .i64 0, .int .i64 0] (by kernel_rfl) (by have := hrs.out; simp; omega) (by intro v hv; simp at hv; subst hv; rfl)
  have FIN : Hid (w.grownBy ((w.drew.setRow g row1).setRow g row2) (some g) ∧ ∃ cur' : Array Value, ((w.drew.setRow g row1).setRow g row2).heap[g]? = some (.cells cur' 205 (0, 0)) ∧ cur'.size = cur.size ∧ cur'.toList.take ((i + m) * 2) = cur.toList.take (i * 2) ++ (cur.toList.drop ((i + 1) * 2)).take (m * 2)) := by
    refine ⟨⟨rfl, rfl, rfl, by simp, fun k _ hk => ?_⟩, row2, setRow_heap _ g row1 _ 205 _ hr1.out, ?_, ?_⟩
    · have hk' : k ≠ g := fun e => hk (by rw [e])
      rw [setRow_other _ _ _ _ hk', setRow_other _ _ _ _ hk']
      rfl
    · rw [← hrow2]
      simp only [List.size_toArray, List.length_append, List.length_take, List.length_drop, Array.length_toList, HS.out, hrs.out, List.length_cons, List.length_nil]
      omega
    · have hl1 : (row1.toList.take ((i + m) * 2)).length = (i + m) * 2 := by simp only [List.length_take, Array.length_toList, hrs.out]; omega
      have hl2 : (cur.toList.take (i * 2)).length = i * 2 := by simp only [List.length_take, Array.length_toList, HS.out]; omega
      rw [← hrow2, HN.out]
      show List.take _ (_ ++ _ ++ _) = _
      rw [List.append_assoc, List.take_left' hl1, ← HR1.out]
      show List.take _ (_ ++ _ ++ _) = _
      rw [List.take_left' (by rw [List.length_append, hl2, HNL.out]; omega)]
  clear hrow2
  by_cases hce : cap = i + 1
  · obtain rfl : m = 0 := by omega
    have hn0 : news = [] := List.eq_nil_of_length_eq_zero (by have := HNL.out; omega)
    have HN0 : Hid (news = []) := hn0
    clear hn0
    subst hce
    simp only [Nat.add_zero] at hclr
    have hii : (i : Int) ≤ (i : Int) + 1 := by omega
    go_enter Tryz.func111, Tryz.ntmps111
    go_wp2
    go_region_law (refine step_append_row rfl (.tmp 22) (.tmp 25) 78 rfl 205 i0 2 Tryz.underlying78 hi hz1 g i (i + 1) (by simp [Act.eval, Act.put]) ⟨g, 0, none⟩ 0 0 news (by simp [Act.eval, Act.put]) cur (by exact HG.out) HNL.out (by rw [HN0.out]; simp) hn1.out (by omega) (by rw [HS.out, HNL.out]; omega) ?_; rw [HR1.out])
    go_wp2
    go_ret
    exact ⟨rfl, FIN.out⟩
  · go_enter Tryz.func111, Tryz.ntmps111
    go_wp2
    go_region_law (refine step_append_row rfl (.tmp 22) (.tmp 25) 78 rfl 205 i0 2 Tryz.underlying78 hi hz1 g i cap (by simp [Act.eval, Act.put]) ⟨g, (i + 1) * 2, none⟩ m (cap - (i + 1)) news (by simp [Act.eval, Act.put]) cur (by exact HG.out) HNL.out (by exact hcel.out) hn1.out (by omega) (by rw [HS.out, HNL.out]; omega) ?_; rw [HR1.out])
    go_wp2
    go_ret
    exact ⟨rfl, FIN.out⟩

theorem scells_len (S : List Sn) : (scells S).length = S.length * 2 := flat_len _ 2 (fun a => by rfl) S

theorem flat_take {α β : Type} (f : α → List β) (n : Nat) (hf : ∀ a, (f a).length = n) (l : List α) (k : Nat) : (l.flatMap f).take (k * n) = (l.take k).flatMap f := by
  induction l generalizing k with
  | nil => simp
  | cons a l ih =>
    cases k with
    | zero => simp
    | succ k =>
      rw [List.flatMap_cons, List.take_append, hf, List.take_of_length_le (by rw [hf, Nat.add_mul]; omega), show (k + 1) * n - n = k * n by rw [Nat.add_mul]; omega, ih, List.take_succ_cons, List.flatMap_cons]

theorem flat_drop {α β : Type} (f : α → List β) (n : Nat) (hf : ∀ a, (f a).length = n) (l : List α) (k : Nat) : (l.flatMap f).drop (k * n) = (l.drop k).flatMap f := by
  induction l generalizing k with
  | nil => simp
  | cons a l ih =>
    cases k with
    | zero => simp
    | succ k =>
      rw [List.flatMap_cons, List.drop_append, hf, List.drop_of_length_le (by rw [hf, Nat.add_mul]; omega), show (k + 1) * n - n = k * n by rw [Nat.add_mul]; omega, ih, List.drop_succ_cons, List.nil_append]

/-- A snapshot's row behind Delete. -/
theorem del_owns {w w' : World} {D : Nat → Prop} {g cap i m : Nat} {S : List Sn} {cur : Array Value} (hS : S.length = i + m + 1) (hB : D g) (hcm : cap ≤ maxLen) (hle : i + m + 1 ≤ cap) (hs : cur.size = cap * 2) (htake : cur.toList.take (S.length * 2) = scells S)
    (h : DelPost g cap i m cur w (.returned (.slice (some ⟨g, 0, none⟩) (i + m) cap)) w') : OwnsIn w' D 205 2 (.slice (some ⟨g, 0, none⟩) (i + m) cap) (S.eraseIdx i).length (scells (S.eraseIdx i)) := by
  obtain ⟨_, _, cur', hg', hsz, ht⟩ := h
  have hl : (S.eraseIdx i).length = i + m := by rw [List.length_eraseIdx, if_pos (by omega)]; omega
  rw [hl]
  have e : scells (S.eraseIdx i) = scells (S.take i) ++ scells (S.drop (i + 1)) := by rw [List.eraseIdx_eq_take_drop_succ]; simp [scells]
  have e1 : cur.toList.take (i * 2) = scells (S.take i) := by
    have : (cur.toList.take (S.length * 2)).take (i * 2) = cur.toList.take (i * 2) := by rw [List.take_take, Nat.min_eq_left (by omega)]
    rw [← this, htake]
    exact flat_take _ 2 (fun a => by rfl) S i
  have e2 : (cur.toList.drop ((i + 1) * 2)).take (m * 2) = scells (S.drop (i + 1)) := by
    have : (cur.toList.take (S.length * 2)).drop ((i + 1) * 2) = (cur.toList.drop ((i + 1) * 2)).take (m * 2) := by rw [List.drop_take]; congr 1; omega
    rw [← this, htake]
    exact flat_drop _ 2 (fun a => by rfl) S (i + 1)
  refine ⟨⟨by rw [scells_len, hl], .inr ⟨g, cap, cur', rfl, Nat.zero_le _, hg', by omega, hcm, by rw [hsz, hs], ?_⟩⟩, fun g' hg => by simp only [Value.ownBlock, Option.some.injEq] at hg; subst hg; exact hB⟩
  rw [ht, e1, e2, e]

set_option maxHeartbeats 1000000 in
theorem dropSnap_any (x : St) (D F : Nat → Prop) (sb : Nat) (n : Int) (w : World) (hx : StoreAt D F sb x w) (ok : StOk x) :
    Calls Tryz.prog 68 #[.pointer (some ⟨sb, 5, none⟩), .int .i64 n] w fun e w' =>
      (sidx x.S n = none ∧ e = .returned (.bool false) ∧ Below w.heap.size w w') ∨
      (∃ i, sidx x.S n = some i ∧ e = .returned (.bool true) ∧ StoreAt D F sb { x with S := x.S.eraseIdx i } w' ∧ Kd D [82, 205] w w') := by
  have HX : Hid (StoreAt D F sb x w) := hx
  obtain ⟨vE, vL, vR, vS, hB, hs, hE, hT, hR, hS⟩ := hx
  have c3 : w.cell? ⟨sb, 5, none⟩ = some vS := by simp [World.cell?, hs]
  have hi := indexSnap_any x.S vS 0 sb n w ok.snaps c3 hS.own
  generalize hr : sidx x.S n = r at hi
  have HI : Hid _ := hi
  cases r with
  | none =>
    clear hi hs hE hT hR hS hr c3
    go_enter Tryz.func68, Tryz.ntmps68
    go_wp2_with fail
    refine Calls.mono HI.out ?_
    rintro e w1 ⟨rfl, hb⟩
    have HB : Hid (Below w.heap.size w w1) := hb
    clear hb
    unfold idxVal
    go_wp2
    go_ret
    first | exact .inl ⟨rfl, rfl, HB.out⟩ | exact .inl ⟨trivial, rfl, HB.out⟩
  | some i =>
    have hil : i < x.S.length := (List.findIdx?_eq_some_iff_getElem.1 hr).1
    obtain ⟨m, hm⟩ : ∃ m, x.S.length = i + m + 1 := ⟨x.S.length - i - 1, by omega⟩
    have hl4 := ok.snaps
    have hSd := hS.dom
    rcases hS.own.2 with ⟨_, h0⟩ | ⟨g, cap, cur, rfl, _, hg, hnc, hcm, hsz, htake⟩
    · omega
    have hBg : D g := hSd g rfl
    have h1c : ∀ u ∈ cur.toList.take ((i + m + 1) * 2), u.oneCell' = true := by
      rw [← hm, htake]
      intro u hu
      simp only [scells, List.mem_flatMap, Sn.cells, List.mem_cons, List.not_mem_nil, or_false] at hu
      obtain ⟨a, _, rfl | rfl⟩ := hu <;> rfl
    rw [hm] at hnc
    have HD : Hid (∀ w1, Below w.heap.size w w1 → Calls Tryz.prog 111 #[.slice (some ⟨g, 0, none⟩) (i + m + 1) cap, .int .i64 i, .int .i64 (i + 1)] w1 fun e w' => DelPost g cap i m cur w1 e w') := fun w1 hb =>
      delete_any g cap i m cur w1 ((hb.block g (lt_of_block hg)).trans hg) hnc hsz (by omega) h1c
    have HDO : Hid (∀ w1 w2, DelPost g cap i m cur w1 (.returned (.slice (some ⟨g, 0, none⟩) (i + m) cap)) w2 → OwnsIn w2 D 205 2 (.slice (some ⟨g, 0, none⟩) (i + m) cap) (x.S.eraseIdx i).length (scells (x.S.eraseIdx i))) := fun w1 w2 h =>
      del_owns hm hBg hcm hnc hsz htake h
    have HG : Hid (w.heap[g]? = some (.cells cur 205 (0, 0))) := hg
    have HF : Hid (w.heap[sb]? = some (.cells #[vE, vL, vR, .int .i64 (rl (x.B.take x.sy)), .int .i64 x.la, .slice (some ⟨g, 0, none⟩) (i + m + 1) cap, .int .i64 x.lastSnap, .int .i64 x.last] 82 (0, 0)) ∧ Rest D F x vE vL vR w ∧ D sb ∧ D g) := ⟨by rw [hs, hm], ⟨hE, hT, hR⟩, hB, hBg⟩
    rw [hm] at c3
    clear hi hs hE hT hR hS hSd hBg hg htake h1c hr
    go_enter Tryz.func68, Tryz.ntmps68
    go_wp2_with fail
    refine Calls.mono HI.out ?_
    rintro e w1 ⟨rfl, hb⟩
    have HB : Hid (Below w.heap.size w w1) := hb
    have c3' := cell_later hb c3
    clear hb
    unfold idxVal
    go_wp2_with fail
    refine Calls.mono (HD.out _ HB.out) ?_
    rintro e w2 hdp
    obtain ⟨rfl, hgr, hrest⟩ := id hdp
    have K2 : Hid (Kd D [205] w w2) := (Kd.of_below HB.out).trans ⟨hgr.os, hgr.tape, hgr.output, hgr.size, fun k hk hor => hgr.block k hk (fun e => by
      simp only [Option.some.injEq] at e
      subst e
      have hgk := (HB.out.block k (lt_of_block HG.out)).trans HG.out
      rcases hor with h1 | h1
      · exact h1 HF.out.2.2.2
      · exact h1 _ _ _ hgk (by simp))⟩
    have HO : Hid (OwnsIn w2 D 205 2 (.slice (some ⟨g, 0, none⟩) (i + m) cap) (x.S.eraseIdx i).length (scells (x.S.eraseIdx i))) := HDO.out _ _ hdp
    have hs2 : Hid (w2.heap[sb]? = some (.cells #[vE, vL, vR, .int .i64 (rl (x.B.take x.sy)), .int .i64 x.la, .slice (some ⟨g, 0, none⟩) (i + m + 1) cap, .int .i64 x.lastSnap, .int .i64 x.last] 82 (0, 0))) := K2.out.keep HF.out.1 (by simp)
    have c3b : w2.cell? ⟨sb, 5, none⟩ = some (.slice (some ⟨g, 0, none⟩) (i + m + 1) cap) := by simp [World.cell?, hs2.out]
    have f3b : w2.frozen? ⟨sb, 5, none⟩ = false := by simp [World.frozen?, hs2.out]
    clear hdp hgr hrest
    go_wp2
    go_ret
    exact .inr ⟨i, rfl, rfl, put_snaps hs2.out HF.out.2.2.1 (HF.out.2.1.kd K2.out (by simp) (by simp) (by simp)) HO.out, (K2.out.mono (by simp)).trans ((Kd.field HF.out.2.2.1 hs2.out 5 _).mono (by simp))⟩

set_option maxHeartbeats 1000000 in
theorem drop_any (x : St) (D F : Nat → Prop) (sb : Nat) (n : Int) (w : World) (hx : StoreAt D F sb x w) (ok : StOk x) :
    Calls Tryz.prog 28 #[.pointer (some ⟨sb, 0, none⟩), .int .i64 n] w fun e w' =>
      (sidx x.S n = none ∧ e = .returned (.int .i64 5) ∧ Below w.heap.size w w') ∨
      (∃ i, sidx x.S n = some i ∧ e = .returned (.int .i64 0) ∧ StoreAt D F sb { x with S := x.S.eraseIdx i } w' ∧ Kd D [82, 205] w w') := by
  have hd := dropSnap_any x D F sb n w hx ok
  have HD : Hid _ := hd
  clear hd hx
  go_enter Tryz.func28, Tryz.ntmps28
  go_wp2_with fail
  refine Calls.mono HD.out ?_
  rintro e w1 (⟨h1, rfl, h2⟩ | ⟨i, h1, rfl, h2, h3⟩)
  · have R1 : Hid _ := And.intro h1 h2
    clear h1 h2
    go_wp2
    go_ret
    exact .inl ⟨R1.out.1, rfl, R1.out.2⟩
  · have R1 : Hid _ := And.intro h1 (And.intro h2 h3)
    clear h1 h2 h3
    go_wp2
    go_ret
    exact .inr ⟨i, R1.out.1, rfl, R1.out.2⟩
end Go.Proofs.YtakipjofboipmaaGreatDoor

/- The walks of this proof: whether pairs are a batch. -/
namespace Go.Proofs.YtakipjofboipmaaGreatDoor
open Go.RowKit Go.Sort

set_option maxHeartbeats 400000 in
theorem hasNoKey_any (p : Pr) (w : World) (ok : PrOk p) :
    Calls Tryz.prog 152 #[.agg #[.string p.k, .string p.v, .bool p.g]] w fun e w' => e = .returned (.bool false) ∧ Below w.heap.size w w' := by
  have hk : ∀ w, Calls Tryz.prog 57 #[.string p.k] w fun e w' => e = .returned (.bool true) ∧ w' = w := fun w => by
    have h := isKey_any p.k w (by have := ok.hi; unfold maxLen; omega)
    simpa only [ok.lo, ok.hi, decide_true, Bool.and_self] using h
  have HK : Hid _ := hk
  clear hk
  go_enter Tryz.func152, Tryz.ntmps152
  go_wp2_with fail
  refine Calls.mono (HK.out _) ?_
  rintro e w0 ⟨rfl, rfl⟩
  go_wp2
  go_ret
  exact ⟨rfl, (Below.refl _ _).alloc (Nat.le_refl _) _⟩

set_option maxHeartbeats 400000 in
theorem isLong_any (p : Pr) (w : World) (ok : PrOk p) :
    Calls Tryz.prog 153 #[.agg #[.string p.k, .string p.v, .bool p.g]] w fun e w' => e = .returned (.bool false) ∧ Below w.heap.size w w' := by
  have hv := ok.val
  have hd : decide ((8 : Int) < (p.v.size : Int)) = false := by simp; omega
  go_enter Tryz.func153, Tryz.ntmps153
  go_wp2
  go_ret
  exact ⟨by simp, (Below.refl _ _).alloc (Nat.le_refl _) _⟩

set_option maxHeartbeats 400000 in
theorem goneWith_any (p : Pr) (w : World) (ok : PrOk p) :
    Calls Tryz.prog 154 #[.agg #[.string p.k, .string p.v, .bool p.g]] w fun e w' => e = .returned (.bool false) ∧ Below w.heap.size w w' := by
  have hg := ok.gone
  obtain ⟨k, v, g⟩ := p
  cases g with
  | false =>
    clear hg ok
    go_enter Tryz.func154, Tryz.ntmps154
    go_wp2
    go_ret
    exact ⟨rfl, (Below.refl _ _).alloc (Nat.le_refl _) _⟩
  | true =>
    obtain rfl : v = ⟨#[]⟩ := hg rfl
    clear hg ok
    go_enter Tryz.func154, Tryz.ntmps154
    go_wp2
    go_ret
    exact ⟨rfl, (Below.refl _ _).alloc (Nat.le_refl _) _⟩

/-- The cells of pairs in a row. -/
theorem pr_cells {w w' : World} {base : Nat} {v : Value} {L : List Pr} (h : w.ownsRow base 57 3 v L.length (pcells L)) (hb : Below w.heap.size w w') (hl : 0 < L.length) :
    ∃ g cap, v = .slice (some ⟨g, 0, none⟩) L.length cap ∧ base ≤ g ∧ g < w.heap.size ∧ L.length ≤ cap ∧ ∀ (k : Nat) p, L[k]? = some p → w'.cell? ⟨g, k * 3, none⟩ = some (.string p.k) ∧ w'.cell? ⟨g, k * 3 + 1, none⟩ = some (.string p.v) ∧ w'.cell? ⟨g, k * 3 + 2, none⟩ = some (.bool p.g) := by
  obtain ⟨g, cap, rfl, hbg, hgl, hcap, hcell⟩ := row_cell (fun a => by rfl) h hl
  exact ⟨g, cap, rfl, hbg, hgl, hcap, fun k p hp => ⟨cell_later hb (hcell k p 0 hp (by omega)), cell_later hb (hcell k p 1 hp (by omega)), cell_later hb (hcell k p 2 hp (by omega))⟩⟩

set_option maxHeartbeats 1000000 in
theorem index55 (L : List Pr) (v : Value) (base : Nat) (w : World) (h : w.ownsRow base 57 3 v L.length (pcells L)) (h4 : L.length ≤ 4) (ok : ∀ p ∈ L, PrOk p) :
    Calls Tryz.prog 202 #[v, .func (.func 152) #[] #[]] w fun e w' => e = .returned (.int .i64 (-1)) ∧ Below w.heap.size w w' := by
  obtain ⟨ao, cap, rfl⟩ := slice_form h
  have H : Hid _ := h
  have OK : Hid (∀ p ∈ L, PrOk p) := ok
  clear h ok
  go_enter Tryz.func202, Tryz.ntmps202
  go_wp2
  go_loopw [8] (fun i wr => ∃ k : Nat, k ≤ L.length ∧ i = .int .i64 k ∧ Hid (Below w.heap.size w wr)) (fun i _ => L.length - (intOf i).toNat)
  case atStart => exact ⟨0, Nat.zero_le _, rfl, Below.refl _ _⟩
  case round =>
    obtain ⟨k, hk, rfl, HB⟩ := hrel
    by_cases hlt : k < L.length
    · obtain ⟨g, cap', hv', hbg, hgl, hcap, hcell⟩ := pr_cells H.out HB.out (by omega)
      simp only [Value.slice.injEq, true_and] at hv'
      obtain ⟨rfl, rfl⟩ := hv'
      obtain ⟨p, hp⟩ : ∃ p, L[k]? = some p := ⟨_, List.getElem?_eq_getElem hlt⟩
      obtain ⟨c0, c1, c2⟩ := hcell k p hp
      have OKp : Hid (PrOk p) := OK.out p (List.mem_of_getElem? hp)
      clear hp hcell
      go_wp2_with (go_at_call 152; refine (hasNoKey_any p _ OKp.out).mono ?_; rintro e w2 ⟨rfl, hb2⟩; have HB2 : Hid (Below w.heap.size w w2) := below_trans' HB.out hb2; clear hb2)
      go_roundw
      case rel => exact ⟨k + 1, by omega, by go_num, by assumption⟩
      case measure => simp [intOf]; omega
    · go_wp2
      go_ret
      exact ⟨rfl, HB.out⟩

set_option maxHeartbeats 1000000 in
theorem contains55 (L : List Pr) (v : Value) (base : Nat) (w : World) (h : w.ownsRow base 57 3 v L.length (pcells L)) (h4 : L.length ≤ 4) (ok : ∀ p ∈ L, PrOk p) :
    Calls Tryz.prog 151 #[v, .func (.func 152) #[] #[]] w fun e w' => e = .returned (.bool false) ∧ Below w.heap.size w w' := by
  have hi := index55 L v base w h h4 ok
  have HI : Hid _ := hi
  clear hi h ok
  go_enter Tryz.func151, Tryz.ntmps151
  go_wp2_with fail
  refine Calls.mono HI.out ?_
  rintro e w0 ⟨rfl, hb⟩
  have HB : Hid (Below w.heap.size w w0) := hb
  clear hb
  go_wp2
  go_ret
  exact ⟨rfl, HB.out⟩

set_option maxHeartbeats 1000000 in
theorem index56 (L : List Pr) (v : Value) (base : Nat) (w : World) (h : w.ownsRow base 57 3 v L.length (pcells L)) (h4 : L.length ≤ 4) (ok : ∀ p ∈ L, PrOk p) :
    Calls Tryz.prog 202 #[v, .func (.func 153) #[] #[]] w fun e w' => e = .returned (.int .i64 (-1)) ∧ Below w.heap.size w w' := by
  obtain ⟨ao, cap, rfl⟩ := slice_form h
  have H : Hid _ := h
  have OK : Hid (∀ p ∈ L, PrOk p) := ok
  clear h ok
  go_enter Tryz.func202, Tryz.ntmps202
  go_wp2
  go_loopw [8] (fun i wr => ∃ k : Nat, k ≤ L.length ∧ i = .int .i64 k ∧ Hid (Below w.heap.size w wr)) (fun i _ => L.length - (intOf i).toNat)
  case atStart => exact ⟨0, Nat.zero_le _, rfl, Below.refl _ _⟩
  case round =>
    obtain ⟨k, hk, rfl, HB⟩ := hrel
    by_cases hlt : k < L.length
    · obtain ⟨g, cap', hv', hbg, hgl, hcap, hcell⟩ := pr_cells H.out HB.out (by omega)
      simp only [Value.slice.injEq, true_and] at hv'
      obtain ⟨rfl, rfl⟩ := hv'
      obtain ⟨p, hp⟩ : ∃ p, L[k]? = some p := ⟨_, List.getElem?_eq_getElem hlt⟩
      obtain ⟨c0, c1, c2⟩ := hcell k p hp
      have OKp : Hid (PrOk p) := OK.out p (List.mem_of_getElem? hp)
      clear hp hcell
      go_wp2_with (go_at_call 153; refine (isLong_any p _ OKp.out).mono ?_; rintro e w2 ⟨rfl, hb2⟩; have HB2 : Hid (Below w.heap.size w w2) := below_trans' HB.out hb2; clear hb2)
      go_roundw
      case rel => exact ⟨k + 1, by omega, by go_num, by assumption⟩
      case measure => simp [intOf]; omega
    · go_wp2
      go_ret
      exact ⟨rfl, HB.out⟩

set_option maxHeartbeats 1000000 in
theorem contains56 (L : List Pr) (v : Value) (base : Nat) (w : World) (h : w.ownsRow base 57 3 v L.length (pcells L)) (h4 : L.length ≤ 4) (ok : ∀ p ∈ L, PrOk p) :
    Calls Tryz.prog 151 #[v, .func (.func 153) #[] #[]] w fun e w' => e = .returned (.bool false) ∧ Below w.heap.size w w' := by
  have hi := index56 L v base w h h4 ok
  have HI : Hid _ := hi
  clear hi h ok
  go_enter Tryz.func151, Tryz.ntmps151
  go_wp2_with fail
  refine Calls.mono HI.out ?_
  rintro e w0 ⟨rfl, hb⟩
  have HB : Hid (Below w.heap.size w w0) := hb
  clear hb
  go_wp2
  go_ret
  exact ⟨rfl, HB.out⟩

set_option maxHeartbeats 1000000 in
theorem index57 (L : List Pr) (v : Value) (base : Nat) (w : World) (h : w.ownsRow base 57 3 v L.length (pcells L)) (h4 : L.length ≤ 4) (ok : ∀ p ∈ L, PrOk p) :
    Calls Tryz.prog 202 #[v, .func (.func 154) #[] #[]] w fun e w' => e = .returned (.int .i64 (-1)) ∧ Below w.heap.size w w' := by
  obtain ⟨ao, cap, rfl⟩ := slice_form h
  have H : Hid _ := h
  have OK : Hid (∀ p ∈ L, PrOk p) := ok
  clear h ok
  go_enter Tryz.func202, Tryz.ntmps202
  go_wp2
  go_loopw [8] (fun i wr => ∃ k : Nat, k ≤ L.length ∧ i = .int .i64 k ∧ Hid (Below w.heap.size w wr)) (fun i _ => L.length - (intOf i).toNat)
  case atStart => exact ⟨0, Nat.zero_le _, rfl, Below.refl _ _⟩
  case round =>
    obtain ⟨k, hk, rfl, HB⟩ := hrel
    by_cases hlt : k < L.length
    · obtain ⟨g, cap', hv', hbg, hgl, hcap, hcell⟩ := pr_cells H.out HB.out (by omega)
      simp only [Value.slice.injEq, true_and] at hv'
      obtain ⟨rfl, rfl⟩ := hv'
      obtain ⟨p, hp⟩ : ∃ p, L[k]? = some p := ⟨_, List.getElem?_eq_getElem hlt⟩
      obtain ⟨c0, c1, c2⟩ := hcell k p hp
      have OKp : Hid (PrOk p) := OK.out p (List.mem_of_getElem? hp)
      clear hp hcell
      go_wp2_with (go_at_call 154; refine (goneWith_any p _ OKp.out).mono ?_; rintro e w2 ⟨rfl, hb2⟩; have HB2 : Hid (Below w.heap.size w w2) := below_trans' HB.out hb2; clear hb2)
      go_roundw
      case rel => exact ⟨k + 1, by omega, by go_num, by assumption⟩
      case measure => simp [intOf]; omega
    · go_wp2
      go_ret
      exact ⟨rfl, HB.out⟩

set_option maxHeartbeats 1000000 in
theorem contains57 (L : List Pr) (v : Value) (base : Nat) (w : World) (h : w.ownsRow base 57 3 v L.length (pcells L)) (h4 : L.length ≤ 4) (ok : ∀ p ∈ L, PrOk p) :
    Calls Tryz.prog 151 #[v, .func (.func 154) #[] #[]] w fun e w' => e = .returned (.bool false) ∧ Below w.heap.size w w' := by
  have hi := index57 L v base w h h4 ok
  have HI : Hid _ := hi
  clear hi h ok
  go_enter Tryz.func151, Tryz.ntmps151
  go_wp2_with fail
  refine Calls.mono HI.out ?_
  rintro e w0 ⟨rfl, hb⟩
  have HB : Hid (Below w.heap.size w w0) := hb
  clear hb
  go_wp2
  go_ret
  exact ⟨rfl, HB.out⟩

set_option maxHeartbeats 1000000 in
theorem check_any (L : List Pr) (v : Value) (base : Nat) (w : World) (h : w.ownsRow base 57 3 v L.length (pcells L)) (h1 : 1 ≤ L.length) (h4 : L.length ≤ 4) (ok : ∀ p ∈ L, PrOk p) :
    Calls Tryz.prog 103 #[v] w fun e w' => e = .returned (.int .i64 0) ∧ Below w.heap.size w w' := by
  have H5 : Hid (∀ w1, Below w.heap.size w w1 → Calls Tryz.prog 151 #[v, .func (.func 152) #[] #[]] w1 fun e w' => e = .returned (.bool false) ∧ Below w1.heap.size w1 w') := fun w1 hb => contains55 L v base w1 ((Kp.of_below (B := 0) (ts := []) hb).owns h (by simp)) h4 ok
  have H6 : Hid (∀ w1, Below w.heap.size w w1 → Calls Tryz.prog 151 #[v, .func (.func 153) #[] #[]] w1 fun e w' => e = .returned (.bool false) ∧ Below w1.heap.size w1 w') := fun w1 hb => contains56 L v base w1 ((Kp.of_below (B := 0) (ts := []) hb).owns h (by simp)) h4 ok
  have H7 : Hid (∀ w1, Below w.heap.size w w1 → Calls Tryz.prog 151 #[v, .func (.func 154) #[] #[]] w1 fun e w' => e = .returned (.bool false) ∧ Below w1.heap.size w1 w') := fun w1 hb => contains57 L v base w1 ((Kp.of_below (B := 0) (ts := []) hb).owns h (by simp)) h4 ok
  obtain ⟨ao, cap, rfl⟩ := slice_form h
  clear h ok
  have hd0 : ((L.length : Int) == 0) = false := by rw [beq_eq_false_iff_ne]; omega
  go_enter Tryz.func103, Tryz.ntmps103
  go_wp2_with fail
  refine Calls.mono (H5.out _ (Below.refl _ _)) ?_
  rintro e wa ⟨rfl, hb⟩
  have HA : Hid (Below w.heap.size w wa) := hb
  clear hb
  go_wp2_with fail
  refine Calls.mono (H6.out _ HA.out) ?_
  rintro e wb ⟨rfl, hb⟩
  have HB : Hid (Below w.heap.size w wb) := below_trans' HA.out hb
  clear hb
  go_wp2_with fail
  refine Calls.mono (H7.out _ HB.out) ?_
  rintro e wc ⟨rfl, hb⟩
  have HC : Hid (Below w.heap.size w wc) := below_trans' HB.out hb
  clear hb
  go_wp2
  go_ret
  exact ⟨rfl, HC.out⟩
end Go.Proofs.YtakipjofboipmaaGreatDoor
