/- The walks of this proof: letting a snapshot go. -/
import Derived.Test.YtakipjofboipmaaGreatJ4
import Derived.Laws.CopyRow
import Derived.Lib.BufferWrite
import Derived.Lib.UnsafeStr
import Derived.StillTail
import Derived.Lib.QuietBelow
import Derived.Test.YtakipjofboipmaaGreatJ3
import Derived.BigRegion
namespace Go.Proofs.YtakipjofboipmaaGreat
open Go.RowKit Go.Sort

/-- append within one row, as one step of a region that draws: the row written out. -/
theorem step_append_row {P : Program} {ops : Array Oper} {o : Oper} {a : Act} {w : World} {K : Act → World → Prop} {Q : Exit → Act → World → Prop} {E : Prop}
    (hgd : o.guard = none) (s x : Operand) (t : TypeId) (hop : o.op = Op.call { callee := Callee.builtin Builtin.append, args := #[s, x], argTypes := #[t, t] })
    (e : TypeId) (i : TypeInfo) (size : Nat) (ht : P.underlying t = some (.slice e)) (hi : P.info? e = some i) (hsz : i.size = size)
    (g n cap : Nat) (hs : a.eval s = .slice (some ⟨g, 0, none⟩) n cap)
    (ad : Addr) (m c : Nat) (news : List Value) (hx : a.eval x = .slice (some ad) m c) (cur : Array Value) (hg : w.heap[g]? = some (.cells cur e (0, 0))) (hl : news.length = m * size) (hnews : ∀ j u, news[j]? = some u → w.cell? (ad.add j) = some u) (h1 : ∀ u ∈ news, u.oneCell' = true)
    (hroom : n + m ≤ cap) (hfit : n * size + news.length ≤ cur.size)
    (hK : K (a.put o.dst (.slice (some ⟨g, 0, none⟩) (n + m) cap)) (w.setRow g (cur.toList.take (n * size) ++ news ++ cur.toList.drop (n * size + news.length)).toArray)) :
    if Region.wanted o (yielded ops a.tmps) = true then Oper.wp P o a w K Q else E := by
  have hw : Region.wanted o (yielded ops a.tmps) = true := by simp [Region.wanted, hgd]
  rw [if_pos hw]
  subst hsz
  have hrun := run_append_room (P := P) w t o.type e i ht hi g n cap cur hg ad m c news hl hnews h1 hroom hfit
  unfold Oper.wp
  simp only [execOp, hop, resolve, invoke, builtin, Sem.run_bind, Sem.run_pure, Result.andThen_ok, List.map_toArray, List.map_cons, List.map_nil, hs, hx, hrun]
  exact hK

/-- clear of elements in a row, the row written out. -/
theorem run_clear_row {P : Program} (w : World) (t ty e : TypeId) (z : Value) (ht : P.underlying t = some (.slice e)) (hz : (zeroValue e).run P w = .ok z w)
    (g off n c : Nat) (cur : Array Value) (hg : w.heap[g]? = some (.cells cur e (0, 0))) (cs : List Value) (hcs : (Builtin.zeroCells z.cells (n + 1)).toList = cs) (hfit : off + cs.length ≤ cur.size) (h1 : ∀ v ∈ cs, v.oneCell' = true) :
    (Builtin.clear_ #[t] ty #[.slice (some ⟨g, off, none⟩) (n + 1) c]).run P w = .ok (.tuple #[]) (w.setRow g (cur.toList.take off ++ cs ++ cur.toList.drop (off + cs.length)).toArray) := by
  have hst := run_storeCells_at P g off e cs 0 cur w hg (by simpa using hfit) h1
  simp only [Nat.add_zero] at hst
  simp [Builtin.clear_, run_underlying ht, hz, hcs, hst]

/-- What Delete leaves of a row. -/
def DelPost (g cap i m : Nat) (cur : Array Value) (w : World) (e : Ending) (w' : World) : Prop :=
  e = .returned (.slice (some ⟨g, 0, none⟩) (i + m) cap) ∧ w.grownBy w' (some g) ∧ ∃ cur' : Array Value, w'.heap[g]? = some (.cells cur' 174 (0, 0)) ∧ cur'.size = cur.size ∧ cur'.toList.take ((i + m) * 2) = cur.toList.take (i * 2) ++ (cur.toList.drop ((i + 1) * 2)).take (m * 2)

set_option maxHeartbeats 1000000 in
set_option maxRecDepth 100000 in
theorem delete_any (g cap i m : Nat) (cur : Array Value) (w : World) (hg : w.heap[g]? = some (.cells cur 174 (0, 0))) (hc : i + m + 1 ≤ cap) (hs : cur.size = cap * 2) (h4 : i + m + 1 ≤ 4) (h1c : ∀ u ∈ cur.toList.take ((i + m + 1) * 2), u.oneCell' = true) :
    Calls Tryz.prog 80 #[.slice (some ⟨g, 0, none⟩) (i + m + 1) cap, .int .i64 i, .int .i64 (i + 1)] w fun e w' => DelPost g cap i m cur w e w' := by
  obtain ⟨i0, hi, hz0, hz1, hz2⟩ := info_parts Tryz.info174
  obtain ⟨news, hnews⟩ : ∃ news, (cur.toList.drop ((i + 1) * 2)).take (m * 2) = news := ⟨_, rfl⟩
  have hnl : news.length = m * 2 := by rw [← hnews]; simp; omega
  have hn1 : Hid (∀ u ∈ news, u.oneCell' = true) := fun u hu => h1c u (by
    rw [← hnews] at hu
    obtain ⟨j, hj, rfl⟩ := List.getElem_of_mem hu
    simp only [List.getElem_take, List.getElem_drop]
    refine List.mem_iff_getElem.2 ⟨(i + 1) * 2 + j, by simp at hj ⊢; omega, by simp⟩)
  have hcel : Hid (∀ j u, news[j]? = some u → w.cell? ((⟨g, (i + 1) * 2, none⟩ : Addr).add j) = some u) := fun j u hj => by
    rw [← hnews, List.getElem?_take] at hj
    split at hj
    · rw [List.getElem?_drop] at hj
      have hadd : (⟨g, (i + 1) * 2, none⟩ : Addr).add j = ⟨g, (i + 1) * 2 + j, none⟩ := by unfold Addr.add; split <;> simp_all
      rw [hadd, cell_of_row w g _ cur 174 (0, 0) hg]
      simpa using hj
    · cases hj
  have HG : Hid (w.heap[g]? = some (.cells cur 174 (0, 0))) := hg
  have HN : Hid ((cur.toList.drop ((i + 1) * 2)).take (m * 2) = news) := hnews
  have HS : Hid (cur.size = cap * 2) := hs
  have hic : i ≤ cap := by omega
  have hi1 : (i : Int) + 1 ≤ (i : Int) + (m : Int) + 1 := by omega
  have h00 : (0 : Int) ≤ (i : Int) + 1 := by omega
  have hne : ((i : Int) == (i : Int) + 1) = false := by simp; omega
  clear hg hnews hs h1c
  generalize hrow : (cur.toList.take (i * 2) ++ news ++ cur.toList.drop (i * 2 + news.length)).toArray = row1
  have HR1 : Hid _ := hrow
  clear hrow
  have HNL : Hid (news.length = m * 2) := hnl
  clear hnl
  have hr1 : Hid ((w.drew.setRow g row1).heap[g]? = some (.cells row1 174 (0, 0))) := setRow_heap w.drew g cur _ 174 _ HG.out
  have hz128 : Hid (∀ w : World, (zeroValue 174).run Tryz.prog w = .ok (.agg #[.int .i64 0, .int .i64 0]) w) := fun w => by simp [zeroValue, typeInfo, hi, hz0]
  have hrs0 : row1.size = cap * 2 := by
    rw [← HR1.out]
    simp only [List.size_toArray, List.length_append, List.length_take, List.length_drop, Array.length_toList, HNL.out, HS.out]
    omega
  have hrs : Hid (row1.size = cap * 2) := hrs0
  clear hrs0
  obtain ⟨row2, hrow2⟩ : ∃ row2, (row1.toList.take ((i + m) * 2) ++ [Value.int .i64 0, .int .i64 0] ++ row1.toList.drop ((i + m) * 2 + 2)).toArray = row2 := ⟨_, rfl⟩
  have HR2 : Hid _ := hrow2
  have hclr : ∀ c, (Builtin.clear_ #[114] 0 #[.slice (some ⟨g, (i + m) * 2, none⟩) 1 c]).run Tryz.prog (w.drew.setRow g row1) = .ok (.tuple #[]) ((w.drew.setRow g row1).setRow g row2) := fun c => by
    rw [← hrow2]
    exact run_clear_row (w.drew.setRow g row1) 114 0 174 (.agg #[.int .i64 0, .int .i64 0]) Tryz.underlying114 (hz128.out _) g ((i + m) * 2) 0 c row1 hr1.out [.int .i64 0, .int .i64 0] (by kernel_rfl) (by have := hrs.out; simp; omega) (by intro v hv; simp at hv; subst hv; rfl)
  have FIN : Hid (w.grownBy ((w.drew.setRow g row1).setRow g row2) (some g) ∧ ∃ cur' : Array Value, ((w.drew.setRow g row1).setRow g row2).heap[g]? = some (.cells cur' 174 (0, 0)) ∧ cur'.size = cur.size ∧ cur'.toList.take ((i + m) * 2) = cur.toList.take (i * 2) ++ (cur.toList.drop ((i + 1) * 2)).take (m * 2)) := by
    refine ⟨⟨rfl, rfl, rfl, by simp, fun k _ hk => ?_⟩, row2, setRow_heap _ g row1 _ 174 _ hr1.out, ?_, ?_⟩
    · have hk' : k ≠ g := fun e => hk (by rw [e])
      rw [setRow_other _ _ _ _ hk', setRow_other _ _ _ _ hk']
      rfl
    · rw [← hrow2]
      simp only [List.size_toArray, List.length_append, List.length_take, List.length_drop, Array.length_toList, HS.out, hrs.out, List.length_cons, List.length_nil]
      omega
    · have hl1 : (row1.toList.take ((i + m) * 2)).length = (i + m) * 2 := by simp only [List.length_take, Array.length_toList, hrs.out]; omega
      have hl2 : (cur.toList.take (i * 2)).length = i * 2 := by simp only [List.length_take, Array.length_toList, HS.out]; omega
      rw [← hrow2, HN.out]
      show List.take _ (_ ++ _ ++ _) = _
      rw [List.append_assoc, List.take_left' hl1, ← HR1.out]
      show List.take _ (_ ++ _ ++ _) = _
      rw [List.take_left' (by rw [List.length_append, hl2, HNL.out]; omega)]
  clear hrow2
  by_cases hce : cap = i + 1
  · obtain rfl : m = 0 := by omega
    have hn0 : news = [] := List.eq_nil_of_length_eq_zero (by have := HNL.out; omega)
    have HN0 : Hid (news = []) := hn0
    clear hn0
    subst hce
    simp only [Nat.add_zero] at hclr
    have hii : (i : Int) ≤ (i : Int) + 1 := by omega
    go_enter Tryz.func80, Tryz.ntmps80
    go_wp2
    go_region_law (refine step_append_row rfl (.tmp 22) (.tmp 25) 114 rfl 174 i0 2 Tryz.underlying114 hi hz1 g i (i + 1) (by simp [Act.eval, Act.put]) ⟨g, 0, none⟩ 0 0 news (by simp [Act.eval, Act.put]) cur (by exact HG.out) HNL.out (by rw [HN0.out]; simp) hn1.out (by omega) (by rw [HS.out, HNL.out]; omega) ?_; rw [HR1.out])
    go_wp2
    go_ret
    exact ⟨rfl, FIN.out⟩
  · go_enter Tryz.func80, Tryz.ntmps80
    go_wp2
    go_region_law (refine step_append_row rfl (.tmp 22) (.tmp 25) 114 rfl 174 i0 2 Tryz.underlying114 hi hz1 g i cap (by simp [Act.eval, Act.put]) ⟨g, (i + 1) * 2, none⟩ m (cap - (i + 1)) news (by simp [Act.eval, Act.put]) cur (by exact HG.out) HNL.out (by exact hcel.out) hn1.out (by omega) (by rw [HS.out, HNL.out]; omega) ?_; rw [HR1.out])
    go_wp2
    go_ret
    exact ⟨rfl, FIN.out⟩

theorem scells_len (S : List Sn) : (scells S).length = S.length * 2 := flat_len _ 2 (fun a => by rfl) S

theorem flat_take {α β : Type} (f : α → List β) (n : Nat) (hf : ∀ a, (f a).length = n) (l : List α) (k : Nat) : (l.flatMap f).take (k * n) = (l.take k).flatMap f := by
  induction l generalizing k with
  | nil => simp
  | cons a l ih =>
    cases k with
    | zero => simp
    | succ k =>
      rw [List.flatMap_cons, List.take_append, hf, List.take_of_length_le (by rw [hf, Nat.add_mul]; omega), show (k + 1) * n - n = k * n by rw [Nat.add_mul]; omega, ih, List.take_succ_cons, List.flatMap_cons]

theorem flat_drop {α β : Type} (f : α → List β) (n : Nat) (hf : ∀ a, (f a).length = n) (l : List α) (k : Nat) : (l.flatMap f).drop (k * n) = (l.drop k).flatMap f := by
  induction l generalizing k with
  | nil => simp
  | cons a l ih =>
    cases k with
    | zero => simp
    | succ k =>
      rw [List.flatMap_cons, List.drop_append, hf, List.drop_of_length_le (by rw [hf, Nat.add_mul]; omega), show (k + 1) * n - n = k * n by rw [Nat.add_mul]; omega, ih, List.drop_succ_cons, List.nil_append]

/-- A snapshot's row behind Delete. -/
theorem del_owns {w w' : World} {D : Nat → Prop} {g cap i m : Nat} {S : List Sn} {cur : Array Value} (hS : S.length = i + m + 1) (hB : D g) (hcm : cap ≤ maxLen) (hle : i + m + 1 ≤ cap) (hs : cur.size = cap * 2) (htake : cur.toList.take (S.length * 2) = scells S)
    (h : DelPost g cap i m cur w (.returned (.slice (some ⟨g, 0, none⟩) (i + m) cap)) w') : OwnsIn w' D 174 2 (.slice (some ⟨g, 0, none⟩) (i + m) cap) (S.eraseIdx i).length (scells (S.eraseIdx i)) := by
  obtain ⟨_, _, cur', hg', hsz, ht⟩ := h
  have hl : (S.eraseIdx i).length = i + m := by rw [List.length_eraseIdx, if_pos (by omega)]; omega
  rw [hl]
  have e : scells (S.eraseIdx i) = scells (S.take i) ++ scells (S.drop (i + 1)) := by rw [List.eraseIdx_eq_take_drop_succ]; simp [scells]
  have e1 : cur.toList.take (i * 2) = scells (S.take i) := by
    have : (cur.toList.take (S.length * 2)).take (i * 2) = cur.toList.take (i * 2) := by rw [List.take_take, Nat.min_eq_left (by omega)]
    rw [← this, htake]
    exact flat_take _ 2 (fun a => by rfl) S i
  have e2 : (cur.toList.drop ((i + 1) * 2)).take (m * 2) = scells (S.drop (i + 1)) := by
    have : (cur.toList.take (S.length * 2)).drop ((i + 1) * 2) = (cur.toList.drop ((i + 1) * 2)).take (m * 2) := by rw [List.drop_take]; congr 1; omega
    rw [← this, htake]
    exact flat_drop _ 2 (fun a => by rfl) S (i + 1)
  refine ⟨⟨by rw [scells_len, hl], .inr ⟨g, cap, cur', rfl, Nat.zero_le _, hg', by omega, hcm, by rw [hsz, hs], ?_⟩⟩, fun g' hg => by simp only [Value.ownBlock, Option.some.injEq] at hg; subst hg; exact hB⟩
  rw [ht, e1, e2, e]

set_option maxHeartbeats 1000000 in
theorem dropSnap_any (x : St) (D F : Nat → Prop) (sb : Nat) (n : Int) (w : World) (hx : StoreAt D F sb x w) (ok : StOk x) :
    Calls Tryz.prog 51 #[.pointer (some ⟨sb, 5, none⟩), .int .i64 n] w fun e w' =>
      (sidx x.S n = none ∧ e = .returned (.bool false) ∧ Below w.heap.size w w') ∨
      (∃ i, sidx x.S n = some i ∧ e = .returned (.bool true) ∧ StoreAt D F sb { x with S := x.S.eraseIdx i } w' ∧ Kd D [118, 174] w w') := by
  have HX : Hid (StoreAt D F sb x w) := hx
  obtain ⟨vE, vL, vR, vS, hB, hs, hE, hT, hR, hS⟩ := hx
  have c3 : w.cell? ⟨sb, 5, none⟩ = some vS := by simp [World.cell?, hs]
  have hi := indexSnap_any x.S vS 0 sb n w ok.snaps c3 hS.own
  generalize hr : sidx x.S n = r at hi
  have HI : Hid _ := hi
  cases r with
  | none =>
    clear hi hs hE hT hR hS hr c3
    go_enter Tryz.func51, Tryz.ntmps51
    go_wp2_with fail
    refine Calls.mono HI.out ?_
    rintro e w1 ⟨rfl, hb⟩
    have HB : Hid (Below w.heap.size w w1) := hb
    clear hb
    unfold idxVal
    go_wp2
    go_ret
    first | exact .inl ⟨rfl, rfl, HB.out⟩ | exact .inl ⟨trivial, rfl, HB.out⟩
  | some i =>
    have hil : i < x.S.length := (List.findIdx?_eq_some_iff_getElem.1 hr).1
    obtain ⟨m, hm⟩ : ∃ m, x.S.length = i + m + 1 := ⟨x.S.length - i - 1, by omega⟩
    have hl4 := ok.snaps
    have hSd := hS.dom
    rcases hS.own.2 with ⟨_, h0⟩ | ⟨g, cap, cur, rfl, _, hg, hnc, hcm, hsz, htake⟩
    · omega
    have hBg : D g := hSd g rfl
    have h1c : ∀ u ∈ cur.toList.take ((i + m + 1) * 2), u.oneCell' = true := by
      rw [← hm, htake]
      intro u hu
      simp only [scells, List.mem_flatMap, Sn.cells, List.mem_cons, List.not_mem_nil, or_false] at hu
      obtain ⟨a, _, rfl | rfl⟩ := hu <;> rfl
    rw [hm] at hnc
    have HD : Hid (∀ w1, Below w.heap.size w w1 → Calls Tryz.prog 80 #[.slice (some ⟨g, 0, none⟩) (i + m + 1) cap, .int .i64 i, .int .i64 (i + 1)] w1 fun e w' => DelPost g cap i m cur w1 e w') := fun w1 hb =>
      delete_any g cap i m cur w1 ((hb.block g (lt_of_block hg)).trans hg) hnc hsz (by omega) h1c
    have HDO : Hid (∀ w1 w2, DelPost g cap i m cur w1 (.returned (.slice (some ⟨g, 0, none⟩) (i + m) cap)) w2 → OwnsIn w2 D 174 2 (.slice (some ⟨g, 0, none⟩) (i + m) cap) (x.S.eraseIdx i).length (scells (x.S.eraseIdx i))) := fun w1 w2 h =>
      del_owns hm hBg hcm hnc hsz htake h
    have HG : Hid (w.heap[g]? = some (.cells cur 174 (0, 0))) := hg
    have HF : Hid (w.heap[sb]? = some (.cells #[vE, vL, vR, .int .i64 (rl (x.B.take x.sy)), .int .i64 x.la, .slice (some ⟨g, 0, none⟩) (i + m + 1) cap, .int .i64 x.lastSnap, .int .i64 x.last] 118 (0, 0)) ∧ Rest D F x vE vL vR w ∧ D sb ∧ D g) := ⟨by rw [hs, hm], ⟨hE, hT, hR⟩, hB, hBg⟩
    rw [hm] at c3
    clear hi hs hE hT hR hS hSd hBg hg htake h1c hr
    go_enter Tryz.func51, Tryz.ntmps51
    go_wp2_with fail
    refine Calls.mono HI.out ?_
    rintro e w1 ⟨rfl, hb⟩
    have HB : Hid (Below w.heap.size w w1) := hb
    have c3' := cell_later hb c3
    clear hb
    unfold idxVal
    go_wp2_with fail
    refine Calls.mono (HD.out _ HB.out) ?_
    rintro e w2 hdp
    obtain ⟨rfl, hgr, hrest⟩ := id hdp
    have K2 : Hid (Kd D [174] w w2) := (Kd.of_below HB.out).trans ⟨hgr.os, hgr.tape, hgr.output, hgr.size, fun k hk hor => hgr.block k hk (fun e => by
      simp only [Option.some.injEq] at e
      subst e
      have hgk := (HB.out.block k (lt_of_block HG.out)).trans HG.out
      rcases hor with h1 | h1
      · exact h1 HF.out.2.2.2
      · exact h1 _ _ _ hgk (by simp))⟩
    have HO : Hid (OwnsIn w2 D 174 2 (.slice (some ⟨g, 0, none⟩) (i + m) cap) (x.S.eraseIdx i).length (scells (x.S.eraseIdx i))) := HDO.out _ _ hdp
    have hs2 : Hid (w2.heap[sb]? = some (.cells #[vE, vL, vR, .int .i64 (rl (x.B.take x.sy)), .int .i64 x.la, .slice (some ⟨g, 0, none⟩) (i + m + 1) cap, .int .i64 x.lastSnap, .int .i64 x.last] 118 (0, 0))) := K2.out.keep HF.out.1 (by simp)
    have c3b : w2.cell? ⟨sb, 5, none⟩ = some (.slice (some ⟨g, 0, none⟩) (i + m + 1) cap) := by simp [World.cell?, hs2.out]
    have f3b : w2.frozen? ⟨sb, 5, none⟩ = false := by simp [World.frozen?, hs2.out]
    clear hdp hgr hrest
    go_wp2
    go_ret
    exact .inr ⟨i, rfl, rfl, put_snaps hs2.out HF.out.2.2.1 (HF.out.2.1.kd K2.out (by simp) (by simp) (by simp)) HO.out, (K2.out.mono (by simp)).trans ((Kd.field HF.out.2.2.1 hs2.out 5 _).mono (by simp))⟩

set_option maxHeartbeats 1000000 in
theorem drop_any (x : St) (D F : Nat → Prop) (sb : Nat) (n : Int) (w : World) (hx : StoreAt D F sb x w) (ok : StOk x) :
    Calls Tryz.prog 17 #[.pointer (some ⟨sb, 0, none⟩), .int .i64 n] w fun e w' =>
      (sidx x.S n = none ∧ e = .returned (.int .i64 5) ∧ Below w.heap.size w w') ∨
      (∃ i, sidx x.S n = some i ∧ e = .returned (.int .i64 0) ∧ StoreAt D F sb { x with S := x.S.eraseIdx i } w' ∧ Kd D [118, 174] w w') := by
  have hd := dropSnap_any x D F sb n w hx ok
  have HD : Hid _ := hd
  clear hd hx
  go_enter Tryz.func17, Tryz.ntmps17
  go_wp2_with fail
  refine Calls.mono HD.out ?_
  rintro e w1 (⟨h1, rfl, h2⟩ | ⟨i, h1, rfl, h2, h3⟩)
  · have R1 : Hid _ := And.intro h1 h2
    clear h1 h2
    go_wp2
    go_ret
    exact .inl ⟨R1.out.1, rfl, R1.out.2⟩
  · have R1 : Hid _ := And.intro h1 (And.intro h2 h3)
    clear h1 h2 h3
    go_wp2
    go_ret
    exact .inr ⟨i, R1.out.1, rfl, R1.out.2⟩
end Go.Proofs.YtakipjofboipmaaGreat

/- The walks of this proof: whether pairs are a batch. -/
namespace Go.Proofs.YtakipjofboipmaaGreat
open Go.RowKit Go.Sort

set_option maxHeartbeats 400000 in
theorem hasNoKey_any (p : Pr) (w : World) (ok : PrOk p) :
    Calls Tryz.prog 82 #[.agg #[.string p.k, .string p.v, .bool p.g]] w fun e w' => e = .returned (.bool false) ∧ Below w.heap.size w w' := by
  have hk : ∀ w, Calls Tryz.prog 64 #[.string p.k] w fun e w' => e = .returned (.bool true) ∧ w' = w := fun w => by
    have h := isKey_any p.k w (by have := ok.hi; unfold maxLen; omega)
    simpa only [ok.lo, ok.hi, decide_true, Bool.and_self] using h
  have HK : Hid _ := hk
  clear hk
  go_enter Tryz.func82, Tryz.ntmps82
  go_wp2_with fail
  refine Calls.mono (HK.out _) ?_
  rintro e w0 ⟨rfl, rfl⟩
  go_wp2
  go_ret
  exact ⟨rfl, (Below.refl _ _).alloc (Nat.le_refl _) _⟩

set_option maxHeartbeats 400000 in
theorem isLong_any (p : Pr) (w : World) (ok : PrOk p) :
    Calls Tryz.prog 83 #[.agg #[.string p.k, .string p.v, .bool p.g]] w fun e w' => e = .returned (.bool false) ∧ Below w.heap.size w w' := by
  have hv := ok.val
  have hd : decide ((8 : Int) < (p.v.size : Int)) = false := by simp; omega
  go_enter Tryz.func83, Tryz.ntmps83
  go_wp2
  go_ret
  exact ⟨by simp, (Below.refl _ _).alloc (Nat.le_refl _) _⟩

set_option maxHeartbeats 400000 in
theorem goneWith_any (p : Pr) (w : World) (ok : PrOk p) :
    Calls Tryz.prog 84 #[.agg #[.string p.k, .string p.v, .bool p.g]] w fun e w' => e = .returned (.bool false) ∧ Below w.heap.size w w' := by
  have hg := ok.gone
  obtain ⟨k, v, g⟩ := p
  cases g with
  | false =>
    clear hg ok
    go_enter Tryz.func84, Tryz.ntmps84
    go_wp2
    go_ret
    exact ⟨rfl, (Below.refl _ _).alloc (Nat.le_refl _) _⟩
  | true =>
    obtain rfl : v = ⟨#[]⟩ := hg rfl
    clear hg ok
    go_enter Tryz.func84, Tryz.ntmps84
    go_wp2
    go_ret
    exact ⟨rfl, (Below.refl _ _).alloc (Nat.le_refl _) _⟩

/-- The cells of pairs in a row. -/
theorem pr_cells {w w' : World} {base : Nat} {v : Value} {L : List Pr} (h : w.ownsRow base 48 3 v L.length (pcells L)) (hb : Below w.heap.size w w') (hl : 0 < L.length) :
    ∃ g cap, v = .slice (some ⟨g, 0, none⟩) L.length cap ∧ base ≤ g ∧ g < w.heap.size ∧ L.length ≤ cap ∧ ∀ (k : Nat) p, L[k]? = some p → w'.cell? ⟨g, k * 3, none⟩ = some (.string p.k) ∧ w'.cell? ⟨g, k * 3 + 1, none⟩ = some (.string p.v) ∧ w'.cell? ⟨g, k * 3 + 2, none⟩ = some (.bool p.g) := by
  obtain ⟨g, cap, rfl, hbg, hgl, hcap, hcell⟩ := row_cell (fun a => by rfl) h hl
  exact ⟨g, cap, rfl, hbg, hgl, hcap, fun k p hp => ⟨cell_later hb (hcell k p 0 hp (by omega)), cell_later hb (hcell k p 1 hp (by omega)), cell_later hb (hcell k p 2 hp (by omega))⟩⟩

set_option maxHeartbeats 1000000 in
theorem index55 (L : List Pr) (v : Value) (base : Nat) (w : World) (h : w.ownsRow base 48 3 v L.length (pcells L)) (h4 : L.length ≤ 4) (ok : ∀ p ∈ L, PrOk p) :
    Calls Tryz.prog 129 #[v, .func (.func 82) #[] #[]] w fun e w' => e = .returned (.int .i64 (-1)) ∧ Below w.heap.size w w' := by
  obtain ⟨ao, cap, rfl⟩ := slice_form h
  have H : Hid _ := h
  have OK : Hid (∀ p ∈ L, PrOk p) := ok
  clear h ok
  go_enter Tryz.func129, Tryz.ntmps129
  go_wp2
  go_loopw [8] (fun i wr => ∃ k : Nat, k ≤ L.length ∧ i = .int .i64 k ∧ Hid (Below w.heap.size w wr)) (fun i _ => L.length - (intOf i).toNat)
  case atStart => exact ⟨0, Nat.zero_le _, rfl, Below.refl _ _⟩
  case round =>
    obtain ⟨k, hk, rfl, HB⟩ := hrel
    by_cases hlt : k < L.length
    · obtain ⟨g, cap', hv', hbg, hgl, hcap, hcell⟩ := pr_cells H.out HB.out (by omega)
      simp only [Value.slice.injEq, true_and] at hv'
      obtain ⟨rfl, rfl⟩ := hv'
      obtain ⟨p, hp⟩ : ∃ p, L[k]? = some p := ⟨_, List.getElem?_eq_getElem hlt⟩
      obtain ⟨c0, c1, c2⟩ := hcell k p hp
      have OKp : Hid (PrOk p) := OK.out p (List.mem_of_getElem? hp)
      clear hp hcell
      go_wp2_with (go_at_call 82; refine (hasNoKey_any p _ OKp.out).mono ?_; rintro e w2 ⟨rfl, hb2⟩; have HB2 : Hid (Below w.heap.size w w2) := below_trans' HB.out hb2; clear hb2)
      go_roundw
      case rel => exact ⟨k + 1, by omega, by go_num, by assumption⟩
      case measure => simp [intOf]; omega
    · go_wp2
      go_ret
      exact ⟨rfl, HB.out⟩

set_option maxHeartbeats 1000000 in
theorem contains55 (L : List Pr) (v : Value) (base : Nat) (w : World) (h : w.ownsRow base 48 3 v L.length (pcells L)) (h4 : L.length ≤ 4) (ok : ∀ p ∈ L, PrOk p) :
    Calls Tryz.prog 81 #[v, .func (.func 82) #[] #[]] w fun e w' => e = .returned (.bool false) ∧ Below w.heap.size w w' := by
  have hi := index55 L v base w h h4 ok
  have HI : Hid _ := hi
  clear hi h ok
  go_enter Tryz.func81, Tryz.ntmps81
  go_wp2_with fail
  refine Calls.mono HI.out ?_
  rintro e w0 ⟨rfl, hb⟩
  have HB : Hid (Below w.heap.size w w0) := hb
  clear hb
  go_wp2
  go_ret
  exact ⟨rfl, HB.out⟩

set_option maxHeartbeats 1000000 in
theorem index56 (L : List Pr) (v : Value) (base : Nat) (w : World) (h : w.ownsRow base 48 3 v L.length (pcells L)) (h4 : L.length ≤ 4) (ok : ∀ p ∈ L, PrOk p) :
    Calls Tryz.prog 129 #[v, .func (.func 83) #[] #[]] w fun e w' => e = .returned (.int .i64 (-1)) ∧ Below w.heap.size w w' := by
  obtain ⟨ao, cap, rfl⟩ := slice_form h
  have H : Hid _ := h
  have OK : Hid (∀ p ∈ L, PrOk p) := ok
  clear h ok
  go_enter Tryz.func129, Tryz.ntmps129
  go_wp2
  go_loopw [8] (fun i wr => ∃ k : Nat, k ≤ L.length ∧ i = .int .i64 k ∧ Hid (Below w.heap.size w wr)) (fun i _ => L.length - (intOf i).toNat)
  case atStart => exact ⟨0, Nat.zero_le _, rfl, Below.refl _ _⟩
  case round =>
    obtain ⟨k, hk, rfl, HB⟩ := hrel
    by_cases hlt : k < L.length
    · obtain ⟨g, cap', hv', hbg, hgl, hcap, hcell⟩ := pr_cells H.out HB.out (by omega)
      simp only [Value.slice.injEq, true_and] at hv'
      obtain ⟨rfl, rfl⟩ := hv'
      obtain ⟨p, hp⟩ : ∃ p, L[k]? = some p := ⟨_, List.getElem?_eq_getElem hlt⟩
      obtain ⟨c0, c1, c2⟩ := hcell k p hp
      have OKp : Hid (PrOk p) := OK.out p (List.mem_of_getElem? hp)
      clear hp hcell
      go_wp2_with (go_at_call 83; refine (isLong_any p _ OKp.out).mono ?_; rintro e w2 ⟨rfl, hb2⟩; have HB2 : Hid (Below w.heap.size w w2) := below_trans' HB.out hb2; clear hb2)
      go_roundw
      case rel => exact ⟨k + 1, by omega, by go_num, by assumption⟩
      case measure => simp [intOf]; omega
    · go_wp2
      go_ret
      exact ⟨rfl, HB.out⟩

set_option maxHeartbeats 1000000 in
theorem contains56 (L : List Pr) (v : Value) (base : Nat) (w : World) (h : w.ownsRow base 48 3 v L.length (pcells L)) (h4 : L.length ≤ 4) (ok : ∀ p ∈ L, PrOk p) :
    Calls Tryz.prog 81 #[v, .func (.func 83) #[] #[]] w fun e w' => e = .returned (.bool false) ∧ Below w.heap.size w w' := by
  have hi := index56 L v base w h h4 ok
  have HI : Hid _ := hi
  clear hi h ok
  go_enter Tryz.func81, Tryz.ntmps81
  go_wp2_with fail
  refine Calls.mono HI.out ?_
  rintro e w0 ⟨rfl, hb⟩
  have HB : Hid (Below w.heap.size w w0) := hb
  clear hb
  go_wp2
  go_ret
  exact ⟨rfl, HB.out⟩

set_option maxHeartbeats 1000000 in
theorem index57 (L : List Pr) (v : Value) (base : Nat) (w : World) (h : w.ownsRow base 48 3 v L.length (pcells L)) (h4 : L.length ≤ 4) (ok : ∀ p ∈ L, PrOk p) :
    Calls Tryz.prog 129 #[v, .func (.func 84) #[] #[]] w fun e w' => e = .returned (.int .i64 (-1)) ∧ Below w.heap.size w w' := by
  obtain ⟨ao, cap, rfl⟩ := slice_form h
  have H : Hid _ := h
  have OK : Hid (∀ p ∈ L, PrOk p) := ok
  clear h ok
  go_enter Tryz.func129, Tryz.ntmps129
  go_wp2
  go_loopw [8] (fun i wr => ∃ k : Nat, k ≤ L.length ∧ i = .int .i64 k ∧ Hid (Below w.heap.size w wr)) (fun i _ => L.length - (intOf i).toNat)
  case atStart => exact ⟨0, Nat.zero_le _, rfl, Below.refl _ _⟩
  case round =>
    obtain ⟨k, hk, rfl, HB⟩ := hrel
    by_cases hlt : k < L.length
    · obtain ⟨g, cap', hv', hbg, hgl, hcap, hcell⟩ := pr_cells H.out HB.out (by omega)
      simp only [Value.slice.injEq, true_and] at hv'
      obtain ⟨rfl, rfl⟩ := hv'
      obtain ⟨p, hp⟩ : ∃ p, L[k]? = some p := ⟨_, List.getElem?_eq_getElem hlt⟩
      obtain ⟨c0, c1, c2⟩ := hcell k p hp
      have OKp : Hid (PrOk p) := OK.out p (List.mem_of_getElem? hp)
      clear hp hcell
      go_wp2_with (go_at_call 84; refine (goneWith_any p _ OKp.out).mono ?_; rintro e w2 ⟨rfl, hb2⟩; have HB2 : Hid (Below w.heap.size w w2) := below_trans' HB.out hb2; clear hb2)
      go_roundw
      case rel => exact ⟨k + 1, by omega, by go_num, by assumption⟩
      case measure => simp [intOf]; omega
    · go_wp2
      go_ret
      exact ⟨rfl, HB.out⟩

set_option maxHeartbeats 1000000 in
theorem contains57 (L : List Pr) (v : Value) (base : Nat) (w : World) (h : w.ownsRow base 48 3 v L.length (pcells L)) (h4 : L.length ≤ 4) (ok : ∀ p ∈ L, PrOk p) :
    Calls Tryz.prog 81 #[v, .func (.func 84) #[] #[]] w fun e w' => e = .returned (.bool false) ∧ Below w.heap.size w w' := by
  have hi := index57 L v base w h h4 ok
  have HI : Hid _ := hi
  clear hi h ok
  go_enter Tryz.func81, Tryz.ntmps81
  go_wp2_with fail
  refine Calls.mono HI.out ?_
  rintro e w0 ⟨rfl, hb⟩
  have HB : Hid (Below w.heap.size w w0) := hb
  clear hb
  go_wp2
  go_ret
  exact ⟨rfl, HB.out⟩

set_option maxHeartbeats 1000000 in
theorem check_any (L : List Pr) (v : Value) (base : Nat) (w : World) (h : w.ownsRow base 48 3 v L.length (pcells L)) (h1 : 1 ≤ L.length) (h4 : L.length ≤ 4) (ok : ∀ p ∈ L, PrOk p) :
    Calls Tryz.prog 52 #[v] w fun e w' => e = .returned (.int .i64 0) ∧ Below w.heap.size w w' := by
  have H5 : Hid (∀ w1, Below w.heap.size w w1 → Calls Tryz.prog 81 #[v, .func (.func 82) #[] #[]] w1 fun e w' => e = .returned (.bool false) ∧ Below w1.heap.size w1 w') := fun w1 hb => contains55 L v base w1 ((Kp.of_below (B := 0) (ts := []) hb).owns h (by simp)) h4 ok
  have H6 : Hid (∀ w1, Below w.heap.size w w1 → Calls Tryz.prog 81 #[v, .func (.func 83) #[] #[]] w1 fun e w' => e = .returned (.bool false) ∧ Below w1.heap.size w1 w') := fun w1 hb => contains56 L v base w1 ((Kp.of_below (B := 0) (ts := []) hb).owns h (by simp)) h4 ok
  have H7 : Hid (∀ w1, Below w.heap.size w w1 → Calls Tryz.prog 81 #[v, .func (.func 84) #[] #[]] w1 fun e w' => e = .returned (.bool false) ∧ Below w1.heap.size w1 w') := fun w1 hb => contains57 L v base w1 ((Kp.of_below (B := 0) (ts := []) hb).owns h (by simp)) h4 ok
  obtain ⟨ao, cap, rfl⟩ := slice_form h
  clear h ok
  have hd0 : ((L.length : Int) == 0) = false := by rw [beq_eq_false_iff_ne]; omega
  go_enter Tryz.func52, Tryz.ntmps52
  go_wp2_with fail
  refine Calls.mono (H5.out _ (Below.refl _ _)) ?_
  rintro e wa ⟨rfl, hb⟩
  have HA : Hid (Below w.heap.size w wa) := hb
  clear hb
  go_wp2_with fail
  refine Calls.mono (H6.out _ HA.out) ?_
  rintro e wb ⟨rfl, hb⟩
  have HB : Hid (Below w.heap.size w wb) := below_trans' HA.out hb
  clear hb
  go_wp2_with fail
  refine Calls.mono (H7.out _ HB.out) ?_
  rintro e wc ⟨rfl, hb⟩
  have HC : Hid (Below w.heap.size w wc) := below_trans' HB.out hb
  clear hb
  go_wp2
  go_ret
  exact ⟨rfl, HC.out⟩
end Go.Proofs.YtakipjofboipmaaGreat

/- The walks of this proof: pairs of one's own. -/
namespace Go.Proofs.YtakipjofboipmaaGreat
open Go.RowKit Go.Sort

theorem Tryz.info5 : (Tryz.prog.info? 5).map (fun i => (i.zero, i.size, i.bytes)) = some (some (.int .u8 0), 1, 1) := by kernel_rfl

set_option maxHeartbeats 2000000 in
set_option maxRecDepth 100000 in
theorem sclone_any (s : ByteArray) (w : World) (hs : s.size ≤ 1000) :
    Calls Tryz.prog 168 #[.string s] w fun e w' => e = .returned (.string s) ∧ Below w.heap.size w w' := by
  by_cases h0 : s.size = 0
  · obtain rfl : s = ⟨#[]⟩ := by
      apply ByteArray.ext
      exact Array.eq_empty_of_size_eq_zero h0
    go_enter Tryz.func168, Tryz.ntmps168
    go_wp2
    go_ret
    exact ⟨rfl, Below.refl _ _⟩
  · obtain ⟨i0, hi, hz0, hz1, hz2⟩ := info_parts Tryz.info5
    obtain ⟨M, hM⟩ : ∃ M, madeCells (Value.int .u8 0).cells (((s.size : Nat) : Int).toNat * i0.size) = M := ⟨_, rfl⟩
    have hMs : M.size = s.size := by rw [← hM, size_madeCells, hz1]; simp
    have mk : ∀ W : World, (Instr.makeSlice 71 (.int .i64 (s.size : Int)) (.int .i64 (s.size : Int))).run Tryz.prog W = .ok (.slice (some ⟨W.heap.size, 0, none⟩) s.size s.size) (W.alloc (.cells M 5)) := fun W => by
      have h := run_make (P := Tryz.prog) W 71 5 i0 (.int .u8 0) Tryz.underlying71 hi hz0 .i64 .i64 (s.size : Int) (s.size : Int) (by omega) (by omega) (by rw [hz2]; omega) (by omega)
      rw [hM] at h
      simpa using h
    clear hM
    obtain ⟨Y, hY⟩ : ∃ Y, (M.toList.take 0 ++ Lib.byteCells s.data.toList ++ M.toList.drop (0 + s.size)).toArray = Y := ⟨_, rfl⟩
    have cp := Lib.run_copy_row_string (P := Tryz.prog) (w.alloc (.cells M 5)) 71 9 3 5 w.heap.size 0 s.size s.size s M 5 Tryz.underlying71 (by rw [hi]; simp [hz1]) (heap_alloc_new w _) (Nat.le_refl _) (by omega)
    rw [hY] at cp
    have hYl : Y.toList = Lib.byteCells s.data.toList := by
      rw [← hY, List.take_zero, List.nil_append, List.drop_of_length_le (by rw [Array.length_toList]; omega), List.append_nil]
    have row : ((w.alloc (.cells M 5)).setRow w.heap.size Y).heap[w.heap.size]? = some (.cells Y 5 (0, 0)) := setRow_heap _ _ M _ 5 (0, 0) (heap_alloc_new w _)
    have hYs : Y.size = s.size := by rw [← Array.length_toList, hYl, Lib.byteCells_length, ← Lib.size_eq]
    have us := Lib.run_unsafeString_row (P := Tryz.prog) ((w.alloc (.cells M 5)).setRow w.heap.size Y) 277 3 9 5 Tryz.underlying277 (by simp [Program.cellsOf, hi, hz1]) w.heap.size Y.size (by unfold World.shape?; rw [row]) s.data.toList
      (fun e => h0 (by rw [Lib.size_eq, e]; rfl)) (by rw [← Lib.size_eq]; omega) (by rw [← Lib.size_eq]; omega)
      (fun j x hx => Lib.cells_of_row row Y.size j _ (by rw [List.take_of_length_le (by rw [Array.length_toList]; exact Nat.le_refl _), hYl]; simp [Lib.byteCells, hx]))
    rw [← Lib.size_eq] at us
    have hz : ((s.size : Int) == 0) = false := by rw [beq_eq_false_iff_ne]; omega
    have hpos : 0 < s.size := by omega
    have B1 : Hid (Below w.heap.size w ((w.alloc (.cells M 5)).setRow w.heap.size Y)) := ((Below.refl _ w).alloc (Nat.le_refl _) _).trans ⟨rfl, rfl, rfl, by simp, fun k hk => setRow_other _ _ _ _ (by omega)⟩
    clear hY hYl row hMs
    go_enter Tryz.func168, Tryz.ntmps168
    go_wp2
    go_ret
    exact ⟨rfl, Lib.below_freeze B1.out (p := ⟨w.heap.size, 0, none⟩) (Nat.le_refl _) _⟩

set_option maxHeartbeats 400000 in
theorem clone_any (s : ByteArray) (w : World) (hs : s.size ≤ 1000) :
    Calls Tryz.prog 134 #[.string s] w fun e w' => e = .returned (.string s) ∧ Below w.heap.size w w' := by
  go_enter Tryz.func134, Tryz.ntmps134
  go_wp2_with (go_at_call 168; refine (sclone_any _ _ hs).mono ?_; rintro e w' ⟨rfl, hb⟩; have HB : Hid (Below w.heap.size w w') := hb; clear hb)
  go_ret
  exact ⟨rfl, by assumption⟩
end Go.Proofs.YtakipjofboipmaaGreat

/- A region that draws its order: operations that are quiet in a class of worlds, then a forced tail that may write: one walk serves every order. -/
namespace Go.Proofs.YtakipjofboipmaaGreat
open Go Go.Sort Go.RowKit

section
variable {P : Program} {ops : Array Oper} {md : Region.Mode} {C : World → Prop}

/-- The quiet head in whatever order, down to L. -/
def headQ (P : Program) (md : Region.Mode) (ops : Array Oper) (C : World → Prop) (n : Nat) (L : Array Bool → Act → Prop) : Nat → Array Bool → Act → Prop
  | 0, listed, a => L listed a
  | f + 1, listed, a => Region.ready md ops listed ≠ [] ∧ ∀ i ∈ Region.ready md ops listed, i < n ∧ qOp P ops C i (headQ P md ops C n L f (listed.setIfInBounds i true)) a

theorem headQ_any {n g : Nat} {L : Array Bool → Act → Prop} {Q : Exit → Act → World → Prop} (hL : ∀ listed a w, C w → L listed a → wpAny P md ops Q g listed a w) :
    ∀ (f : Nat) (listed : Array Bool) (a : Act) (w : World), C w → headQ P md ops C n L f listed a → wpAny P md ops Q (f + g) listed a w
  | 0, listed, a, w, hw, h => by rw [Nat.zero_add]; exact hL _ _ _ hw h
  | f + 1, listed, a, w, hw, h => by
    rw [Nat.add_right_comm]
    exact ⟨fun h0 => absurd h0 h.1, fun i hi => wpOp_of_qOp hw (fun a' w' hw' h' => headQ_any hL f _ a' w' hw' h') (h.2 i hi).2⟩

theorem headQ_first {n i : Nat} {oi : Oper} {v : Value} {L : Array Bool → Act → Prop} (hi : ops[i]? = some oi) (hsel : ∀ (j : Nat) (o : Oper) cs b, ops[j]? = some o → o.op ≠ .select cs b)
    (hs : Region.sinkB md ops n = true) (hc : Region.chainB md ops n = true) (hn : n < ops.size) (hin : i < n) (hend : ∀ listed a, L listed a → ∀ j ∈ Region.ready md ops listed, n ≤ j) :
    ∀ (f : Nat) (listed : Array Bool) (a : Act), HeadInv md ops n listed →
      (∀ j oj, ops[j]? = some oj → j ≠ i → listed.getD j true = false → (∀ e ∈ oj.after, Region.binds md e = true → e.on ≠ i) → oi.apart ops oj = true) →
      i ∈ Region.ready md ops listed → YieldsIn P ops C oi v a → headQ P md ops C n L f (listed.setIfInBounds i true) (a.put oi.dst v) → headQ P md ops C n L (f + 1) listed a := by
  intro f
  induction f with
  | zero =>
    intro listed a inv _ hr hy H
    have hun := (mem_ready.1 hr).1
    refine ⟨List.ne_nil_of_mem hr, fun j hj => ?_⟩
    have hjn : j < n := Nat.lt_of_not_le fun h => tail_waits hs hc hn inv _ i rfl hin hun j h hj
    refine ⟨hjn, ?_⟩
    by_cases hji : j = i
    · subst hji; exact hy.qOp hi H
    · have := hend _ _ H j (ready_mono hj hji); omega
  | succ f ih =>
    intro listed a inv hfree hr hy H
    have hun := (mem_ready.1 hr).1
    refine ⟨List.ne_nil_of_mem hr, fun j hj => ?_⟩
    have hjn : j < n := Nat.lt_of_not_le fun h => tail_waits hs hc hn inv _ i rfl hin hun j h hj
    refine ⟨hjn, ?_⟩
    by_cases hji : j = i
    · subst hji; exact hy.qOp hi H
    · obtain ⟨hjun, oj, hoj, hall⟩ := mem_ready.1 hj
      have hnot : ∀ e ∈ oj.after, Region.binds md e = true → e.on ≠ i := fun e he hb heq => by
        have g := hall e he hb
        rw [heq, getD_both hun] at g
        cases g
      have h2 := qOp_put hoj (hfree j oj hoj hji hjun hnot) (fun cs b => hsel i oi cs b hi) (fun cs b => hsel j oj cs b hoj) hy (H.2 j (ready_mono hj hji)).2
      refine qOp_mono (fun a' h3 => ih (listed.setIfInBounds j true) a' (inv.set hj hjn) (fun k ok hk hki hu hno => hfree k ok hk hki ?_ hno) (ready_mono hr (Ne.symm hji)) h3.1 ?_) h2
      · by_cases hjk : j = k
        · subst hjk; exact hjun
        · rw [getD_set_ne true hjk] at hu; exact hu
      · rw [Array.setIfInBounds_comm _ _ hji]
        exact h3.2

theorem headQ_lex {n g : Nat} {Lq : Act → Prop} (hsel : Region.noSelect ops = true) (hs : Region.sinkB md ops n = true) (hc : Region.chainB md ops n = true) (hn : n < ops.size) :
    ∀ (l : List Oper) (k : Nat) (listed : Array Bool) (a : Act), (∀ j, j < l.length → l[j]? = ops[k + j]?) → k + l.length = n → HeadInv md ops n listed → Region.lexHead md ops g l.length k listed = true → wpQuiet P ops C Lq l a →
    headQ P md ops C n (fun listed' a' => Region.seqB md ops g n listed' = true ∧ Lq a') l.length listed a
  | [], k, listed, a, _, hk, _, hB, h => by
    obtain rfl : k = n := by simpa using hk
    exact ⟨by simpa [Region.lexHead] using hB, h⟩
  | o :: l, k, listed, a, hl, hk, inv, hB, h => by
    have h0 : ops[k]? = some o := by simpa using (hl 0 (by simp)).symm
    simp only [List.length_cons, Region.lexHead, Bool.and_eq_true] at hB
    have hkn : k < n := by simp only [List.length_cons] at hk; omega
    have hr : k ∈ Region.ready md ops listed := by simpa using hB.1.1
    have hq : qOp P ops C k (wpQuiet P ops C Lq l) a := by unfold qOp; simp only [h0]; exact h
    obtain ⟨v, hy, hK⟩ := yieldsIn_of_qOp h0 hq
    exact headQ_first h0 (Region.noSelect_spec hsel) hs hc hn hkn (fun listed' a' hL => seqB_ready hL.1) l.length listed a inv (Region.free_spec h0 hB.1.2) hr hy
      (headQ_lex hsel hs hc hn l (k + 1) _ _ (fun j hj => by have := hl (j + 1) (by simp; omega); simpa [Nat.add_assoc, Nat.add_comm 1 j] using this) (by simp only [List.length_cons] at hk; omega) (inv.set hr hkn) hB.2 hK)

/-- The head quiet in the class 'some blocks laid, some draws', the tail as it stands in the text. -/
theorem wp_region_quiet_tail {id : Nat} {Q : Exit → Act → World → Prop} {a : Act} {w : World} {l : List Oper} (n : Nat) (hm : P.follows .mixedOrders = true) (hB : Region.lexTailB .any l.toArray n = true)
    (h : wpQuiet P l.toArray (fun w' => ∃ p : Regrown, w' = grow (redrawn w p.d) p.os) (fun a' => ∀ w', (∃ p : Regrown, w' = grow (redrawn w p.d) p.os) → wpList P l.toArray Q (l.drop n) a' w') (l.take n) a) : (Code.region id l.toArray true).wp P Q a w := by
  simp only [Region.lexTailB, Bool.and_eq_true, decide_eq_true_eq] at hB
  obtain ⟨⟨⟨⟨hsel, hn⟩, hs⟩, hc⟩, hlex⟩ := hB
  have hn' : n < l.length := by simpa using hn
  have htl : (l.take n).length = n := by simp; omega
  have hdl : (l.drop n).length = l.toArray.size - n := by simp
  have inv0 : HeadInv .any l.toArray n (Array.replicate l.toArray.size false) :=
    ⟨by simp, fun j oj _ hl => (by rw [getD_replicate_false] at hl; cases hl), fun t _ ht => getD_in (by simpa using ht) (getD_replicate_false _ _)⟩
  have H := headQ_lex (md := .any) (g := l.toArray.size - n) hsel hs hc hn (l.take n) 0 _ a (fun j hj => by
    have hj' : j < n := by rw [htl] at hj; exact hj
    simp [hj']) (by simpa using htl) inv0 (by rw [htl]; exact hlex) h
  refine wp_region_any hm ?_
  have := headQ_any (Q := Q) (g := l.toArray.size - n) (fun listed a' w' hw' hL => by
    have := wpAny_of_seq (md := .any) (Q' := Q) (l.drop n) n listed a' w' (fun j => by simp [List.getElem?_drop]) (by rw [hdl]; exact hL.1) (hL.2 w' hw')
    rwa [hdl] at this) _ _ _ { w with drawn := w.drawn + 1 } ⟨⟨w.drawn + 1, #[]⟩, by rw [grow_empty]; rfl⟩ H
  rw [htl, show n + (l.toArray.size - n) = l.toArray.size by omega] at this
  exact this
end
end Go.Proofs.YtakipjofboipmaaGreat

/- The walks of this proof: a pair of one's own; a key among pairs. -/
namespace Go.Proofs.YtakipjofboipmaaGreat
open Go.RowKit Go.Sort

theorem below_of_regrown {w w' : World} (h : ∃ p : Regrown, w' = grow (redrawn w p.d) p.os) : Below w.heap.size w w' := by
  obtain ⟨p, rfl⟩ := h
  exact below_regrown w p.d p.os

theorem clone_in (s : ByteArray) (hs : s.size ≤ 1000) (w : World) (d : Nat) (os : Array Obj) :
    Calls Tryz.prog 134 #[.string s] (grow (redrawn w d) os) fun e w'' => e = .returned (.string s) ∧ ∃ p : Regrown, w'' = grow (redrawn w p.d) p.os :=
  Calls.regrown_of (clone_any s _ hs)

set_option maxHeartbeats 4000000 in
set_option maxRecDepth 100000 in
theorem own_any (p : Pr) (w : World) (hk : p.k.size ≤ 1000) (hv : p.v.size ≤ 1000) :
    Calls Tryz.prog 90 #[.agg #[.string p.k, .string p.v, .bool p.g]] w fun e w' => e = .returned (.agg #[.string p.k, .string p.v, .bool p.g]) ∧ Below w.heap.size w w' := by
  go_enter Tryz.func90, Tryz.ntmps90
  go_wp2
  have b0 := cell_regrown (w := (w.alloc (Obj.cells #[Value.string p.k, Value.string p.v, Value.bool p.g] 48)).alloc (Obj.cells #[Value.string ⟨#[]⟩, Value.string ⟨#[]⟩, Value.bool false] 48)) (a := ⟨w.heap.size, 0, none⟩) (v := .string p.k) (by simp)
  have b1 := cell_regrown (w := (w.alloc (Obj.cells #[Value.string p.k, Value.string p.v, Value.bool p.g] 48)).alloc (Obj.cells #[Value.string ⟨#[]⟩, Value.string ⟨#[]⟩, Value.bool false] 48)) (a := ⟨w.heap.size, 1, none⟩) (v := .string p.v) (by simp)
  have b2 := cell_regrown (w := (w.alloc (Obj.cells #[Value.string p.k, Value.string p.v, Value.bool p.g] 48)).alloc (Obj.cells #[Value.string ⟨#[]⟩, Value.string ⟨#[]⟩, Value.bool false] 48)) (a := ⟨w.heap.size, 2, none⟩) (v := .bool p.g) (by simp)
  refine wp_region_quiet_tail 9 (by kernel_rfl) (by kernel_rfl) ?_
  simp only [List.take_succ_cons, List.take_zero, List.drop_succ_cons, List.drop_zero]
  repeat (first | go_big_quiet_step (first | exact clone_in _ hk _ _ _ | exact clone_in _ hv _ _ _) | quiet_step (first | exact clone_in _ hk _ _ _ | exact clone_in _ hv _ _ _))
  refine wpQuiet_nil ?_
  intro w2 hw'
  have hb := below_of_regrown hw'
  clear hw' b0 b1 b2
  have r0 := (hb.cell (p := ⟨w.heap.size + 1, 0, none⟩) (by simp)).trans (by simp : _ = some (Value.string ⟨#[]⟩))
  have r1 := (hb.cell (p := ⟨w.heap.size + 1, 1, none⟩) (by simp)).trans (by simp : _ = some (Value.string ⟨#[]⟩))
  have r2 := (hb.cell (p := ⟨w.heap.size + 1, 2, none⟩) (by simp)).trans (by simp : _ = some (Value.bool false))
  have f0 := (hb.frozen (p := ⟨w.heap.size + 1, 0, none⟩) (by simp)).trans (by simp : _ = false)
  have f1 := (hb.frozen (p := ⟨w.heap.size + 1, 1, none⟩) (by simp)).trans (by simp : _ = false)
  have f2 := (hb.frozen (p := ⟨w.heap.size + 1, 2, none⟩) (by simp)).trans (by simp : _ = false)
  have HB : Hid (Below w.heap.size w w2) := below_trans' (((Below.refl _ w).alloc (Nat.le_refl _) _).alloc (by simp) _) hb
  clear hb
  go_wp2
  exact bodyPost_ret (v := .agg #[.string p.k, .string p.v, .bool p.g]) (by simp [results, Tryz.results90, go_sem, r0, r1, r2]) rfl ⟨rfl, ((HB.out.setCell (Nat.le_succ _) _).setCell (Nat.le_succ _) _).setCell (Nat.le_succ _) _⟩

set_option maxHeartbeats 1000000 in
theorem hasKey_any (L : List Pr) (v : Value) (ao : Option Addr) (cap : Nat) (key : ByteArray) (w : World) (hv : v = .slice ao L.length cap) (hl : L.length ≤ 4)
    (hc : ∀ b, ∀ (k : Nat) p, L[k]? = some p → ao = some b → b.spot = none ∧ w.cell? ⟨b.block, b.off + k * 3, none⟩ = some (.string p.k) ∧ w.cell? ⟨b.block, b.off + k * 3 + 1, none⟩ = some (.string p.v) ∧ w.cell? ⟨b.block, b.off + k * 3 + 2, none⟩ = some (.bool p.g)) (hne : 0 < L.length → ao.isSome = true) :
    Calls Tryz.prog 89 #[v, .string key] w fun e w' => e = .returned (.bool (L.any fun p => decide (p.k = key))) ∧ Below w.heap.size w w' := by
  subst hv
  have HC : Hid _ := hc
  clear hc
  go_enter Tryz.func89, Tryz.ntmps89
  go_wp2
  go_loopw [9] (fun i wr => ∃ k : Nat, k ≤ L.length ∧ i = .int .i64 k ∧ Hid (Below w.heap.size w wr) ∧ Hid (∀ j p, j < k → L[j]? = some p → p.k ≠ key)) (fun i _ => L.length - (intOf i).toNat)
  case atStart => exact ⟨0, Nat.zero_le _, rfl, Below.refl _ _, fun j p h => absurd h (Nat.not_lt_zero _)⟩
  case round =>
    obtain ⟨k, hk, rfl, HB, HN⟩ := hrel
    by_cases hlt : k < L.length
    · obtain ⟨⟨g, off, spot⟩, rfl⟩ := Option.isSome_iff_exists.1 (hne (by omega))
      obtain ⟨p, hp⟩ : ∃ p, L[k]? = some p := ⟨_, List.getElem?_eq_getElem hlt⟩
      obtain ⟨hsp, c0, c1, c2⟩ := HC.out ⟨g, off, spot⟩ k p hp rfl
      simp only at hsp c0 c1 c2
      subst hsp
      have c0 := cell_later HB.out c0
      have c1 := cell_later HB.out c1
      have c2 := cell_later HB.out c2
      have hgl : g < wr.heap.size := block_lt_of_cell c0
      have HP : Hid (L[k]? = some p) := hp
      clear hp
      by_cases hkk : p.k = key
      · have hfin : Hid ((L.any fun p => decide (p.k = key)) = true) := List.any_eq_true.2 ⟨p, List.mem_of_getElem? HP.out, by simp [hkk]⟩
        subst hkk
        go_wp2
        go_ret
        exact ⟨by rw [hfin.out]; rfl, HB.out.alloc HB.out.size _⟩
      · have hnb := str_ne hkk
        go_wp2
        go_roundw
        case rel => exact ⟨k + 1, by omega, by go_num, HB.out.alloc HB.out.size _, fun j p' hj hp' => by
          rcases Nat.lt_succ_iff_lt_or_eq.1 hj with h | rfl
          · exact HN.out j p' h hp'
          · rw [HP.out] at hp'; cases hp'; exact hkk⟩
        case measure => simp [intOf]; omega
    · have hfin : Hid ((L.any fun p => decide (p.k = key)) = false) := by
        refine List.any_eq_false.2 fun p hp => ?_
        obtain ⟨j, hj, rfl⟩ := List.getElem_of_mem hp
        simpa using HN.out j _ (by omega) (List.getElem?_eq_getElem hj)
      go_wp2
      go_ret
      exact ⟨by rw [hfin.out]; rfl, HB.out⟩
end Go.Proofs.YtakipjofboipmaaGreat

/- The walks of this proof: the library's insertion sort over pairs. -/
namespace Go.Proofs.YtakipjofboipmaaGreat
open Go.RowKit Go.Sort

set_option maxHeartbeats 1000000 in
theorem byKey_any (a b : Pr) (w : World) :
    Calls Tryz.prog 92 #[.agg #[.string a.k, .string a.v, .bool a.g], .agg #[.string b.k, .string b.v, .bool b.g]] w fun e w' => e = .returned (.int .i64 (kc a.k b.k)) ∧ Below w.heap.size w w' := by
  go_enter Tryz.func92, Tryz.ntmps92
  go_wp2_with (go_at_call 137; refine (compare_any _ _ _).mono ?_; rintro e w' ⟨rfl, rfl⟩)
  go_ret
  exact ⟨rfl, ((Below.refl _ _).alloc (Nat.le_refl _) _).alloc (by simp) _⟩

theorem byKey_in (a b : Pr) (w : World) (d : Nat) (os : Array Obj) :
    Calls Tryz.prog 92 #[.agg #[.string a.k, .string a.v, .bool a.g], .agg #[.string b.k, .string b.v, .bool b.g]] (grow (redrawn w d) os) fun e w'' => e = .returned (.int .i64 (kc a.k b.k)) ∧ ∃ p : Regrown, w'' = grow (redrawn w p.d) p.os :=
  Calls.regrown_of (byKey_any a b _)

theorem owns_drew {w : World} {base : Nat} {e : TypeId} {size : Nat} {v : Value} {n : Nat} {xs : List Value} (h : w.ownsRow base e size v n xs) : w.drew.ownsRow base e size v n xs := h

/-- A pair stored into a row of pairs. -/
theorem put_pair {w : World} {base g cap : Nat} {L : List Pr} (h : w.ownsRow base 48 3 (.slice (some ⟨g, 0, none⟩) L.length cap) L.length (pcells L)) (hbg : base ≤ g) (k : Nat) (p : Pr) (hk : k < L.length) :
    (((w.setCell ⟨g, k * 3, none⟩ (.string p.k)).setCell ⟨g, k * 3 + 1, none⟩ (.string p.v)).setCell ⟨g, k * 3 + 2, none⟩ (.bool p.g)).ownsRow base 48 3 (.slice (some ⟨g, 0, none⟩) (L.set k p).length cap) (L.set k p).length (pcells (L.set k p)) ∧
    Below base w (((w.setCell ⟨g, k * 3, none⟩ (.string p.k)).setCell ⟨g, k * 3 + 1, none⟩ (.string p.v)).setCell ⟨g, k * 3 + 2, none⟩ (.bool p.g)) := by
  have h3 := (((h.stored (k * 3) (.string p.k)).1.stored (k * 3 + 1) (.string p.v)).1.stored (k * 3 + 2) (.bool p.g)).1
  rw [pcells_set L k p hk] at h3
  refine ⟨by rw [List.length_set]; exact h3, (((Below.refl _ _).setCell hbg _).setCell hbg _).setCell hbg _⟩

theorem swap_pairs {w : World} {base g cap : Nat} {L : List Pr} (h : w.ownsRow base 48 3 (.slice (some ⟨g, 0, none⟩) L.length cap) L.length (pcells L)) (hbg : base ≤ g) (m : Nat) (x y : Pr) (hm : m + 1 < L.length) :
    ((((((w.setCell ⟨g, (m + 1) * 3, none⟩ (.string x.k)).setCell ⟨g, (m + 1) * 3 + 1, none⟩ (.string x.v)).setCell ⟨g, (m + 1) * 3 + 2, none⟩ (.bool x.g)).setCell ⟨g, m * 3, none⟩ (.string y.k)).setCell ⟨g, m * 3 + 1, none⟩ (.string y.v)).setCell ⟨g, m * 3 + 2, none⟩ (.bool y.g)).ownsRow base 48 3 (.slice (some ⟨g, 0, none⟩) L.length cap) L.length (pcells (sw L m x y)) ∧
    Below base w ((((((w.setCell ⟨g, (m + 1) * 3, none⟩ (.string x.k)).setCell ⟨g, (m + 1) * 3 + 1, none⟩ (.string x.v)).setCell ⟨g, (m + 1) * 3 + 2, none⟩ (.bool x.g)).setCell ⟨g, m * 3, none⟩ (.string y.k)).setCell ⟨g, m * 3 + 1, none⟩ (.string y.v)).setCell ⟨g, m * 3 + 2, none⟩ (.bool y.g)) := by
  obtain ⟨h1, b1⟩ := put_pair h hbg (m + 1) x hm
  obtain ⟨h2, b2⟩ := put_pair h1 hbg m y (by simp; omega)
  simp only [List.length_set] at h2
  exact ⟨h2, b1.trans b2⟩

/-- What the sort comes to. -/
def SortPost (L : List Pr) (g cap base : Nat) (w : World) (e : Ending) (w' : World) : Prop :=
  e = .returned (.tuple #[]) ∧ ∃ M : List Pr, SamePr L M ∧ Upto M M.length ∧ w'.ownsRow base 48 3 (.slice (some ⟨g, 0, none⟩) M.length cap) M.length (pcells M) ∧ Below base w w'

set_option maxHeartbeats 1000000 in
set_option maxRecDepth 100000 in
theorem isort_any (L : List Pr) (g cap base : Nat) (w : World) (h : w.ownsRow base 48 3 (.slice (some ⟨g, 0, none⟩) L.length cap) L.length (pcells L)) (h1 : 1 ≤ L.length) (h4 : L.length ≤ 4) (hbg : base ≤ g) (hbase : base ≤ w.heap.size) (hd : Distinct L) :
    Calls Tryz.prog 169 #[.slice (some ⟨g, 0, none⟩) L.length cap, .int .i64 0, .int .i64 L.length, .func (.func 92) #[] #[]] w fun e w' => SortPost L g cap base w e w' := by
  have H : Hid (w.ownsRow base 48 3 (.slice (some ⟨g, 0, none⟩) L.length cap) L.length (pcells L)) := h
  have HD : Hid (Distinct L) := hd
  clear h hd
  go_enter Tryz.func169, Tryz.ntmps169
  go_wp2
  go_loopg [8, 9] L.length (fun kx s8 s9 wr => ∃ (i : Nat) (Lc : List Pr), s8 = .int .i64 i ∧ 1 ≤ i ∧ i ≤ L.length ∧ L.length - i ≤ kx ∧ Lc.length = L.length ∧ Hid (wr.ownsRow base 48 3 (.slice (some ⟨g, 0, none⟩) L.length cap) L.length (pcells Lc) ∧ SamePr L Lc ∧ Distinct Lc ∧ Upto Lc i ∧ Below base w wr))
  case atStart => exact ⟨1, L, rfl, Nat.le_refl _, h1, by omega, rfl, H.out, ⟨rfl, fun _ => Iff.rfl⟩, HD.out, fun a b p q hab hb => by omega, Below.refl _ _⟩
  case round =>
    obtain ⟨i, Lc, rfl, hi1, hin, hgk, hll, HO⟩ := hrel
    by_cases hlt : i < L.length
    · go_wp2
      go_loopg [9] i (fun kx s9 wr => ∃ (j : Nat) (Ld : List Pr), s9 = .int .i64 j ∧ j ≤ i ∧ j ≤ kx ∧ Ld.length = L.length ∧ Hid (wr.ownsRow base 48 3 (.slice (some ⟨g, 0, none⟩) L.length cap) L.length (pcells Ld) ∧ SamePr L Ld ∧ Distinct Ld ∧ But Ld j i ∧ Below base w wr))
      case atStart => exact ⟨i, Lc, rfl, Nat.le_refl _, Nat.le_refl _, hll, HO.out.1, HO.out.2.1, HO.out.2.2.1, but_start HO.out.2.2.2.1, HO.out.2.2.2.2⟩
      case round =>
        clear HO
        obtain ⟨j, Ld, rfl, hji, hgj, hld, HO⟩ := hrel
        by_cases hj0 : 0 < j
        · obtain ⟨m, rfl⟩ : ∃ m, j = m + 1 := ⟨j - 1, by omega⟩
          obtain ⟨x, hx⟩ : ∃ x, Ld[m]? = some x := ⟨_, List.getElem?_eq_getElem (by omega)⟩
          obtain ⟨y, hy⟩ : ∃ y, Ld[m + 1]? = some y := ⟨_, List.getElem?_eq_getElem (by omega)⟩
          rw [← hld] at HO
          obtain ⟨g', cap', hv', _, hgl, hcap, hcell⟩ := pr_cells HO.out.1 (Below.refl _ _) (by omega)
          simp only [Value.slice.injEq, Option.some.injEq, Addr.mk.injEq, and_true, true_and] at hv'
          obtain ⟨rfl, rfl⟩ := hv'
          obtain ⟨c0, c1, c2⟩ := hcell m x hx
          obtain ⟨d0, d1, d2⟩ := hcell (m + 1) y hy
          have c0' := cell_regrown c0
          have c1' := cell_regrown c1
          have c2' := cell_regrown c2
          have d0' := cell_regrown d0
          have d1' := cell_regrown d1
          have d2' := cell_regrown d2
          have hmi : (0 : Int) < (m : Int) + 1 := by omega
          have HX : Hid (Ld[m]? = some x ∧ Ld[m + 1]? = some y) := ⟨hx, hy⟩
          have hgl' : base ≤ wr.heap.size := Nat.le_trans hbase HO.out.2.2.2.2.size
          clear hx hy hcell
          by_cases hlv : kc y.k x.k < 0
          · go_wp2
            refine wp_region_quiet_below (by kernel_rfl) (by kernel_rfl) ?_
            repeat (first | go_big_quiet_step (exact byKey_in _ _ _ _ _) | quiet_step (exact byKey_in _ _ _ _ _))
            refine wpQuiet_nil ?_
            intro w2 hw'
            have hb := below_of_regrown hw'
            clear hw' c0' c1' c2' d0' d1' d2'
            have c0 := cell_later hb c0
            have c1 := cell_later hb c1
            have c2 := cell_later hb c2
            have d0 := cell_later hb d0
            have d1 := cell_later hb d1
            have d2 := cell_later hb d2
            have HO2 : Hid (w2.ownsRow base 48 3 (.slice (some ⟨g, 0, none⟩) Ld.length cap) Ld.length (pcells Ld) ∧ SamePr L Ld ∧ Distinct Ld ∧ But Ld (m + 1) i ∧ Below base w w2) := ⟨(Kp.of_below (B := 0) (ts := []) hb).owns HO.out.1 (by simp), HO.out.2.1, HO.out.2.2.1, HO.out.2.2.2.1, HO.out.2.2.2.2.trans (hb.mono hgl')⟩
            have hfz : ∀ o, w2.frozen? ⟨g, o, none⟩ = false := fun o => by
              rcases HO2.out.1.2 with ⟨h, _⟩ | ⟨g2, cap2, cur, hv, _, hg, _⟩
              · cases h
              · simp only [Value.slice.injEq, Option.some.injEq, Addr.mk.injEq, and_true, true_and] at hv
                obtain ⟨rfl, rfl⟩ := hv
                simp [World.frozen?, hg]
            have FIN := swap_pairs HO2.out.1 hbg m x y (by omega)
            have HF : Hid _ := FIN
            clear hb HO FIN
            have hm1 : (m : Int) < (L.length : Int) := by omega
            have hm2 : (m : Int) + 1 < (L.length : Int) := by omega
            have hmw : IntKind.i64.wrap (m : Int) = (m : Int) := by rw [IntKind.wrap_i64]; omega
            go_wp2
            go_region
            go_wp2
            go_roundg m
            case measure => omega
            case rel =>
              refine ⟨m, sw Ld m x y, rfl, by omega, Nat.le_refl _, by rw [sw_len]; exact hld, ?_⟩
              rw [← hld]
              exact ⟨owns_drew HF.out.1, HO2.out.2.1.trans (sw_same HX.out.1 HX.out.2), sw_distinct HO2.out.2.2.1 HX.out.1 HX.out.2, but_step HO2.out.2.2.2.1 hji HX.out.1 HX.out.2 hlv, (HO2.out.2.2.2.2.trans HF.out.2).drew⟩
          · go_wp2
            refine wp_region_quiet_below (by kernel_rfl) (by kernel_rfl) ?_
            repeat (first | go_big_quiet_step (exact byKey_in _ _ _ _ _) | quiet_step (exact byKey_in _ _ _ _ _))
            refine wpQuiet_nil ?_
            intro w2 hw'
            have hb := below_of_regrown hw'
            clear hw' c0' c1' c2' d0' d1' d2' c0 c1 c2 d0 d1 d2
            have HO2 : Hid (w2.ownsRow base 48 3 (.slice (some ⟨g, 0, none⟩) L.length cap) L.length (pcells Ld) ∧ SamePr L Ld ∧ Distinct Ld ∧ Upto Ld (i + 1) ∧ Below base w w2) := by
              refine ⟨by rw [← hld]; exact (Kp.of_below (B := 0) (ts := []) hb).owns HO.out.1 (by simp), HO.out.2.1, HO.out.2.2.1, but_stop HO.out.2.2.2.1 HO.out.2.2.1 hji (fun m' x' y' e hx' hy' => ?_), HO.out.2.2.2.2.trans (hb.mono hgl')⟩
              obtain rfl : m = m' := by omega
              rw [HX.out.1] at hx'; rw [HX.out.2] at hy'
              cases hx'; cases hy'
              omega
            clear hb HO
            go_wp2
            go_roundg (L.length - (i + 1))
            case measure => omega
            case rel => exact ⟨i + 1, Ld, by go_num, by omega, by omega, Nat.le_refl _, hld, HO2.out⟩
        · obtain rfl : j = 0 := by omega
          have HO2 : Hid (wr.ownsRow base 48 3 (.slice (some ⟨g, 0, none⟩) L.length cap) L.length (pcells Ld) ∧ SamePr L Ld ∧ Distinct Ld ∧ Upto Ld (i + 1) ∧ Below base w wr) := ⟨HO.out.1, HO.out.2.1, HO.out.2.2.1, but_stop HO.out.2.2.2.1 HO.out.2.2.1 (by omega) (fun m' x' y' e => by omega), HO.out.2.2.2.2⟩
          have hgl' : base ≤ wr.heap.size := Nat.le_trans hbase HO.out.2.2.2.2.size
          clear HO
          go_wp2
          refine wp_region_quiet_below (by kernel_rfl) (by kernel_rfl) ?_
          repeat (first | go_big_quiet_step (fail) | quiet_step (fail))
          refine wpQuiet_nil ?_
          intro w2 hw'
          have hb := below_of_regrown hw'
          have HO3 : Hid (w2.ownsRow base 48 3 (.slice (some ⟨g, 0, none⟩) L.length cap) L.length (pcells Ld) ∧ SamePr L Ld ∧ Distinct Ld ∧ Upto Ld (i + 1) ∧ Below base w w2) := ⟨(Kp.of_below (B := 0) (ts := []) hb).owns HO2.out.1 (by simp), HO2.out.2.1, HO2.out.2.2.1, HO2.out.2.2.2.1, HO2.out.2.2.2.2.trans (hb.mono hgl')⟩
          clear hb hw' HO2
          go_wp2
          go_roundg (L.length - (i + 1))
          case measure => omega
          case rel => exact ⟨i + 1, Ld, by go_num, by omega, by omega, Nat.le_refl _, hld, HO3.out⟩
    · obtain rfl : i = L.length := by omega
      go_wp2
      go_end0
      refine ⟨rfl, Lc, HO.out.2.1, by rw [hll]; exact HO.out.2.2.2.1, by rw [hll]; exact HO.out.1, HO.out.2.2.2.2⟩
end Go.Proofs.YtakipjofboipmaaGreat
