/- The walks of this proof: Merge. -/
import Derived.Test.YtakipjofboipmaaGreatJ11
import Derived.Test.YtakipjofboipmaaGreatJ8
namespace Go.Proofs.YtakipjofboipmaaGreat
open Go.RowKit Go.Sort

/-- What a call that turns a store comes to. -/
def StPost (D F : Nat → Prop) (sb : Nat) (x' : St) (ts : List Nat) (w w' : World) : Prop :=
  ∃ D' F' : Nat → Prop, (∀ k, D' k → D k) ∧ (∀ k, F' k → F k ∨ (D k ∧ w.heap.size ≤ k)) ∧ (∀ k, F' k → ¬ D' k) ∧ Opn D' w' ∧ StoreAt D' F' sb x' w' ∧ Kd D ts w w'

theorem lcells_append (A B : List Lb) (V U : List Value) (h : V.length = A.length) : lcells (A ++ B) (V ++ U) = lcells A V ++ lcells B U := by
  unfold lcells
  rw [List.zip_append h.symm, List.flatMap_append]

theorem zip_take {α β : Type} : ∀ (k : Nat) (a : List α) (b : List β), (a.zip b).take k = (a.take k).zip (b.take k)
  | 0, _, _ => by simp
  | _ + 1, [], _ => by simp
  | _ + 1, _ :: _, [] => by simp
  | k + 1, x :: a, y :: b => by simp [zip_take k a b]

theorem zip_drop {α β : Type} : ∀ (k : Nat) (a : List α) (b : List β), (a.zip b).drop k = (a.drop k).zip (b.drop k)
  | 0, _, _ => by simp
  | _ + 1, [], _ => by simp
  | _ + 1, _ :: _, [] => by simp
  | k + 1, x :: a, y :: b => by simp [zip_drop k a b]

theorem lcells_take {T : List Lb} {Vs : List Value} (k : Nat) : (lcells T Vs).take (k * 2) = lcells (T.take k) (Vs.take k) := by
  unfold lcells
  rw [flat_take _ 2 (fun _ => rfl), zip_take]

theorem lcells_drop {T : List Lb} {Vs : List Value} (k : Nat) : (lcells T Vs).drop (k * 2) = lcells (T.drop k) (Vs.drop k) := by
  unfold lcells
  rw [flat_drop _ 2 (fun _ => rfl), zip_drop]

/-- Tables of which some were struck out. -/
theorem tabs_del {w w' : World} {D F : Nat → Prop} {g cap : Nat} {T : List Lb} {Vs : List Value} {cur : Array Value} {s e : Nat} (hl : Vs.length = T.length) (hg : w.heap[g]? = some (.cells cur 169 (0, 0))) (hD : D g) (hcm : cap ≤ maxLen) (hcs : cur.size = cap * 2) (hx : cur.toList.take (T.length * 2) = lcells T Vs) (hse : s ≤ e) (hen : e ≤ T.length) (hnc : T.length ≤ cap)
    (hr : ∀ (k : Nat) t v, T[k]? = some t → Vs[k]? = some v → OwnsIn w F 58 4 v t.2.length (ecells t.2)) (h : DelPost2 g cap s e T.length cur w (.returned (.slice (some ⟨g, 0, none⟩) (s + (T.length - e)) cap)) w') :
    TabsIn w' D F (.slice (some ⟨g, 0, none⟩) (s + (T.length - e)) cap) (T.take s ++ T.drop e) ∧ Kd D [169] w w' := by
  obtain ⟨_, hgr, cur', hg', hs', ht'⟩ := h
  have kd : Kd D [169] w w' := ⟨hgr.os, hgr.tape, hgr.output, hgr.size, fun k hk hor => hgr.block k hk (fun e => by
    obtain rfl : k = g := Option.some.inj e
    rcases hor with h1 | h1
    · exact h1 hD
    · exact h1 _ _ _ hg (by simp))⟩
  have e1 : cur.toList.take (s * 2) = lcells (T.take s) (Vs.take s) := by
    rw [← lcells_take, ← hx, List.take_take, Nat.min_eq_left (by omega)]
  have e2 : (cur.toList.drop (e * 2)).take ((T.length - e) * 2) = lcells (T.drop e) (Vs.drop e) := by
    rw [← lcells_drop, ← hx, List.drop_take]
    congr 1
    omega
  have hlen : (T.take s ++ T.drop e).length = s + (T.length - e) := by
    rw [List.length_append, List.length_take, List.length_drop]; omega
  refine ⟨⟨Vs.take s ++ Vs.drop e, by simp [hl], ?_, fun k t v ht hv => ?_⟩, kd⟩
  · rw [hlen]
    refine ⟨⟨?_, .inr ⟨g, cap, cur', rfl, Nat.zero_le _, hg', by omega, hcm, by rw [hs', hcs], ?_⟩⟩, fun g' e => by simp only [Value.ownBlock, Option.some.injEq] at e; subst e; exact hD⟩
    · rw [lcells_len (by simp [hl]), hlen]
    · rw [ht', e1, e2, lcells_append _ _ _ _ (by simp [hl])]
  · have : ∃ j : Nat, T[j]? = some t ∧ Vs[j]? = some v := by
      by_cases hk : k < s
      · rw [List.getElem?_append_left (by simp; omega), List.getElem?_take_of_lt hk] at ht
        rw [List.getElem?_append_left (by simp; omega), List.getElem?_take_of_lt hk] at hv
        exact ⟨k, ht, hv⟩
      · have h1 : (T.take s).length = s := by simp; omega
        have h2 : (Vs.take s).length = s := by simp; omega
        rw [List.getElem?_append_right (by omega), h1, List.getElem?_drop] at ht
        rw [List.getElem?_append_right (by omega), h2, List.getElem?_drop] at hv
        exact ⟨_, ht, hv⟩
    obtain ⟨j, h1, h2⟩ := this
    exact kd.ownsIn (hr j t v h1 h2) (by simp)

set_option maxHeartbeats 400000 in
theorem isEmpty_any (tb n cap : Nat) (ao : Option Addr) (w : World) (h : w.cell? ⟨tb, 0, none⟩ = some (.slice ao n cap)) (hn : n < 1000000000) :
    Calls Tryz.prog 98 #[.pointer (some ⟨tb, 0, none⟩)] w fun e w' => e = .returned (.bool (decide (n = 0))) ∧ w' = w := by
  by_cases h0 : n = 0
  · subst h0
    go_enter Tryz.func98, Tryz.ntmps98
    go_wp2
    go_ret
    exact ⟨rfl, rfl⟩
  · have hb : ((n : Int) == 0) = false := beq_eq_false_iff_ne.2 (by omega)
    have hd : decide (n = 0) = false := decide_eq_false h0
    rw [hd]
    go_enter Tryz.func98, Tryz.ntmps98
    go_wp2
    go_ret
    exact ⟨rfl, rfl⟩

/-- What merge comes to: the row of tables. -/
def MgPost (D F : Nat → Prop) (sb : Nat) (vE vR a3 a4 a5 a6 a7 : Value) (T' : List Lb) (w : World) (e : Ending) (w' : World) : Prop :=
  e = .returned (.tuple #[]) ∧ ∃ (D' F' : Nat → Prop) (vL : Value), (∀ k, D' k → D k) ∧ (∀ k, D k → k < w.heap.size → D' k) ∧ (∀ k, F' k → F k ∨ (D k ∧ w.heap.size ≤ k)) ∧ (∀ k, F' k → (F k → ¬ D k) → ¬ D' k) ∧ Opn D' w' ∧ w'.heap[sb]? = some (.cells #[vE, vL, vR, a3, a4, a5, a6, a7] 118 (0, 0)) ∧ TabsIn w' D' F' vL T' ∧ Kd D [118, 169] w w'

set_option maxHeartbeats 8000000 in
set_option maxRecDepth 100000 in
theorem merge_any (D F : Nat → Prop) (sb : Nat) (vE vL vR a3 a4 a5 a6 a7 : Value) (T : List Lb) (l : Int) (Q : List Int) (vQ : Value) (w : World) (hs : w.heap[sb]? = some (.cells #[vE, vL, vR, a3, a4, a5, a6, a7] 118 (0, 0))) (hB : D sb) (hD : Opn D w) (hT : TabsIn w D F vL T) (hTf : T.length < 1000000000) (h0 : 0 ≤ l) (h2 : l < 2) (hse : stIdx T l < stIdx T (l + 2))
    (hne : ∀ t ∈ T, t.2 ≠ []) (hso : ∀ t ∈ T, Sorted t.2) (hlay : LayX (T.map (·.2))) (hfew : (((T.drop (stIdx T l)).take (stIdx T (l + 2) - stIdx T l)).flatMap (·.2)).length < 100000000) (hQ : IntRow w vQ Q) (h4 : Q.length ≤ 4) :
    Calls Tryz.prog 60 #[.pointer (some ⟨sb, 0, none⟩), .int .i64 l, vQ] w fun e w' => MgPost D F sb vE vR a3 a4 a5 a6 a7 (T.take (stIdx T l) ++ oneT (l + 1) (ndAll Q (l + 1 == 2) (srt (((T.drop (stIdx T l)).take (stIdx T (l + 2) - stIdx T l)).flatMap (·.2)))) ++ T.drop (stIdx T (l + 2))) w e w' := by
  have hsb : sb < w.heap.size := lt_of_block hs
  have c1 : w.cell? ⟨sb, 1, none⟩ = some vL := by simp [World.cell?, hs]
  have HS : Hid (∀ w1 l', Below w.heap.size w w1 → Calls Tryz.prog 95 #[.pointer (some ⟨sb, 0, none⟩), .int .i64 l'] w1 fun e w' => e = .returned (.int .i64 (stIdx T l')) ∧ Below w1.heap.size w1 w') := fun w1 l' hb => start_any T vL sb l' w1 (cell_later hb c1) (hT.row.below hb) hTf
  have hen : stIdx T (l + 2) ≤ T.length := stIdx_le _ _
  obtain ⟨s, hs0⟩ : ∃ s, stIdx T l = s := ⟨_, rfl⟩
  obtain ⟨en, he0⟩ : ∃ en, stIdx T (l + 2) = en := ⟨_, rfl⟩
  have HI : Hid (stIdx T l = s ∧ stIdx T (l + 2) = en) := ⟨hs0, he0⟩
  rw [hs0, he0] at hse hfew
  rw [he0] at hen
  rw [hs0, he0]
  clear hs0 he0
  obtain ⟨X, hXe⟩ : ∃ X, (T.drop s).take (en - s) = X := ⟨_, rfl⟩
  rw [hXe] at hfew
  have hXl : X.length = en - s := by rw [← hXe, List.length_take, List.length_drop]; omega
  have hXs : X.Sublist T := by rw [← hXe]; exact (List.take_sublist _ _).trans (List.drop_sublist _ _)
  obtain ⟨R, hRe⟩ : ∃ R, ndAll Q (l + 1 == 2) (srt (X.flatMap (·.2))) = R := ⟨_, rfl⟩
  rw [hXe, hRe]
  obtain ⟨Vs, hVl, hTo, hTr⟩ := hT
  rcases hTo.own.2 with ⟨_, hz⟩ | ⟨g, cap, cur, rfl, _, hg, hnc, hcm, hcs, hcx⟩
  · omega
  have hDg : D g := hTo.dom g rfl
  have hgl : g < w.heap.size := lt_of_block hg
  have hMid : ∀ w1, Below w.heap.size w w1 → MidAt w1 g (s * 2) w1.heap.size X := fun w1 hb k t ht => by
    have hkX := (List.getElem?_eq_some_iff.1 ht).1
    have htT : T[s + k]? = some t := by
      rw [← hXe, List.getElem?_take_of_lt (by omega), List.getElem?_drop] at ht
      exact ht
    have hkT : s + k < T.length := (List.getElem?_eq_some_iff.1 htT).1
    obtain ⟨u, hu⟩ : ∃ u, Vs[s + k]? = some u := ⟨_, List.getElem?_eq_getElem (by omega)⟩
    have ho := hTr (s + k) t u htT hu
    have htn : 0 < t.2.length := List.length_pos_iff.2 (hne t (List.mem_of_getElem? htT))
    rcases ho.own.2 with ⟨_, hz⟩ | ⟨gN, capN, curN, rfl, _, hgN, r⟩
    · omega
    obtain ⟨g1, g2⟩ := lcells_get htT hu
    have hlc := lcells_len hVl
    refine ⟨gN, capN, curN, ?_, ?_, Nat.lt_of_lt_of_le (lt_of_block hgN) hb.size, (hb.block gN (lt_of_block hgN)).trans hgN, (Kp.of_below (B := 0) (ts := []) hb).owns ho.own (by simp)⟩
    · refine cell_later hb ?_
      rw [show s * 2 + k * 2 = (s + k) * 2 by omega, hTo.own.cellAt _ (by omega)]; exact g1
    · refine cell_later hb ?_
      rw [show s * 2 + k * 2 + 1 = (s + k) * 2 + 1 by omega, hTo.own.cellAt _ (by omega)]; exact g2
  have HMG : Hid (∀ w1, Below w.heap.size w w1 → Calls Tryz.prog 96 #[.slice (some ⟨g, s * 2, none⟩) (en - s) (cap - s), .int .i64 (l + 1), vQ] w1 fun e w' => MergePost R (l + 1) w1 e w') := fun w1 hb => by
    rw [← hRe, ← hXl]
    exact mergeTables_any X g (s * 2) (cap - s) (l + 1) Q vQ w1 (hMid w1 hb) (Nat.lt_of_lt_of_le hgl hb.size) (by omega) (by omega) (fun t ht => hne t (hXs.subset ht)) (fun t ht => hso t (hXs.subset ht)) (List.Pairwise.sublist (hXs.map (fun t : Lb => t.2)) hlay) hfew (hQ.below hb) h4
  obtain ⟨n', hn'⟩ : ∃ n', s + (T.length - en) = n' := ⟨_, rfl⟩
  have h1c : ∀ u ∈ cur.toList.take (T.length * 2), u.oneCell' = true := by rw [hcx]; exact lc_one hTr
  have HDEL : Hid (∀ W, W.heap[g]? = some (.cells cur 169 (0, 0)) → Calls Tryz.prog 97 #[.slice (some ⟨g, 0, none⟩) T.length cap, .int .i64 s, .int .i64 en] W fun e w' => DelPost2 g cap s en T.length cur W e w') := fun W hW => delete2_any g cap s en T.length cur W hW hse hen hnc hcs hTf h1c
  have hT'l : (T.take s ++ T.drop en).length = n' := by rw [List.length_append, List.length_take, List.length_drop]; omega
  -- behind the deletion
  have HB5 : Hid (∀ (w3 w5 : World) (v : Value), Below w.heap.size w w3 → w3.ownsRow w.heap.size 58 4 v R.length (ecells R) → DelPost2 g cap s en T.length cur (w3.alloc (.cells #[v, .int .i64 (l + 1)] 169)) (.returned (.slice (some ⟨g, 0, none⟩) n' cap)) w5 →
      w5.heap[sb]? = some (.cells #[vE, .slice (some ⟨g, 0, none⟩) T.length cap, vR, a3, a4, a5, a6, a7] 118 (0, 0)) ∧ w5.heap[w3.heap.size]? = some (.cells #[v, .int .i64 (l + 1)] 169 (0, 0)) ∧ TabsIn w5 D F (.slice (some ⟨g, 0, none⟩) n' cap) (T.take s ++ T.drop en) ∧ w5.ownsRow w.heap.size 58 4 v R.length (ecells R) ∧ Kd D [169] w w5) := fun w3 w5 v hb ho hdel => by
    have hgW : (w3.alloc (.cells #[v, .int .i64 (l + 1)] 169)).heap[g]? = some (.cells cur 169 (0, 0)) := by
      rw [Below.heap_alloc _ _ _ (Nat.lt_of_lt_of_le hgl hb.size)]; exact (hb.block g hgl).trans hg
    have kb : Kd D [169] w (w3.alloc (.cells #[v, .int .i64 (l + 1)] 169)) := (Kd.of_below hb).trans ((Kd.refl D _ w3).alloc _)
    rw [← hn'] at hdel
    have hdel' := hdel
    obtain ⟨_, hgr, _⟩ := hdel'
    obtain ⟨t5, k5⟩ := tabs_del hVl hgW hDg hcm hcs hcx (Nat.le_of_lt hse) hen hnc (fun k t u ht hu => kb.ownsIn (hTr k t u ht hu) (by simp)) hdel
    rw [hn'] at t5
    refine ⟨(kb.trans k5).keep hs (by simp), ?_, t5, ?_, kb.trans k5⟩
    · rw [hgr.block _ (by simp) (fun e => by have := Option.some.inj e; have := hb.size; omega)]
      exact heap_alloc_new w3 _
    · have h1 := ho.alloc (.cells #[v, .int .i64 (l + 1)] 169)
      exact k5.owns h1 (by simp)
  have HBS : Hid (D sb) := hB
  have HE1 : Hid (∀ (w5 : World), R = [] → w5.heap[sb]? = some (.cells #[vE, .slice (some ⟨g, 0, none⟩) T.length cap, vR, a3, a4, a5, a6, a7] 118 (0, 0)) → TabsIn w5 D F (.slice (some ⟨g, 0, none⟩) n' cap) (T.take s ++ T.drop en) → Kd D [169] w w5 →
      MgPost D F sb vE vR a3 a4 a5 a6 a7 (T.take s ++ oneT (l + 1) R ++ T.drop en) w (.returned (.tuple #[])) (w5.setCell ⟨sb, 1, none⟩ (.slice (some ⟨g, 0, none⟩) n' cap))) := fun w5 hR0 hs5 ht5 hk5 => by
    have k6 := Kd.field hB hs5 1 (.slice (some ⟨g, 0, none⟩) n' cap)
    have s6 := set_field hs5 1 (.slice (some ⟨g, 0, none⟩) n' cap)
    simp only [List.setIfInBounds_toArray, List.set_cons_succ, List.set_cons_zero] at s6
    rw [hR0]
    simp only [oneT, List.append_nil]
    exact ⟨rfl, D, F, _, fun _ h => h, fun _ h _ => h, fun _ h => .inl h, fun _ h h' => h' h, hD.later (Nat.le_trans hk5.size k6.size), s6, ht5.kd k6 (by simp) (by simp), (hk5.mono (by simp)).trans (k6.mono (by simp))⟩
  have HINS : Hid (∀ (w6 : World) (v : Value), R ≠ [] → TabsIn w6 D F (.slice (some ⟨g, 0, none⟩) n' cap) (T.take s ++ T.drop en) → w6.ownsRow w.heap.size 58 4 v R.length (ecells R) → w.heap.size ≤ w6.heap.size →
      ∃ Vs' : List Value, Vs'.length = n' ∧ (∀ (k : Nat) t v, (T.take s ++ T.drop en)[k]? = some t → Vs'[k]? = some v → OwnsIn w6 F 58 4 v t.2.length (ecells t.2)) ∧ Calls Tryz.prog 93 #[.slice (some ⟨g, 0, none⟩) n' cap, .int .i64 s, .slice (some ⟨w6.heap.size, 0, none⟩) 1 1] (w6.alloc (.cells #[v, .int .i64 (l + 1)] 169)) fun e w' => InsPost D n' s (lcells (T.take s ++ T.drop en) Vs') v (.int .i64 (l + 1)) (w6.alloc (.cells #[v, .int .i64 (l + 1)] 169)) e w') := fun w6 v hR1 ht6 ho hsz => by
    obtain ⟨Vs', hl', ho', hr'⟩ := ht6
    rw [hT'l] at hl' ho'
    obtain ⟨ao, cp, hv⟩ := slice_form ho
    refine ⟨Vs', hl', hr', insert_any D _ n' s _ v (.int .i64 (l + 1)) w6.heap.size (w6.alloc (.cells #[v, .int .i64 (l + 1)] 169)) (ho'.alloc _) (hD.later (by simp; omega)) (lc_one hr') (heap_alloc_new w6 _) ⟨by rw [hv]; rfl, rfl⟩ (fun e => by have := (ho'.own.lt _ e).2; omega) (by omega) (by omega)⟩
  have HE2 : Hid (∀ (w6 w8 : World) (v v' : Value) (Vs' : List Value), R ≠ [] → Vs'.length = n' → (∀ (k : Nat) t v, (T.take s ++ T.drop en)[k]? = some t → Vs'[k]? = some v → OwnsIn w6 F 58 4 v t.2.length (ecells t.2)) → w6.ownsRow w.heap.size 58 4 v R.length (ecells R) → w6.heap[sb]? = some (.cells #[vE, .slice (some ⟨g, 0, none⟩) n' cap, vR, a3, a4, a5, a6, a7] 118 (0, 0)) → Kd D [118, 169] w w6 →
      InsPost D n' s (lcells (T.take s ++ T.drop en) Vs') v (.int .i64 (l + 1)) (w6.alloc (.cells #[v, .int .i64 (l + 1)] 169)) (.returned v') w8 →
      w8.heap[sb]? = some (.cells #[vE, .slice (some ⟨g, 0, none⟩) n' cap, vR, a3, a4, a5, a6, a7] 118 (0, 0)) ∧ MgPost D F sb vE vR a3 a4 a5 a6 a7 (T.take s ++ oneT (l + 1) R ++ T.drop en) w (.returned (.tuple #[])) (w8.setCell ⟨sb, 1, none⟩ v')) := fun w6 w8 v v' Vs' hR1 hl' hr' ho hs6 hk6 hins => by
    obtain ⟨v2, hv2, ho8, hk8⟩ := hins
    simp only [Ending.returned.injEq] at hv2
    subst hv2
    have hkA : Kd D [169] w6 w8 := ((Kd.refl D _ w6).alloc _).trans hk8
    have hs8 := hkA.keep hs6 (by simp)
    refine ⟨hs8, rfl, ?_⟩
    have k9 := Kd.field hB hs8 1 v'
    have s9 := set_field hs8 1 v'
    simp only [List.setIfInBounds_toArray, List.set_cons_succ, List.set_cons_zero] at s9
    have hRl : 0 < R.length := List.length_pos_iff.2 hR1
    rcases ho.2 with ⟨_, hz⟩ | ⟨gR, cp, curR, rfl, hbR, hgR, _⟩
    · omega
    have hg8 : w8.heap[gR]? = some (.cells curR 58 (0, 0)) := hkA.keep hgR (by simp)
    have hone : oneT (l + 1) R = [(l + 1, R)] := by
      cases R with
      | nil => exact absurd rfl hR1
      | cons y ys => rfl
    have h7 := k9.ownsIn ho8 (by simp)
    have h8 := h7.less (h7.other (k9.keep hg8 (by simp)) (by decide))
    have e1 := lcells_take (T := T.take s ++ T.drop en) (Vs := Vs') s
    have e2 := lcells_drop (T := T.take s ++ T.drop en) (Vs := Vs') s
    have hts : (T.take s).length = s := by rw [List.length_take]; omega
    rw [List.take_left' hts] at e1
    rw [List.drop_left' hts] at e2
    rw [e1, e2] at h8
    have hvs : (Vs'.take s).length = s := by rw [List.length_take]; omega
    refine ⟨Less D gR, More F gR, v', fun k h => h.1, fun k h hk => ⟨h, by omega⟩, fun k h => ?_, fun k h hd hd' => ?_, fun k hk => ⟨hD k (by have := hk6.size; have := hkA.size; have := k9.size; omega), by have := lt_of_block hg8; have := k9.size; omega⟩, s9, ⟨Vs'.take s ++ .slice (some ⟨gR, 0, none⟩) R.length cp :: Vs'.drop s, ?_, ?_, ?_⟩, (hk6.trans (hkA.mono (by simp))).trans (k9.mono (by simp))⟩
    · rcases h with h | rfl
      · exact .inl h
      · exact .inr ⟨hD k hbR, hbR⟩
    · rcases h with h | rfl
      · exact hd h hd'.1
      · exact hd'.2 rfl
    · rw [hone]; simp only [List.length_append, List.length_cons, List.length_nil, List.length_take, List.length_drop, hl']; omega
    · rw [hone]
      have e3 : lcells (T.take s ++ [(l + 1, R)] ++ T.drop en) (Vs'.take s ++ .slice (some ⟨gR, 0, none⟩) R.length cp :: Vs'.drop s) = lcells (T.take s) (Vs'.take s) ++ [.slice (some ⟨gR, 0, none⟩) R.length cp, .int .i64 (l + 1)] ++ lcells (T.drop en) (Vs'.drop s) := by
        rw [List.append_assoc, lcells_append _ _ _ _ (by omega), List.append_assoc]
        congr 1
      have e4 : (T.take s ++ [(l + 1, R)] ++ T.drop en).length = n' + 1 := by simp only [List.length_append, List.length_cons, List.length_nil, List.length_take, List.length_drop]; omega
      rw [e3, e4]
      exact h8
    · intro k t u ht hu
      rw [hone, List.append_assoc] at ht
      have old : ∀ j : Nat, (T.take s ++ T.drop en)[j]? = some t → Vs'[j]? = some u → OwnsIn (w8.setCell ⟨sb, 1, none⟩ v') (More F gR) 58 4 u t.2.length (ecells t.2) := fun j h1 h2 => by
        have := hr' j t u h1 h2
        exact ⟨k9.owns (hkA.owns this.own (by simp)) (by simp), fun g' e => .inl (this.dom g' e)⟩
      rcases Nat.lt_trichotomy k s with hks | hks | hks
      · rw [List.getElem?_append_left (by omega)] at ht hu
        refine old k (by rw [List.getElem?_append_left (by omega)]; exact ht) ?_
        rw [List.getElem?_take_of_lt hks] at hu
        exact hu
      · subst hks
        rw [List.getElem?_append_right (by omega), hts] at ht
        rw [List.getElem?_append_right (by omega), hvs] at hu
        simp only [Nat.sub_self, List.cons_append, List.getElem?_cons_zero, Option.some.injEq] at ht hu
        subst ht hu
        exact ⟨owns_base (k9.owns (hkA.owns ho (by simp)) (by simp)) (Nat.zero_le _), fun g' e => .inr (by simp only [Value.ownBlock, Option.some.injEq] at e; exact e.symm)⟩
      · obtain ⟨j, rfl⟩ : ∃ j, k = s + j + 1 := ⟨k - s - 1, by omega⟩
        rw [List.getElem?_append_right (by omega), hts, show s + j + 1 - s = j + 1 by omega] at ht
        rw [List.getElem?_append_right (by omega), hvs, show s + j + 1 - s = j + 1 by omega] at hu
        simp only [List.cons_append, List.nil_append, List.getElem?_cons_succ] at ht hu
        refine old (s + j) ?_ ?_
        · rw [List.getElem?_append_right (by omega), hts, show s + j - s = j by omega]; exact ht
        · rw [List.getElem?_drop] at hu; exact hu
  obtain ⟨aoQ, capQ, rfl, _⟩ := hQ
  have hl1 : IntKind.i64.wrap (l + 1) = l + 1 := by rw [IntKind.wrap_i64]; omega
  have hl2 : IntKind.i64.wrap (l + 2) = l + 2 := by rw [IntKind.wrap_i64]; omega
  have hse2 : (s : Int) ≤ (en : Int) := by omega
  have hse3 : s ≤ en := by omega
  have hcs1 : ¬ (cap = s) := by omega
  have hsc : s ≤ cap := by omega
  have hec : en ≤ cap := by omega
  have hei : (en : Int) ≤ (cap : Int) := by omega
  have HG : Hid (w.heap[g]? = some (.cells cur 169 (0, 0)) ∧ g < w.heap.size) := ⟨hg, hgl⟩
  have HN' : Hid (s + (T.length - en) = n') := hn'
  have hn9 : n' < 1000000000 := by omega
  have hRf : R.length < 1000000000 := by
    have h1 : R.length ≤ (X.flatMap (·.2)).length := by
      rw [← hRe]
      have := (ndAll_sub Q (l + 1 == 2) (srt (X.flatMap (·.2)))).length_le
      rwa [srt_len] at this
    omega
  have HSB : Hid (sb < w.heap.size) := hsb
  clear hs hB hD hTo hTr hVl hne hso hlay hXe hRe hXs hMid hg hcs hcx h1c hn' hDg
  go_enter Tryz.func60, Tryz.ntmps60
  go_wp2_with fail
  refine Calls.mono (HS.out _ _ (Below.refl _ _)) ?_
  rw [HI.out.1]
  rintro e w1 ⟨rfl, hb1⟩
  have B1 : Hid (Below w.heap.size w w1) := hb1
  clear hb1
  go_wp2_with fail
  refine Calls.mono (HS.out _ _ B1.out) ?_
  rw [HI.out.2]
  rintro e w2 ⟨rfl, hb2⟩
  have B2 : Hid (Below w.heap.size w w2) := below_trans' B1.out hb2
  have c1 := cell_later B2.out c1
  have hsb2 : sb < w2.heap.size := block_lt_of_cell c1
  clear hb2 B1 HS
  go_wp2_with fail
  refine Calls.mono (HMG.out _ B2.out) ?_
  rintro e w3 ⟨v, rfl, ho3, hb3⟩
  have B3 : Hid (Below w.heap.size w w3) := below_trans' B2.out hb3
  have O3 : Hid (w3.ownsRow w.heap.size 58 4 v R.length (ecells R)) := owns_base ho3 B2.out.size
  have c1 := cell_later hb3 c1
  have hsb3 : sb < w3.heap.size := block_lt_of_cell c1
  have hg3 : Hid ((w3.alloc (.cells #[v, .int .i64 (l + 1)] 169)).heap[g]? = some (.cells cur 169 (0, 0))) := by
    show _ = _
    rw [Below.heap_alloc _ _ _ (Nat.lt_of_lt_of_le HG.out.2 B3.out.size)]; exact (B3.out.block g HG.out.2).trans HG.out.1
  obtain ⟨aov, capv, rfl⟩ := slice_form ho3
  clear hb3 ho3 HMG B2 hsb2
  go_wp2_with fail
  refine Calls.mono (HDEL.out _ hg3.out) ?_
  rintro e w5 hdp
  obtain ⟨rfl, _⟩ := id hdp
  rw [HN'.out] at hdp
  have h5 := HB5.out w3 w5 _ B3.out O3.out hdp
  have H5 : Hid _ := h5
  have m1 : w5.cell? ⟨sb, 1, none⟩ = some (.slice (some ⟨g, 0, none⟩) T.length cap) := by simp [World.cell?, h5.1]
  have f1 : w5.frozen? ⟨sb, 1, none⟩ = false := by simp [World.frozen?, h5.1]
  have hsb5 : sb < w5.heap.size := lt_of_block h5.1
  have t0 : w5.cell? ⟨w3.heap.size, 0, none⟩ = some (.slice aov R.length capv) := by simp [World.cell?, h5.2.1]
  have t1 : w5.cell? ⟨w3.heap.size, 1, none⟩ = some (.int .i64 (l + 1)) := by simp [World.cell?, h5.2.1]
  have hts : w3.heap.size ≠ sb := by omega
  clear hdp h5 c1 HDEL hg3 HB5
  rw [HN'.out]
  obtain ⟨w6, hw6⟩ : ∃ w6, w5.setCell ⟨sb, 1, none⟩ (.slice (some ⟨g, 0, none⟩) n' cap) = w6 := ⟨_, rfl⟩
  have HW6 : Hid (w5.setCell ⟨sb, 1, none⟩ (.slice (some ⟨g, 0, none⟩) n' cap) = w6) := hw6
  have t06 : w6.cell? ⟨w3.heap.size, 0, none⟩ = some (.slice aov R.length capv) := by rw [← hw6, World.cell?_setCell_far _ _ _ _ (by simp; omega)]; exact t0
  have t16 : w6.cell? ⟨w3.heap.size, 1, none⟩ = some (.int .i64 (l + 1)) := by rw [← hw6, World.cell?_setCell_far _ _ _ _ (by simp; omega)]; exact t1
  clear hw6 t0 t1
  have HEM : Hid _ := isEmpty_any w3.heap.size R.length capv aov w6 t06 hRf
  by_cases hR0 : R = []
  · have hd : decide (R.length = 0) = true := by simp [hR0]
    rw [hd] at HEM
    have FIN : Hid (MgPost D F sb vE vR a3 a4 a5 a6 a7 (T.take s ++ oneT (l + 1) R ++ T.drop en) w (.returned (.tuple #[])) w6) := by
      rw [← HW6.out]
      exact HE1.out w5 hR0 H5.out.1 H5.out.2.2.1 H5.out.2.2.2.2
    clear HE1 HINS HE2
    go_wp2_with fail
    rw [HW6.out]
    refine Calls.mono HEM.out ?_
    rintro e w7 ⟨rfl, rfl⟩
    go_wp2
    go_end0
    exact FIN.out
  · have hd : decide (R.length = 0) = false := by simp [hR0]
    rw [hd] at HEM
    have H6 : Hid (w6.heap[sb]? = some (.cells #[vE, .slice (some ⟨g, 0, none⟩) n' cap, vR, a3, a4, a5, a6, a7] 118 (0, 0)) ∧ TabsIn w6 D F (.slice (some ⟨g, 0, none⟩) n' cap) (T.take s ++ T.drop en) ∧ w6.ownsRow w.heap.size 58 4 (.slice aov R.length capv) R.length (ecells R) ∧ Kd D [118, 169] w w6) := by
      have hBs := HBS.out
      have k6 := Kd.field hBs H5.out.1 1 (.slice (some ⟨g, 0, none⟩) n' cap)
      have s6 := set_field H5.out.1 1 (.slice (some ⟨g, 0, none⟩) n' cap)
      simp only [List.setIfInBounds_toArray, List.set_cons_succ, List.set_cons_zero] at s6
      rw [HW6.out] at k6 s6
      exact ⟨s6, H5.out.2.2.1.kd k6 (by simp) (by simp), k6.owns H5.out.2.2.2.1 (by simp), (H5.out.2.2.2.2.mono (by simp)).trans (k6.mono (by simp))⟩
    have H6d : Hid (w6.drew.heap[sb]? = some (.cells #[vE, .slice (some ⟨g, 0, none⟩) n' cap, vR, a3, a4, a5, a6, a7] 118 (0, 0)) ∧ TabsIn w6.drew D F (.slice (some ⟨g, 0, none⟩) n' cap) (T.take s ++ T.drop en) ∧ w6.drew.ownsRow w.heap.size 58 4 (.slice aov R.length capv) R.length (ecells R) ∧ Kd D [118, 169] w w6.drew) := ⟨H6.out.1, H6.out.2.1, H6.out.2.2.1, H6.out.2.2.2.drew⟩
    obtain ⟨Vs', hv1, hv2, hic⟩ := HINS.out w6.drew _ hR0 H6d.out.2.1 H6d.out.2.2.1 H6d.out.2.2.2.size
    have HVS : Hid (Vs'.length = n' ∧ ∀ (k : Nat) t v, (T.take s ++ T.drop en)[k]? = some t → Vs'[k]? = some v → OwnsIn w6.drew F 58 4 v t.2.length (ecells t.2)) := ⟨hv1, hv2⟩
    have HIC : Hid (Calls Tryz.prog 93 #[.slice (some ⟨g, 0, none⟩) n' cap, .int .i64 s, .slice (some ⟨w6.heap.size, 0, none⟩) 1 1] (w6.drew.alloc (.cells #[.slice aov R.length capv, .int .i64 (l + 1)] 169)) fun e w' => InsPost D n' s (lcells (T.take s ++ T.drop en) Vs') (.slice aov R.length capv) (.int .i64 (l + 1)) (w6.drew.alloc (.cells #[.slice aov R.length capv, .int .i64 (l + 1)] 169)) e w') := hic
    have c61 : w6.cell? ⟨sb, 1, none⟩ = some (.slice (some ⟨g, 0, none⟩) n' cap) := by simp [World.cell?, H6.out.1]
    have hsb6 : sb < w6.heap.size := lt_of_block H6.out.1
    have htb6 : w3.heap.size < w6.heap.size := block_lt_of_cell t06
    clear hv1 hv2 hic HE1 H5
    go_wp2_with fail
    rw [HW6.out]
    refine Calls.mono HEM.out ?_
    rintro e w7 ⟨rfl, hw7⟩
    rw [hw7]
    clear hw7 w7
    go_wp2
    refine wp_region_held_drew (S := fun _ => True) (by kernel_rfl) trivial ?_
    intro _
    refine wpAnyH_take (i := 0) (v := .pointer (some ⟨sb, 0, none⟩)) rfl (by kernel_rfl) (by kernel_rfl) (by kernel_rfl) (fun _ _ _ h => h) (Or.inl ⟨by rfl, ?_⟩) trivial ?_
    · intro w0 _
      go_simp
    simp only [Act.put]
    refine wpAnyH_take (i := 1) (v := .pointer (some ⟨sb, 0, none⟩)) rfl (by kernel_rfl) (by kernel_rfl) (by kernel_rfl) (fun _ _ _ h => h) (Or.inl ⟨by rfl, ?_⟩) trivial ?_
    · intro w0 _
      go_simp
    simp only [Act.put]
    refine wpAnyH_take (i := 2) (v := .pointer (some ⟨sb, 0, none⟩)) rfl (by kernel_rfl) (by kernel_rfl) (by kernel_rfl) (fun _ _ _ h => h) (Or.inl ⟨by rfl, ?_⟩) trivial ?_
    · intro w0 _
      go_simp
    simp only [Act.put]
    refine wpAnyH_take (i := 3) (v := .pointer (some ⟨sb, 1, none⟩)) rfl (by kernel_rfl) (by kernel_rfl) (by kernel_rfl) (fun _ _ _ h => h) (Or.inl ⟨by rfl, ?_⟩) trivial ?_
    · intro w0 _
      go_simp
    simp only [Act.put]
    refine wpAnyH_take (i := 5) (v := .int .i64 s) rfl (by kernel_rfl) (by kernel_rfl) (by kernel_rfl) (fun _ _ _ h => h) (Or.inl ⟨by rfl, ?_⟩) trivial ?_
    · intro w0 _
      go_simp
    simp only [Act.put]
    refine wpAnyH_ready (rs := [4, 6]) (by kernel_rfl) (by simp) ?_
    refine AllReadyH.cons rfl (fun K' hK => ?_) (AllReadyH.cons rfl (fun K' hK => ?_) AllReadyH.nil)
    · rw [if_pos (by rfl)]
      go_wp2_with fail
      refine hK.out _ _ trivial (fun _ => ?_)
      clear hK K'
      refine wpAnyH_ready (rs := [6]) (by kernel_rfl) (by simp) ?_
      refine AllReadyH.cons rfl (fun K' hK => ?_) AllReadyH.nil
      rw [if_pos (by rfl)]
      go_wp2_with fail
      refine hK.out _ _ trivial (fun _ => ?_)
      clear hK K'
      refine wpAnyH_ready (rs := [7]) (by kernel_rfl) (by simp) ?_
      refine AllReadyH.cons rfl (fun K' hK => ?_) AllReadyH.nil
      rw [if_pos (by rfl)]
      go_wp2_with fail
      refine hK.out _ _ trivial (fun _ => ?_)
      clear hK K'
      refine wpAnyH_ready (rs := [8]) (by kernel_rfl) (by simp) ?_
      refine AllReadyH.cons rfl (fun K' hK => ?_) AllReadyH.nil
      rw [if_pos (by rfl)]
      go_wp2_with fail
      refine Calls.mono HIC.out ?_
      rintro e w8 hip
      obtain ⟨v', rfl, _⟩ := id hip
      have hf := HE2.out _ w8 _ v' Vs' hR0 HVS.out.1 HVS.out.2 H6d.out.2.2.1 H6d.out.1 H6d.out.2.2.2 hip
      have m1 : w8.cell? ⟨sb, 1, none⟩ = some (.slice (some ⟨g, 0, none⟩) n' cap) := by simp [World.cell?, hf.1]
      have f1 : w8.frozen? ⟨sb, 1, none⟩ = false := by simp [World.frozen?, hf.1]
      have FIN : Hid (MgPost D F sb vE vR a3 a4 a5 a6 a7 (T.take s ++ oneT (l + 1) R ++ T.drop en) w (.returned (.tuple #[])) (w8.setCell ⟨sb, 1, none⟩ v')) := hf.2
      have hsb8 : sb < w8.heap.size := lt_of_block hf.1
      obtain ⟨v2, hv2, ho8, _⟩ := hip
      simp only [Ending.returned.injEq] at hv2
      subst hv2
      obtain ⟨ao', cap', rfl⟩ := slice_form ho8.own
      clear ho8 hf HE2 HINS HIC
      go_wp2_with fail
      refine hK.out _ _ trivial (fun _ => ?_)
      clear hK K'
      refine wpAnyH_take (i := 9) (v := .pointer (some ⟨sb, 0, none⟩)) rfl (by kernel_rfl) (by kernel_rfl) (by kernel_rfl) (fun _ _ _ h => h) (Or.inl ⟨by rfl, ?_⟩) trivial ?_
      · intro w0 _
        go_simp
      simp only [Act.put]
      refine wpAnyH_take (i := 10) (v := .pointer (some ⟨sb, 1, none⟩)) rfl (by kernel_rfl) (by kernel_rfl) (by kernel_rfl) (fun _ _ _ h => h) (Or.inl ⟨by rfl, ?_⟩) trivial ?_
      · intro w0 _
        go_simp
      simp only [Act.put]
      refine wpAnyH_ready (rs := [11]) (by kernel_rfl) (by simp) ?_
      refine AllReadyH.cons rfl (fun K' hK => ?_) AllReadyH.nil
      rw [if_pos (by rfl)]
      go_wp2_with fail
      refine hK.out _ _ trivial (fun _ => ?_)
      clear hK K'
      refine wpAnyH_done (by kernel_rfl) ?_ _
      go_wp2
      go_end0
      exact FIN.out
    · rw [if_pos (by rfl)]
      go_wp2_with fail
      refine hK.out _ _ trivial (fun _ => ?_)
      clear hK K'
      refine wpAnyH_ready (rs := [4, 7]) (by kernel_rfl) (by simp) ?_
      refine AllReadyH.cons rfl (fun K' hK => ?_) (AllReadyH.cons rfl (fun K' hK => ?_) AllReadyH.nil)
      · rw [if_pos (by rfl)]
        go_wp2_with fail
        refine hK.out _ _ trivial (fun _ => ?_)
        clear hK K'
        refine wpAnyH_ready (rs := [7]) (by kernel_rfl) (by simp) ?_
        refine AllReadyH.cons rfl (fun K' hK => ?_) AllReadyH.nil
        rw [if_pos (by rfl)]
        go_wp2_with fail
        refine hK.out _ _ trivial (fun _ => ?_)
        clear hK K'
        refine wpAnyH_ready (rs := [8]) (by kernel_rfl) (by simp) ?_
        refine AllReadyH.cons rfl (fun K' hK => ?_) AllReadyH.nil
        rw [if_pos (by rfl)]
        go_wp2_with fail
        refine Calls.mono HIC.out ?_
        rintro e w8 hip
        obtain ⟨v', rfl, _⟩ := id hip
        have hf := HE2.out _ w8 _ v' Vs' hR0 HVS.out.1 HVS.out.2 H6d.out.2.2.1 H6d.out.1 H6d.out.2.2.2 hip
        have m1 : w8.cell? ⟨sb, 1, none⟩ = some (.slice (some ⟨g, 0, none⟩) n' cap) := by simp [World.cell?, hf.1]
        have f1 : w8.frozen? ⟨sb, 1, none⟩ = false := by simp [World.frozen?, hf.1]
        have FIN : Hid (MgPost D F sb vE vR a3 a4 a5 a6 a7 (T.take s ++ oneT (l + 1) R ++ T.drop en) w (.returned (.tuple #[])) (w8.setCell ⟨sb, 1, none⟩ v')) := hf.2
        have hsb8 : sb < w8.heap.size := lt_of_block hf.1
        obtain ⟨v2, hv2, ho8, _⟩ := hip
        simp only [Ending.returned.injEq] at hv2
        subst hv2
        obtain ⟨ao', cap', rfl⟩ := slice_form ho8.own
        clear ho8 hf HE2 HINS HIC
        go_wp2_with fail
        refine hK.out _ _ trivial (fun _ => ?_)
        clear hK K'
        refine wpAnyH_take (i := 9) (v := .pointer (some ⟨sb, 0, none⟩)) rfl (by kernel_rfl) (by kernel_rfl) (by kernel_rfl) (fun _ _ _ h => h) (Or.inl ⟨by rfl, ?_⟩) trivial ?_
        · intro w0 _
          go_simp
        simp only [Act.put]
        refine wpAnyH_take (i := 10) (v := .pointer (some ⟨sb, 1, none⟩)) rfl (by kernel_rfl) (by kernel_rfl) (by kernel_rfl) (fun _ _ _ h => h) (Or.inl ⟨by rfl, ?_⟩) trivial ?_
        · intro w0 _
          go_simp
        simp only [Act.put]
        refine wpAnyH_ready (rs := [11]) (by kernel_rfl) (by simp) ?_
        refine AllReadyH.cons rfl (fun K' hK => ?_) AllReadyH.nil
        rw [if_pos (by rfl)]
        go_wp2_with fail
        refine hK.out _ _ trivial (fun _ => ?_)
        clear hK K'
        refine wpAnyH_done (by kernel_rfl) ?_ _
        go_wp2
        go_end0
        exact FIN.out
      · rw [if_pos (by rfl)]
        go_wp2_with fail
        refine hK.out _ _ trivial (fun _ => ?_)
        clear hK K'
        refine wpAnyH_ready (rs := [4]) (by kernel_rfl) (by simp) ?_
        refine AllReadyH.cons rfl (fun K' hK => ?_) AllReadyH.nil
        rw [if_pos (by rfl)]
        go_wp2_with fail
        refine hK.out _ _ trivial (fun _ => ?_)
        clear hK K'
        refine wpAnyH_ready (rs := [8]) (by kernel_rfl) (by simp) ?_
        refine AllReadyH.cons rfl (fun K' hK => ?_) AllReadyH.nil
        rw [if_pos (by rfl)]
        go_wp2_with fail
        refine Calls.mono HIC.out ?_
        rintro e w8 hip
        obtain ⟨v', rfl, _⟩ := id hip
        have hf := HE2.out _ w8 _ v' Vs' hR0 HVS.out.1 HVS.out.2 H6d.out.2.2.1 H6d.out.1 H6d.out.2.2.2 hip
        have m1 : w8.cell? ⟨sb, 1, none⟩ = some (.slice (some ⟨g, 0, none⟩) n' cap) := by simp [World.cell?, hf.1]
        have f1 : w8.frozen? ⟨sb, 1, none⟩ = false := by simp [World.frozen?, hf.1]
        have FIN : Hid (MgPost D F sb vE vR a3 a4 a5 a6 a7 (T.take s ++ oneT (l + 1) R ++ T.drop en) w (.returned (.tuple #[])) (w8.setCell ⟨sb, 1, none⟩ v')) := hf.2
        have hsb8 : sb < w8.heap.size := lt_of_block hf.1
        obtain ⟨v2, hv2, ho8, _⟩ := hip
        simp only [Ending.returned.injEq] at hv2
        subst hv2
        obtain ⟨ao', cap', rfl⟩ := slice_form ho8.own
        clear ho8 hf HE2 HINS HIC
        go_wp2_with fail
        refine hK.out _ _ trivial (fun _ => ?_)
        clear hK K'
        refine wpAnyH_take (i := 9) (v := .pointer (some ⟨sb, 0, none⟩)) rfl (by kernel_rfl) (by kernel_rfl) (by kernel_rfl) (fun _ _ _ h => h) (Or.inl ⟨by rfl, ?_⟩) trivial ?_
        · intro w0 _
          go_simp
        simp only [Act.put]
        refine wpAnyH_take (i := 10) (v := .pointer (some ⟨sb, 1, none⟩)) rfl (by kernel_rfl) (by kernel_rfl) (by kernel_rfl) (fun _ _ _ h => h) (Or.inl ⟨by rfl, ?_⟩) trivial ?_
        · intro w0 _
          go_simp
        simp only [Act.put]
        refine wpAnyH_ready (rs := [11]) (by kernel_rfl) (by simp) ?_
        refine AllReadyH.cons rfl (fun K' hK => ?_) AllReadyH.nil
        rw [if_pos (by rfl)]
        go_wp2_with fail
        refine hK.out _ _ trivial (fun _ => ?_)
        clear hK K'
        refine wpAnyH_done (by kernel_rfl) ?_ _
        go_wp2
        go_end0
        exact FIN.out
end Go.Proofs.YtakipjofboipmaaGreat

/- The walks of this proof: Merge, the call. -/
namespace Go.Proofs.YtakipjofboipmaaGreat
open Go.RowKit Go.Sort

theorem OwnsIn.into {w : World} {D D' : Nat → Prop} {e : TypeId} {size : Nat} {v : Value} {n : Nat} {xs : List Value} (h : OwnsIn w D e size v n xs) (hd : ∀ k, D k → (∃ N, v.ownBlock = some N ∧ N = k) → D' k) : OwnsIn w D' e size v n xs :=
  ⟨h.own, fun g hg => hd g (h.dom g hg) ⟨g, hg, rfl⟩⟩

/-- Is there a table on the level? -/
abbrev hasT (T : List Lb) (l : Int) : Prop := stIdx T l < stIdx T (l + 1)

/-- What Merge comes to. -/
def MergeCallPost (D F : Nat → Prop) (sb : Nat) (x : St) (l : Int) (w : World) (e : Ending) (w' : World) : Prop :=
  (¬ (0 ≤ l ∧ l < 2) ∧ e = .returned (.int .i64 4) ∧ w' = w) ∨
  ((0 ≤ l ∧ l < 2) ∧ ¬ hasT x.T l ∧ e = .returned (.int .i64 8) ∧ Below w.heap.size w w') ∨
  ((0 ≤ l ∧ l < 2) ∧ hasT x.T l ∧ e = .returned (.int .i64 0) ∧ StPost D F sb (x.mg l) [118, 169] w w')

theorem flat_mid_len {x : St} (ok : StOk x) (l : Int) : ((x.mid l).flatMap (·.2)).length ≤ x.E.length := by
  rw [← srt_len]
  exact sub_len (mixed_sorted ok l) ok.sorted fun e he => by
    obtain ⟨t, ht, he'⟩ := mixed_mem.1 he
    exact (ok.lv.tsub t (mid_mem ht) e he').1

set_option maxHeartbeats 2000000 in
set_option maxRecDepth 100000 in
theorem mergeCall_any (D F : Nat → Prop) (sb : Nat) (x : St) (l : Int) (w : World) (hx : StoreAt D F sb x w) (hD : Opn D w) (hF : ∀ b, F b → ¬ D b) (ok : StOk x) (hfew : x.E.length < 100000000) :
    Calls Tryz.prog 20 #[.pointer (some ⟨sb, 0, none⟩), .int .i64 l] w fun e w' => MergeCallPost D F sb x l w e w' := by
  obtain ⟨vE, vL, vR, vS, hB, hs, hE, hT, hRr, hS⟩ := hx
  have hsb : sb < w.heap.size := lt_of_block hs
  by_cases hr : 0 ≤ l ∧ l < 2
  · obtain ⟨h0, h2⟩ := hr
    have c1 : w.cell? ⟨sb, 1, none⟩ = some vL := by simp [World.cell?, hs]
    have c5 : w.cell? ⟨sb, 5, none⟩ = some vS := by simp [World.cell?, hs]
    have HH : Hid _ := hasTable_any x.T vL sb l w c1 hT.row ok.lv.tfew h0 h2
    have hn0 : decide (l < 0) = false := by simp; omega
    have hn2 : decide ((2 : Int) ≤ l) = false := by simp; omega
    by_cases hht : stIdx x.T l < stIdx x.T (l + 1)
    · have hd : decide (stIdx x.T l < stIdx x.T (l + 1)) = true := decide_eq_true hht
      rw [hd] at HH
      have HQ : Hid (∀ w1, Below w.heap.size w w1 → Calls Tryz.prog 58 #[.pointer (some ⟨sb, 5, none⟩)] w1 fun e w' => ∃ vq, e = .returned vq ∧ IntRow w' vq x.Q ∧ Below w1.heap.size w1 w') := fun w1 hb => snapSeqs_any x.S vS 0 sb w1 ok.snaps (cell_later hb c5) ((Kp.of_below (B := 0) (ts := []) hb).owns hS.own (by simp))
      have hse : stIdx x.T l < stIdx x.T (l + 2) := Nat.lt_of_lt_of_le hht (stIdx_mono (by omega))
      have HM : Hid (∀ w1 vq, Below w.heap.size w w1 → IntRow w1 vq x.Q → Calls Tryz.prog 60 #[.pointer (some ⟨sb, 0, none⟩), .int .i64 l, vq] w1 fun e w' => MgPost D F sb vE vR (.int .i64 (rl (x.B.take x.sy))) (.int .i64 x.la) vS (.int .i64 x.lastSnap) (.int .i64 x.last) (x.mg l).T w1 e w') := fun w1 vq hb1 hq =>
        merge_any D F sb vE vL vR _ _ _ _ _ x.T l x.Q vq w1 ((hb1.block sb hsb).trans hs) hB (hD.later hb1.size) (hT.kd (Kd.of_below (D := D) (ts := []) hb1) (by simp) (by simp)) ok.lv.tfew h0 h2 hse ok.lv.tne ok.lv.tsorted ok.lv.lay (Nat.lt_of_le_of_lt (flat_mid_len ok l) hfew) hq (by show (x.S.map (·.q)).length ≤ 4; rw [List.length_map]; exact ok.snaps)
      have HF : Hid (∀ w1 w2 e, Below w.heap.size w w1 → MgPost D F sb vE vR (.int .i64 (rl (x.B.take x.sy))) (.int .i64 x.la) vS (.int .i64 x.lastSnap) (.int .i64 x.last) (x.mg l).T w1 e w2 → e = .returned (.tuple #[]) ∧ MergeCallPost D F sb x l w (.returned (.int .i64 0)) w2) := fun w1 w2 e hb1 h => by
        obtain ⟨rfl, D', F', vL', hd1, hd2, hf1, hf2, ho, hs2, ht2, hk2⟩ := h
        have kS : Kd D [118, 169] w w2 := (Kd.of_below hb1).trans hk2
        have up : ∀ {e size v n xs}, e ∉ [118, 169] → OwnsIn w D e size v n xs → OwnsIn w2 D' e size v n xs := fun he h => (kS.ownsIn h he).into fun k hk ⟨N, hN, hNk⟩ => hd2 k hk (by have := (h.own.lt N hN).2; have := hb1.size; omega)
        refine ⟨rfl, .inr (.inr ⟨⟨h0, h2⟩, hht, rfl, D', F', hd1, fun k hk => ?_, fun k hk => hf2 k hk (hF k), ho, ⟨vE, vL', vR, vS, hd2 sb hB (Nat.lt_of_lt_of_le hsb hb1.size), hs2, up (by simp) hE, ht2, ⟨(kS.ownsJ hRr (by simp)).1, fun g hg => hd2 g (hRr.2 g hg) (Nat.lt_of_lt_of_le (hRr.1.lt hg) hb1.size)⟩, up (by simp) hS⟩, kS⟩)⟩
        rcases hf1 k hk with h | h
        · exact .inl h
        · exact .inr ⟨h.1, Nat.le_trans hb1.size h.2⟩
      clear hs hE hT hRr hS ok hD hF c1 c5 hfew
      go_enter Tryz.func20, Tryz.ntmps20
      go_wp2_with fail
      refine Calls.mono HH.out ?_
      rintro e w0 ⟨rfl, hb0⟩
      have B0 : Hid (Below w.heap.size w w0) := hb0
      have hsb0 : sb < w0.heap.size := Nat.lt_of_lt_of_le hsb hb0.size
      clear hb0
      go_wp2
      go_region_with (first
        | (go_at_call 58; refine Calls.mono (HQ.out _ (by exact B0.out.drew)) ?_; rintro e w1 ⟨vq, rfl, hq, hb1⟩; have B1 : Hid (Below w.heap.size w w1 ∧ IntRow w1 vq x.Q) := ⟨below_trans' B0.out ⟨hb1.os, hb1.tape, hb1.output, hb1.size, hb1.block⟩, hq⟩; obtain ⟨aoq, capq, rfl, _⟩ := hq; clear hb1)
        | (go_at_call 60; refine Calls.mono (HM.out _ _ B1.out.1 B1.out.2) ?_; rintro e w2 hlp; obtain ⟨rfl, hfin⟩ := HF.out _ _ _ B1.out.1 hlp; have FIN : Hid (MergeCallPost D F sb x l w (.returned (.int .i64 0)) w2) := hfin; clear hfin hlp))
      go_wp2
      go_ret
      exact FIN.out
    · have hd : decide (stIdx x.T l < stIdx x.T (l + 1)) = false := decide_eq_false hht
      rw [hd] at HH
      clear hs hE hT hRr hS ok hD hF c1 c5 hfew
      go_enter Tryz.func20, Tryz.ntmps20
      go_wp2_with fail
      refine Calls.mono HH.out ?_
      rintro e w0 ⟨rfl, hb0⟩
      have B0 : Hid (Below w.heap.size w w0) := hb0
      clear hb0
      go_wp2
      go_ret
      exact .inr (.inl ⟨⟨h0, h2⟩, hht, rfl, B0.out⟩)
  · clear hs hE hT hRr hS ok hD hF hfew
    by_cases hn : l < 0
    · go_enter Tryz.func20, Tryz.ntmps20
      go_wp2
      go_ret
      exact .inl ⟨hr, rfl, rfl⟩
    · have hn2 : (2 : Int) ≤ l := by omega
      go_enter Tryz.func20, Tryz.ntmps20
      go_wp2
      go_ret
      exact .inl ⟨hr, rfl, rfl⟩
end Go.Proofs.YtakipjofboipmaaGreat

/- The calls of a store, by what they do to memory from a block on. -/
namespace Go.Proofs.YtakipjofboipmaaGreat
open Go.RowKit Go.Sort

/-- A store all of whose memory lies from block N on. -/
def SIn (N sb : Nat) (x : St) (w : World) : Prop :=
  ∃ D F : Nat → Prop, (∀ k, D k → N ≤ k) ∧ (∀ k, F k → N ≤ k) ∧ (∀ k, F k → ¬ D k) ∧ Opn D w ∧ StoreAt D F sb x w

theorem Kd.kp {D : Nat → Prop} {ts : List Nat} {N : Nat} {w w' : World} (h : Kd D ts w w') (hD : ∀ k, D k → N ≤ k) : Kp N ts w w' :=
  ⟨h.os, h.tape, h.output, h.size, fun k hk hor => h.block k hk (hor.imp (fun hlt hd => by have := hD k hd; omega) id)⟩

/-- The store's own types. -/
def own5 : List Nat := [118, 5, 58, 169, 174]

theorem SIn.kept {N N' sb : Nat} {x : St} {ts : List Nat} {w w' : World} (h : SIn N sb x w) (k : Kp N' ts w w') (ht : ∀ t ∈ own5, t ∉ ts) : SIn N sb x w' := by
  obtain ⟨D, F, h1, h2, h3, h4, vE, vL, vR, vS, hB, hs, hE, ⟨Vs, hl, ho, hr⟩, hR, hS⟩ := h
  have t1 := ht 118 (by simp [own5]); have t2 := ht 5 (by simp [own5]); have t3 := ht 58 (by simp [own5]); have t4 := ht 169 (by simp [own5]); have t5 := ht 174 (by simp [own5])
  have f : ∀ {D0 : Nat → Prop} {e size v n xs}, e ∉ ts → OwnsIn w D0 e size v n xs → OwnsIn w' D0 e size v n xs := fun he ho => ⟨k.owns ho.own he, ho.dom⟩
  exact ⟨D, F, h1, h2, h3, h4.later k.size, vE, vL, vR, vS, hB, k.keep hs t1, f t3 hE, ⟨Vs, hl, f t4 ho, fun i t v a b => f t3 (hr i t v a b)⟩, ⟨hR.1.kept k t2, hR.2⟩, f t5 hS⟩

theorem SIn.below {N sb : Nat} {x : St} {w w' : World} (h : SIn N sb x w) (hb : Below w.heap.size w w') : SIn N sb x w' := h.kept (Kp.of_below (B := 0) (ts := []) hb) (by simp)

theorem SIn.lt {N sb : Nat} {x : St} {w : World} (h : SIn N sb x w) : sb < w.heap.size ∧ N ≤ sb := by
  obtain ⟨D, F, h1, _, _, _, vE, vL, vR, vS, hB, hs, _⟩ := h
  exact ⟨lt_of_block hs, h1 sb hB⟩

/-- A new store in memory of its own. -/
theorem SIn.mono {N N' sb : Nat} {x : St} {w : World} (h : SIn N sb x w) (hN : N' ≤ N) : SIn N' sb x w := by
  obtain ⟨D, F, h1, h2, r⟩ := h
  exact ⟨D, F, fun k hk => Nat.le_trans hN (h1 k hk), fun k hk => Nat.le_trans hN (h2 k hk), r⟩

theorem get_sin (x : St) (N sb : Nat) (k : ByteArray) (n : Int) (w : World) (hx : SIn N sb x w) (ok : StOk x) (hk : k.size ≤ maxLen) :
    Calls Tryz.prog 27 #[.pointer (some ⟨sb, 0, none⟩), .string k, .int .i64 n] w fun e w' => e = .returned (getVal x k n) ∧ Below w.heap.size w w' := by
  obtain ⟨D, F, h1, h2, h3, h4, hst⟩ := hx
  exact get_any x D F sb k n w hst ok hk

theorem scan_sin (x : St) (N sb : Nat) (f : ByteArray) (most n : Int) (w : World) (hx : SIn N sb x w) (ok : StOk x) :
    Calls Tryz.prog 46 #[.pointer (some ⟨sb, 0, none⟩), .string f, .int .i64 most, .int .i64 n] w fun e w' => ScanAns x f most n w e w' := by
  obtain ⟨D, F, h1, h2, h3, h4, hst⟩ := hx
  exact scan_any x D F sb f most n w hst ok

theorem snap_sin (x : St) (N sb : Nat) (w : World) (hx : SIn N sb x w) (ok : StOk x) (h0 : 0 ≤ x.lastSnap) (h1 : x.lastSnap < 1000000000) :
    Calls Tryz.prog 68 #[.pointer (some ⟨sb, 0, none⟩)] w fun e w' =>
      (x.S.length = 4 ∧ e = .returned (.tuple #[.int .i64 0, .int .i64 7]) ∧ w' = w) ∨
      (x.S.length < 4 ∧ e = .returned (.tuple #[.int .i64 (x.lastSnap + 1), .int .i64 0]) ∧ SIn N sb { x with S := x.S ++ [⟨x.lastSnap + 1, x.last⟩], lastSnap := x.lastSnap + 1 } w' ∧ Kp N [118, 174] w w') := by
  obtain ⟨D, F, g1, g2, g3, g4, hst⟩ := hx
  refine (snap_any x D F sb w hst ok g4 h0 h1).mono ?_
  rintro e w' (h | ⟨a, b, c, d⟩)
  · exact .inl h
  · exact .inr ⟨a, b, ⟨D, F, g1, g2, g3, g4.later d.size, c⟩, d.kp g1⟩

theorem drop_sin (x : St) (N sb : Nat) (n : Int) (w : World) (hx : SIn N sb x w) (ok : StOk x) :
    Calls Tryz.prog 17 #[.pointer (some ⟨sb, 0, none⟩), .int .i64 n] w fun e w' =>
      (sidx x.S n = none ∧ e = .returned (.int .i64 5) ∧ Below w.heap.size w w') ∨
      (∃ i, sidx x.S n = some i ∧ e = .returned (.int .i64 0) ∧ SIn N sb { x with S := x.S.eraseIdx i } w' ∧ Kp N [118, 174] w w') := by
  obtain ⟨D, F, g1, g2, g3, g4, hst⟩ := hx
  refine (drop_any x D F sb n w hst ok).mono ?_
  rintro e w' (h | ⟨i, a, b, c, d⟩)
  · exact .inl h
  · exact .inr ⟨i, a, b, ⟨D, F, g1, g2, g3, g4.later d.size, c⟩, d.kp g1⟩

/-- What Write comes to. -/
def WrPost (N sb : Nat) (x : St) (Lp : List Pr) (sync : Bool) (w : World) (e : Ending) (w' : World) : Prop :=
  e = .returned (.tuple #[.int .i64 (x.last + 1), .int .i64 0]) ∧ ∃ M : List Pr, Settles Lp M ∧ SIn N sb (x.wrs M sync) w' ∧ StOk (x.wrs M sync) ∧ Kp N [118, 5, 58] w w'

theorem write_sin (N sb : Nat) (x : St) (Lp : List Pr) (v : Value) (base : Nat) (sync : Bool) (w : World) (hx : SIn N sb x w) (ok : StOk x) (hL : w.ownsRow base 48 3 v Lp.length (pcells Lp)) (h1 : 1 ≤ Lp.length) (h4 : Lp.length ≤ 4) (okL : ∀ p ∈ Lp, PrOk p)
    (hl1 : x.last < 1000000000) (hfew : x.E.length + 4 < 1000000000) :
    Calls Tryz.prog 18 #[.pointer (some ⟨sb, 0, none⟩), v, .bool sync] w fun e w' => WrPost N sb x Lp sync w e w' := by
  obtain ⟨D, F, g1, g2, g3, g4, hst⟩ := hx
  refine (writeCall_any D F sb x Lp v base sync w hst g4 g3 ok hL h1 h4 okL hl1 hfew).mono ?_
  rintro e w' ⟨rfl, M, hse, hst', hk⟩
  exact ⟨rfl, M, hse, ⟨D, F, g1, g2, g3, g4.later hk.size, hst'⟩, ok.wrs (hse.bt h1 h4 okL) hl1 hfew sync, hk.kp g1⟩

/-- What Flush comes to. -/
def FlPost (N sb : Nat) (x : St) (w : World) (e : Ending) (w' : World) : Prop :=
  (x.B = [] ∧ e = .returned (.int .i64 8) ∧ w' = w) ∨
  (x.B ≠ [] ∧ e = .returned (.int .i64 0) ∧ SIn N sb x.fl w' ∧ StOk x.fl ∧ Kp N [118, 169] w w')

theorem flush_sin (N sb : Nat) (x : St) (w : World) (hx : SIn N sb x w) (ok : StOk x) (hfew : x.E.length < 100000000) (hTf : x.T.length + 1 < 1000000000) :
    Calls Tryz.prog 19 #[.pointer (some ⟨sb, 0, none⟩)] w fun e w' => FlPost N sb x w e w' := by
  obtain ⟨D, F, g1, g2, g3, g4, hst⟩ := hx
  refine (flush_any D F sb x w hst g4 ok hfew hTf).mono ?_
  rintro e w' (h | ⟨hb, rfl, g, hg1, hg2, hst', hk⟩)
  · exact .inl h
  · refine .inr ⟨hb, rfl, ⟨Less D g, More F g, fun k hk => g1 k hk.1, fun k hk => ?_, fun k hk hd => ?_, fun k hk' => ⟨g4 k (by have := hk.size; omega), by omega⟩, hst'⟩, ok.fl hb hTf, hk.kp g1⟩
    · rcases hk with h | rfl
      · exact g2 k h
      · exact g1 k (g4 k hg1)
    · rcases hk with h | rfl
      · exact g3 k h hd.1
      · exact hd.2 rfl

/-- What Merge comes to. -/
def MePost (N sb : Nat) (x : St) (l : Int) (w : World) (e : Ending) (w' : World) : Prop :=
  (¬ (0 ≤ l ∧ l < 2) ∧ e = .returned (.int .i64 4) ∧ w' = w) ∨
  ((0 ≤ l ∧ l < 2) ∧ ¬ hasT x.T l ∧ e = .returned (.int .i64 8) ∧ Below w.heap.size w w') ∨
  ((0 ≤ l ∧ l < 2) ∧ hasT x.T l ∧ e = .returned (.int .i64 0) ∧ SIn N sb (x.mg l) w' ∧ StOk (x.mg l) ∧ Kp N [118, 169] w w')

theorem merge_sin (N sb : Nat) (x : St) (l : Int) (w : World) (hx : SIn N sb x w) (ok : StOk x) (hN : N ≤ w.heap.size) (hfew : x.E.length < 100000000) :
    Calls Tryz.prog 20 #[.pointer (some ⟨sb, 0, none⟩), .int .i64 l] w fun e w' => MePost N sb x l w e w' := by
  obtain ⟨D, F, g1, g2, g3, g4, hst⟩ := hx
  refine (mergeCall_any D F sb x l w hst g4 g3 ok hfew).mono ?_
  rintro e w' (h | h | ⟨hl, hh, rfl, D', F', d1, d2, d3, d4, hst', hk⟩)
  · exact .inl h
  · exact .inr (.inl h)
  · refine .inr (.inr ⟨hl, hh, rfl, ⟨D', F', fun k h => g1 k (d1 k h), fun k h => ?_, d3, d4, hst'⟩, ok.mg hl.1 hl.2, hk.kp g1⟩)
    rcases d2 k h with h | h
    · exact g2 k h
    · exact Nat.le_trans hN h.2

set_option maxHeartbeats 400000 in
/-- A new store. -/
theorem new_sin (w : World) :
    Calls Tryz.prog 42 #[] w fun e w' => ∃ sb, e = .returned (.pointer (some ⟨sb, 0, none⟩)) ∧ SIn w.heap.size sb ⟨[], [], 0, [], [], 0, [], 0, 0⟩ w' ∧ Below w.heap.size w w' := by
  have h : SIn w.heap.size w.heap.size ⟨[], [], 0, [], [], 0, [], 0, 0⟩ (w.alloc (.cells #[.slice none 0 0, .slice none 0 0, .slice none 0 0, .int .i64 0, .int .i64 0, .slice none 0 0, .int .i64 0, .int .i64 0] 118)) := by
    have nil : ∀ (W : World) (D : Nat → Prop) (e size : Nat), OwnsIn W D e size (.slice none 0 0) 0 [] := fun W D e size => ⟨World.ownsRow_nil _ _ _ _, fun g e => by simp [Value.ownBlock] at e⟩
    refine ⟨fun k => w.heap.size ≤ k, fun _ => False, fun k h => h, fun k h => h.elim, fun k h => h.elim, fun k hk => by simp at hk; omega, .slice none 0 0, .slice none 0 0, .slice none 0 0, .slice none 0 0, Nat.le_refl _, heap_alloc_new w _, nil _ _ _ _, ⟨[], rfl, nil _ _ _ _, fun k t v ht => by simp at ht⟩, OwnsJ.nil _ _, nil _ _ _ _⟩
  have H : Hid _ := h
  clear h
  go_enter Tryz.func42, Tryz.ntmps42
  go_wp2
  go_ret
  exact ⟨_, rfl, H.out, (Below.refl _ _).alloc (Nat.le_refl _) _⟩

theorem stOk0 : StOk ⟨[], [], 0, [], [], 0, [], 0, 0⟩ := by
  refine ⟨by simp, List.Pairwise.nil, by simp, by simp, by simp, by simp, ⟨List.Pairwise.nil, by simp, by simp, by simp, by simp, List.Pairwise.nil, List.Pairwise.nil, by simp, fun q _ k => rfl, by simp, Int.le_refl _, by simp, by simp, Nat.le_refl _, by simp⟩⟩
end Go.Proofs.YtakipjofboipmaaGreat

/- The walks of this proof: the shop, and what its batches make of a key. -/
namespace Go.Proofs.YtakipjofboipmaaGreat
open Go.RowKit Go.Sort

/-- The batches, each a row. -/
def AllAt (B : Nat) (w : World) (vA : Value) (A : List (List Pr)) : Prop :=
  ∃ Ws : List Value, w.ownsRow B 49 1 vA A.length Ws ∧ ∀ (i : Nat) (b : List Pr), A[i]? = some b → ∃ vi, Ws[i]? = some vi ∧ w.ownsRow B 48 3 vi b.length (pcells b)

/-- A shop that lies in block hb: its store, its batches, its snapshots, how many batches last for sure, how many were laid down, whether there are tables on level 0 and on level 1. -/
def ShopAt (B hb : Nat) (x : St) (A : List (List Pr)) (w : World) : Prop :=
  ∃ (sb : Nat) (vA vS : Value) (su la : Int) (o0 o1 : Bool), B ≤ hb ∧ w.heap[hb]? = some (.cells #[.pointer (some ⟨sb, 0, none⟩), vA, vS, .int .i64 su, .int .i64 la, .bool o0, .bool o1] 36 (0, 0)) ∧
    SIn B sb x w ∧ AllAt B w vA A ∧ w.ownsRow B 44 2 vS x.S.length (scells x.S) ∧ su = x.la + x.sy ∧ la = x.la ∧ o0 = decide (hasT x.T 0) ∧ o1 = decide (hasT x.T 1)

/-- What is true of every shop. -/
structure ShOk (x : St) (A : List (List Pr)) : Prop where
  st : StOk x
  last : x.last = A.length
  rel : Rel x.E A
  ok : ∀ b ∈ A, BOk b
  few : A.length < 100000000

theorem AllAt.kept {B B' : Nat} {ts : List Nat} {w w' : World} {vA : Value} {A : List (List Pr)} (h : AllAt B w vA A) (k : Kp B' ts w w') (h1 : 49 ∉ ts) (h2 : 48 ∉ ts) : AllAt B w' vA A := by
  obtain ⟨Ws, h3, h4⟩ := h
  exact ⟨Ws, k.owns h3 h1, fun i b hb => by obtain ⟨vi, h5, h6⟩ := h4 i b hb; exact ⟨vi, h5, k.owns h6 h2⟩⟩

theorem ShopAt.below {B hb : Nat} {x : St} {A : List (List Pr)} {w w' : World} (h : ShopAt B hb x A w) (k : Below w.heap.size w w') : ShopAt B hb x A w' := by
  obtain ⟨sb, vA, vS, su, la, o0, o1, h1, h2, h3, h4, h5, h6⟩ := h
  have kp : Kp 0 [] w w' := Kp.of_below k
  exact ⟨sb, vA, vS, su, la, o0, o1, h1, kp.keep h2 (by simp), h3.below k, h4.kept kp (by simp) (by simp), kp.owns h5 (by simp), h6⟩

/-- What of a shop is looked at: its store and its batches. -/
def DeskAt (B hb : Nat) (x : St) (A : List (List Pr)) (w : World) : Prop :=
  ∃ (sb : Nat) (vA a2 a3 a4 a5 a6 : Value), B ≤ hb ∧ w.heap[hb]? = some (.cells #[.pointer (some ⟨sb, 0, none⟩), vA, a2, a3, a4, a5, a6] 36 (0, 0)) ∧ SIn B sb x w ∧ AllAt B w vA A

theorem ShopAt.desk {B hb : Nat} {x : St} {A : List (List Pr)} {w : World} (h : ShopAt B hb x A w) : DeskAt B hb x A w := by
  obtain ⟨sb, vA, vS, su, la, o0, o1, h1, h2, h3, h4, _⟩ := h
  exact ⟨sb, vA, vS, .int .i64 su, .int .i64 la, .bool o0, .bool o1, h1, h2, h3, h4⟩

theorem DeskAt.below {B hb : Nat} {x : St} {A : List (List Pr)} {w w' : World} (h : DeskAt B hb x A w) (k : Below w.heap.size w w') : DeskAt B hb x A w' := by
  obtain ⟨sb, vA, a2, a3, a4, a5, a6, h1, h2, h3, h4⟩ := h
  have kp : Kp 0 [] w w' := Kp.of_below k
  exact ⟨sb, vA, a2, a3, a4, a5, a6, h1, kp.keep h2 (by simp), h3.below k, h4.kept kp (by simp) (by simp)⟩

/-- The cells of a batch. -/
theorem all_cells {B : Nat} {w : World} {vA : Value} {A : List (List Pr)} (h : AllAt B w vA A) {i : Nat} {b : List Pr} (hb : A[i]? = some b) (hl : 0 < b.length) :
    ∃ g cap gi ci, vA = .slice (some ⟨g, 0, none⟩) A.length cap ∧ g < w.heap.size ∧ w.cell? ⟨g, i, none⟩ = some (.slice (some ⟨gi, 0, none⟩) b.length ci) ∧ gi < w.heap.size ∧
      ∀ (k : Nat) p, b[k]? = some p → w.cell? ⟨gi, k * 3, none⟩ = some (.string p.k) ∧ w.cell? ⟨gi, k * 3 + 1, none⟩ = some (.string p.v) ∧ w.cell? ⟨gi, k * 3 + 2, none⟩ = some (.bool p.g) := by
  obtain ⟨Ws, h3, h4⟩ := h
  obtain ⟨vi, h5, h6⟩ := h4 i b hb
  have hA : 0 < A.length := by have := (List.getElem?_eq_some_iff.1 hb).1; omega
  have hWl : Ws.length = A.length := by have := h3.1; omega
  have e : Ws.flatMap (fun v => [v]) = Ws := by induction Ws <;> simp_all
  obtain ⟨g, cap, rfl, _, hgl, _, hcell⟩ := row_cell (f := fun v => [v]) (size := 1) (l := Ws) (fun a => rfl) (by rw [hWl, e]; exact h3) (by omega)
  have hc := hcell i vi 0 h5 (by omega)
  obtain ⟨gi, ci, rfl, _, hgi, _, hce⟩ := pr_cells h6 (Below.refl _ _) hl
  rw [hWl]
  exact ⟨g, cap, gi, ci, rfl, hgl, by simpa using hc, hgi, hce⟩

/-- What value answers. -/
def valAns (A : List (List Pr)) (k : ByteArray) (n : Nat) : Value :=
  match vk A k n with
  | some v => .tuple #[.string v, .bool true]
  | none => .tuple #[.string ⟨#[]⟩, .bool false]

set_option maxHeartbeats 1000000 in
set_option maxRecDepth 100000 in
theorem value_desk (B hb : Nat) (x : St) (A : List (List Pr)) (k : ByteArray) (n : Nat) (w : World) (hx : DeskAt B hb x A w) (ok : ∀ b ∈ A, BOk b) (hn : n ≤ A.length) (hA : A.length < 100000000) :
    Calls Tryz.prog 21 #[.pointer (some ⟨hb, 0, none⟩), .string k, .int .i64 n] w fun e w' => e = .returned (valAns A k n) ∧ Below w.heap.size w w' := by
  obtain ⟨sb, vA, a2, a3, a4, a5, a6, hB, hs, _, hall⟩ := hx
  have c1 : w.cell? ⟨hb, 1, none⟩ = some vA := by simp [World.cell?, hs]
  have hbl : hb < w.heap.size := lt_of_block hs
  have HALL : Hid (AllAt B w vA A) := hall
  have OK : Hid (∀ b ∈ A, BOk b) := ok
  clear hall ok hs
  go_enter Tryz.func21, Tryz.ntmps21
  go_wp2
  go_loopg [8, 9] n (fun kx s8 s9 wr => ∃ m : Nat, s8 = .int .i64 ((m : Int) - 1) ∧ m ≤ kx ∧ m ≤ n ∧ wr = w ∧ Hid (val A k n = val A k m))
  case atStart => exact ⟨n, rfl, Nat.le_refl _, Nat.le_refl _, rfl, rfl⟩
  case round =>
    obtain ⟨m, rfl, hmk, hmn, rfl, HV⟩ := hrel
    obtain _ | i := m
    · have hv : Hid (valAns A k n = .tuple #[.string ⟨#[]⟩, .bool false]) := by show _ = _; unfold valAns vk; rw [HV.out]; rfl
      rw [show (((0 : Nat) : Int) - 1) = -1 from rfl]
      go_wp2
      go_ret2
      exact ⟨by rw [hv.out]; rfl, Below.refl _ _⟩
    · have e1 : (((i + 1 : Nat) : Int) - 1) = i := by omega
      rw [e1]
      obtain ⟨b, hbi⟩ : ∃ b, A[i]? = some b := ⟨_, List.getElem?_eq_getElem (by omega)⟩
      have hbo := OK.out b (List.mem_of_getElem? hbi)
      have hb1 := hbo.lo
      have hb4 := hbo.hi
      have HG : Hid (∀ p, p ∈ b → PrOk p) := hbo.ok
      obtain ⟨g, cap, gi, ci, rfl, hgl, cg, hgil, hce⟩ := all_cells HALL.out hbi (by omega)
      have HCE : Hid _ := hce
      have HBI : Hid (A[i]? = some b) := hbi
      clear hce hbo e1 hbi
      go_wp2
      go_loopg [9] b.length (fun kx s9 wx => ∃ r : Nat, s9 = .int .i64 ((r : Int) - 1) ∧ r ≤ kx ∧ r ≤ b.length ∧ wx = wr ∧ Hid (lastP b k = lastP (b.take r) k))
      case atStart => exact ⟨b.length, rfl, Nat.le_refl _, Nat.le_refl _, rfl, by show _ = _; rw [List.take_of_length_le (Nat.le_refl _)]⟩
      case round =>
        obtain ⟨r, rfl, hrk, hrb, rfl, HL⟩ := hrel
        obtain _ | j := r
        · rw [show (((0 : Nat) : Int) - 1) = -1 from rfl]
          go_wp2
          go_roundg i
          case measure => omega
          case rel => exact ⟨i, rfl, Nat.le_refl _, by omega, rfl, by show _ = _; rw [HV.out, val_succ HBI.out, HL.out]; rfl⟩
        · have e1 : (((j + 1 : Nat) : Int) - 1) = j := by omega
          rw [e1]
          clear e1
          obtain ⟨p, hp⟩ : ∃ p, b[j]? = some p := ⟨_, List.getElem?_eq_getElem (by omega)⟩
          obtain ⟨d0, d1, d2⟩ := HCE.out j p hp
          have HT : Hid (lastP b k = if p.k = k then some p else lastP (b.take j) k) := by
            show _ = _
            rw [HL.out, lastP_take k hp]
          have HPO : Hid (PrOk p) := HG.out p (List.mem_of_getElem? hp)
          clear hp HL
          by_cases hk : p.k = k
          · have hv : Hid (valAns A k n = .tuple #[.string p.v, .bool (!p.g)]) := by
              show _ = _
              unfold valAns vk
              rw [HV.out, val_succ HBI.out, HT.out, if_pos hk]
              cases hg : p.g with
              | true => simp [HPO.out.gone hg, hg]
              | false => simp [hg]
            subst hk
            have c1' := cell_regrown c1
            have cg' := cell_regrown cg
            have d1' := cell_regrown d1
            have d2' := cell_regrown d2
            go_wp2_with fail
            refine wp_region_quiet_below (by kernel_rfl) (by kernel_rfl) ?_
            repeat (first | go_big_quiet_step (fail) | quiet_step (fail))
            refine wpQuiet_nil ?_
            intro w2 hw'
            have hb2 := below_of_regrown hw'
            clear hw'
            go_wp2
            go_ret2
            exact ⟨by rw [hv.out]; rfl, hb2⟩
          · have hnb := str_ne hk
            go_wp2
            go_roundg j
            case measure => omega
            case rel => exact ⟨j, rfl, Nat.le_refl _, by omega, rfl, by show _ = _; rw [HT.out, if_neg hk]⟩
end Go.Proofs.YtakipjofboipmaaGreat
