/- The walks of this proof: laying entries together. -/
import Derived.Test.YtakipjofboipmaaGreatDoorJ12
import Derived.Test.YtakipjofboipmaaGreatDoorJ4
import Derived.Deep.DeepAppendWide
import Derived.Deep.AppendLies
import Derived.Test.YtakipjofboipmaaGreatDoorJ3
namespace Go.Proofs.YtakipjofboipmaaGreatDoor
open Go.RowKit Go.Sort

theorem run_loadCells_rows {P : Program} (w : World) (a : Addr) (cs : List Value) (h : ∀ j v, cs[j]? = some v → w.cell? (a.add j) = some v) (n size : Nat) (len cap : Nat) (hl : cs.length = n * size) :
    (Builtin.firstCells size n (.slice (some a) len cap)).run P w = .ok cs.toArray w := run_firstCells_some (P := P) w size n a len cap cs hl h

/-- copy within a row of elements of some cells, the row written out. -/
theorem run_copy_rows {P : Program} (w : World) (dT sT ty elem : TypeId) (i : TypeInfo) (g o dLen dCap sLen sCap n : Nat) (dp sp : Option Addr) (a : Addr) (cur : Array Value) (t : TypeId) (cs : List Value)
    (hu : P.underlying dT = some (.slice elem)) (hi : P.info? elem = some i) (hg : w.heap[g]? = some (.cells cur t (0, 0))) (hn : Nat.min sLen dLen = n) (hcs : cs.length = n * i.size)
    (hpos : 0 < n → dp = some ⟨g, o, none⟩ ∧ sp = some a) (hsrc : ∀ j v, cs[j]? = some v → w.cell? (a.add j) = some v) (hfit : o + cs.length ≤ cur.size) (h1 : ∀ v ∈ cs, v.oneCell' = true) :
    (Builtin.copy_ #[dT, sT] ty #[.slice dp dLen dCap, .slice sp sLen sCap]).run P w = .ok (goInt n) (w.setRow g (cur.toList.take o ++ cs ++ cur.toList.drop (o + cs.length)).toArray) := by
  by_cases h0 : 0 < n
  · obtain ⟨rfl, rfl⟩ := hpos h0
    have hf := run_firstCells_some (P := P) w i.size n a sLen sCap cs hcs hsrc
    have hst := run_storeCells_at P g o t cs 0 cur w hg (by simpa using hfit) h1
    simp only [Nat.add_zero] at hst
    simp [Builtin.copy_, run_underlying hu, Builtin.lenOf, sizeOf, typeInfo, hi, hn, hf, hst]
  · obtain rfl : n = 0 := by omega
    have hc0 : cs = [] := List.eq_nil_of_length_eq_zero (by omega)
    subst hc0
    have hself : w.setRow g (cur.toList.take o ++ [] ++ cur.toList.drop (o + ([] : List Value).length)).toArray = w := by
      simp only [List.append_nil, List.length_nil, Nat.add_zero, List.take_append_drop]
      exact setRow_self w g cur t (0, 0) hg
    rw [hself]
    have hf : (Builtin.firstCells i.size 0 (.slice sp sLen sCap)).run P w = .ok #[] w := by
      cases sp with
      | none => simp [Builtin.firstCells]
      | some b => exact run_firstCells_some (P := P) w i.size 0 b sLen sCap [] (by simp) (by simp)
    cases dp with
    | none => simp [Builtin.copy_, run_underlying hu, Builtin.lenOf, sizeOf, typeInfo, hi, hn, hf]
    | some b => simp [Builtin.copy_, run_underlying hu, Builtin.lenOf, sizeOf, typeInfo, hi, hn, hf, storeCells]

theorem ecells_len (L : List En) : (ecells L).length = L.length * 4 := flat_len _ 4 (fun a => by rfl) L

theorem set4 {β : Type} (a b c d : β) : ∀ (n : Nat) (xs : List β), n + 3 < xs.length → (((xs.set n a).set (n + 1) b).set (n + 2) c).set (n + 3) d = xs.take n ++ [a, b, c, d] ++ xs.drop (n + 4)
  | 0, x :: y :: z :: u :: r, _ => by simp
  | 0, [], h => by simp at h
  | 0, [_], h => by simp at h
  | 0, [_, _], h => by simp at h
  | 0, [_, _, _], h => by simp at h
  | n + 1, [], h => by simp at h
  | n + 1, x :: r, h => by
    have ih := set4 a b c d n r (by simp at h; omega)
    simp only [List.set_cons_succ, List.take_succ_cons, List.cons_append, List.drop_succ_cons]
    rw [ih]

theorem ecells_set (L : List En) (k : Nat) (x : En) (hk : k < L.length) : ((((ecells L).set (k * 4) (.string x.k)).set (k * 4 + 1) (.int .i64 x.s)).set (k * 4 + 2) (.bool x.g)).set (k * 4 + 3) (.string x.v) = ecells (L.set k x) := by
  rw [set4 _ _ _ _ _ _ (by rw [ecells_len]; omega)]
  unfold ecells
  rw [flat_set _ 4 (fun a => by rfl) L k x hk, show k * 4 + 4 = (k + 1) * 4 by omega]
  rfl

/-- An entry stored into a row. -/
theorem put_entry {w : World} {base g cap : Nat} {L : List En} (h : w.ownsRow base 61 4 (.slice (some ⟨g, 0, none⟩) L.length cap) L.length (ecells L)) (k : Nat) (x : En) (hk : k < L.length) :
    ((((w.setCell ⟨g, k * 4, none⟩ (.string x.k)).setCell ⟨g, k * 4 + 1, none⟩ (.int .i64 x.s)).setCell ⟨g, k * 4 + 2, none⟩ (.bool x.g)).setCell ⟨g, k * 4 + 3, none⟩ (.string x.v)).ownsRow base 61 4 (.slice (some ⟨g, 0, none⟩) (L.set k x).length cap) (L.set k x).length (ecells (L.set k x)) := by
  have h4 := ((((h.stored (k * 4) (.string x.k)).1.stored (k * 4 + 1) (.int .i64 x.s)).1.stored (k * 4 + 2) (.bool x.g)).1.stored (k * 4 + 3) (.string x.v)).1
  rw [ecells_set L k x hk] at h4
  rw [List.length_set]; exact h4

/-- A part of a row copied to another place in it. -/
theorem copy_entries {w : World} {base g cap : Nat} {L : List En} (h : w.ownsRow base 61 4 (.slice (some ⟨g, 0, none⟩) L.length cap) L.length (ecells L)) (d s l : Nat) (hs : s + l ≤ L.length) (hd : d + l ≤ L.length) :
    ∃ cur : Array Value, w.heap[g]? = some (.cells cur 61 (0, 0)) ∧ base ≤ g ∧ d * 4 + (ecells ((L.drop s).take l)).length ≤ cur.size ∧
      (∀ j v, (ecells ((L.drop s).take l))[j]? = some v → w.cell? ((⟨g, s * 4, none⟩ : Addr).add j) = some v) ∧
      (w.setRow g (cur.toList.take (d * 4) ++ ecells ((L.drop s).take l) ++ cur.toList.drop (d * 4 + (ecells ((L.drop s).take l)).length)).toArray).ownsRow base 61 4 (.slice (some ⟨g, 0, none⟩) L.length cap) L.length (ecells (L.take d ++ (L.drop s).take l ++ L.drop (d + l))) := by
  have hlen : (ecells ((L.drop s).take l)).length = l * 4 := by rw [ecells_len, List.length_take, List.length_drop, Nat.min_eq_left (by omega)]
  rcases h.2 with ⟨h', _⟩ | ⟨g', cap', cur, hv, hb, hg, hnc, hcm, hsz, htake⟩
  · cases h'
  simp only [Value.slice.injEq, Option.some.injEq, Addr.mk.injEq, and_true, true_and] at hv
  obtain ⟨rfl, rfl⟩ := hv
  refine ⟨cur, hg, hb, by rw [hlen, hsz]; omega, fun j v hj => ?_, ?_⟩
  · have hadd : (⟨g, s * 4, none⟩ : Addr).add j = ⟨g, s * 4 + j, none⟩ := by unfold Addr.add; split <;> simp_all
    have hj' : j < l * 4 := by rw [← hlen]; exact (List.getElem?_eq_some_iff.1 hj).1
    rw [hadd, h.cellAt _ (by omega)]
    have e : ecells ((L.drop s).take l) = ((ecells L).drop (s * 4)).take (l * 4) := by
      unfold ecells
      rw [flat_drop _ 4 (fun a => by rfl), flat_take _ 4 (fun a => by rfl)]
    rw [e, List.getElem?_take, if_pos hj', List.getElem?_drop] at hj
    exact hj
  · refine ⟨?_, .inr ⟨g, cap, _, rfl, hb, setRow_heap w g cur _ 61 _ hg, hnc, hcm, ?_, ?_⟩⟩
    · rw [ecells_len]; simp only [List.length_append, List.length_take, List.length_drop]; omega
    · simp only [List.size_toArray, List.length_append, List.length_take, List.length_drop, Array.length_toList, hlen, hsz]; omega
    · have hA : cur.toList.take (d * 4) = ecells (L.take d) := by
        have : (cur.toList.take (L.length * 4)).take (d * 4) = cur.toList.take (d * 4) := by rw [List.take_take, Nat.min_eq_left (by omega)]
        rw [← this, htake]; exact flat_take _ 4 (fun a => by rfl) L d
      have hC : (cur.toList.drop (d * 4 + l * 4)).take (L.length * 4 - (d * 4 + l * 4)) = ecells (L.drop (d + l)) := by
        rw [← List.drop_take, htake, show d * 4 + l * 4 = (d + l) * 4 by omega]
        exact flat_drop _ 4 (fun a => by rfl) L (d + l)
      show List.take _ (_ ++ _ ++ _) = _
      rw [hlen, hA, List.take_append, List.take_of_length_le (by rw [List.length_append, ecells_len, ecells_len, List.length_take, List.length_take, List.length_drop]; omega)]
      have e2 : L.length * 4 - (ecells (L.take d) ++ ecells ((L.drop s).take l)).length = L.length * 4 - (d * 4 + l * 4) := by
        rw [List.length_append, ecells_len, hlen, List.length_take, Nat.min_eq_left (by omega)]
      rw [e2, hC]
      simp [ecells]
end Go.Proofs.YtakipjofboipmaaGreatDoor

/- The kit of this proof: an append that keeps shorter rows, of all lengths that there is room for. -/
namespace Go.Proofs.YtakipjofboipmaaGreatDoor
open Go.RowKit Go.Sort

theorem run_append_keeps {P : Program} (w : World) (t ty e : TypeId) (i : TypeInfo) (z : Value) (size bytes base : Nat) (ht : P.underlying t = some (.slice e)) (hi : P.info? e = some i) (hz : i.zero = some z)
    (hsize : i.size = size) (hby : i.bytes = bytes) (hzs : z.cells.size = size) (hsz : 0 < size)
    (v : Value) (n : Nat) (xs : List Value) (hown : w.ownsRow base e size v n xs)
    (a : Addr) (m c : Nat) (news : List Value) (hl : news.length = m * size) (hnews : ∀ j u, news[j]? = some u → w.cell? (a.add j) = some u) (h1 : ∀ u ∈ news, u.oneCell' = true)
    (hm : 0 < m) (h63 : n + m ≤ maxLen) (hbytes : ((n + m) + (n + m) / 4 + 192) * bytes ≤ 281474976710656) (hbase : base ≤ w.heap.size) :
    ∃ g cap w', (Builtin.append_ #[t, t] ty #[v, .slice (some a) m c]).run P w = .ok (.slice (some ⟨g, 0, none⟩) (n + m) cap) w' ∧ w'.ownsRow base e size (.slice (some ⟨g, 0, none⟩) (n + m) cap) (n + m) (xs ++ news) ∧
      Kd (fun k => v.ownBlock = some k) [e] w w' ∧ (v.ownBlock = some g ∨ g = w.heap.size) ∧ ∀ b' v' n' ys, w.ownsRow b' e size v' n' ys → n' ≤ n → w'.ownsRow b' e size v' n' ys := by
  subst hsize
  subst hby
  have hlen : (xs ++ news).length = (n + m) * i.size := by rw [List.length_append, hown.1, hl, Nat.add_mul]
  have grown : ∀ (old : Nat), old < n + m →
      (w.drew.alloc (.cells (xs.toArray ++ news.toArray ++ Builtin.zeroCells z.cells (grownCap w (n + m) old e - (n + m))) e)).ownsRow base e i.size
        (.slice (some ⟨w.heap.size, 0, none⟩) (n + m) (grownCap w (n + m) old e)) (n + m) (xs ++ news) := by
    intro old ho
    have hge := grownCap_ge w (n + m) old e
    have hcm : grownCap w (n + m) old e ≤ maxLen := grownCap_le_maxLen w (n + m) old e h63
    refine ⟨hlen, .inr ⟨w.heap.size, _, _, rfl, hbase, heap_alloc_new w.drew _, hge, hcm, ?_, ?_⟩⟩
    · simp only [Array.size_append, List.size_toArray, size_zeroCells, hzs, hown.1, hl, ← Nat.add_mul]
      congr 1
      omega
    · simp only [Array.toList_append, List.append_assoc]
      rw [← List.append_assoc, ← hlen]
      exact List.take_left
  have bel : ∀ o : Obj, Below w.heap.size w (w.drew.alloc o) := fun o => ((Below.refl _ _).drew).alloc (Nat.le_refl _) o
  have fin : ∀ (old : Nat), old < n + m → ∀ w', w' = (w.drew.alloc (.cells (xs.toArray ++ news.toArray ++ Builtin.zeroCells z.cells (grownCap w (n + m) old e - (n + m))) e)) →
      w'.ownsRow base e i.size (.slice (some ⟨w.heap.size, 0, none⟩) (n + m) (grownCap w (n + m) old e)) (n + m) (xs ++ news) ∧
      Kd (fun k => v.ownBlock = some k) [e] w w' ∧ (v.ownBlock = some w.heap.size ∨ w.heap.size = w.heap.size) ∧ ∀ b' v' n' ys, w.ownsRow b' e i.size v' n' ys → n' ≤ n → w'.ownsRow b' e i.size v' n' ys := by
    rintro old ho w' rfl
    exact ⟨grown old ho, Kd.of_below (bel _), .inr rfl, fun b' v' n' ys h _ => (Kd.of_below (D := fun _ => False) (ts := []) (bel _)).owns h (by simp)⟩
  rcases hown.2 with ⟨rfl, rfl⟩ | ⟨g, cap, cur, rfl, hbg, hg, hnc, hcm, hcs, htake⟩
  · have hx : xs = [] := List.eq_nil_of_length_eq_zero (by simpa using hown.1)
    subst hx
    have hr := run_append_nil (P := P) w t ty e i z ht hi hz a m c news hl hnews (by omega) (by unfold maxLen at h63; omega) (Nat.le_trans (Nat.mul_le_mul_right _ (by omega)) hbytes)
    obtain ⟨a1, a2, _, a4⟩ := fin 0 (by omega) _ rfl
    simp only [Nat.zero_add, List.nil_append, Array.empty_append] at a1 a2 a4
    simp only [Nat.zero_add, List.nil_append]
    exact ⟨_, _, _, hr, a1, a2, .inr rfl, fun b' v' n' ys h hn => a4 b' v' n' ys h hn⟩
  · by_cases hroom : n + m ≤ cap
    · have hfit : n * i.size + news.length ≤ cur.size := by rw [hl, hcs, ← Nat.add_mul]; exact Nat.mul_le_mul_right _ hroom
      have hr := run_append_room (P := P) w t ty e i ht hi g n cap cur hg a m c news hl hnews h1 hroom hfit
      refine ⟨g, cap, _, hr, ⟨hlen, .inr ⟨g, cap, _, rfl, hbg, setRow_heap w g cur _ e _ hg, hroom, hcm, ?_, ?_⟩⟩, ?_, .inl rfl, ?_⟩
      · simp only [List.size_toArray, List.length_append, List.length_take, List.length_drop, Array.length_toList]
        omega
      · rw [htake, ← hlen]
        exact List.take_left
      · refine ⟨rfl, rfl, rfl, by simp, fun k _ hor => setRow_other w g k _ (fun ek => ?_)⟩
        subst ek
        rcases hor with h2 | h2
        · exact h2 rfl
        · exact h2 _ _ _ hg (by simp)
      · intro b' v' n' ys h' hn'
        refine ⟨h'.1, ?_⟩
        rcases h'.2 with hn | ⟨g', cap', cur', rfl, hb', hg', r1, r2, r3, r4⟩
        · exact .inl hn
        · by_cases hgg : g' = g
          · subst hgg
            rw [hg] at hg'
            simp only [Option.some.injEq, Obj.cells.injEq] at hg'
            obtain ⟨rfl, _, _⟩ := hg'
            refine .inr ⟨g', cap', _, rfl, hb', setRow_heap w g' cur _ e _ hg, r1, r2, ?_, ?_⟩
            · simp only [List.size_toArray, List.length_append, List.length_take, List.length_drop, Array.length_toList]
              omega
            · rw [← r4]
              have hle : n' * i.size ≤ n * i.size := Nat.mul_le_mul_right _ hn'
              show List.take _ (_ ++ _ ++ _) = _
              rw [List.append_assoc, List.take_append_of_le_length (by rw [List.length_take, Array.length_toList]; omega), List.take_take, Nat.min_eq_left hle]
          · exact .inr ⟨g', cap', cur', rfl, hb', (setRow_other w g g' _ hgg).trans hg', r1, r2, r3, r4⟩
    · have holds : ∀ j u, xs[j]? = some u → w.cell? ((⟨g, 0, none⟩ : Addr).add j) = some u := hown.cells (g := g) rfl
      have hr := run_append_grow (P := P) w t ty e i z ht hi hz ⟨g, 0, none⟩ n cap xs hown.1 holds a m c news hl hnews (by omega) (by unfold maxLen at h63; omega) (growslice_fits_wide (by omega) hbytes)
      exact ⟨_, _, _, hr, fin cap (by omega) _ rfl⟩

theorem wpList_append_keeps {P : Program} {w : World} {ops : Array Oper} {rest : List Oper} {o : Oper} {act : Act} {Q : Exit → Act → World → Prop} (hgd : o.guard = none) (s x : Operand) (t : TypeId)
    (ho : o.op = .call { callee := .builtin .append, args := #[s, x], argTypes := #[t, t] })
    (base : Nat) (e : TypeId) (i : TypeInfo) (z : Value) (size bytes : Nat) (ht : P.underlying t = some (.slice e)) (hi : P.info? e = some i) (hz : i.zero = some z)
    (hsize : i.size = size) (hby : i.bytes = bytes) (hzs : z.cells.size = size) (hsz : 0 < size)
    (v : Value) (n : Nat) (xs : List Value) (hs : act.eval s = v) (hown : w.ownsRow base e size v n xs)
    (ad : Addr) (m c : Nat) (news : List Value) (hx : act.eval x = .slice (some ad) m c) (hl : news.length = m * size) (hnews : ∀ j u, news[j]? = some u → w.cell? (ad.add j) = some u) (h1 : ∀ u ∈ news, u.oneCell' = true)
    (hm : 0 < m) (h63 : n + m ≤ maxLen) (hbytes : ((n + m) + (n + m) / 4 + 192) * bytes ≤ 281474976710656) (hbase : base ≤ w.heap.size)
    (h : ∀ g cap w', w'.ownsRow base e size (.slice (some ⟨g, 0, none⟩) (n + m) cap) (n + m) (xs ++ news) → Kd (fun k => v.ownBlock = some k) [e] w w' → (v.ownBlock = some g ∨ g = w.heap.size) → (∀ b' v' n' ys, w.ownsRow b' e size v' n' ys → n' ≤ n → w'.ownsRow b' e size v' n' ys) → wpList P ops Q rest (act.put o.dst (.slice (some ⟨g, 0, none⟩) (n + m) cap)) w') : wpList P ops Q (o :: rest) act w := by
  refine wpList_plain hgd fun _ hK => ?_
  obtain ⟨g, cap, w', hr, h2, h3, h4, h5⟩ := run_append_keeps (P := P) w t o.type e i z size bytes base ht hi hz hsize hby hzs hsz v n xs hown ad m c news hl hnews h1 hm h63 hbytes hbase
  unfold Oper.wp execOp
  simp only [ho, resolve, invoke, builtin, Sem.run_bind, Sem.run_pure, Result.andThen_ok, List.map_toArray, List.map_cons, List.map_nil, hs, hx, hr]
  exact hK _ _ (h g cap w' h2 h3 h4 h5)
end Go.Proofs.YtakipjofboipmaaGreatDoor

/- The walks of this proof: (*run).Lay. -/
namespace Go.Proofs.YtakipjofboipmaaGreatDoor
open Go.RowKit Go.Sort

theorem place_unique {E : List En} {k : ByteArray} {s : Int} {i j : Nat} (hi : IsPlace E k s i) (hj : IsPlace E k s j) : i = j := by
  rcases Nat.lt_trichotomy i j with h | h | h
  · have hl : i < E.length := by have := hj.1; omega
    have h1 := (hj.2 i _ (List.getElem?_eq_getElem hl)).1 h
    have h2 := (hi.2 i _ (List.getElem?_eq_getElem hl)).2 (Nat.le_refl _)
    omega
  · exact h
  · have hl : j < E.length := by have := hi.1; omega
    have h1 := (hi.2 j _ (List.getElem?_eq_getElem hl)).1 h
    have h2 := (hj.2 j _ (List.getElem?_eq_getElem hl)).2 (Nat.le_refl _)
    omega

theorem place_exists (k : ByteArray) (s : Int) : ∀ {E : List En}, Sorted E → ∃ i, IsPlace E k s i
  | [], _ => ⟨0, Nat.le_refl _, fun j e h => by simp at h⟩
  | x :: r, hs => by
    have hr : Sorted r := (List.pairwise_cons.1 hs).2
    by_cases h : oc x.k x.s k s < 0
    · obtain ⟨i, h1, h2⟩ := place_exists k s hr
      refine ⟨i + 1, by simpa using h1, fun j e he => ?_⟩
      cases j with
      | zero => simp at he; subst he; exact ⟨fun _ => h, fun g => by omega⟩
      | succ j =>
        simp at he
        exact ⟨fun g => (h2 j e he).1 (by omega), fun g => (h2 j e he).2 (by omega)⟩
    · refine ⟨0, Nat.zero_le _, fun j e he => ⟨fun g => absurd g (Nat.not_lt_zero _), fun _ => ?_⟩⟩
      cases j with
      | zero => simp at he; subst he; omega
      | succ j =>
        simp at he
        have := (List.pairwise_cons.1 hs).1 e (List.mem_of_getElem? he)
        exact Int.not_lt.1 fun g => h (oc_trans this g)

theorem place_in {E : List En} {k : ByteArray} {s : Int} {p : Nat} (hp : IsPlace E k s p) (v : Value) (w : World) (hn : E.length < 4500000000000) (hs : Sorted E) (hc : EnRow w v E) (d : Nat) (os : Array Obj) :
    Calls Tryz.prog 203 #[v, .string k, .int .i64 s] (grow (redrawn w d) os) fun e w'' => e = .returned (.int .i64 p) ∧ ∃ q : Regrown, w'' = grow (redrawn w q.d) q.os := by
  refine Calls.regrown_of ((place_any E v k s _ hn hs (hc.below (below_regrown w d os))).mono ?_)
  rintro e w' ⟨i, rfl, hi, hb⟩
  rw [place_unique hp hi]
  exact ⟨rfl, hb⟩

/-- What is true of memory while entries are laid together. -/
structure LayAt (D : Nat → Prop) (t : TypeId) (sb g gN n : Nat) (V : Value) (f : List Value) (curN : Array Value) (w0 : World) (row : List En) (w : World) : Prop where
  own : w.ownsRow 0 61 4 V row.length (ecells row)
  sto : w.heap[sb]? = some (.cells (V :: f).toArray t (0, 0))
  new : w.heap[gN]? = some (.cells curN 61 (0, 0))
  kp : Kd D [t, 61] w0 w
  ne : t ≠ 61
  len : row.length = n

theorem LayAt.below {D : Nat → Prop} {t : TypeId} {sb g gN n : Nat} {V : Value} {f : List Value} {curN : Array Value} {w0 w w' : World} {row : List En} (h : LayAt D t sb g gN n V f curN w0 row w) (hb : Below w.heap.size w w') : LayAt D t sb g gN n V f curN w0 row w' :=
  ⟨(Kp.of_below (B := 0) (ts := []) hb).owns h.own (by simp), (hb.block sb (lt_of_block h.sto)).trans h.sto, (hb.block gN (lt_of_block h.new)).trans h.new, h.kp.trans (Kd.of_below hb), h.ne, h.len⟩

/-- A row that turns in place. -/
theorem LayAt.turn {D : Nat → Prop} {t : TypeId} {sb g gN n cap : Nat} {f : List Value} {curN : Array Value} {w0 w w' : World} {row row' : List En} (h : LayAt D t sb g gN n (.slice (some ⟨g, 0, none⟩) n cap) f curN w0 row w) (hgN : g ≠ gN) (hB : D g)
    (hw : ∀ k, k ≠ g → w'.heap[k]? = w.heap[k]?) (hos : w'.os = w.os ∧ w'.tape = w.tape ∧ w'.output = w.output ∧ w'.heap.size = w.heap.size) (ho : w'.ownsRow 0 61 4 (.slice (some ⟨g, 0, none⟩) n cap) row'.length (ecells row')) (hl : row'.length = n) : LayAt D t sb g gN n (.slice (some ⟨g, 0, none⟩) n cap) f curN w0 row' w' := by
  obtain ⟨cur, hg⟩ : ∃ cur, w.heap[g]? = some (.cells cur 61 (0, 0)) := by
    rcases h.own.2 with ⟨h', _⟩ | ⟨g', cap', cur, hv, _, hg, _⟩
    · cases h'
    · simp only [Value.slice.injEq, Option.some.injEq, Addr.mk.injEq, and_true] at hv
      obtain ⟨rfl, _⟩ := hv
      exact ⟨cur, hg⟩
  have hsg : sb ≠ g := fun e => by
    have h1 := h.sto
    rw [e, hg] at h1
    simp only [Option.some.injEq, Obj.cells.injEq] at h1
    exact h.ne h1.2.1.symm
  refine ⟨ho, (hw sb hsg).trans h.sto, (hw gN (Ne.symm hgN)).trans h.new, h.kp.trans ⟨hos.1, hos.2.1, hos.2.2.1, by rw [hos.2.2.2]; exact Nat.le_refl _, fun k _ hor => hw k (fun e => ?_)⟩, h.ne, hl⟩
  subst e
  rcases hor with h1 | h1
  · exact h1 hB
  · exact h1 _ _ _ hg (by simp)

/-- What Lay comes to. -/
def LayPost (E N : List En) (D : Nat → Prop) (t : TypeId) (sb : Nat) (f : List Value) (w : World) (e : Ending) (w' : World) : Prop :=
  e = .returned (.tuple #[]) ∧ ∃ (V : Value) (F : List En), w'.heap[sb]? = some (.cells (V :: f).toArray t (0, 0)) ∧ OwnsIn w' D 61 4 V F.length (ecells F) ∧ Sorted F ∧ (∀ x, x ∈ F ↔ x ∈ E ∨ x ∈ N) ∧ F.length = E.length + N.length ∧ Kd D [t, 61] w w'

set_option maxHeartbeats 2000000 in
set_option maxRecDepth 100000 in
theorem lay_any (E N : List En) (D : Nat → Prop) (sb gN capN : Nat) (vE : Value) (t : TypeId) (fl : List Value) (curN : Array Value) (w : World) (ht : t ≠ 61)
    (hs : w.heap[sb]? = some (.cells (vE :: fl).toArray t (0, 0))) (hB : D sb) (hD : Opn D w) (hE : OwnsIn w D 61 4 vE E.length (ecells E))
    (hg : w.heap[gN]? = some (.cells curN 61 (0, 0))) (hN : w.ownsRow 0 61 4 (.slice (some ⟨gN, 0, none⟩) N.length capN) N.length (ecells N)) (hne : vE.ownBlock ≠ some gN)
    (sE : Sorted E) (sN : Sorted N) (hdis : ∀ y ∈ E, ∀ x ∈ N, ¬ (y.k = x.k ∧ y.s = x.s)) (hle : E.length + N.length < 4500000000000) (h1 : 1 ≤ N.length) :
    Calls Tryz.prog 156 #[.pointer (some ⟨sb, 0, none⟩), .slice (some ⟨gN, 0, none⟩) N.length capN] w fun e w' => LayPost E N D t sb fl w e w' := by
  obtain ⟨i0, hi, hz0, hz1, hz2⟩ := info_parts Tryz.info61
  obtain ⟨aoE, capE, rfl⟩ := slice_form hE.own
  have hnews : Hid (∀ j u, (ecells N)[j]? = some u → w.cell? ((⟨gN, 0, none⟩ : Addr).add j) = some u) := hN.cells (g := gN) rfl
  have hone : Hid (∀ u ∈ ecells N, u.oneCell' = true) := fun u hu => by
    obtain ⟨x, _, hx⟩ := List.mem_flatMap.1 hu
    exact entry_one x u hx
  have c0 : w.cell? ⟨sb, 0, none⟩ = some (.slice aoE E.length capE) := by simp [World.cell?, hs]
  have HE : Hid (OwnsIn w D 61 4 (.slice aoE E.length capE) E.length (ecells E)) := hE
  have HN : Hid (w.heap[sb]? = some (.cells (.slice aoE E.length capE :: fl).toArray t (0, 0)) ∧ w.heap[gN]? = some (.cells curN 61 (0, 0)) ∧ w.ownsRow 0 61 4 (.slice (some ⟨gN, 0, none⟩) N.length capN) N.length (ecells N) ∧ (Value.slice aoE E.length capE).ownBlock ≠ some gN ∧ Sorted E ∧ Sorted N ∧ ∀ y ∈ E, ∀ x ∈ N, ¬ (y.k = x.k ∧ y.s = x.s)) := ⟨hs, hg, hN, hne, sE, sN, hdis⟩
  have HD : Hid (Opn D w) := hD
  clear hs hE hg hN hne sE sN hdis hD
  go_enter Tryz.func156, Tryz.ntmps156
  go_wp2_with (at_builtin; refine wpList_append_keeps rfl (.tmp 16) (.tmp 17) 59 rfl 0 61 i0 _ 4 48 Tryz.underlying59 hi hz0 hz1 hz2 rfl (by decide) _ _ _ rfl HE.out.own ⟨gN, 0, none⟩ N.length capN (ecells N) rfl (ecells_len N) hnews.out hone.out (by omega) (by unfold maxLen; omega) (by omega) (Nat.zero_le _) ?_)
  intro g cap w1 ho1 hg1 hat hlt
  have K1 : Kd D [61] w w1 := ⟨hg1.os, hg1.tape, hg1.output, hg1.size, fun k hk hor => hg1.block k hk (hor.imp (fun h e => h (HE.out.dom k e)) id)⟩
  have hgN : g ≠ gN := fun e => by
    subst e
    rcases hat with h | h
    · exact HN.out.2.2.2.1 h
    · have := lt_of_block HN.out.2.1; omega
  have ht2 : ¬ 61 = t := fun e => ht e.symm
  have hs1 := K1.keep HN.out.1 (by simp [ht])
  have hcap : E.length + N.length ≤ cap := by
    rcases ho1.2 with ⟨h, _⟩ | ⟨g', cap', cur, hv, _, _, hnc, _⟩
    · cases h
    · simp only [Value.slice.injEq, true_and] at hv; rw [hv.2]; exact hnc
  have hBg : D g := (HE.out.lies HD.out ho1 hat).dom g rfl
  have L1 : Hid (LayAt D t sb g gN (E.length + N.length) (.slice (some ⟨g, 0, none⟩) (E.length + N.length) cap) fl curN w (E ++ N) (w1.setCell ⟨sb, 0, none⟩ (.slice (some ⟨g, 0, none⟩) (E.length + N.length) cap))) := by
    have kf := Kd.field hB hs1 0 (.slice (some ⟨g, 0, none⟩) (E.length + N.length) cap)
    refine ⟨?_, ?_, ?_, (K1.mono (by simp)).trans (kf.mono (by simp)), ht, by rw [List.length_append]⟩
    · have e : ecells (E ++ N) = ecells E ++ ecells N := by simp [ecells]
      rw [e, List.length_append]
      exact kf.owns ho1 (by simp [ht2])
    · rw [heap_setCell_same _ _ _ _ _ _ hs1]; simp
    · have e1 : w1.heap[gN]? = some (.cells curN 61 (0, 0)) := hg1.keepN HN.out.2.1 HN.out.2.2.2.1
      exact kf.keep e1 (by simp [ht2])
  have c0' : w1.cell? ⟨sb, 0, none⟩ = some (.slice aoE E.length capE) := by simp [World.cell?, hs1]
  have f0' : w1.frozen? ⟨sb, 0, none⟩ = false := by simp [World.frozen?, hs1]
  have HGN : Hid (g ≠ gN) := hgN
  clear ho1 hg1 hat hlt hs1 K1 hgN
  go_wp2
  go_loopg [4, 5] N.length (fun kx s4 s5 wr => ∃ (e i1 : Nat) (J T : List En), s4 = .int .i64 e ∧ ((i1 = 0 ∧ s5 = .int .i64 (-1)) ∨ ∃ i : Nat, i1 = i + 1 ∧ s5 = .int .i64 i) ∧ i1 ≤ kx ∧ J.length = i1 ∧ Hid (LayInv E N e i1 T) ∧ Hid (LayAt D t sb g gN (E.length + N.length) (.slice (some ⟨g, 0, none⟩) (E.length + N.length) cap) fl curN w (E.take e ++ J ++ T) wr))
  case atStart => exact ⟨E.length, N.length, N, [], rfl, .inr ⟨N.length - 1, by omega, by congr 1; omega⟩, by omega, rfl, lay_start E N, by rw [List.append_nil, List.take_of_length_le (Nat.le_refl _)]; exact L1.out⟩
  case round =>
    clear L1 c0 c0' f0'
    obtain ⟨e, i1, J, T, rfl, hi1, hkx, hJ, HI, HL⟩ := hrel
    rcases hi1 with ⟨rfl, rfl⟩ | ⟨i, rfl, rfl⟩
    · obtain rfl : J = [] := List.eq_nil_of_length_eq_zero hJ
      go_wp2
      go_end0
      have hf := lay_end HN.out.2.2.2.2.1 HI.out
      have hr := HL.out
      rw [List.append_nil] at hr
      refine ⟨rfl, _, E.take e ++ T, hr.sto, ⟨by simpa using hr.own, fun g2 hg2 => by simp only [Value.ownBlock, Option.some.injEq] at hg2; subst hg2; exact hBg⟩, hf.1, hf.2.1, hf.2.2, hr.kp⟩
    · have hil : i < N.length := by have := HI.out.li; omega
      have hel : e ≤ E.length := HI.out.le
      obtain ⟨x, hx⟩ : ∃ x, N[i]? = some x := ⟨_, List.getElem?_eq_getElem hil⟩
      have hte : (E.take e).length = e := by rw [List.length_take, Nat.min_eq_left hel]
      obtain ⟨p, hp⟩ := place_exists x.k x.s (E := E.take e) (List.Pairwise.sublist (List.take_sublist _ _) HN.out.2.2.2.2.1)
      have hpe : p ≤ e := by have := hp.1; omega
      have HI2 : Hid (LayInv E N p i (x :: ((E.take e).drop p ++ T))) := lay_step HN.out.2.2.2.2.1 HN.out.2.2.2.2.2.1 HI.out hx hp (fun y hy => HN.out.2.2.2.2.2.2 y hy x (List.mem_of_getElem? hx))
      have nc : ∀ f, f < 4 → wr.cell? ⟨gN, i * 4 + f, none⟩ = (En.cells x)[f]? := fun f hf => by
        rw [World.cell?_of_block (w := w) (a := ⟨gN, i * 4 + f, none⟩) (HL.out.new.trans HN.out.2.1.symm), HN.out.2.2.1.cellAt _ (by omega)]
        exact flat_get _ 4 (fun a => by rfl) N i x f hx hf
      have n0 : wr.cell? ⟨gN, i * 4, none⟩ = some (.string x.k) := nc 0 (by omega)
      have n1 : wr.cell? ⟨gN, i * 4 + 1, none⟩ = some (.int .i64 x.s) := nc 1 (by omega)
      have n2 : wr.cell? ⟨gN, i * 4 + 2, none⟩ = some (.bool x.g) := nc 2 (by omega)
      have n3 : wr.cell? ⟨gN, i * 4 + 3, none⟩ = some (.string x.v) := nc 3 (by omega)
      have s0 : wr.cell? ⟨sb, 0, none⟩ = some (.slice (some ⟨g, 0, none⟩) (E.length + N.length) cap) := by simp [World.cell?, HL.out.sto]
      have n0' := cell_regrown n0
      have n1' := cell_regrown n1
      have s0' := cell_regrown s0
      have ER : Hid (EnRow wr (.slice (some ⟨g, 0, none⟩) e cap) (E.take e)) := by
        refine .inr ⟨g, cap, by rw [hte], by omega, fun j y hy => ?_⟩
        have hy2 : (E.take e ++ J ++ T)[j]? = some y := by
          have hj : j < (E.take e).length := (List.getElem?_eq_some_iff.1 hy).1
          rw [List.append_assoc, List.getElem?_append_left hj]; exact hy
        have hown := HL.out.own
        obtain ⟨g', cap', hv, _, _, _, hcell⟩ := row_cell (fun a => by rfl) hown (by have := (List.getElem?_eq_some_iff.1 hy2).1; omega)
        simp only [Value.slice.injEq, Option.some.injEq, Addr.mk.injEq, and_true] at hv
        obtain ⟨rfl, _, rfl⟩ := hv
        exact ⟨hcell j y 0 hy2 (by omega), hcell j y 1 hy2 (by omega), hcell j y 2 hy2 (by omega), hcell j y 3 hy2 (by omega)⟩
      have HSE : Hid (Sorted (E.take e)) := List.Pairwise.sublist (List.take_sublist _ _) HN.out.2.2.2.2.1
      have HP : Hid (IsPlace (E.take e) x.k x.s p) := hp
      have HX : Hid (N[i]? = some x) := hx
      have hen : (E.take e).length < 4500000000000 := by omega
      have hec : (e : Int) ≤ (cap : Int) := by omega
      have hecn : e ≤ cap := by omega
      have hiN : (i : Int) < (N.length : Int) := by omega
      clear nc hp hx
      go_wp2
      refine wp_region_quiet_below (by kernel_rfl) (by kernel_rfl) ?_
      repeat (first | go_big_quiet_step (exact place_in HP.out _ _ hen HSE.out ER.out _ _) | quiet_step (exact place_in HP.out _ _ hen HSE.out ER.out _ _))
      refine wpQuiet_nil ?_
      intro w2 hw'
      have hb := below_of_regrown hw'
      have HL2 : Hid (LayAt D t sb g gN (E.length + N.length) (.slice (some ⟨g, 0, none⟩) (E.length + N.length) cap) fl curN w (E.take e ++ J ++ T) w2) := HL.out.below hb
      have n0 := cell_later hb n0
      have n1 := cell_later hb n1
      have n2 := cell_later hb n2
      have n3 := cell_later hb n3
      have s0 := cell_later hb s0
      have hTl : e + (i + 1) + T.length = E.length + N.length := HI.out.len
      clear hb hw' n0' n1' s0' ER HL HSE HP HI
      have s0' := cell_regrown s0
      have hrow : (E.take e ++ J ++ T).length = E.length + N.length := HL2.out.len
      have hce1 : ¬ cap = p := by omega
      go_wp2
      refine wp_region_quiet_tail 16 (by kernel_rfl) (by kernel_rfl) ?_
      simp only [List.take_succ_cons, List.take_zero, List.drop_succ_cons, List.drop_zero]
      have HCP : Hid (∀ w3, Below w2.heap.size w2 w3 → ∃ arr : Array Value, (∀ (ty dCap sCap : Nat) (dp : Option Addr), (p < e → dp = some ⟨g, (p + i + 1) * 4, none⟩) → (Builtin.copy_ #[59, 59] ty #[.slice dp (E.length + N.length - (p + i + 1)) dCap, .slice (some ⟨g, p * 4, none⟩) (e - p) sCap]).run Tryz.prog w3 = .ok (goInt ((e - p : Nat) : Int)) (w3.setRow g arr)) ∧
          LayAt D t sb g gN (E.length + N.length) (.slice (some ⟨g, 0, none⟩) (E.length + N.length) cap) fl curN w ((E.take e ++ J ++ T).take (p + i + 1) ++ ((E.take e ++ J ++ T).drop p).take (e - p) ++ (E.take e ++ J ++ T).drop (p + i + 1 + (e - p))) (w3.setRow g arr)) := fun w3 hb3 => by
        have hl3 := HL2.out.below hb3
        have hown := hl3.own
        rw [← hrow] at hown
        obtain ⟨cur, hg3, _, hfit, hsrc, hnew⟩ := copy_entries hown (p + i + 1) p (e - p) (by rw [hrow]; omega) (by rw [hrow]; omega)
        refine ⟨_, fun ty dCap sCap dp hdp => run_copy_rows w3 59 59 ty 61 i0 g ((p + i + 1) * 4) _ dCap _ sCap (e - p) dp _ ⟨g, p * 4, none⟩ cur 61 (ecells (((E.take e ++ J ++ T).drop p).take (e - p))) Tryz.underlying59 hi hg3 (Nat.min_eq_left (by omega)) (by rw [ecells_len, List.length_take, List.length_drop, hrow, hz1]; congr 1; omega) (fun h => ⟨hdp (by omega), rfl⟩) hsrc hfit (fun u hu => by
          obtain ⟨y, _, hy⟩ := List.mem_flatMap.1 hu
          exact entry_one y u hy), ?_⟩
        refine hl3.turn HGN.out hBg (fun k hk => setRow_other _ _ _ _ hk) ⟨rfl, rfl, rfl, by simp⟩ ?_ ?_
        · have hl' : ((E.take e ++ J ++ T).take (p + i + 1) ++ ((E.take e ++ J ++ T).drop p).take (e - p) ++ (E.take e ++ J ++ T).drop (p + i + 1 + (e - p))).length = (E.take e ++ J ++ T).length := by
            simp only [List.length_append, List.length_take, List.length_drop] at hrow ⊢; omega
          rw [hl']
          rw [hrow] at hnew ⊢
          exact hnew
        · simp only [List.length_append, List.length_take, List.length_drop] at hrow ⊢; omega
      rcases Decidable.em (cap = p + i + 1) with hce | hce
      · subst hce
        repeat (first | go_big_quiet_step (fail) | quiet_step (fail))
        refine wpQuiet_nil ?_
        intro w3 hw'
        have hb := below_of_regrown hw'
        obtain ⟨arr, hcp0, hl4⟩ := HCP.out w3 hb
        have hcp := fun ty dCap sCap => hcp0 ty dCap sCap (some ⟨g, 0, none⟩) (fun h => absurd h (by omega))
        clear hcp0 hb hw' HCP HL2 s0 s0' n0 n1 n2 n3
        have HL4 : Hid _ := hl4
        clear hl4
        have hz : E.length + N.length - (p + i + 1) = 0 := by omega
        simp only [hz] at hcp
        clear hz
        go_wp2_with fail
        clear hcp
        generalize w3.setRow g arr = w4 at HL4 ⊢
        obtain ⟨row1, hrow1⟩ : ∃ row1, (E.take e ++ J ++ T).take (p + i + 1) ++ ((E.take e ++ J ++ T).drop p).take (e - p) ++ (E.take e ++ J ++ T).drop (p + i + 1 + (e - p)) = row1 := ⟨_, rfl⟩
        obtain ⟨J2, hJ2, hset⟩ := lay_row (T := T) (x := x) hel hpe hJ
        rw [hrow1] at HL4 hset
        have HSET : Hid _ := hset
        clear hset hrow1
        have hr1 : row1.length = E.length + N.length := HL4.out.len
        obtain ⟨y, hy⟩ : ∃ y, row1[p + i]? = some y := ⟨_, List.getElem?_eq_getElem (by omega)⟩
        obtain ⟨g', cap', hv, _, _, _, hcell⟩ := row_cell (fun a => by rfl) HL4.out.own (by omega)
        simp only [Value.slice.injEq, Option.some.injEq, Addr.mk.injEq, and_true] at hv
        obtain ⟨rfl, hjk, rfl⟩ := hv
        clear hjk
        have r0 : w4.cell? ⟨g, (p + i) * 4, none⟩ = some (.string y.k) := hcell (p + i) y 0 hy (by omega)
        have r1 : w4.cell? ⟨g, (p + i) * 4 + 1, none⟩ = some (.int .i64 y.s) := hcell (p + i) y 1 hy (by omega)
        have r2 : w4.cell? ⟨g, (p + i) * 4 + 2, none⟩ = some (.bool y.g) := hcell (p + i) y 2 hy (by omega)
        have r3 : w4.cell? ⟨g, (p + i) * 4 + 3, none⟩ = some (.string y.v) := hcell (p + i) y 3 hy (by omega)
        have s0 : w4.cell? ⟨sb, 0, none⟩ = some (.slice (some ⟨g, 0, none⟩) (E.length + N.length) (p + i + 1)) := by simp [World.cell?, HL4.out.sto]
        have nc : ∀ f, f < 4 → w4.cell? ⟨gN, i * 4 + f, none⟩ = (En.cells x)[f]? := fun f hf => by
          rw [World.cell?_of_block (w := w) (a := ⟨gN, i * 4 + f, none⟩) (HL4.out.new.trans HN.out.2.1.symm), HN.out.2.2.1.cellAt _ (by omega)]
          exact flat_get _ 4 (fun a => by rfl) N i x f HX.out hf
        have n0 := cell_regrown (show w4.cell? ⟨gN, i * 4, none⟩ = some (.string x.k) from nc 0 (by omega))
        have n1 := cell_regrown (show w4.cell? ⟨gN, i * 4 + 1, none⟩ = some (.int .i64 x.s) from nc 1 (by omega))
        have n2 := cell_regrown (show w4.cell? ⟨gN, i * 4 + 2, none⟩ = some (.bool x.g) from nc 2 (by omega))
        have n3 := cell_regrown (show w4.cell? ⟨gN, i * 4 + 3, none⟩ = some (.string x.v) from nc 3 (by omega))
        have s0' := cell_regrown s0
        have HR1 : Hid (row1.length = E.length + N.length) := hr1
        clear nc hcell hy s0 hr1
        have hpi : (p : Int) + (i : Int) < (E.length : Int) + (N.length : Int) := by omega
        have hpi0 : (0 : Int) ≤ (p : Int) + (i : Int) := by omega
        have hpin : ((p : Int) + (i : Int)).toNat = p + i := by omega
        refine wp_region_quiet_tail 12 (by kernel_rfl) (by kernel_rfl) ?_
        simp only [List.take_succ_cons, List.take_zero, List.drop_succ_cons, List.drop_zero]
        repeat (first | go_big_quiet_step (fail) | quiet_step (fail))
        refine wpQuiet_nil ?_
        intro w5 hw'
        have hb := below_of_regrown hw'
        have r0 := cell_later hb r0
        have r1 := cell_later hb r1
        have r2 := cell_later hb r2
        have r3 := cell_later hb r3
        have HL5 : Hid (LayAt D t sb g gN (E.length + N.length) (.slice (some ⟨g, 0, none⟩) (E.length + N.length) (p + i + 1)) fl curN w row1 w5) := HL4.out.below hb
        have hfz : ∀ o, w5.frozen? ⟨g, o, none⟩ = false := fun o => by
          rcases HL5.out.own.2 with ⟨h, _⟩ | ⟨g2, cap2, cur, hv, _, hg, _⟩
          · cases h
          · simp only [Value.slice.injEq, Option.some.injEq, Addr.mk.injEq, and_true] at hv
            obtain ⟨rfl, _⟩ := hv
            simp [World.frozen?, hg]
        have HF : Hid (LayAt D t sb g gN (E.length + N.length) (.slice (some ⟨g, 0, none⟩) (E.length + N.length) (p + i + 1)) fl curN w (row1.set (p + i) x) ((((w5.setCell ⟨g, (p + i) * 4, none⟩ (.string x.k)).setCell ⟨g, (p + i) * 4 + 1, none⟩ (.int .i64 x.s)).setCell ⟨g, (p + i) * 4 + 2, none⟩ (.bool x.g)).setCell ⟨g, (p + i) * 4 + 3, none⟩ (.string x.v))) := by
          have hown := HL5.out.own
          rw [← HR1.out] at hown
          have hput := put_entry hown (p + i) x (by have := HR1.out; omega)
          have hl' : (row1.set (p + i) x).length = E.length + N.length := by rw [List.length_set, HR1.out]
          refine HL5.out.turn HGN.out hBg (fun k hk => ?_) ⟨rfl, rfl, rfl, by simp [World.setCell]⟩ ?_ hl'
          · rw [Below.heap_setCell _ _ _ _ hk, Below.heap_setCell _ _ _ _ hk, Below.heap_setCell _ _ _ _ hk, Below.heap_setCell _ _ _ _ hk]
          · rw [hl'] at hput ⊢
            exact hput
        clear hb hw' n0 n1 n2 n3 s0' HL4 HL5
        go_wp2
        go_roundg i
        case measure => omega
        case rel =>
          refine ⟨p, i, J2, x :: ((E.take e).drop p ++ T), rfl, ?_, Nat.le_refl _, hJ2, HI2.out, ?_⟩
          · cases i with
            | zero => exact .inl ⟨rfl, rfl⟩
            | succ i => exact .inr ⟨i, rfl, by congr 1; omega⟩
          · rw [← HSET.out]
            exact HF.out
      ·
        repeat (first | go_big_quiet_step (fail) | quiet_step (fail))
        refine wpQuiet_nil ?_
        intro w3 hw'
        have hb := below_of_regrown hw'
        obtain ⟨arr, hcp0, hl4⟩ := HCP.out w3 hb
        have hcp := fun ty dCap sCap => hcp0 ty dCap sCap (some ⟨g, (p + i + 1) * 4, none⟩) (fun _ => rfl)
        clear hcp0 hb hw' HCP HL2 s0 s0' n0 n1 n2 n3
        have HL4 : Hid _ := hl4
        clear hl4
        go_wp2_with fail
        clear hcp
        generalize w3.setRow g arr = w4 at HL4 ⊢
        obtain ⟨row1, hrow1⟩ : ∃ row1, (E.take e ++ J ++ T).take (p + i + 1) ++ ((E.take e ++ J ++ T).drop p).take (e - p) ++ (E.take e ++ J ++ T).drop (p + i + 1 + (e - p)) = row1 := ⟨_, rfl⟩
        obtain ⟨J2, hJ2, hset⟩ := lay_row (T := T) (x := x) hel hpe hJ
        rw [hrow1] at HL4 hset
        have HSET : Hid _ := hset
        clear hset hrow1
        have hr1 : row1.length = E.length + N.length := HL4.out.len
        obtain ⟨y, hy⟩ : ∃ y, row1[p + i]? = some y := ⟨_, List.getElem?_eq_getElem (by omega)⟩
        obtain ⟨g', cap', hv, _, _, _, hcell⟩ := row_cell (fun a => by rfl) HL4.out.own (by omega)
        simp only [Value.slice.injEq, Option.some.injEq, Addr.mk.injEq, and_true] at hv
        obtain ⟨rfl, hjk, rfl⟩ := hv
        clear hjk
        have r0 : w4.cell? ⟨g, (p + i) * 4, none⟩ = some (.string y.k) := hcell (p + i) y 0 hy (by omega)
        have r1 : w4.cell? ⟨g, (p + i) * 4 + 1, none⟩ = some (.int .i64 y.s) := hcell (p + i) y 1 hy (by omega)
        have r2 : w4.cell? ⟨g, (p + i) * 4 + 2, none⟩ = some (.bool y.g) := hcell (p + i) y 2 hy (by omega)
        have r3 : w4.cell? ⟨g, (p + i) * 4 + 3, none⟩ = some (.string y.v) := hcell (p + i) y 3 hy (by omega)
        have s0 : w4.cell? ⟨sb, 0, none⟩ = some (.slice (some ⟨g, 0, none⟩) (E.length + N.length) cap) := by simp [World.cell?, HL4.out.sto]
        have nc : ∀ f, f < 4 → w4.cell? ⟨gN, i * 4 + f, none⟩ = (En.cells x)[f]? := fun f hf => by
          rw [World.cell?_of_block (w := w) (a := ⟨gN, i * 4 + f, none⟩) (HL4.out.new.trans HN.out.2.1.symm), HN.out.2.2.1.cellAt _ (by omega)]
          exact flat_get _ 4 (fun a => by rfl) N i x f HX.out hf
        have n0 := cell_regrown (show w4.cell? ⟨gN, i * 4, none⟩ = some (.string x.k) from nc 0 (by omega))
        have n1 := cell_regrown (show w4.cell? ⟨gN, i * 4 + 1, none⟩ = some (.int .i64 x.s) from nc 1 (by omega))
        have n2 := cell_regrown (show w4.cell? ⟨gN, i * 4 + 2, none⟩ = some (.bool x.g) from nc 2 (by omega))
        have n3 := cell_regrown (show w4.cell? ⟨gN, i * 4 + 3, none⟩ = some (.string x.v) from nc 3 (by omega))
        have s0' := cell_regrown s0
        have HR1 : Hid (row1.length = E.length + N.length) := hr1
        clear nc hcell hy s0 hr1
        have hpi : (p : Int) + (i : Int) < (E.length : Int) + (N.length : Int) := by omega
        have hpi0 : (0 : Int) ≤ (p : Int) + (i : Int) := by omega
        have hpin : ((p : Int) + (i : Int)).toNat = p + i := by omega
        refine wp_region_quiet_tail 12 (by kernel_rfl) (by kernel_rfl) ?_
        simp only [List.take_succ_cons, List.take_zero, List.drop_succ_cons, List.drop_zero]
        repeat (first | go_big_quiet_step (fail) | quiet_step (fail))
        refine wpQuiet_nil ?_
        intro w5 hw'
        have hb := below_of_regrown hw'
        have r0 := cell_later hb r0
        have r1 := cell_later hb r1
        have r2 := cell_later hb r2
        have r3 := cell_later hb r3
        have HL5 : Hid (LayAt D t sb g gN (E.length + N.length) (.slice (some ⟨g, 0, none⟩) (E.length + N.length) cap) fl curN w row1 w5) := HL4.out.below hb
        have hfz : ∀ o, w5.frozen? ⟨g, o, none⟩ = false := fun o => by
          rcases HL5.out.own.2 with ⟨h, _⟩ | ⟨g2, cap2, cur, hv, _, hg, _⟩
          · cases h
          · simp only [Value.slice.injEq, Option.some.injEq, Addr.mk.injEq, and_true] at hv
            obtain ⟨rfl, _⟩ := hv
            simp [World.frozen?, hg]
        have HF : Hid (LayAt D t sb g gN (E.length + N.length) (.slice (some ⟨g, 0, none⟩) (E.length + N.length) cap) fl curN w (row1.set (p + i) x) ((((w5.setCell ⟨g, (p + i) * 4, none⟩ (.string x.k)).setCell ⟨g, (p + i) * 4 + 1, none⟩ (.int .i64 x.s)).setCell ⟨g, (p + i) * 4 + 2, none⟩ (.bool x.g)).setCell ⟨g, (p + i) * 4 + 3, none⟩ (.string x.v))) := by
          have hown := HL5.out.own
          rw [← HR1.out] at hown
          have hput := put_entry hown (p + i) x (by have := HR1.out; omega)
          have hl' : (row1.set (p + i) x).length = E.length + N.length := by rw [List.length_set, HR1.out]
          refine HL5.out.turn HGN.out hBg (fun k hk => ?_) ⟨rfl, rfl, rfl, by simp [World.setCell]⟩ ?_ hl'
          · rw [Below.heap_setCell _ _ _ _ hk, Below.heap_setCell _ _ _ _ hk, Below.heap_setCell _ _ _ _ hk, Below.heap_setCell _ _ _ _ hk]
          · rw [hl'] at hput ⊢
            exact hput
        clear hb hw' n0 n1 n2 n3 s0' HL4 HL5
        go_wp2
        go_roundg i
        case measure => omega
        case rel =>
          refine ⟨p, i, J2, x :: ((E.take e).drop p ++ T), rfl, ?_, Nat.le_refl _, hJ2, HI2.out, ?_⟩
          · cases i with
            | zero => exact .inl ⟨rfl, rfl⟩
            | succ i => exact .inr ⟨i, rfl, by congr 1; omega⟩
          · rw [← HSET.out]
            exact HF.out
end Go.Proofs.YtakipjofboipmaaGreatDoor
