/- The walks of this proof: marks; pairs that are the same; a frame by blocks and types. -/
import Derived.Test.YtojdkfamihlnkaaGreatDoorL2
import Derived.Lib.AppendIntMem
namespace Go.Proofs.YtojdkfamihlnkaaGreatDoor
open Go.RowKit Go.Sort

/-- Of what was there, only blocks k whose elements are of a type e with X k e may have turned. -/
structure Kx (X : Nat → Nat → Prop) (w w' : World) : Prop where
  os : w'.os = w.os
  tape : w'.tape = w.tape
  output : w'.output = w.output
  size : w.heap.size ≤ w'.heap.size
  block : ∀ k, k < w.heap.size → (∀ c e f, w.heap[k]? = some (.cells c e f) → ¬ X k e) → w'.heap[k]? = w.heap[k]?

theorem Kx.refl (X : Nat → Nat → Prop) (w : World) : Kx X w w := ⟨rfl, rfl, rfl, Nat.le_refl _, fun _ _ _ => rfl⟩

theorem Kx.trans {X : Nat → Nat → Prop} {a b c : World} (h : Kx X a b) (k : Kx X b c) : Kx X a c :=
  ⟨k.os.trans h.os, k.tape.trans h.tape, k.output.trans h.output, Nat.le_trans h.size k.size, fun i hi hor => by
    have e1 := h.block i hi hor
    rw [k.block i (Nat.lt_of_lt_of_le hi h.size) (by rw [e1]; exact hor), e1]⟩

theorem Kx.of_kd {X : Nat → Nat → Prop} {D : Nat → Prop} {ts : List Nat} {w w' : World} (h : Kd D ts w w') (hx : ∀ k e, k < w.heap.size → D k → e ∈ ts → X k e) : Kx X w w' :=
  ⟨h.os, h.tape, h.output, h.size, fun k hk hor => by
    by_cases hd : D k
    · exact h.block k hk (.inr fun c e f hc he => hor c e f hc (hx k e hk hd he))
    · exact h.block k hk (.inl hd)⟩

theorem Kx.of_below {X : Nat → Nat → Prop} {w w' : World} (h : Below w.heap.size w w') : Kx X w w' := ⟨h.os, h.tape, h.output, h.size, fun k hk _ => h.block k hk⟩

theorem Kx.mono {X Y : Nat → Nat → Prop} {w w' : World} (h : Kx X w w') (hx : ∀ k e, k < w.heap.size → X k e → Y k e) : Kx Y w w' :=
  ⟨h.os, h.tape, h.output, h.size, fun k hk hor => h.block k hk fun c e f hc hn => hor c e f hc (hx k e hk hn)⟩

theorem Kx.keep {X : Nat → Nat → Prop} {w w' : World} (h : Kx X w w') {k : Nat} {c : Array Value} {e : TypeId} {f : Nat × Nat} (hk : w.heap[k]? = some (.cells c e f)) (he : ¬ X k e) : w'.heap[k]? = some (.cells c e f) := by
  rw [h.block k (lt_of_block hk) (fun c' e' f' hc => by rw [hk] at hc; simp only [Option.some.injEq, Obj.cells.injEq] at hc; rw [← hc.2.1]; exact he)]
  exact hk

theorem Kx.owns {X : Nat → Nat → Prop} {w w' : World} (h : Kx X w w') {base : Nat} {e : TypeId} {size : Nat} {v : Value} {n : Nat} {xs : List Value} (ho : w.ownsRow base e size v n xs) (he : ∀ g, v.ownBlock = some g → g < w.heap.size → ¬ X g e) : w'.ownsRow base e size v n xs := by
  refine ⟨ho.1, ?_⟩
  rcases ho.2 with hn | ⟨g, cap, cur, rfl, hb, hg, r⟩
  · exact .inl hn
  · exact .inr ⟨g, cap, cur, rfl, hb, h.keep hg (he g rfl (lt_of_block hg)), r⟩

theorem Kx.below {X : Nat → Nat → Prop} {N : Nat} {w w' : World} (h : Kx X w w') (hN : N ≤ w.heap.size) (hx : ∀ k e, X k e → N ≤ k) : Below N w w' :=
  ⟨h.os, h.tape, h.output, h.size, fun k hk => h.block k (by omega) fun c e f _ hxx => by have := hx k e hxx; omega⟩

/-- A pair that tells a mark. -/
def mk (m : Int) : Pr := ⟨⟨#[109, 97, 114, 107]⟩, ⟨(Lib.itoa m).toArray⟩, true⟩

theorem below_grow_drewN (w : World) (k : Nat) (os : Array Obj) : Below w.heap.size w (grow (w.drewN k) os) := by
  exact Lib.below_grow w.heap.size w (Nat.le_refl _) k os

abbrev Tab (w : World) : Prop := Lib.TabIs Tryz.prog w "internal/strconv.uint64pow10" .u64 Lib.pow10Tab

set_option maxHeartbeats 400000 in
theorem markPair_any (m : Int) (h0 : -9223372036854775808 ≤ m) (h1 : m ≤ 9223372036854775807) (w : World) (ht : ∀ w', Below w.heap.size w w' → Tab w') :
    Calls Tryz.prog 17 #[.int .i64 m] w fun e w' => e = .returned (.agg #[.string (mk m).k, .string (mk m).v, .bool (mk m).g]) ∧ Below w.heap.size w w' := by
  have HI : Hid (∀ w', Below w.heap.size w w' → Calls Tryz.prog 44 #[.int .i64 m] w' fun e w'' => e = .returned (.string ⟨(Lib.itoa m).toArray⟩) ∧ Below w'.heap.size w' w'') := fun w' hb =>
    (Tryz.strconv_Itoa m h0 h1 w' (ht w' hb)).mono fun e w'' ⟨he, k, os, hw⟩ => ⟨he, by rw [hw]; exact below_grow_drewN w' k os⟩
  unfold mk
  simp only
  generalize (⟨(Lib.itoa m).toArray⟩ : ByteArray) = s at HI
  clear ht
  go_enter Tryz.func17, Tryz.ntmps17
  go_wp2_with fail
  refine Calls.mono (HI.out _ ((Below.refl _ _).alloc (Nat.le_refl _) _)) ?_
  rintro e w1 ⟨rfl, hb⟩
  have hs : w.heap.size < w1.heap.size := Nat.lt_of_lt_of_le (by simp) hb.size
  have c0 : w1.cell? ⟨w.heap.size, 0, none⟩ = some (.string ⟨#[]⟩) := by rw [hb.cell (by simp)]; simp
  have c1 : w1.cell? ⟨w.heap.size, 1, none⟩ = some (.string ⟨#[]⟩) := by rw [hb.cell (by simp)]; simp
  have c2 : w1.cell? ⟨w.heap.size, 2, none⟩ = some (.bool false) := by rw [hb.cell (by simp)]; simp
  have f0 : w1.frozen? ⟨w.heap.size, 0, none⟩ = false := by rw [hb.frozen (by simp)]; simp
  have f1 : w1.frozen? ⟨w.heap.size, 1, none⟩ = false := by rw [hb.frozen (by simp)]; simp
  have f2 : w1.frozen? ⟨w.heap.size, 2, none⟩ = false := by rw [hb.frozen (by simp)]; simp
  have HB : Hid (Below w.heap.size w (((w1.setCell ⟨w.heap.size, 0, none⟩ (.string ⟨#[109, 97, 114, 107]⟩)).setCell ⟨w.heap.size, 1, none⟩ (.string s)).setCell ⟨w.heap.size, 2, none⟩ (.bool true))) := by
    have hb' : Below w.heap.size w w1 := ((Below.refl _ _).alloc (Nat.le_refl _) _).trans (hb.mono (by simp))
    exact ((hb'.setCell (Nat.le_refl _) _).setCell (Nat.le_refl _) _).setCell (Nat.le_refl _) _
  clear hb
  go_wp2
  exact bodyPost_ret (v := .agg #[.string ⟨#[109, 97, 114, 107]⟩, .string s, .bool true]) (by simp [results, Tryz.results17, go_sem, c0, c1, c2]) rfl ⟨rfl, HB.out⟩

set_option maxHeartbeats 400000 in
theorem mark_any (wb : Nat) (n : Int) (w : World) (h0 : 0 ≤ n) (h1 : n < 1000000000) (hc : w.cell? ⟨wb, 10, none⟩ = some (.int .i64 n)) (hf : w.frozen? ⟨wb, 10, none⟩ = false) :
    Calls Tryz.prog 64 #[.pointer (some ⟨wb, 2, none⟩)] w fun e w' => e = .returned (.int .i64 (-(n + 1))) ∧ w' = w.setCell ⟨wb, 10, none⟩ (.int .i64 (n + 1)) := by
  have hc1 : (w.setCell ⟨wb, 10, none⟩ (.int .i64 (n + 1))).cell? ⟨wb, 10, none⟩ = some (.int .i64 (n + 1)) := by
    have := World.cell?_setCell_same w ⟨wb, 10, none⟩ (.int .i64 (n + 1)) hc
    exact this
  go_enter Tryz.func64, Tryz.ntmps64
  go_wp2
  go_ret
  exact ⟨by simp, rfl⟩

set_option maxHeartbeats 1000000 in
set_option maxRecDepth 100000 in
theorem samePairs_any (L : List Pr) (v1 v2 : Value) (b1 b2 : Nat) (w : World) (h1 : w.ownsRow b1 57 3 v1 L.length (pcells L)) (h2 : w.ownsRow b2 57 3 v2 L.length (pcells L)) (hl : L.length < 1000000000) :
    Calls Tryz.prog 57 #[v1, v2] w fun e w' => e = .returned (.bool true) ∧ Below w.heap.size w w' := by
  obtain ⟨ao1, cap1, rfl⟩ := slice_form h1
  obtain ⟨ao2, cap2, rfl⟩ := slice_form h2
  have H1 : Hid _ := h1
  have H2 : Hid _ := h2
  clear h1 h2
  go_enter Tryz.func57, Tryz.ntmps57
  go_wp2
  go_loopw [5] (fun i wr => ∃ k : Nat, k ≤ L.length ∧ i = .int .i64 k ∧ Hid (Below w.heap.size w wr)) (fun i _ => L.length - (intOf i).toNat)
  case atStart => exact ⟨0, Nat.zero_le _, rfl, Below.refl _ _⟩
  case round =>
    obtain ⟨k, hk, rfl, HB⟩ := hrel
    by_cases hlt : k < L.length
    · obtain ⟨g, cap', hv', hbg, hgl, hcap, hcell⟩ := pr_cells H1.out HB.out (by omega)
      simp only [Value.slice.injEq, true_and] at hv'
      obtain ⟨rfl, rfl⟩ := hv'
      obtain ⟨g2, cap2', hv', hbg2, hgl2, hcap2, hcell2⟩ := pr_cells H2.out HB.out (by omega)
      simp only [Value.slice.injEq, true_and] at hv'
      obtain ⟨rfl, rfl⟩ := hv'
      obtain ⟨p, hp⟩ : ∃ p, L[k]? = some p := ⟨_, List.getElem?_eq_getElem hlt⟩
      obtain ⟨c0, c1, c2⟩ := hcell k p hp
      obtain ⟨d0, d1, d2⟩ := hcell2 k p hp
      have c0 := cell_regrown c0
      have c1 := cell_regrown c1
      have c2 := cell_regrown c2
      have d0 := cell_regrown d0
      have d1 := cell_regrown d1
      have d2 := cell_regrown d2
      have hkl : (k : Int) < (L.length : Int) := by omega
      clear hp hcell hcell2
      go_wp2
      refine wp_region_quiet_below (by kernel_rfl) (by kernel_rfl) ?_
      repeat (first | go_big_quiet_step (fail) | quiet_step (fail))
      refine wpQuiet_nil ?_
      intro w2 hw'
      have hb := below_of_regrown hw'
      have HB2 : Hid (Below w.heap.size w w2) := below_trans' HB.out hb
      clear hb hw'
      go_wp2
      go_roundw
      case rel => exact ⟨k + 1, by omega, by go_num, HB2.out⟩
      case measure => simp [intOf]; omega
    · go_wp2
      go_ret
      exact ⟨rfl, HB.out⟩


theorem run_append_keeps {P : Program} (w : World) (t ty e : TypeId) (i : TypeInfo) (z : Value) (size bytes base : Nat) (ht : P.underlying t = some (.slice e)) (hi : P.info? e = some i) (hz : i.zero = some z)
    (hsize : i.size = size) (hby : i.bytes = bytes) (hzs : z.cells.size = size) (hsz : 0 < size)
    (v : Value) (n : Nat) (xs : List Value) (hown : w.ownsRow base e size v n xs)
    (a : Addr) (m c : Nat) (news : List Value) (hl : news.length = m * size) (hnews : ∀ j u, news[j]? = some u → w.cell? (a.add j) = some u) (h1 : ∀ u ∈ news, u.oneCell' = true)
    (hm : 0 < m) (h63 : n + m ≤ maxLen) (hbytes : (n + m) * bytes ≤ 140737488355328) (hbase : base ≤ w.heap.size) :
    ∃ g cap w', (Builtin.append_ #[t, t] ty #[v, .slice (some a) m c]).run P w = .ok (.slice (some ⟨g, 0, none⟩) (n + m) cap) w' ∧ w'.ownsRow base e size (.slice (some ⟨g, 0, none⟩) (n + m) cap) (n + m) (xs ++ news) ∧
      Kd (fun k => v.ownBlock = some k) [e] w w' ∧ (v.ownBlock = some g ∨ g = w.heap.size) ∧ ∀ b' v' n' ys, w.ownsRow b' e size v' n' ys → n' ≤ n → w'.ownsRow b' e size v' n' ys := by
  subst hsize
  subst hby
  have hlen : (xs ++ news).length = (n + m) * i.size := by rw [List.length_append, hown.1, hl, Nat.add_mul]
  have grown : ∀ (old : Nat), old < n + m →
      (w.drew.alloc (.cells (xs.toArray ++ news.toArray ++ Builtin.zeroCells z.cells (grownCap w (n + m) old e - (n + m))) e)).ownsRow base e i.size
        (.slice (some ⟨w.heap.size, 0, none⟩) (n + m) (grownCap w (n + m) old e)) (n + m) (xs ++ news) := by
    intro old ho
    have hge := grownCap_ge w (n + m) old e
    have hcm : grownCap w (n + m) old e ≤ maxLen := grownCap_le_maxLen w (n + m) old e h63
    refine ⟨hlen, .inr ⟨w.heap.size, _, _, rfl, hbase, heap_alloc_new w.drew _, hge, hcm, ?_, ?_⟩⟩
    · simp only [Array.size_append, List.size_toArray, size_zeroCells, hzs, hown.1, hl, ← Nat.add_mul]
      congr 1
      omega
    · simp only [Array.toList_append, List.append_assoc]
      rw [← List.append_assoc, ← hlen]
      exact List.take_left
  have bel : ∀ o : Obj, Below w.heap.size w (w.drew.alloc o) := fun o => ((Below.refl _ _).drew).alloc (Nat.le_refl _) o
  have fin : ∀ (old : Nat), old < n + m → ∀ w', w' = (w.drew.alloc (.cells (xs.toArray ++ news.toArray ++ Builtin.zeroCells z.cells (grownCap w (n + m) old e - (n + m))) e)) →
      w'.ownsRow base e i.size (.slice (some ⟨w.heap.size, 0, none⟩) (n + m) (grownCap w (n + m) old e)) (n + m) (xs ++ news) ∧
      Kd (fun k => v.ownBlock = some k) [e] w w' ∧ (v.ownBlock = some w.heap.size ∨ w.heap.size = w.heap.size) ∧ ∀ b' v' n' ys, w.ownsRow b' e i.size v' n' ys → n' ≤ n → w'.ownsRow b' e i.size v' n' ys := by
    rintro old ho w' rfl
    exact ⟨grown old ho, Kd.of_below (bel _), .inr rfl, fun b' v' n' ys h _ => (Kd.of_below (D := fun _ => False) (ts := []) (bel _)).owns h (by simp)⟩
  rcases hown.2 with ⟨rfl, rfl⟩ | ⟨g, cap, cur, rfl, hbg, hg, hnc, hcm, hcs, htake⟩
  · have hx : xs = [] := List.eq_nil_of_length_eq_zero (by simpa using hown.1)
    subst hx
    have hr := run_append_nil (P := P) w t ty e i z ht hi hz a m c news hl hnews (by omega) (by unfold maxLen at h63; omega) (by have hb := hbytes; simp only [Nat.zero_add] at hb; omega)
    obtain ⟨a1, a2, _, a4⟩ := fin 0 (by omega) _ rfl
    simp only [Nat.zero_add, List.nil_append, Array.empty_append] at a1 a2 a4
    simp only [Nat.zero_add, List.nil_append]
    exact ⟨_, _, _, hr, a1, a2, .inr rfl, fun b' v' n' ys h hn => a4 b' v' n' ys h hn⟩
  · by_cases hroom : n + m ≤ cap
    · have hfit : n * i.size + news.length ≤ cur.size := by rw [hl, hcs, ← Nat.add_mul]; exact Nat.mul_le_mul_right _ hroom
      have hr := run_append_room (P := P) w t ty e i ht hi g n cap cur hg a m c news hl hnews h1 hroom hfit
      refine ⟨g, cap, _, hr, ⟨hlen, .inr ⟨g, cap, _, rfl, hbg, setRow_heap w g cur _ e _ hg, hroom, hcm, ?_, ?_⟩⟩, ?_, .inl rfl, ?_⟩
      · simp only [List.size_toArray, List.length_append, List.length_take, List.length_drop, Array.length_toList]
        omega
      · rw [htake, ← hlen]
        exact List.take_left
      · refine ⟨rfl, rfl, rfl, by simp, fun k _ hor => setRow_other w g k _ (fun ek => ?_)⟩
        subst ek
        rcases hor with h2 | h2
        · exact h2 rfl
        · exact h2 _ _ _ hg (by simp)
      · intro b' v' n' ys h' hn'
        refine ⟨h'.1, ?_⟩
        rcases h'.2 with hn | ⟨g', cap', cur', rfl, hb', hg', r1, r2, r3, r4⟩
        · exact .inl hn
        · by_cases hgg : g' = g
          · subst hgg
            rw [hg] at hg'
            simp only [Option.some.injEq, Obj.cells.injEq] at hg'
            obtain ⟨rfl, _, _⟩ := hg'
            refine .inr ⟨g', cap', _, rfl, hb', setRow_heap w g' cur _ e _ hg, r1, r2, ?_, ?_⟩
            · simp only [List.size_toArray, List.length_append, List.length_take, List.length_drop, Array.length_toList]
              omega
            · rw [← r4]
              have hle : n' * i.size ≤ n * i.size := Nat.mul_le_mul_right _ hn'
              show List.take _ (_ ++ _ ++ _) = _
              rw [List.append_assoc, List.take_append_of_le_length (by rw [List.length_take, Array.length_toList]; omega), List.take_take, Nat.min_eq_left hle]
          · exact .inr ⟨g', cap', cur', rfl, hb', (setRow_other w g g' _ hgg).trans hg', r1, r2, r3, r4⟩
    · have holds : ∀ j u, xs[j]? = some u → w.cell? ((⟨g, 0, none⟩ : Addr).add j) = some u := hown.cells (g := g) rfl
      have hr := run_append_grow (P := P) w t ty e i z ht hi hz ⟨g, 0, none⟩ n cap xs hown.1 holds a m c news hl hnews (by omega) (by unfold maxLen at h63; omega) (growslice_fits (by omega) hbytes)
      exact ⟨_, _, _, hr, fin cap (by omega) _ rfl⟩

theorem wpList_append_keeps {P : Program} {w : World} {ops : Array Oper} {rest : List Oper} {o : Oper} {act : Act} {Q : Exit → Act → World → Prop} (hgd : o.guard = none) (s x : Operand) (t : TypeId)
    (ho : o.op = .call { callee := .builtin .append, args := #[s, x], argTypes := #[t, t] })
    (base : Nat) (e : TypeId) (i : TypeInfo) (z : Value) (size bytes : Nat) (ht : P.underlying t = some (.slice e)) (hi : P.info? e = some i) (hz : i.zero = some z)
    (hsize : i.size = size) (hby : i.bytes = bytes) (hzs : z.cells.size = size) (hsz : 0 < size)
    (v : Value) (n : Nat) (xs : List Value) (hs : act.eval s = v) (hown : w.ownsRow base e size v n xs)
    (ad : Addr) (m c : Nat) (news : List Value) (hx : act.eval x = .slice (some ad) m c) (hl : news.length = m * size) (hnews : ∀ j u, news[j]? = some u → w.cell? (ad.add j) = some u) (h1 : ∀ u ∈ news, u.oneCell' = true)
    (hm : 0 < m) (h63 : n + m ≤ maxLen) (hbytes : (n + m) * bytes ≤ 140737488355328) (hbase : base ≤ w.heap.size)
    (h : ∀ g cap w', w'.ownsRow base e size (.slice (some ⟨g, 0, none⟩) (n + m) cap) (n + m) (xs ++ news) → Kd (fun k => v.ownBlock = some k) [e] w w' → (v.ownBlock = some g ∨ g = w.heap.size) → (∀ b' v' n' ys, w.ownsRow b' e size v' n' ys → n' ≤ n → w'.ownsRow b' e size v' n' ys) → wpList P ops Q rest (act.put o.dst (.slice (some ⟨g, 0, none⟩) (n + m) cap)) w') : wpList P ops Q (o :: rest) act w := by
  refine wpList_plain hgd fun _ hK => ?_
  obtain ⟨g, cap, w', hr, h2, h3, h4, h5⟩ := run_append_keeps (P := P) w t o.type e i z size bytes base ht hi hz hsize hby hzs hsz v n xs hown ad m c news hl hnews h1 hm h63 hbytes hbase
  unfold Oper.wp execOp
  simp only [ho, resolve, invoke, builtin, Sem.run_bind, Sem.run_pure, Result.andThen_ok, List.map_toArray, List.map_cons, List.map_nil, hs, hx, hr]
  exact hK _ _ (h g cap w' h2 h3 h4 h5)
end Go.Proofs.YtojdkfamihlnkaaGreatDoor
