/- The walks of this proof, for later statements: the document's store with its tables; an append of a row; the entries of batches. -/
import Derived.Test.YtakipjofboipmaaGreatDoorJ27
import Derived.Test.YtakipjofboipmaaGreatDoorJ23
import Derived.Laws.AppendOwnNone
namespace Go.Proofs.YtakipjofboipmaaGreatDoor
open Go.RowKit Go.Sort

/-- An append of a whole row, which may be nil. -/
theorem wpList_append_own_row {P : Program} (w : World) {ops : Array Oper} {rest : List Oper} {o : Oper} {a : Act} {Q : Exit → Act → World → Prop} (hgd : o.guard = none) (s x : Operand) (t : TypeId)
    (ho : o.op = .call { callee := .builtin .append, args := #[s, x], argTypes := #[t, t] })
    (base : Nat) (e : TypeId) (i : TypeInfo) (z : Value) (size bytes : Nat) (ht : P.underlying t = some (.slice e)) (hi : P.info? e = some i) (hz : i.zero = some z)
    (hsize : i.size = size) (hby : i.bytes = bytes) (hzs : z.cells.size = size) (hsz : 0 < size)
    (v : Value) (n : Nat) (xs : List Value) (hs : a.eval s = v) (hown : w.ownsRow base e size v n xs)
    (base' m : Nat) (y : Value) (news : List Value) (hx : a.eval x = y) (hsrc : w.ownsRow base' e size y m news) (h1 : ∀ u ∈ news, u.oneCell' = true)
    (h63 : n + m ≤ maxLen) (hbytes : (n + m) * bytes ≤ 140737488355328) (hbase : base ≤ w.heap.size)
    (h : ∀ v' w', w'.ownsRow base e size v' (n + m) (xs ++ news) → (w' = w ∨ w.grownBy w' v.ownBlock) → wpList P ops Q rest (a.put o.dst v') w') : wpList P ops Q (o :: rest) a w := by
  obtain ⟨hlen, h2⟩ := hsrc
  rcases h2 with ⟨h3, h4⟩ | ⟨g, cap, cur, h3, h4, h5, h6, h7, h8, h9⟩
  · subst h4
    have hn : news = [] := List.length_eq_zero_iff.1 (by omega)
    subst hn
    exact wpList_append_own_none hgd s x t ho base e i size ht hi v n xs hs hown (by rw [hx, h3]) (h v w (by simpa using hown) (.inl rfl))
  · exact wpList_append_own w hgd s x t ho base e i z size bytes ht hi hz hsize hby hzs hsz v n xs hs hown ⟨g, 0, none⟩ m cap news (by rw [hx, h3]) hlen
      (World.ownsRow.cells (base := base') (e := e) (size := size) (v := y) (n := m) ⟨hlen, .inr ⟨g, cap, cur, h3, h4, h5, h6, h7, h8, h9⟩⟩ (by rw [h3]; rfl)) h1 h63 hbytes hbase (fun v' w' a1 a2 _ => h v' w' a1 (.inr a2))

/-- A table: its level, its entries. -/
abbrev Tb := Int × List En

def rtcells (T : List Tb) (Vs : List Value) : List Value := (T.zip Vs).flatMap fun x => [.int .i64 x.1.1, x.2]

/-- Tables, each with a row of D. -/
def TabAt (D : Nat → Prop) (w : World) (vT : Value) (T : List Tb) : Prop :=
  ∃ Vs : List Value, Vs.length = T.length ∧ OwnsIn w D 64 2 vT T.length (rtcells T Vs) ∧ ∀ (i : Nat) (t : Tb), T[i]? = some t → ∃ vi, Vs[i]? = some vi ∧ OwnsIn w D 61 4 vi t.2.length (ecells t.2)

/-- The document's store that lies in block rb, with its tables. -/
def RefT (D : Nat → Prop) (rb : Nat) (y : Rf) (la sy : Int) (T : List Tb) (w : World) : Prop :=
  ∃ (vA vS vT : Value), D rb ∧ w.heap[rb]? = some (.cells #[vA, .int .i64 la, .int .i64 sy, vS, .int .i64 y.num, vT] 85 (0, 0)) ∧
    RAll D w vA y.A ∧ OwnsIn w D 138 2 vS y.S.length (scells y.S) ∧ TabAt D w vT T

theorem TabAt.kept {D D' : Nat → Prop} {ts : List Nat} {w w' : World} {vT : Value} {T : List Tb} (h : TabAt D w vT T) (k : Kd D' ts w w') (h1 : 64 ∉ ts) (h2 : 61 ∉ ts) : TabAt D w' vT T := by
  obtain ⟨Vs, h3, h4, h5⟩ := h
  exact ⟨Vs, h3, k.ownsIn h4 h1, fun i b hb => by obtain ⟨vi, h6, h7⟩ := h5 i b hb; exact ⟨vi, h6, k.ownsIn h7 h2⟩⟩

theorem TabAt.apart {D D' : Nat → Prop} {ts : List Nat} {w w' : World} {vT : Value} {T : List Tb} (h : TabAt D w vT T) (k : Kd D' ts w w') (hd : ∀ b, D b → b < w.heap.size → ¬ D' b) : TabAt D w' vT T := by
  obtain ⟨Vs, h3, h4, h5⟩ := h
  exact ⟨Vs, h3, h4.apart k hd, fun i b hb => by obtain ⟨vi, h6, h7⟩ := h5 i b hb; exact ⟨vi, h6, h7.apart k hd⟩⟩

theorem TabAt.below {D : Nat → Prop} {w w' : World} {vT : Value} {T : List Tb} (h : TabAt D w vT T) (hb : Below w.heap.size w w') : TabAt D w' vT T :=
  h.kept (Kd.of_below (D := D) (ts := []) hb) (by simp) (by simp)

theorem RefT.kept {D D' : Nat → Prop} {rb : Nat} {ts : List Nat} {y : Rf} {la sy : Int} {T : List Tb} {w w' : World} (h : RefT D rb y la sy T w) (k : Kd D' ts w w') (h1 : 85 ∉ ts) (h2 : 38 ∉ ts) (h3 : 57 ∉ ts) (h4 : 138 ∉ ts) (h5 : 64 ∉ ts) (h6 : 61 ∉ ts) : RefT D rb y la sy T w' := by
  obtain ⟨vA, vS, vT, hB, hs, hA, hS, hT⟩ := h
  exact ⟨vA, vS, vT, hB, k.keep hs h1, hA.kept k h2 h3, k.ownsIn hS h4, hT.kept k h5 h6⟩

theorem RefT.apart {D D' : Nat → Prop} {rb : Nat} {ts : List Nat} {y : Rf} {la sy : Int} {T : List Tb} {w w' : World} (h : RefT D rb y la sy T w) (k : Kd D' ts w w') (hd : ∀ b, D b → b < w.heap.size → ¬ D' b) : RefT D rb y la sy T w' := by
  obtain ⟨vA, vS, vT, hB, hs, hA, hS, hT⟩ := h
  exact ⟨vA, vS, vT, hB, k.keepN hs (hd rb hB (lt_of_block hs)), hA.apart k hd, hS.apart k hd, hT.apart k hd⟩

theorem RefT.below {D : Nat → Prop} {rb : Nat} {y : Rf} {la sy : Int} {T : List Tb} {w w' : World} (h : RefT D rb y la sy T w) (hb : Below w.heap.size w w') : RefT D rb y la sy T w' :=
  h.kept (Kd.of_below (D := D) (ts := []) hb) (by simp) (by simp) (by simp) (by simp) (by simp) (by simp)

theorem RefT.ref {D : Nat → Prop} {rb : Nat} {y : Rf} {la sy : Int} {T : List Tb} {w : World} (h : RefT D rb y la sy T w) : RefAt D rb y w := by
  obtain ⟨vA, vS, vT, hB, hs, hA, hS, _⟩ := h
  exact ⟨vA, vS, vT, la, sy, hB, hs, hA, hS⟩

theorem RefT.snaps {D : Nat → Prop} {rb : Nat} {y : Rf} {la sy : Int} {T : List Tb} {w : World} (h : RefT D rb y la sy T w) : SnAt rb y.S w := by
  obtain ⟨vA, vS, vT, hB, hs, hA, hS, _⟩ := h
  obtain ⟨ao, cap, rfl⟩ := slice_form hS.own
  refine ⟨ao, cap, by simp [World.cell?, hs], fun h0 => ?_⟩
  obtain ⟨g, cap', hv, _, _, hcap, hcell⟩ := row_cell (f := Sn.cells) (fun a => by rfl) hS.own h0
  simp only [Value.slice.injEq, true_and] at hv
  obtain ⟨rfl, rfl⟩ := hv
  exact ⟨g, rfl, hcap, fun k s hs => hcell k s 1 hs (by omega)⟩

/-- The entries of batches, the first of which has the number behind s. -/
def rents : Nat → List (List Pr) → List En
  | _, [] => []
  | s, b :: r => b.map (toEn ((s : Int) + 1)) ++ rents (s + 1) r

theorem rents_snoc (b : List Pr) : ∀ (l : List (List Pr)) (s : Nat), rents s (l ++ [b]) = rents s l ++ b.map (toEn (((s + l.length : Nat) : Int) + 1))
  | [], s => by simp [rents]
  | c :: l, s => by
    have := rents_snoc b l (s + 1)
    simp only [List.cons_append, rents, this, List.append_assoc, List.length_cons]
    rw [show s + 1 + l.length = s + (l.length + 1) by omega]

theorem ents_step {A : List (List Pr)} {la i : Nat} {b : List Pr} (hl : la ≤ i) (hb : A[i]? = some b) : rents la ((A.take (i + 1)).drop la) = rents la ((A.take i).drop la) ++ b.map (toEn ((i : Int) + 1)) := by
  have hi : i < A.length := (List.getElem?_eq_some_iff.1 hb).1
  rw [List.take_add_one, hb, List.drop_append_of_le_length (by rw [List.length_take]; omega), Option.toList_some, rents_snoc]
  congr 4
  rw [List.length_drop, List.length_take]
  omega

theorem rents_len {A : List (List Pr)} (h4 : ∀ b ∈ A, b.length ≤ 4) : ∀ s, (rents s A).length ≤ 4 * A.length := by
  induction A with
  | nil => intro s; simp [rents]
  | cons b r ih =>
    intro s
    have h1 := h4 b (by simp)
    have h2 := ih (fun c hc => h4 c (by simp [hc])) (s + 1)
    simp only [rents, List.length_append, List.length_map, List.length_cons]
    omega

theorem rents_mem {e : En} : ∀ {A : List (List Pr)} {s : Nat}, e ∈ rents s A → ∃ (i : Nat) (b : List Pr) (p : Pr), A[i]? = some b ∧ p ∈ b ∧ e = toEn (((s + i : Nat) : Int) + 1) p
  | [], _, h => by simp [rents] at h
  | b :: r, s, h => by
    rw [rents, List.mem_append] at h
    rcases h with h | h
    · obtain ⟨p, hp, rfl⟩ := List.mem_map.1 h
      exact ⟨0, b, p, rfl, hp, rfl⟩
    · obtain ⟨i, c, p, h1, h2, h3⟩ := rents_mem h
      exact ⟨i + 1, c, p, h1, h2, by rw [h3, show s + 1 + i = s + (i + 1) by omega]⟩

theorem rents_dist : ∀ {A : List (List Pr)} {s : Nat}, (∀ b ∈ A, b.Pairwise fun p q => p.k ≠ q.k) → DistE (rents s A)
  | [], _, _ => List.Pairwise.nil
  | b :: r, s, h => by
    rw [rents]
    unfold DistE
    refine List.pairwise_append.2 ⟨?_, rents_dist fun c hc => h c (by simp [hc]), fun x hx y hy hxy => ?_⟩
    · rw [List.pairwise_map]
      exact (h b (by simp)).imp fun {p q} hpq h' => hpq h'.1
    · obtain ⟨p, hp, rfl⟩ := List.mem_map.1 hx
      obtain ⟨i, c, q, h1, h2, rfl⟩ := rents_mem hy
      have := hxy.2
      simp only [toEn] at this
      omega
end Go.Proofs.YtakipjofboipmaaGreatDoor

/- The walks of this proof, for later statements: the document's store with its tables: snapshots. -/
namespace Go.Proofs.YtakipjofboipmaaGreatDoor
open Go.RowKit Go.Sort

/-- The snapshots' row put into its field. -/
theorem rput_snapsT {D : Nat → Prop} {rb : Nat} {y : Rf} {w : World} {vA vS vS' vT : Value} {la sy nm : Int} {S' : List Sn} {Tt : List Tb} (hs : w.heap[rb]? = some (.cells #[vA, .int .i64 la, .int .i64 sy, vS, .int .i64 nm, vT] 85 (0, 0))) (hB : D rb)
    (hA : RAll D w vA y.A) (hT : TabAt D w vT Tt) (hS : OwnsIn w D 138 2 vS' S'.length (scells S')) :
    RefT D rb { y with S := S', num := nm } la sy Tt (w.setCell ⟨rb, 3, none⟩ vS') := by
  have k := Kd.field hB hs 3 vS'
  refine ⟨vA, vS', vT, hB, ?_, hA.kept k (by simp) (by simp), k.ownsIn hS (by simp), hT.kept k (by simp) (by simp)⟩
  rw [set_field6 hs 3 vS']
  simp

set_option maxHeartbeats 2000000 in
theorem refSnapT_any (D : Nat → Prop) (rb : Nat) (y : Rf) (la sy : Int) (Tt : List Tb) (w : World) (hy : RefT D rb y la sy Tt w) (hD : Opn D w) (ok : RfOk y) (h0 : 0 ≤ y.num) (h1 : y.num < 1100000000000) :
    Calls Tryz.prog 27 #[.pointer (some ⟨rb, 0, none⟩)] w fun e w' =>
      (y.S.length = 4 ∧ e = .returned (.tuple #[.int .i64 0, .int .i64 7]) ∧ w' = w) ∨
      (y.S.length < 4 ∧ e = .returned (.tuple #[.int .i64 (y.num + 1), .int .i64 0]) ∧ RefT D rb { y with S := y.S ++ [⟨y.num + 1, y.A.length⟩], num := y.num + 1 } la sy Tt w' ∧ Kd D [85, 138] w w') := by
  obtain ⟨vA, vS, vT, hB, hs, hA, hS, hT⟩ := hy
  have HTT : Hid (TabAt D w vT Tt) := hT
  clear hT
  obtain ⟨i0, hi, hz0, hz1, hz2⟩ := info_parts Tryz.info138
  have hl4 := ok.snaps
  obtain ⟨aoS, capS, rfl⟩ := slice_form hS.own
  by_cases h4 : y.S.length = 4
  · have c3 : w.cell? ⟨rb, 3, none⟩ = some (.slice aoS 4 capS) := by simp [World.cell?, hs, h4]
    clear hs hA hS ok
    go_enter Tryz.func27, Tryz.ntmps27
    go_wp2
    go_ret2
    exact .inl ⟨h4, rfl, rfl⟩
  · have c3 : w.cell? ⟨rb, 3, none⟩ = some (.slice aoS y.S.length capS) := by simp [World.cell?, hs]
    have hd4 : ((y.S.length : Int) == 4) = false := by rw [beq_eq_false_iff_ne]; omega
    obtain ⟨nm, hnm⟩ : ∃ nm, y.num = nm := ⟨_, rfl⟩
    rw [hnm] at hs h0 h1 ⊢
    have c4 : w.cell? ⟨rb, 4, none⟩ = some (.int .i64 nm) := by simp [World.cell?, hs]
    have f4 : w.frozen? ⟨rb, 4, none⟩ = false := by simp [World.frozen?, hs]
    have k1 := Kd.field hB hs 4 (.int .i64 (nm + 1))
    have s1 := set_field6 hs 4 (.int .i64 (nm + 1))
    have a1 := hA.kept k1 (by simp) (by simp)
    have o1 := k1.ownsIn hS (by simp)
    generalize hw1 : w.setCell ⟨rb, 4, none⟩ (.int .i64 (nm + 1)) = w1 at k1 s1 a1 o1
    simp only [List.setIfInBounds_toArray, List.set_cons_succ, List.set_cons_zero] at s1
    have HA1 : Hid (RAll D w1 vA y.A) := a1
    obtain ⟨Ws, hW, _⟩ := a1
    obtain ⟨aoA, capA, rfl⟩ := slice_form hW.own
    have H : Hid (Kd D [85] w w1 ∧ w1.heap[rb]? = some (.cells #[.slice aoA y.A.length capA, .int .i64 la, .int .i64 sy, .slice aoS y.S.length capS, .int .i64 (nm + 1), vT] 85 (0, 0)) ∧ D rb) := ⟨k1, s1, hB⟩
    have c0' : w1.cell? ⟨rb, 0, none⟩ = some (.slice aoA y.A.length capA) := by simp [World.cell?, s1]
    have c3' : w1.cell? ⟨rb, 3, none⟩ = some (.slice aoS y.S.length capS) := by simp [World.cell?, s1]
    have c4' : w1.cell? ⟨rb, 4, none⟩ = some (.int .i64 (nm + 1)) := by simp [World.cell?, s1]
    have HD1 : Hid (Opn D w1) := hD.later k1.size
    have hrb1 : rb < w1.heap.size := lt_of_block s1
    have HW : Hid (w.setCell ⟨rb, 4, none⟩ (.int .i64 (nm + 1)) = w1) := hw1
    have HO : Hid (OwnsIn w1 D 138 2 (.slice aoS y.S.length capS) y.S.length (scells y.S)) := o1
    clear hs hA hS ok k1 s1 o1 hw1 hW hD hnm
    go_enter Tryz.func27, Tryz.ntmps27
    go_wp2
    rw [HW.out]
    go_region_law (refine step_append_lies _ rfl _ _ 83 rfl 0 138 i0 _ 2 16 Tryz.underlying83 hi hz0 hz1 hz2 rfl (by decide) (.slice aoS y.S.length capS) y.S.length (scells y.S) rfl (by exact HO.out.own.alloc _) ⟨w1.heap.size, 0, none⟩ 1 1 (Sn.cells ⟨nm + 1, y.A.length⟩) rfl rfl (by intro j u hj; match j, hj with | 0, hj => (simp [Sn.cells] at hj; subst hj; simp [Addr.add]) | 1, hj => (simp [Sn.cells] at hj; subst hj; simp [Addr.add]) | j + 2, hj => (simp [Sn.cells] at hj)) (by intro u hu; simp [Sn.cells] at hu; rcases hu with rfl | rfl <;> rfl) (by omega) (by unfold maxLen; omega) (by omega) (Nat.zero_le _) _ rfl ?_; intro g cap w2 hown hgrow hat hlt; have K2 : Hid (Kd D [138] w1 w2) := Kd.grown ((Kd.refl _ _ _).alloc _).drew (by exact HO.out.alloc _) hgrow (by simp); have c3b : w2.cell? ⟨rb, 3, none⟩ = some (.slice aoS y.S.length capS) := (by simp [World.cell?, K2.out.keep H.out.2.1 (by simp)]); have f3b : w2.frozen? ⟨rb, 3, none⟩ = false := (by simp [World.frozen?, K2.out.keep H.out.2.1 (by simp)]); have c4b : w2.cell? ⟨rb, 4, none⟩ = some (.int .i64 (nm + 1)) := (by simp [World.cell?, K2.out.keep H.out.2.1 (by simp)]); have HN : Hid (OwnsIn w2 D 138 2 (.slice (some ⟨g, 0, none⟩) (y.S.length + 1) cap) (y.S.length + 1) (scells y.S ++ Sn.cells ⟨nm + 1, y.A.length⟩)) := HO.out.put HD1.out hown (hat.imp id fun e => by rw [e]; simp); clear hown hgrow hat hlt)
    all_goals go_wp2
    all_goals go_ret2
    all_goals exact .inr ⟨by omega, rfl, rput_snapsT (K2.out.keep H.out.2.1 (by simp)) H.out.2.2 (HA1.out.kept K2.out (by simp) (by simp)) ((HTT.out.kept H.out.1 (by simp) (by simp)).kept K2.out (by simp) (by simp)) (sncells_snoc HN.out), ((H.out.1.mono (by simp)).trans (K2.out.mono (by simp))).trans ((Kd.field H.out.2.2 (K2.out.keep H.out.2.1 (by simp)) 3 _).mono (by simp))⟩

set_option maxHeartbeats 2000000 in
set_option maxRecDepth 100000 in
theorem refDropT_any (D : Nat → Prop) (rb : Nat) (y : Rf) (la sy : Int) (Tt : List Tb) (n : Int) (w : World) (hy : RefT D rb y la sy Tt w) (hD : Opn D w) (ok : RfOk y) :
    Calls Tryz.prog 29 #[.pointer (some ⟨rb, 0, none⟩), .int .i64 n] w fun e w' =>
      ((y.S.filter (notN n)).length = y.S.length ∧ e = .returned (.int .i64 5) ∧ Below w.heap.size w w') ∨
      ((y.S.filter (notN n)).length ≠ y.S.length ∧ e = .returned (.int .i64 0) ∧ RefT D rb { y with S := y.S.filter (notN n) } la sy Tt w' ∧ Kd D [85] w w') := by
  obtain ⟨vA, vS, vT, hB, hs, hA, hS, hT⟩ := hy
  have HTT : Hid (TabAt D w vT Tt) := hT
  clear hT
  obtain ⟨i0, hi, hz0, hz1, hz2⟩ := info_parts Tryz.info138
  have hl4 := ok.snaps
  obtain ⟨aoS, capS, rfl⟩ := slice_form hS.own
  have c3 : w.cell? ⟨rb, 3, none⟩ = some (.slice aoS y.S.length capS) := by simp [World.cell?, hs]
  have H : Hid (w.heap[rb]? = some (.cells #[vA, .int .i64 la, .int .i64 sy, .slice aoS y.S.length capS, .int .i64 y.num, vT] 85 (0, 0)) ∧ RAll D w vA y.A ∧ OwnsIn w D 138 2 (.slice aoS y.S.length capS) y.S.length (scells y.S) ∧ Opn D w ∧ D rb) := ⟨hs, hA, hS, hD, hB⟩
  have hrb : rb < w.heap.size := lt_of_block hs
  clear hs hA hS ok hD
  go_enter Tryz.func29, Tryz.ntmps29
  go_wp2
  go_loopg [5, 6] y.S.length (fun kx s5 s6 wr => ∃ (k : Nat) (T : List Sn), k ≤ y.S.length ∧ y.S.length - k ≤ kx ∧ s6 = .int .i64 k ∧ T.length ≤ k ∧ Hid (T = (y.S.take k).filter (notN n)) ∧ Hid (wr.ownsRow w.heap.size 138 2 s5 T.length (scells T)) ∧ Hid (Below w.heap.size w wr))
  case atStart => exact ⟨0, [], Nat.zero_le _, Nat.le_refl _, rfl, Nat.le_refl _, rfl, World.ownsRow_nil _ _ _ _, Below.refl _ _⟩
  case round =>
    obtain ⟨k, T, hk, hkx, rfl, hTk, HT, HO, HB⟩ := hrel
    have c3r := cell_later HB.out c3
    obtain ⟨aoT, capT, rfl⟩ := slice_form HO.out
    by_cases hlt : k < y.S.length
    · obtain ⟨g, cap', hv', hbg, hgl, hcap, hcell⟩ := row_cell (fun a => by rfl) H.out.2.2.1.own (by omega)
      simp only [Value.slice.injEq, true_and] at hv'
      obtain ⟨rfl, rfl⟩ := hv'
      obtain ⟨s, hs⟩ : ∃ s, y.S[k]? = some s := ⟨_, List.getElem?_eq_getElem hlt⟩
      have d0 := cell_later HB.out (show w.cell? ⟨g, k * 2, none⟩ = some (Value.int .i64 s.n) from hcell k s 0 hs (by omega))
      have d1 := cell_later HB.out (show w.cell? ⟨g, k * 2 + 1, none⟩ = some (Value.int .i64 s.q) from hcell k s 1 hs (by omega))
      have hgr : g < wr.heap.size := Nat.lt_of_lt_of_le hgl HB.out.size
      have HT2 : Hid ((y.S.take (k + 1)).filter (notN n) = T ++ if notN n s then [s] else []) := by show _ = _; rw [take_filter _ hs, HT.out]
      clear hs hcell
      by_cases hsn : s.n = n
      · have hnb : (s.n == n) = true := by simp [hsn]
        have HT3 : Hid (T = (y.S.take (k + 1)).filter (notN n)) := by show _ = _; rw [HT2.out]; simp [notN, hsn]
        go_wp2
        go_roundg (y.S.length - (k + 1))
        case measure => omega
        case rel => exact ⟨k + 1, T, by omega, Nat.le_refl _, by go_num, by omega, HT3.out, HO.out, HB.out⟩
      · have hnb : (s.n == n) = false := by simp [hsn]
        have HT3 : Hid (T ++ [s] = (y.S.take (k + 1)).filter (notN n)) := by show _ = _; rw [HT2.out]; simp [notN, hsn]
        have hsz := HB.out.size
        go_wp2_with (at_builtin; refine wpList_append_own _ rfl _ _ 83 rfl w.heap.size 138 i0 _ 2 16 Tryz.underlying83 hi hz0 hz1 hz2 rfl (by decide) _ _ _ rfl (HO.out.alloc _) ⟨wr.heap.size, 0, none⟩ 1 1 (Sn.cells s) rfl rfl ?c1 ?c2 ?c3 ?c4 ?c5 ?_)
        case c1 =>
          intro j u hj
          match j, hj with
          | 0, hj => simp [Sn.cells] at hj; subst hj; simp [Addr.add]
          | 1, hj => simp [Sn.cells] at hj; subst hj; simp [Addr.add]
          | j + 2, hj => simp [Sn.cells] at hj
        case c2 => intro u hu; simp [Sn.cells] at hu; rcases hu with rfl | rfl <;> rfl
        case c3 => unfold maxLen; omega
        case c4 => omega
        case c5 => simp; omega
        intro v9 w4 ho2 hg2 _
        have HB4 : Hid (Below w.heap.size w w4) := app_below HB.out HO.out hg2
        have HO4 : Hid (w4.ownsRow w.heap.size 138 2 v9 (T ++ [s]).length (scells (T ++ [s]))) := by
          have : scells (T ++ [s]) = scells T ++ Sn.cells s := by simp [scells]
          rw [this, List.length_append]; exact ho2
        clear ho2 hg2
        go_wp2
        go_roundg (y.S.length - (k + 1))
        case measure => omega
        case rel => exact ⟨k + 1, T ++ [s], by omega, Nat.le_refl _, by go_num, by simp; omega, HT3.out, HO4.out, HB4.out⟩
    · obtain rfl : k = y.S.length := by omega
      have HT3 : Hid (y.S.filter (notN n) = T) := by show _ = _; rw [HT.out, List.take_of_length_le (Nat.le_refl _)]
      by_cases hTl : T.length = y.S.length
      · have hd : ((T.length : Int) == (y.S.length : Int)) = true := by rw [beq_iff_eq]; omega
        have HT4 : Hid ((y.S.filter (notN n)).length = y.S.length) := by show _ = _; rw [HT3.out, hTl]
        clear hTl
        go_wp2
        go_ret
        exact .inl ⟨HT4.out, rfl, HB.out⟩
      · have hd : ((T.length : Int) == (y.S.length : Int)) = false := by rw [beq_eq_false_iff_ne]; omega
        have HT4 : Hid ((y.S.filter (notN n)).length ≠ y.S.length) := by show _ ≠ _; rw [HT3.out]; exact hTl
        have hsr : Hid (wr.heap[rb]? = some (.cells #[vA, .int .i64 la, .int .i64 sy, .slice aoS y.S.length capS, .int .i64 y.num, vT] 85 (0, 0))) := (HB.out.block rb hrb).trans H.out.1
        have f3 : wr.frozen? ⟨rb, 3, none⟩ = false := by simp [World.frozen?, hsr.out]
        have HR : Hid (RefT D rb { y with S := y.S.filter (notN n), num := y.num } la sy Tt (wr.setCell ⟨rb, 3, none⟩ (.slice aoT T.length capT)) ∧ Kd D [85] w (wr.setCell ⟨rb, 3, none⟩ (.slice aoT T.length capT))) :=
          ⟨rput_snapsT hsr.out H.out.2.2.2.2 (H.out.2.1.below HB.out) (HTT.out.below HB.out) (by rw [HT3.out]; exact OwnsIn.fresh HO.out H.out.2.2.2.1 (Nat.le_refl _)), (Kd.of_below HB.out).trans (Kd.field H.out.2.2.2.2 hsr.out 3 _)⟩
        clear hTl
        go_wp2
        go_ret
        exact .inr ⟨HT4.out, rfl, HR.out⟩
end Go.Proofs.YtakipjofboipmaaGreatDoor

/- The walks of this proof, for later statements: the document's store with its tables: Write, New. -/
namespace Go.Proofs.YtakipjofboipmaaGreatDoor
open Go.RowKit Go.Sort

/-- What Write comes to, by the document. -/
def RefWriteTPost (D : Nat → Prop) (rb : Nat) (y : Rf) (la sy : Int) (Tt : List Tb) (sync : Bool) (L : List Pr) (w : World) (e : Ending) (w' : World) : Prop :=
  (flt L ≠ 0 ∧ e = .returned (.tuple #[.int .i64 0, .int .i64 (flt L)]) ∧ Below w.heap.size w w') ∨
  (flt L = 0 ∧ e = .returned (.tuple #[.int .i64 ((y.A.length : Int) + 1), .int .i64 0]) ∧ ∃ C, SamePr (keep L) C ∧ Upto C C.length ∧ RefT D rb { y with A := y.A ++ [C] } la (if sync then (y.A.length : Int) + 1 else sy) Tt w' ∧ Kd D [85, 38] w w')

set_option maxHeartbeats 4000000 in
set_option maxRecDepth 100000 in
theorem refWriteT_any (D : Nat → Prop) (rb : Nat) (y : Rf) (la sy : Int) (Tt : List Tb) (L : List Pr) (v : Value) (sync : Bool) (w : World) (hy : RefT D rb y la sy Tt w) (hD : Opn D w) (ok : RfOk y) (hP : PairsAt w v L) :
    Calls Tryz.prog 55 #[.pointer (some ⟨rb, 0, none⟩), v, .bool sync] w fun e w' => RefWriteTPost D rb y la sy Tt sync L w e w' := by
  have HF : Hid _ := fault_any L v w hP
  unfold RefWriteTPost
  by_cases hf : flt L = 0
  · obtain ⟨i0, hi, hz0, hz1, hz2⟩ := info_parts Tryz.info38r
    rw [hf] at HF
    obtain ⟨h1, h4, hok⟩ := flt_ok hf
    have HCT : Hid (∀ w1, Below w.heap.size w w1 → Calls Tryz.prog 101 #[v] w1 fun e w' => CountPost L w1 e w') := fun w1 hb => counted_any L v w1 (hP.below hb) h4 (fun p hp => (hok p hp).lo)
    have HY : Hid (RefT D rb y la sy Tt w) := hy
    have HD : Hid (Opn D w) := hD
    have hfew := ok.few
    generalize hpost : (fun (e : Ending) (w' : World) => (flt L ≠ 0 ∧ e = Ending.returned (.tuple #[.int .i64 0, .int .i64 (flt L)]) ∧ Below w.heap.size w w') ∨
      (flt L = 0 ∧ e = .returned (.tuple #[.int .i64 ((y.A.length : Int) + 1), .int .i64 0]) ∧ ∃ C, SamePr (keep L) C ∧ Upto C C.length ∧ RefT D rb { y with A := y.A ++ [C] } la (if sync then (y.A.length : Int) + 1 else sy) Tt w' ∧ Kd D [85, 38] w w')) = PP
    have HPP : Hid (∀ e w', e = Ending.returned (.tuple #[.int .i64 ((y.A.length : Int) + 1), .int .i64 0]) → ∀ C, SamePr (keep L) C → Upto C C.length → RefT D rb { y with A := y.A ++ [C] } la (if sync then (y.A.length : Int) + 1 else sy) Tt w' → Kd D [85, 38] w w' → PP e w') := fun e w' he C h2 h3 h4 h5 => by
      rw [← hpost]; exact .inr ⟨hf, he, C, h2, h3, h4, h5⟩
    clear hpost hy hD ok hP hf hok
    go_enter Tryz.func55, Tryz.ntmps55
    go_wp2_with fail
    refine Calls.mono HF.out ?_
    rintro e w1 ⟨rfl, hb1⟩
    have B1 : Hid (Below w.heap.size w w1) := hb1
    have hy1 := HY.out.below hb1
    obtain ⟨vA, vS, vT, hB, hs, hA, hS, hT⟩ := hy1
    have HTT : Hid (TabAt D w1 vT Tt) := hT
    clear hT
    obtain ⟨Ws, hW, hbs⟩ := hA
    obtain ⟨aoA, capA, rfl⟩ := slice_form hW.own
    have c0 : w1.cell? ⟨rb, 0, none⟩ = some (.slice aoA y.A.length capA) := by simp [World.cell?, hs]
    have f0 : w1.frozen? ⟨rb, 0, none⟩ = false := by simp [World.frozen?, hs]
    have hrb1 : rb < w1.heap.size := lt_of_block hs
    have H : Hid (D rb ∧ w1.heap[rb]? = some (.cells #[.slice aoA y.A.length capA, .int .i64 la, .int .i64 sy, vS, .int .i64 y.num, vT] 85 (0, 0)) ∧ OwnsIn w1 D 38 1 (.slice aoA y.A.length capA) y.A.length Ws ∧ (∀ (i : Nat) (b : List Pr), y.A[i]? = some b → ∃ vi, Ws[i]? = some vi ∧ OwnsIn w1 D 57 3 vi b.length (pcells b)) ∧ OwnsIn w1 D 138 2 vS y.S.length (scells y.S) ∧ Opn D w1) := ⟨hB, hs, hW, hbs, hS, HD.out.later hb1.size⟩
    clear hb1 hB hs hW hbs hS HF
    go_wp2
    rename_i K HK0
    have HK : Hid _ := HK0
    clear HK0
    have REST : Hid (∀ (C : List Pr) (g cap : Nat) (aoC : Option Addr) (capC : Nat) (w2 w3 : World), SamePr (keep L) C → Upto C C.length → Below w1.heap.size w1 w2 → RAll D w3 (.slice (some ⟨g, 0, none⟩) (y.A.length + 1) cap) (y.A ++ [C]) → Kd D [38] w2 w3 → w3.heap[rb]? = some (.cells #[.slice aoA y.A.length capA, .int .i64 la, .int .i64 sy, vS, .int .i64 y.num, vT] 85 (0, 0)) →
        K { tmps := #[.pointer (some ⟨rb, 0, none⟩), v, .bool sync, undef, undef, undef, .int .i64 0, .int .i64 0, .int .i64 0, v, .int .i64 0, .int .i64 0, .bool false, undef, .pointer (some ⟨rb, 0, none⟩), .pointer (some ⟨rb, 0, none⟩), .pointer (some ⟨rb, 0, none⟩), .pointer (some ⟨rb, 0, none⟩), .slice aoA y.A.length capA, v, .slice aoC C.length capC, .slice (some ⟨w2.heap.size, 0, none⟩) 1 1, .slice (some ⟨g, 0, none⟩) (y.A.length + 1) cap, .pointer (some ⟨rb, 0, none⟩), .pointer (some ⟨rb, 0, none⟩), undef, undef, undef, undef, undef, undef, undef, undef, undef, undef, undef, undef, undef, undef], defers := [] } (w3.setCell ⟨rb, 0, none⟩ (.slice (some ⟨g, 0, none⟩) (y.A.length + 1) cap))) := by
      intro C g cap aoC capC w2 w3 hsm hup hb2 hall hkd hs3
      have hk0 := Kd.field H.out.1 hs3 0 (.slice (some ⟨g, 0, none⟩) (y.A.length + 1) cap)
      have hs4 := set_field6 hs3 0 (.slice (some ⟨g, 0, none⟩) (y.A.length + 1) cap)
      simp only [List.setIfInBounds_toArray, List.set_cons_zero] at hs4
      have hS4 : OwnsIn _ D 138 2 vS y.S.length (scells y.S) := hk0.ownsIn (hkd.ownsIn (H.out.2.2.2.2.1.below hb2) (by simp)) (by simp)
      have hA4 := hall.kept hk0 (by simp) (by simp)
      have hT4 := ((HTT.out.below hb2).kept hkd (by simp) (by simp)).kept hk0 (by simp) (by simp)
      have K4 : Hid (Kd D [85, 38] w (w3.setCell ⟨rb, 0, none⟩ (.slice (some ⟨g, 0, none⟩) (y.A.length + 1) cap))) := (((Kd.of_below B1.out).trans (Kd.of_below hb2)).trans (hkd.mono (by simp))).trans (hk0.mono (by simp))
      generalize w3.setCell ⟨rb, 0, none⟩ (.slice (some ⟨g, 0, none⟩) (y.A.length + 1) cap) = w4 at hs4 hS4 hA4 K4 hT4
      have c0b : w4.cell? ⟨rb, 0, none⟩ = some (.slice (some ⟨g, 0, none⟩) (y.A.length + 1) cap) := by simp [World.cell?, hs4]
      have c2b : w4.cell? ⟨rb, 2, none⟩ = some (.int .i64 sy) := by simp [World.cell?, hs4]
      have f2b : w4.frozen? ⟨rb, 2, none⟩ = false := by simp [World.frozen?, hs4]
      have N4 : Hid (SamePr (keep L) C ∧ Upto C C.length ∧ w4.heap[rb]? = some (.cells #[.slice (some ⟨g, 0, none⟩) (y.A.length + 1) cap, .int .i64 la, .int .i64 sy, vS, .int .i64 y.num, vT] 85 (0, 0)) ∧ OwnsIn w4 D 138 2 vS y.S.length (scells y.S) ∧ RAll D w4 (.slice (some ⟨g, 0, none⟩) (y.A.length + 1) cap) (y.A ++ [C]) ∧ TabAt D w4 vT Tt) := ⟨hsm, hup, hs4, hS4, hA4, hT4⟩
      clear hsm hup hb2 hall hkd hs3 hk0 hs4 hS4 hA4 hT4
      refine HK.out _ _ ?_
      clear HK
      cases sync with
      | false =>
        go_wp2
        exact HPP.out _ _ (by simp) C N4.out.1 N4.out.2.1 ⟨_, vS, vT, H.out.1, N4.out.2.2.1, N4.out.2.2.2.2.1, N4.out.2.2.2.1, N4.out.2.2.2.2.2⟩ K4.out
      | true =>
        have hk5 := Kd.field H.out.1 N4.out.2.2.1 2 (.int .i64 ((y.A.length : Int) + 1))
        have hs5 := set_field6 N4.out.2.2.1 2 (.int .i64 ((y.A.length : Int) + 1))
        simp only [List.setIfInBounds_toArray, List.set_cons_succ, List.set_cons_zero] at hs5
        have K5 : Hid (Kd D [85, 38] w (w4.setCell ⟨rb, 2, none⟩ (.int .i64 ((y.A.length : Int) + 1)))) := K4.out.trans (hk5.mono (by simp))
        have N5 : Hid (RefT D rb { y with A := y.A ++ [C] } la ((y.A.length : Int) + 1) Tt (w4.setCell ⟨rb, 2, none⟩ (.int .i64 ((y.A.length : Int) + 1)))) := ⟨_, vS, vT, H.out.1, hs5, N4.out.2.2.2.2.1.kept hk5 (by simp) (by simp), hk5.ownsIn N4.out.2.2.2.1 (by simp), N4.out.2.2.2.2.2.kept hk5 (by simp) (by simp)⟩
        have c0c : (w4.setCell ⟨rb, 2, none⟩ (.int .i64 ((y.A.length : Int) + 1))).cell? ⟨rb, 0, none⟩ = some (.slice (some ⟨g, 0, none⟩) (y.A.length + 1) cap) := by simp [World.cell?, hs5]
        clear hk5 hs5
        go_wp2
        exact HPP.out _ _ (by simp) C N4.out.1 N4.out.2.1 N5.out K5.out
    refine wp_region_held_drew (S := fun _ => True) (by kernel_rfl) trivial ?_
    intro _
    refine wpAnyH_take (i := 0) (v := .pointer (some ⟨rb, 0, none⟩)) rfl (by kernel_rfl) (by kernel_rfl) (by kernel_rfl) (fun _ _ _ h => h) (Or.inl ⟨by rfl, ?_⟩) trivial ?_
    · intro w0 _
      go_simp
    simp only [Act.put]
    refine wpAnyH_take (i := 1) (v := .pointer (some ⟨rb, 0, none⟩)) rfl (by kernel_rfl) (by kernel_rfl) (by kernel_rfl) (fun _ _ _ h => h) (Or.inl ⟨by rfl, ?_⟩) trivial ?_
    · intro w0 _
      go_simp
    simp only [Act.put]
    refine wpAnyH_take (i := 2) (v := .pointer (some ⟨rb, 0, none⟩)) rfl (by kernel_rfl) (by kernel_rfl) (by kernel_rfl) (fun _ _ _ h => h) (Or.inl ⟨by rfl, ?_⟩) trivial ?_
    · intro w0 _
      go_simp
    simp only [Act.put]
    refine wpAnyH_take (i := 3) (v := .pointer (some ⟨rb, 0, none⟩)) rfl (by kernel_rfl) (by kernel_rfl) (by kernel_rfl) (fun _ _ _ h => h) (Or.inl ⟨by rfl, ?_⟩) trivial ?_
    · intro w0 _
      go_simp
    simp only [Act.put]
    refine wpAnyH_take (i := 5) (v := v) rfl (by kernel_rfl) (by kernel_rfl) (by kernel_rfl) (fun _ _ _ h => h) (Or.inl ⟨by rfl, ?_⟩) trivial ?_
    · intro w0 _
      go_simp
    simp only [Act.put]
    refine wpAnyH_ready (rs := [4, 6]) (by kernel_rfl) (by simp) ?_
    refine AllReadyH.cons rfl (fun K' hK => ?_) (AllReadyH.cons rfl (fun K' hK => ?_) AllReadyH.nil)
    · rw [if_pos (by rfl)]
      go_wp2_with fail
      refine hK.out _ _ trivial (fun _ => ?_)
      clear hK K'
      refine wpAnyH_ready (rs := [6]) (by kernel_rfl) (by simp) ?_
      refine AllReadyH.cons rfl (fun K' hK => ?_) AllReadyH.nil
      rw [if_pos (by rfl)]
      go_wp2_with fail
      refine (HCT.out _ (by exact B1.out.drew)).mono ?_
      rintro e w2 ⟨vc, C, rfl, hsm, hup, hoc, hbc⟩
      obtain ⟨aoC, capC, rfl⟩ := slice_form hoc
      have B2 : Hid (Below w1.heap.size w1 w2) := ⟨hbc.os, hbc.tape, hbc.output, hbc.size, hbc.block⟩
      have m0 : w2.cell? ⟨rb, 0, none⟩ = some (.slice aoA y.A.length capA) := cell_later B2.out c0
      have A2 : Hid (SamePr (keep L) C ∧ Upto C C.length ∧ OwnsIn w2 D 57 3 (.slice aoC C.length capC) C.length (pcells C)) := ⟨hsm, hup, OwnsIn.fresh hoc H.out.2.2.2.2.2 (Nat.le_refl _)⟩
      have hrb2 : rb < w2.heap.size := Nat.lt_of_lt_of_le hrb1 B2.out.size
      clear hsm hup hoc hbc
      go_wp2_with fail
      refine hK.out _ _ trivial (fun _ => ?_)
      clear hK K'
      refine wpAnyH_ready (rs := [7]) (by kernel_rfl) (by simp) ?_
      refine AllReadyH.cons rfl (fun K' hK => ?_) AllReadyH.nil
      rw [if_pos (by rfl)]
      go_wp2_with fail
      refine hK.out _ _ trivial (fun _ => ?_)
      clear hK K'
      refine wpAnyH_ready (rs := [8]) (by kernel_rfl) (by simp) ?_
      refine AllReadyH.cons rfl (fun K' hK => ?_) AllReadyH.nil
      rw [if_pos (by rfl)]
      refine wp_append_lies _ (.tmp 18) (.tmp 21) 28 rfl 0 38 i0 _ 1 24 Tryz.underlying28 hi hz0 hz1 hz2 rfl (by decide) (.slice aoA y.A.length capA) y.A.length Ws rfl (by exact (H.out.2.2.1.below B2.out).own.alloc _) ⟨w2.heap.size, 0, none⟩ 1 1 [.slice aoC C.length capC] rfl rfl (by intro j u hj; match j, hj with | 0, hj => (simp at hj; subst hj; simp [Addr.add]) | j + 1, hj => (simp at hj)) (by intro u hu; simp at hu; subst hu; rfl) (by omega) (by unfold maxLen; omega) (by omega) (Nat.zero_le _) _ rfl ?_
      intro g cap w3 hown hgrow hat hlt
      have K3 : Hid (Kd D [38] w2 w3) := Kd.grown ((Kd.refl _ _ _).alloc _) (by exact (H.out.2.2.1.below B2.out).alloc _) hgrow (by simp)
      have A3 : Hid (RAll D w3 (.slice (some ⟨g, 0, none⟩) (y.A.length + 1) cap) (y.A ++ [C])) := RAll.snoc (H.out.2.2.1.below B2.out) (fun i b hb => by obtain ⟨vi, h1, h2⟩ := H.out.2.2.2.1 i b hb; exact ⟨vi, h1, h2.below B2.out⟩) K3.out (H.out.2.2.1.put H.out.2.2.2.2.2 hown (hat.imp id fun e => by rw [e]; have := B2.out.size; simp; omega)) (K3.out.ownsIn A2.out.2.2 (by simp))
      have s3 : Hid (w3.heap[rb]? = some (.cells #[.slice aoA y.A.length capA, .int .i64 la, .int .i64 sy, vS, .int .i64 y.num, vT] 85 (0, 0))) := K3.out.keep ((B2.out.block rb hrb1).trans H.out.2.1) (by simp)
      have m3 : w3.cell? ⟨rb, 0, none⟩ = some (.slice aoA y.A.length capA) := by simp [World.cell?, s3.out]
      have f3 : w3.frozen? ⟨rb, 0, none⟩ = false := by simp [World.frozen?, s3.out]
      clear hown hgrow hat hlt
      refine hK.out _ _ trivial (fun _ => ?_)
      clear hK K'
      simp only [Act.put]
      refine wpAnyH_take (i := 9) (v := .pointer (some ⟨rb, 0, none⟩)) rfl (by kernel_rfl) (by kernel_rfl) (by kernel_rfl) (fun _ _ _ h => h) (Or.inl ⟨by rfl, ?_⟩) trivial ?_
      · intro w0 _
        go_simp
      simp only [Act.put]
      refine wpAnyH_take (i := 10) (v := .pointer (some ⟨rb, 0, none⟩)) rfl (by kernel_rfl) (by kernel_rfl) (by kernel_rfl) (fun _ _ _ h => h) (Or.inl ⟨by rfl, ?_⟩) trivial ?_
      · intro w0 _
        go_simp
      simp only [Act.put]
      refine wpAnyH_ready (rs := [11]) (by kernel_rfl) (by simp) ?_
      refine AllReadyH.cons rfl (fun K' hK => ?_) AllReadyH.nil
      rw [if_pos (by rfl)]
      go_wp2_with fail
      refine hK.out _ _ trivial (fun _ => ?_)
      clear hK K'
      refine wpAnyH_done (by kernel_rfl) ?_ _
      exact REST.out C g cap aoC capC w2 w3 A2.out.1 A2.out.2.1 B2.out A3.out K3.out s3.out
    · rw [if_pos (by rfl)]
      go_wp2_with fail
      refine (HCT.out _ (by exact B1.out.drew)).mono ?_
      rintro e w2 ⟨vc, C, rfl, hsm, hup, hoc, hbc⟩
      obtain ⟨aoC, capC, rfl⟩ := slice_form hoc
      have B2 : Hid (Below w1.heap.size w1 w2) := ⟨hbc.os, hbc.tape, hbc.output, hbc.size, hbc.block⟩
      have m0 : w2.cell? ⟨rb, 0, none⟩ = some (.slice aoA y.A.length capA) := cell_later B2.out c0
      have A2 : Hid (SamePr (keep L) C ∧ Upto C C.length ∧ OwnsIn w2 D 57 3 (.slice aoC C.length capC) C.length (pcells C)) := ⟨hsm, hup, OwnsIn.fresh hoc H.out.2.2.2.2.2 (Nat.le_refl _)⟩
      have hrb2 : rb < w2.heap.size := Nat.lt_of_lt_of_le hrb1 B2.out.size
      clear hsm hup hoc hbc
      go_wp2_with fail
      refine hK.out _ _ trivial (fun _ => ?_)
      clear hK K'
      refine wpAnyH_ready (rs := [4, 7]) (by kernel_rfl) (by simp) ?_
      refine AllReadyH.cons rfl (fun K' hK => ?_) (AllReadyH.cons rfl (fun K' hK => ?_) AllReadyH.nil)
      · rw [if_pos (by rfl)]
        go_wp2_with fail
        refine hK.out _ _ trivial (fun _ => ?_)
        clear hK K'
        refine wpAnyH_ready (rs := [7]) (by kernel_rfl) (by simp) ?_
        refine AllReadyH.cons rfl (fun K' hK => ?_) AllReadyH.nil
        rw [if_pos (by rfl)]
        go_wp2_with fail
        refine hK.out _ _ trivial (fun _ => ?_)
        clear hK K'
        refine wpAnyH_ready (rs := [8]) (by kernel_rfl) (by simp) ?_
        refine AllReadyH.cons rfl (fun K' hK => ?_) AllReadyH.nil
        rw [if_pos (by rfl)]
        refine wp_append_lies _ (.tmp 18) (.tmp 21) 28 rfl 0 38 i0 _ 1 24 Tryz.underlying28 hi hz0 hz1 hz2 rfl (by decide) (.slice aoA y.A.length capA) y.A.length Ws rfl (by exact (H.out.2.2.1.below B2.out).own.alloc _) ⟨w2.heap.size, 0, none⟩ 1 1 [.slice aoC C.length capC] rfl rfl (by intro j u hj; match j, hj with | 0, hj => (simp at hj; subst hj; simp [Addr.add]) | j + 1, hj => (simp at hj)) (by intro u hu; simp at hu; subst hu; rfl) (by omega) (by unfold maxLen; omega) (by omega) (Nat.zero_le _) _ rfl ?_
        intro g cap w3 hown hgrow hat hlt
        have K3 : Hid (Kd D [38] w2 w3) := Kd.grown ((Kd.refl _ _ _).alloc _) (by exact (H.out.2.2.1.below B2.out).alloc _) hgrow (by simp)
        have A3 : Hid (RAll D w3 (.slice (some ⟨g, 0, none⟩) (y.A.length + 1) cap) (y.A ++ [C])) := RAll.snoc (H.out.2.2.1.below B2.out) (fun i b hb => by obtain ⟨vi, h1, h2⟩ := H.out.2.2.2.1 i b hb; exact ⟨vi, h1, h2.below B2.out⟩) K3.out (H.out.2.2.1.put H.out.2.2.2.2.2 hown (hat.imp id fun e => by rw [e]; have := B2.out.size; simp; omega)) (K3.out.ownsIn A2.out.2.2 (by simp))
        have s3 : Hid (w3.heap[rb]? = some (.cells #[.slice aoA y.A.length capA, .int .i64 la, .int .i64 sy, vS, .int .i64 y.num, vT] 85 (0, 0))) := K3.out.keep ((B2.out.block rb hrb1).trans H.out.2.1) (by simp)
        have m3 : w3.cell? ⟨rb, 0, none⟩ = some (.slice aoA y.A.length capA) := by simp [World.cell?, s3.out]
        have f3 : w3.frozen? ⟨rb, 0, none⟩ = false := by simp [World.frozen?, s3.out]
        clear hown hgrow hat hlt
        refine hK.out _ _ trivial (fun _ => ?_)
        clear hK K'
        simp only [Act.put]
        refine wpAnyH_take (i := 9) (v := .pointer (some ⟨rb, 0, none⟩)) rfl (by kernel_rfl) (by kernel_rfl) (by kernel_rfl) (fun _ _ _ h => h) (Or.inl ⟨by rfl, ?_⟩) trivial ?_
        · intro w0 _
          go_simp
        simp only [Act.put]
        refine wpAnyH_take (i := 10) (v := .pointer (some ⟨rb, 0, none⟩)) rfl (by kernel_rfl) (by kernel_rfl) (by kernel_rfl) (fun _ _ _ h => h) (Or.inl ⟨by rfl, ?_⟩) trivial ?_
        · intro w0 _
          go_simp
        simp only [Act.put]
        refine wpAnyH_ready (rs := [11]) (by kernel_rfl) (by simp) ?_
        refine AllReadyH.cons rfl (fun K' hK => ?_) AllReadyH.nil
        rw [if_pos (by rfl)]
        go_wp2_with fail
        refine hK.out _ _ trivial (fun _ => ?_)
        clear hK K'
        refine wpAnyH_done (by kernel_rfl) ?_ _
        exact REST.out C g cap aoC capC w2 w3 A2.out.1 A2.out.2.1 B2.out A3.out K3.out s3.out
      · rw [if_pos (by rfl)]
        go_wp2_with fail
        refine hK.out _ _ trivial (fun _ => ?_)
        clear hK K'
        refine wpAnyH_ready (rs := [4]) (by kernel_rfl) (by simp) ?_
        refine AllReadyH.cons rfl (fun K' hK => ?_) AllReadyH.nil
        rw [if_pos (by rfl)]
        go_wp2_with fail
        refine hK.out _ _ trivial (fun _ => ?_)
        clear hK K'
        refine wpAnyH_ready (rs := [8]) (by kernel_rfl) (by simp) ?_
        refine AllReadyH.cons rfl (fun K' hK => ?_) AllReadyH.nil
        rw [if_pos (by rfl)]
        refine wp_append_lies _ (.tmp 18) (.tmp 21) 28 rfl 0 38 i0 _ 1 24 Tryz.underlying28 hi hz0 hz1 hz2 rfl (by decide) (.slice aoA y.A.length capA) y.A.length Ws rfl (by exact (H.out.2.2.1.below B2.out).own.alloc _) ⟨w2.heap.size, 0, none⟩ 1 1 [.slice aoC C.length capC] rfl rfl (by intro j u hj; match j, hj with | 0, hj => (simp at hj; subst hj; simp [Addr.add]) | j + 1, hj => (simp at hj)) (by intro u hu; simp at hu; subst hu; rfl) (by omega) (by unfold maxLen; omega) (by omega) (Nat.zero_le _) _ rfl ?_
        intro g cap w3 hown hgrow hat hlt
        have K3 : Hid (Kd D [38] w2 w3) := Kd.grown ((Kd.refl _ _ _).alloc _) (by exact (H.out.2.2.1.below B2.out).alloc _) hgrow (by simp)
        have A3 : Hid (RAll D w3 (.slice (some ⟨g, 0, none⟩) (y.A.length + 1) cap) (y.A ++ [C])) := RAll.snoc (H.out.2.2.1.below B2.out) (fun i b hb => by obtain ⟨vi, h1, h2⟩ := H.out.2.2.2.1 i b hb; exact ⟨vi, h1, h2.below B2.out⟩) K3.out (H.out.2.2.1.put H.out.2.2.2.2.2 hown (hat.imp id fun e => by rw [e]; have := B2.out.size; simp; omega)) (K3.out.ownsIn A2.out.2.2 (by simp))
        have s3 : Hid (w3.heap[rb]? = some (.cells #[.slice aoA y.A.length capA, .int .i64 la, .int .i64 sy, vS, .int .i64 y.num, vT] 85 (0, 0))) := K3.out.keep ((B2.out.block rb hrb1).trans H.out.2.1) (by simp)
        have m3 : w3.cell? ⟨rb, 0, none⟩ = some (.slice aoA y.A.length capA) := by simp [World.cell?, s3.out]
        have f3 : w3.frozen? ⟨rb, 0, none⟩ = false := by simp [World.frozen?, s3.out]
        clear hown hgrow hat hlt
        refine hK.out _ _ trivial (fun _ => ?_)
        clear hK K'
        simp only [Act.put]
        refine wpAnyH_take (i := 9) (v := .pointer (some ⟨rb, 0, none⟩)) rfl (by kernel_rfl) (by kernel_rfl) (by kernel_rfl) (fun _ _ _ h => h) (Or.inl ⟨by rfl, ?_⟩) trivial ?_
        · intro w0 _
          go_simp
        simp only [Act.put]
        refine wpAnyH_take (i := 10) (v := .pointer (some ⟨rb, 0, none⟩)) rfl (by kernel_rfl) (by kernel_rfl) (by kernel_rfl) (fun _ _ _ h => h) (Or.inl ⟨by rfl, ?_⟩) trivial ?_
        · intro w0 _
          go_simp
        simp only [Act.put]
        refine wpAnyH_ready (rs := [11]) (by kernel_rfl) (by simp) ?_
        refine AllReadyH.cons rfl (fun K' hK => ?_) AllReadyH.nil
        rw [if_pos (by rfl)]
        go_wp2_with fail
        refine hK.out _ _ trivial (fun _ => ?_)
        clear hK K'
        refine wpAnyH_done (by kernel_rfl) ?_ _
        exact REST.out C g cap aoC capC w2 w3 A2.out.1 A2.out.2.1 B2.out A3.out K3.out s3.out
  · have hz : (flt L == 0) = false := by rw [beq_eq_false_iff_ne]; exact hf
    clear hy hD ok hP
    obtain ⟨fv, hfv⟩ : ∃ fv, flt L = fv := ⟨_, rfl⟩
    rw [hfv] at HF hz hf ⊢
    clear hfv
    refine Calls.mono (?_ : Calls Tryz.prog 55 _ w fun e w' => e = .returned (.tuple #[.int .i64 0, .int .i64 fv]) ∧ Below w.heap.size w w') (fun e w' h => .inl ⟨hf, h.1, h.2⟩)
    go_enter Tryz.func55, Tryz.ntmps55
    go_wp2_with fail
    refine Calls.mono HF.out ?_
    rintro e w1 ⟨rfl, hb1⟩
    have B1 : Hid (Below w.heap.size w w1) := hb1
    clear hb1
    go_wp2
    go_ret2
    exact ⟨rfl, B1.out⟩

theorem RefT.new {D : Nat → Prop} (w : World) (hD : D w.heap.size) : RefT D w.heap.size ⟨[], [], 0⟩ 0 0 [] (w.alloc rNew) :=
  ⟨_, _, _, hD, heap_alloc_new w _, ⟨[], OwnsIn.nil _ _ _ _, fun i b h => by simp at h⟩, OwnsIn.nil _ _ _ _, ⟨[], rfl, OwnsIn.nil _ _ _ _, fun i t h => by simp at h⟩⟩

end Go.Proofs.YtakipjofboipmaaGreatDoor
