/- The walks of this proof: marks; pairs that are the same; a frame by blocks and types. -/
import Derived.Test.YtakipjofboipmaaGreatDoorJ25
import Derived.Lib.AppendIntMem
import Derived.Test.YtakipjofboipmaaGreatDoorJ20
namespace Go.Proofs.YtakipjofboipmaaGreatDoor
open Go.RowKit Go.Sort

/-- Of what was there, only blocks k whose elements are of a type e with X k e may have turned. -/
structure Kx (X : Nat → Nat → Prop) (w w' : World) : Prop where
  os : w'.os = w.os
  tape : w'.tape = w.tape
  output : w'.output = w.output
  size : w.heap.size ≤ w'.heap.size
  block : ∀ k, k < w.heap.size → (∀ c e f, w.heap[k]? = some (.cells c e f) → ¬ X k e) → w'.heap[k]? = w.heap[k]?

theorem Kx.refl (X : Nat → Nat → Prop) (w : World) : Kx X w w := ⟨rfl, rfl, rfl, Nat.le_refl _, fun _ _ _ => rfl⟩

theorem Kx.trans {X : Nat → Nat → Prop} {a b c : World} (h : Kx X a b) (k : Kx X b c) : Kx X a c :=
  ⟨k.os.trans h.os, k.tape.trans h.tape, k.output.trans h.output, Nat.le_trans h.size k.size, fun i hi hor => by
    have e1 := h.block i hi hor
    rw [k.block i (Nat.lt_of_lt_of_le hi h.size) (by rw [e1]; exact hor), e1]⟩

theorem Kx.of_kd {X : Nat → Nat → Prop} {D : Nat → Prop} {ts : List Nat} {w w' : World} (h : Kd D ts w w') (hx : ∀ k e, k < w.heap.size → D k → e ∈ ts → X k e) : Kx X w w' :=
  ⟨h.os, h.tape, h.output, h.size, fun k hk hor => by
    by_cases hd : D k
    · exact h.block k hk (.inr fun c e f hc he => hor c e f hc (hx k e hk hd he))
    · exact h.block k hk (.inl hd)⟩

theorem Kx.of_below {X : Nat → Nat → Prop} {w w' : World} (h : Below w.heap.size w w') : Kx X w w' := ⟨h.os, h.tape, h.output, h.size, fun k hk _ => h.block k hk⟩

theorem Kx.mono {X Y : Nat → Nat → Prop} {w w' : World} (h : Kx X w w') (hx : ∀ k e, k < w.heap.size → X k e → Y k e) : Kx Y w w' :=
  ⟨h.os, h.tape, h.output, h.size, fun k hk hor => h.block k hk fun c e f hc hn => hor c e f hc (hx k e hk hn)⟩

theorem Kx.keep {X : Nat → Nat → Prop} {w w' : World} (h : Kx X w w') {k : Nat} {c : Array Value} {e : TypeId} {f : Nat × Nat} (hk : w.heap[k]? = some (.cells c e f)) (he : ¬ X k e) : w'.heap[k]? = some (.cells c e f) := by
  rw [h.block k (lt_of_block hk) (fun c' e' f' hc => by rw [hk] at hc; simp only [Option.some.injEq, Obj.cells.injEq] at hc; rw [← hc.2.1]; exact he)]
  exact hk

theorem Kx.owns {X : Nat → Nat → Prop} {w w' : World} (h : Kx X w w') {base : Nat} {e : TypeId} {size : Nat} {v : Value} {n : Nat} {xs : List Value} (ho : w.ownsRow base e size v n xs) (he : ∀ g, v.ownBlock = some g → g < w.heap.size → ¬ X g e) : w'.ownsRow base e size v n xs := by
  refine ⟨ho.1, ?_⟩
  rcases ho.2 with hn | ⟨g, cap, cur, rfl, hb, hg, r⟩
  · exact .inl hn
  · exact .inr ⟨g, cap, cur, rfl, hb, h.keep hg (he g rfl (lt_of_block hg)), r⟩

theorem Kx.below {X : Nat → Nat → Prop} {N : Nat} {w w' : World} (h : Kx X w w') (hN : N ≤ w.heap.size) (hx : ∀ k e, X k e → N ≤ k) : Below N w w' :=
  ⟨h.os, h.tape, h.output, h.size, fun k hk => h.block k (by omega) fun c e f _ hxx => by have := hx k e hxx; omega⟩

/-- A pair that tells a mark. -/
def mk (m : Int) : Pr := ⟨⟨#[109, 97, 114, 107]⟩, ⟨(Lib.itoa m).toArray⟩, true⟩

theorem below_grow_drewN (w : World) (k : Nat) (os : Array Obj) : Below w.heap.size w (grow (w.drewN k) os) := by
  exact Lib.below_grow w.heap.size w (Nat.le_refl _) k os

abbrev Tab (w : World) : Prop := Lib.TabIs Tryz.prog w "internal/strconv.uint64pow10" .u64 Lib.pow10Tab

set_option maxHeartbeats 400000 in
theorem markPair_any (m : Int) (h0 : -9223372036854775808 ≤ m) (h1 : m ≤ 9223372036854775807) (w : World) (ht : ∀ w', Below w.heap.size w w' → Tab w') :
    Calls Tryz.prog 19 #[.int .i64 m] w fun e w' => e = .returned (.agg #[.string (mk m).k, .string (mk m).v, .bool (mk m).g]) ∧ Below w.heap.size w w' := by
  have HI : Hid (∀ w', Below w.heap.size w w' → Calls Tryz.prog 47 #[.int .i64 m] w' fun e w'' => e = .returned (.string ⟨(Lib.itoa m).toArray⟩) ∧ Below w'.heap.size w' w'') := fun w' hb =>
    (Tryz.strconv_Itoa m h0 h1 w' (ht w' hb)).mono fun e w'' ⟨he, k, os, hw⟩ => ⟨he, by rw [hw]; exact below_grow_drewN w' k os⟩
  unfold mk
  simp only
  generalize (⟨(Lib.itoa m).toArray⟩ : ByteArray) = s at HI
  clear ht
  go_enter Tryz.func19, Tryz.ntmps19
  go_wp2_with fail
  refine Calls.mono (HI.out _ ((Below.refl _ _).alloc (Nat.le_refl _) _)) ?_
  rintro e w1 ⟨rfl, hb⟩
  have hs : w.heap.size < w1.heap.size := Nat.lt_of_lt_of_le (by simp) hb.size
  have c0 : w1.cell? ⟨w.heap.size, 0, none⟩ = some (.string ⟨#[]⟩) := by rw [hb.cell (by simp)]; simp
  have c1 : w1.cell? ⟨w.heap.size, 1, none⟩ = some (.string ⟨#[]⟩) := by rw [hb.cell (by simp)]; simp
  have c2 : w1.cell? ⟨w.heap.size, 2, none⟩ = some (.bool false) := by rw [hb.cell (by simp)]; simp
  have f0 : w1.frozen? ⟨w.heap.size, 0, none⟩ = false := by rw [hb.frozen (by simp)]; simp
  have f1 : w1.frozen? ⟨w.heap.size, 1, none⟩ = false := by rw [hb.frozen (by simp)]; simp
  have f2 : w1.frozen? ⟨w.heap.size, 2, none⟩ = false := by rw [hb.frozen (by simp)]; simp
  have HB : Hid (Below w.heap.size w (((w1.setCell ⟨w.heap.size, 0, none⟩ (.string ⟨#[109, 97, 114, 107]⟩)).setCell ⟨w.heap.size, 1, none⟩ (.string s)).setCell ⟨w.heap.size, 2, none⟩ (.bool true))) := by
    have hb' : Below w.heap.size w w1 := ((Below.refl _ _).alloc (Nat.le_refl _) _).trans (hb.mono (by simp))
    exact ((hb'.setCell (Nat.le_refl _) _).setCell (Nat.le_refl _) _).setCell (Nat.le_refl _) _
  clear hb
  go_wp2
  exact bodyPost_ret (v := .agg #[.string ⟨#[109, 97, 114, 107]⟩, .string s, .bool true]) (by simp [results, Tryz.results19, go_sem, c0, c1, c2]) rfl ⟨rfl, HB.out⟩

set_option maxHeartbeats 400000 in
theorem mark_any (wb : Nat) (n : Int) (w : World) (h0 : 0 ≤ n) (h1 : n < 10000000000000) (hc : w.cell? ⟨wb, 10, none⟩ = some (.int .i64 n)) (hf : w.frozen? ⟨wb, 10, none⟩ = false) :
    Calls Tryz.prog 77 #[.pointer (some ⟨wb, 2, none⟩)] w fun e w' => e = .returned (.int .i64 (-(n + 1))) ∧ w' = w.setCell ⟨wb, 10, none⟩ (.int .i64 (n + 1)) := by
  have hc1 : (w.setCell ⟨wb, 10, none⟩ (.int .i64 (n + 1))).cell? ⟨wb, 10, none⟩ = some (.int .i64 (n + 1)) := by
    have := World.cell?_setCell_same w ⟨wb, 10, none⟩ (.int .i64 (n + 1)) hc
    exact this
  go_enter Tryz.func77, Tryz.ntmps77
  go_wp2
  go_ret
  exact ⟨by simp, rfl⟩

set_option maxHeartbeats 1000000 in
set_option maxRecDepth 100000 in
theorem samePairs_any (L : List Pr) (v1 v2 : Value) (b1 b2 : Nat) (w : World) (h1 : w.ownsRow b1 57 3 v1 L.length (pcells L)) (h2 : w.ownsRow b2 57 3 v2 L.length (pcells L)) (hl : L.length < 4500000000000) :
    Calls Tryz.prog 64 #[v1, v2] w fun e w' => e = .returned (.bool true) ∧ Below w.heap.size w w' := by
  obtain ⟨ao1, cap1, rfl⟩ := slice_form h1
  obtain ⟨ao2, cap2, rfl⟩ := slice_form h2
  have H1 : Hid _ := h1
  have H2 : Hid _ := h2
  clear h1 h2
  go_enter Tryz.func64, Tryz.ntmps64
  go_wp2
  go_loopw [5] (fun i wr => ∃ k : Nat, k ≤ L.length ∧ i = .int .i64 k ∧ Hid (Below w.heap.size w wr)) (fun i _ => L.length - (intOf i).toNat)
  case atStart => exact ⟨0, Nat.zero_le _, rfl, Below.refl _ _⟩
  case round =>
    obtain ⟨k, hk, rfl, HB⟩ := hrel
    by_cases hlt : k < L.length
    · obtain ⟨g, cap', hv', hbg, hgl, hcap, hcell⟩ := pr_cells H1.out HB.out (by omega)
      simp only [Value.slice.injEq, true_and] at hv'
      obtain ⟨rfl, rfl⟩ := hv'
      obtain ⟨g2, cap2', hv', hbg2, hgl2, hcap2, hcell2⟩ := pr_cells H2.out HB.out (by omega)
      simp only [Value.slice.injEq, true_and] at hv'
      obtain ⟨rfl, rfl⟩ := hv'
      obtain ⟨p, hp⟩ : ∃ p, L[k]? = some p := ⟨_, List.getElem?_eq_getElem hlt⟩
      obtain ⟨c0, c1, c2⟩ := hcell k p hp
      obtain ⟨d0, d1, d2⟩ := hcell2 k p hp
      have c0 := cell_regrown c0
      have c1 := cell_regrown c1
      have c2 := cell_regrown c2
      have d0 := cell_regrown d0
      have d1 := cell_regrown d1
      have d2 := cell_regrown d2
      have hkl : (k : Int) < (L.length : Int) := by omega
      clear hp hcell hcell2
      go_wp2
      refine wp_region_quiet_below (by kernel_rfl) (by kernel_rfl) ?_
      repeat (first | go_big_quiet_step (fail) | quiet_step (fail))
      refine wpQuiet_nil ?_
      intro w2 hw'
      have hb := below_of_regrown hw'
      have HB2 : Hid (Below w.heap.size w w2) := below_trans' HB.out hb
      clear hb hw'
      go_wp2
      go_roundw
      case rel => exact ⟨k + 1, by omega, by go_num, HB2.out⟩
      case measure => simp [intOf]; omega
    · go_wp2
      go_ret
      exact ⟨rfl, HB.out⟩


end Go.Proofs.YtakipjofboipmaaGreatDoor

/- The walks of this proof: a list that came out is its owner's: it is marked, and put into the book. -/
namespace Go.Proofs.YtakipjofboipmaaGreatDoor
open Go.RowKit Go.Sort

theorem Tryz.info3p : (Tryz.prog.info? 3).map (fun i => (i.zero, i.size, i.bytes)) = some (some (.int .i64 0), 1, 8) := by kernel_rfl


/-- The lists of a book lie as their owner wrote them. -/
def ListsAt (w : World) (P : List (Int × Nat)) (Vs : List Value) : Prop :=
  ∀ (i : Nat) (m : Int) (l : Nat), P[i]? = some (m, l) → ∃ vi, Vs[i]? = some vi ∧ w.ownsRow 0 57 3 vi l (pcells (List.replicate l (mk m)))

/-- The book's other rows: entries and tables with their marks. -/
structure BkQ where
  es : Value
  ts : Value
  em : Value
  tm : Value

def bookCells (vss vrs : Value) (q : BkQ) (vps vpm : Value) (n : Int) : Array Value :=
  #[vss, vrs, vps, q.es, q.ts, .slice none 0 0, vpm, q.em, q.tm, .slice none 0 0, .int .i64 n]

/-- The world's struct in block wb, with its book. -/
def BkAt (D : Nat → Prop) (wb : Nat) (vss vrs : Value) (q : BkQ) (P : List (Int × Nat)) (n : Int) (w : World) : Prop :=
  ∃ (vps vpm : Value) (Vs : List Value), D wb ∧ w.heap[wb]? = some (.cells (bookCells vss vrs q vps vpm n) 36 (0, 0)) ∧ OwnsIn w D 38 1 vps P.length Vs ∧ OwnsIn w D 3 1 vpm P.length (P.map fun p => .int .i64 p.1) ∧ ListsAt w P Vs

/-- What putting a list into the book may turn. -/
def PairsX (D : Nat → Prop) (N : Nat) (k e : Nat) : Prop := (D k ∧ e ∈ [36, 38, 3]) ∨ N ≤ k

theorem ListsAt.kx {w w' : World} {P : List (Int × Nat)} {Vs : List Value} {X : Nat → Nat → Prop} (h : ListsAt w P Vs) (k : Kx X w w') (hx : ∀ g, g < w.heap.size → ¬ X g 57) : ListsAt w' P Vs := fun i m l hi => by
  obtain ⟨vi, h1, h2⟩ := h i m l hi
  exact ⟨vi, h1, k.owns h2 fun g _ hg => hx g hg⟩

/-- The lists that a round of the marking has put into the book. -/
def NewAt (w : World) (m : Int) (len k : Nat) (Vk : List Value) : Prop :=
  Vk.length = k ∧ ∀ j, j < k → ∃ vj, Vk[j]? = some vj ∧ w.ownsRow 0 57 3 vj (len + j) (pcells (List.replicate (len + j) (mk m)))

def newP (m : Int) (len k : Nat) : List (Int × Nat) := (List.range k).map fun j => (m, len + j)

theorem lists_new {w : World} {P : List (Int × Nat)} {Vs Vk : List Value} {m : Int} {len k : Nat} (h : ListsAt w P Vs) (hl : Vs.length = P.length) (hn : NewAt w m len k Vk) : ListsAt w (P ++ newP m len k) (Vs ++ Vk) := by
  intro i m' l hi
  by_cases hlt : i < P.length
  · rw [List.getElem?_append_left hlt] at hi
    obtain ⟨vi, h1, h2⟩ := h i m' l hi
    exact ⟨vi, by rw [List.getElem?_append_left (by omega)]; exact h1, h2⟩
  · rw [List.getElem?_append_right (by omega)] at hi
    have hj : i - P.length < k := by have := (List.getElem?_eq_some_iff.1 hi).1; simpa [newP] using this
    obtain ⟨vj, h1, h2⟩ := hn.2 (i - P.length) hj
    have he : (m', l) = (m, len + (i - P.length)) := by
      simp only [newP, List.getElem?_map, List.getElem?_range hj, Option.map_some, Option.some.injEq] at hi
      exact hi.symm
    cases he
    exact ⟨vj, by rw [List.getElem?_append_right (by omega), hl]; exact h1, h2⟩

theorem set_book {w : World} {wb : Nat} {vss vrs vps vpm : Value} {q : BkQ} {n : Int} (h : w.heap[wb]? = some (.cells (bookCells vss vrs q vps vpm n) 36 (0, 0))) (i : Nat) (v : Value) :
    (w.setCell ⟨wb, i, none⟩ v).heap[wb]? = some (.cells ((bookCells vss vrs q vps vpm n).setIfInBounds i v) 36 (0, 0)) := heap_setCell_same w wb i _ 36 v h

/-- What stands while the marking goes on. -/
structure MkB (D : Nat → Prop) (wb xb N : Nat) (vss vrs : Value) (q : BkQ) (P : List (Int × Nat)) (n m : Int) (len k : Nat) (Vs : List Value) (w wr : World) : Prop where
  bk : ∃ (vps vpm : Value) (Vk : List Value), wr.heap[wb]? = some (.cells (bookCells vss vrs q vps vpm n) 36 (0, 0)) ∧ OwnsIn wr D 38 1 vps (P.length + k) (Vs ++ Vk) ∧ OwnsIn wr D 3 1 vpm (P.length + k) ((P ++ newP m len k).map fun p => .int .i64 p.1) ∧ NewAt wr m len k Vk
  x : wr.heap[xb]? = some (.cells #[.string (mk m).k, .string (mk m).v, .bool (mk m).g] 57 (0, 0))
  fr : Kx (PairsX D N) w wr

/-- A store into the list, ahead of the first that is put into the book. -/
theorem MkB.turn {D : Nat → Prop} {wb xb N : Nat} {vss vrs : Value} {q : BkQ} {P : List (Int × Nat)} {n m : Int} {len : Nat} {Vs : List Value} {w wr wr' : World} (h : MkB D wb xb N vss vrs q P n m len 0 Vs w wr) {g : Nat} (k : Kd (fun b => b = g) [57] wr wr') (hg : N ≤ g) (hx : g ≠ xb) : MkB D wb xb N vss vrs q P n m len 0 Vs w wr' := by
  obtain ⟨vps, vpm, Vk, h1, h2, h3, h4⟩ := h.bk
  refine ⟨⟨vps, vpm, Vk, k.keep h1 (by simp), k.ownsIn h2 (by simp), k.ownsIn h3 (by simp), h4.1, fun j hj => absurd hj (Nat.not_lt_zero _)⟩, k.keepN h.x (fun e => hx e.symm), h.fr.trans (Kx.of_kd k fun b e _ hb _ => .inr (by omega))⟩

def PairsPost (D : Nat → Prop) (wb N : Nat) (vss vrs : Value) (q : BkQ) (P : List (Int × Nat)) (n : Int) (len : Nat) (w : World) (e : Ending) (w' : World) : Prop :=
  e = .returned (.tuple #[]) ∧ BkAt D wb vss vrs q (P ++ newP (-(n + 1)) len 4) (n + 1) w' ∧ Kx (PairsX D N) w w'

theorem alloc_one (W : World) (N : Nat) (hN : N = W.heap.size) (v : Value) (t : TypeId) : ∀ j u, [v][j]? = some u → (W.alloc (.cells #[v] t)).cell? ((⟨N, 0, none⟩ : Addr).add j) = some u := by
  subst hN
  intro j u hj
  match j, hj with
  | 0, hj => simp at hj; subst hj; simp [Addr.add]
  | j + 1, hj => simp at hj

theorem alloc_pair (W : World) (N : Nat) (hN : N = W.heap.size) (p : Pr) : ∀ j u, (Pr.cells p)[j]? = some u → (W.alloc (.cells #[.string p.k, .string p.v, .bool p.g] 57)).cell? ((⟨N, 0, none⟩ : Addr).add j) = some u := by
  subst hN
  exact one_pair W p

theorem newP_succ (m : Int) (len k : Nat) : newP m len (k + 1) = newP m len k ++ [(m, len + k)] := by simp [newP, List.range_succ]

theorem rep_succ (len k : Nat) (p : Pr) : pcells (List.replicate (len + k) p) ++ Pr.cells p = pcells (List.replicate (len + (k + 1)) p) := by
  rw [← Nat.add_assoc, List.replicate_succ', pcells_app]
  simp [pcells]

set_option maxHeartbeats 4000000 in
set_option maxRecDepth 100000 in
theorem pairs_any (D : Nat → Prop) (wb : Nat) (vss vrs : Value) (q : BkQ) (P : List (Int × Nat)) (n : Int) (L : List Pr) (vl : Value) (N0 : Nat) (w0 w : World) (hb0 : BkAt D wb vss vrs q P n w0) (hbel : Below w0.heap.size w0 w) (hD : Opn D w) (hl : w.ownsRow w0.heap.size 57 3 vl L.length (pcells L))
    (hDN : ∀ k, D k → N0 ≤ k) (hN0 : N0 ≤ w0.heap.size) (hT : ∀ w', Below N0 w w' → Tab w') (h0 : 0 ≤ n) (h1 : n < 10000000000000) (hP : P.length < 4500000000000) (hL : L.length < 4500000000000) :
    Calls Tryz.prog 65 #[.pointer (some ⟨wb, 2, none⟩), vl] w fun e w' => PairsPost D wb w0.heap.size vss vrs q P n L.length w e w' := by
  obtain ⟨i57, hi57, hz57a, hz57b, hz57c⟩ := info_parts Tryz.info57
  obtain ⟨i38, hi38, hz38a, hz38b, hz38c⟩ := info_parts Tryz.info38r
  obtain ⟨i3, hi3, hz3a, hz3b, hz3c⟩ := info_parts Tryz.info3p
  obtain ⟨vps, vpm, Vs, hB, hs0, hps0, hpm0, hls⟩ := hb0
  have hs : w.heap[wb]? = some (.cells (bookCells vss vrs q vps vpm n) 36 (0, 0)) := (hbel.block wb (lt_of_block hs0)).trans hs0
  have c10 : w.cell? ⟨wb, 10, none⟩ = some (.int .i64 n) := by simp [World.cell?, hs, bookCells]
  have f10 : w.frozen? ⟨wb, 10, none⟩ = false := by simp [World.frozen?, hs]
  have hk1 := Kd.field hB hs 10 (.int .i64 (n + 1))
  have hs1 := set_book hs 10 (.int .i64 (n + 1))
  have e1 : (bookCells vss vrs q vps vpm n).setIfInBounds 10 (.int .i64 (n + 1)) = bookCells vss vrs q vps vpm (n + 1) := by simp [bookCells]
  rw [e1] at hs1
  obtain ⟨m, hm⟩ : ∃ m, -(n + 1) = m := ⟨_, rfl⟩
  have HMK : Hid (∀ w', Below (w.setCell ⟨wb, 10, none⟩ (.int .i64 (n + 1))).heap.size (w.setCell ⟨wb, 10, none⟩ (.int .i64 (n + 1))) w' → Tab w') := fun w' hb => hT w' (((Below.refl _ _).setCell (hDN wb hB) _).trans (hb.mono (by have := hbel.size; simp [World.setCell]; omega)))
  have HPS : Hid (OwnsIn (w.setCell ⟨wb, 10, none⟩ (.int .i64 (n + 1))) D 38 1 vps P.length Vs ∧ OwnsIn (w.setCell ⟨wb, 10, none⟩ (.int .i64 (n + 1))) D 3 1 vpm P.length (P.map fun p => .int .i64 p.1) ∧ (w.setCell ⟨wb, 10, none⟩ (.int .i64 (n + 1))).heap[wb]? = some (.cells (bookCells vss vrs q vps vpm (n + 1)) 36 (0, 0)) ∧ (w.setCell ⟨wb, 10, none⟩ (.int .i64 (n + 1))).ownsRow w0.heap.size 57 3 vl L.length (pcells L) ∧ Kd D [36] w (w.setCell ⟨wb, 10, none⟩ (.int .i64 (n + 1)))) :=
    ⟨hk1.ownsIn (hps0.below hbel) (by simp), hk1.ownsIn (hpm0.below hbel) (by simp), hs1, hk1.owns hl (by simp), hk1⟩
  have HD : Hid (Opn D w ∧ D wb) := ⟨hD, hB⟩
  have HLS : Hid (ListsAt w0 P Vs ∧ Below w0.heap.size w0 w ∧ Vs.length = P.length) := ⟨hls, hbel, by have := hps0.own.1; omega⟩
  have HM : Hid (-(n + 1) = m) := hm
  have hwb : wb < w.heap.size := lt_of_block hs
  have hww : w0.heap.size ≤ w.heap.size := hbel.size
  obtain ⟨N, hN⟩ : ∃ N, w0.heap.size = N := ⟨_, rfl⟩
  rw [hN] at HPS hww
  have HNN : Hid (w0.heap.size = N) := hN
  have HDN : Hid (∀ k, D k → N0 ≤ k) := hDN
  have hm0 : -9223372036854775808 ≤ m := by omega
  have hm1 : m ≤ 9223372036854775807 := by omega
  obtain ⟨aoL, capL, rfl⟩ := slice_form hl
  generalize hpost : (fun (e : Ending) (w' : World) => PairsPost D wb w0.heap.size vss vrs q P n L.length w e w') = PP
  have HPP : Hid (∀ w', BkAt D wb vss vrs q (P ++ newP m L.length 4) (n + 1) w' → Kx (PairsX D N) w w' → PP (.returned (.tuple #[])) w') := fun w' h2 h3 => by
    rw [← hpost]; unfold PairsPost; rw [HNN.out, HM.out]; exact ⟨rfl, h2, h3⟩
  clear hpost hs hs0 hs1 hps0 hpm0 hls hk1 e1 hbel hl hT hD hDN hm hN0 hN
  go_enter Tryz.func65, Tryz.ntmps65
  go_wp2_with fail
  refine (mark_any wb n w h0 h1 c10 f10).mono ?_
  rintro e w1 ⟨rfl, hw1⟩
  rw [HM.out]
  rw [← hw1] at HMK HPS
  have HW1 : Hid (w1 = w.setCell ⟨wb, 10, none⟩ (.int .i64 (n + 1))) := hw1
  clear hw1 c10 f10
  go_wp2_with fail
  refine (markPair_any m hm0 hm1 w1 HMK.out).mono ?_
  rintro e w2 ⟨rfl, hb2⟩
  have HB2 : Hid (Below w1.heap.size w1 w2) := hb2
  have MB0 : Hid (MkB D wb w2.heap.size N vss vrs q P (n + 1) m L.length 0 Vs w (w2.alloc (.cells #[.string (mk m).k, .string (mk m).v, .bool (mk m).g] 57))) := by
    obtain ⟨a1, a2, a3, a4, a5⟩ := HPS.out
    have kb : Below w1.heap.size w1 (w2.alloc (.cells #[.string (mk m).k, .string (mk m).v, .bool (mk m).g] 57)) := HB2.out.alloc HB2.out.size _
    refine ⟨⟨vps, vpm, [], (kb.block wb (lt_of_block a3)).trans a3, ?_, ?_, rfl, fun j hj => absurd hj (Nat.not_lt_zero _)⟩, heap_alloc_new w2 _, (Kx.of_kd a5 fun k e _ hd he => .inl ⟨hd, by simp at he; subst he; simp⟩).trans (Kx.of_below kb)⟩
    · rw [List.append_nil]; exact a1.below kb
    · simp only [newP, List.range_zero, List.map_nil, List.append_nil]; exact a2.below kb
  have R0 : Hid ((w2.alloc (.cells #[.string (mk m).k, .string (mk m).v, .bool (mk m).g] 57)).ownsRow N 57 3 (.slice aoL L.length capL) L.length (pcells (List.replicate 0 (mk m)) ++ pcells L)) :=
    (Kp.of_below (B := 0) (ts := []) (show Below w1.heap.size w1 _ from HB2.out.alloc HB2.out.size _)).owns HPS.out.2.2.2.1 (by simp)
  have hxN : N ≤ w2.heap.size := by have h3 := HB2.out.size; have h4 := HPS.out.2.2.2.2.size; omega
  have hrl0 : (pcells L).length = L.length * 3 := pcells_len L
  have HXL : Hid (∀ g, (Value.slice aoL L.length capL).ownBlock = some g → N ≤ g ∧ g < w2.heap.size) := fun g hg => by
    have h5 := HPS.out.2.2.2.1.lt g hg
    have h6 := HB2.out.size
    omega
  obtain ⟨xb, hxb⟩ : ∃ xb, w2.heap.size = xb := ⟨_, rfl⟩
  have HXB : Hid (w2.heap.size = xb) := hxb
  generalize pcells L = R00 at R0 hrl0
  go_wp2
  rw [HXB.out] at MB0 HXL hxN
  clear hxb HB2 HPS
  go_loopw [6] (fun i wr => ∃ (k : Nat) (rest : List Value), k ≤ L.length ∧ i = .int .i64 k ∧ rest.length = (L.length - k) * 3 ∧ Hid (wr.ownsRow N 57 3 (.slice aoL L.length capL) L.length (pcells (List.replicate k (mk m)) ++ rest)) ∧ Hid (MkB D wb xb N vss vrs q P (n + 1) m L.length 0 Vs w wr)) (fun i _ => L.length - (intOf i).toNat)
  case atStart => exact ⟨0, R00, Nat.zero_le _, rfl, by rw [hrl0]; rfl, R0.out, MB0.out⟩
  case round =>
    clear R0 MB0 hrl0
    obtain ⟨k, rest, hk, rfl, hrl, HR, HMB⟩ := hrel
    have cx0 : wr.cell? ⟨xb, 0, none⟩ = some (.string (mk m).k) := by simp [World.cell?, HMB.out.x]
    have cx1 : wr.cell? ⟨xb, 1, none⟩ = some (.string (mk m).v) := by simp [World.cell?, HMB.out.x]
    have cx2 : wr.cell? ⟨xb, 2, none⟩ = some (.bool (mk m).g) := by simp [World.cell?, HMB.out.x]
    by_cases hlt : k < L.length
    · obtain ⟨g, cap', hv, hNg, hgl⟩ := HR.out.form (by omega)
      simp only [Value.slice.injEq, true_and] at hv
      obtain ⟨rfl, rfl⟩ := hv
      have hput := put_raw HR.out (by omega) (mk m)
      rw [List.length_replicate, ← List.replicate_succ'] at hput
      have hgx : g ≠ xb := fun e => by have := (HXL.out g rfl).2; omega
      have hcur : ∃ cur, wr.heap[g]? = some (.cells cur 57 (0, 0)) := by
        rcases HR.out.2 with ⟨h, _⟩ | ⟨g', cap', cur, hv, _, hg, _⟩
        · cases h
        · simp only [Value.slice.injEq, Option.some.injEq, Addr.mk.injEq, and_true] at hv
          obtain ⟨rfl, _⟩ := hv
          exact ⟨cur, hg⟩
      have hce : ∀ o, o < L.length * 3 → (wr.cell? ⟨g, o, none⟩).isSome = true ∧ wr.frozen? ⟨g, o, none⟩ = false := fun o ho => by
        obtain ⟨cur, hg⟩ := hcur
        refine ⟨?_, by simp [World.frozen?, hg]⟩
        rw [HR.out.cellAt o ho]
        rw [List.getElem?_eq_getElem (by rw [HR.out.1]; exact ho)]
        rfl
      have HF : Hid ((((wr.setCell ⟨g, k * 3, none⟩ (.string (mk m).k)).setCell ⟨g, k * 3 + 1, none⟩ (.string (mk m).v)).setCell ⟨g, k * 3 + 2, none⟩ (.bool (mk m).g)).ownsRow N 57 3 (.slice (some ⟨g, 0, none⟩) L.length capL) L.length (pcells (List.replicate (k + 1) (mk m)) ++ rest.drop 3) ∧ MkB D wb xb N vss vrs q P (n + 1) m L.length 0 Vs w (((wr.setCell ⟨g, k * 3, none⟩ (.string (mk m).k)).setCell ⟨g, k * 3 + 1, none⟩ (.string (mk m).v)).setCell ⟨g, k * 3 + 2, none⟩ (.bool (mk m).g))) := by
        refine ⟨hput, ?_⟩
        obtain ⟨cur, hg⟩ := hcur
        have h1 := heap_setCell_same wr g (k * 3) cur 57 (.string (mk m).k) hg
        have h2 := heap_setCell_same _ g (k * 3 + 1) _ 57 (.string (mk m).v) h1
        exact HMB.out.turn ((((Kd.refl (fun b => b = g) [57] wr).setCell rfl hg (by simp) _).setCell rfl h1 (by simp) _).setCell rfl h2 (by simp) _) hNg hgx
      obtain ⟨x0, y0⟩ := hce (k * 3) (by omega)
      obtain ⟨x1, y1⟩ := hce (k * 3 + 1) (by omega)
      obtain ⟨x2, y2⟩ := hce (k * 3 + 2) (by omega)
      obtain ⟨u0, x0⟩ := Option.isSome_iff_exists.1 x0
      obtain ⟨u1, x1⟩ := Option.isSome_iff_exists.1 x1
      obtain ⟨u2, x2⟩ := Option.isSome_iff_exists.1 x2
      clear hcur hput hce hgx hgl
      have hkl : (k : Int) < (L.length : Int) := by omega
      go_wp2
      go_roundw
      case rel => exact ⟨k + 1, rest.drop 3, by omega, by go_num, by rw [List.length_drop]; omega, HF.out.1, HF.out.2⟩
      case measure => simp [intOf]; omega
    · obtain rfl : k = L.length := by omega
      obtain rfl : rest = [] := List.eq_nil_of_length_eq_zero (by omega)
      have HR0 : Hid (wr.ownsRow N 57 3 (.slice aoL (L.length + 0) capL) (L.length + 0) (pcells (List.replicate (L.length + 0) (mk m)))) := by
        have := HR.out
        rw [List.append_nil] at this
        exact this
      have HMB0 := HMB
      have HNE : Hid ((Value.slice aoL (L.length + 0) capL).ownBlock ≠ some xb) := fun e => by have := (HXL.out xb e).2; omega
      clear HR HMB hrl cx0 cx1 cx2
      go_wp2
      go_loopw [1, 7, 8] (fun s1 i s8 wx => ∃ (k : Nat), k ≤ 4 ∧ i = .int .i64 k ∧ (∃ ao cap, s1 = .slice ao (L.length + k) cap) ∧ Hid (wx.ownsRow N 57 3 s1 (L.length + k) (pcells (List.replicate (L.length + k) (mk m)))) ∧ Hid (s1.ownBlock ≠ some xb) ∧ Hid (MkB D wb xb N vss vrs q P (n + 1) m L.length k Vs w wx)) (fun _ i _ _ => 4 - (intOf i).toNat)
      case atStart => exact ⟨0, by omega, rfl, ⟨_, _, rfl⟩, HR0.out, HNE.out, HMB0.out⟩
      case round =>
        clear HR0 HNE HMB0
        obtain ⟨k, hk, rfl, ⟨ao1, cap1, rfl⟩, HR, HNE, HMB⟩ := hrel
        by_cases hlt : k < 4
        · obtain ⟨vps', vpm', Vk, b1, b2, b3, b4⟩ := HMB.out.bk
          obtain ⟨aoP, capP, rfl⟩ := slice_form b2.own
          obtain ⟨aoM, capM, rfl⟩ := slice_form b3.own
          have c2 : wr.cell? ⟨wb, 2, none⟩ = some (.slice aoP (P.length + k) capP) := by simp [World.cell?, b1, bookCells]
          have hwr : w.heap.size ≤ wr.heap.size := HMB.out.fr.size
          have hDr : Hid (Opn D wr) := HD.out.1.later hwr
          have hxw : Hid (wr.heap[xb]? = some (.cells #[.string (mk m).k, .string (mk m).v, .bool (mk m).g] 57 (0, 0))) := HMB.out.x
          have hne : wb ≠ xb := fun e => by
            have h5 := HMB.out.x
            rw [← e, b1] at h5
            simp at h5
          have hne' : xb ≠ wb := fun e => hne e.symm
          have HBK : Hid (wr.heap[wb]? = some (.cells (bookCells vss vrs q (.slice aoP (P.length + k) capP) (.slice aoM (P.length + k) capM) (n + 1)) 36 (0, 0)) ∧ OwnsIn wr D 38 1 (.slice aoP (P.length + k) capP) (P.length + k) (Vs ++ Vk) ∧ OwnsIn wr D 3 1 (.slice aoM (P.length + k) capM) (P.length + k) ((P ++ newP m L.length k).map fun p => .int .i64 p.1) ∧ NewAt wr m L.length k Vk) := ⟨b1, b2, b3, b4⟩
          clear b1 b2 b3 b4
          go_wp2_with (at_builtin; refine wpList_append_lies _ rfl (.tmp 31) (.tmp 33) 28 rfl 0 38 i38 _ 1 24 Tryz.underlying28 hi38 hz38a hz38b hz38c rfl (by decide) _ _ _ rfl (HBK.out.2.1.own.alloc _) ⟨wr.heap.size, 0, none⟩ 1 1 [.slice ao1 (L.length + k) cap1] rfl rfl (by intro j u hj; match j, hj with | 0, hj => (simp at hj; subst hj; simp [Addr.add]) | j + 1, hj => (simp at hj)) (by intro u hu; simp at hu; subst hu; rfl) (by omega) (by unfold maxLen; omega) (by omega) (Nat.zero_le _) _ rfl ?_)
          intro g1 capg1 w3 ho3 hg3 hat3 hlt3
          have K3 : Kd D [38] wr w3 := ((Kd.refl D [38] wr).alloc _).grown (HBK.out.2.1.alloc _) hg3 (by simp)
          have s3 := K3.keep HBK.out.1 (by simp)
          have N3 : OwnsIn w3 D 38 1 (.slice (some ⟨g1, 0, none⟩) (P.length + k + 1) capg1) (P.length + k + 1) (Vs ++ (Vk ++ [.slice ao1 (L.length + k) cap1])) := HBK.out.2.1.put hDr.out ho3 (hat3.imp id fun e => by rw [e]; simp)
          have c2b : w3.cell? ⟨wb, 2, none⟩ = some (.slice aoP (P.length + k) capP) := by simp [World.cell?, s3, bookCells]
          have f2b : w3.frozen? ⟨wb, 2, none⟩ = false := by simp [World.frozen?, s3]
          have c6b : w3.cell? ⟨wb, 6, none⟩ = some (.slice aoM (P.length + k) capM) := by simp [World.cell?, s3, bookCells]
          have k4 := Kd.field HD.out.2 s3 2 (.slice (some ⟨g1, 0, none⟩) (P.length + k + 1) capg1)
          have s4 := set_book s3 2 (.slice (some ⟨g1, 0, none⟩) (P.length + k + 1) capg1)
          have e4 : (bookCells vss vrs q (.slice aoP (P.length + k) capP) (.slice aoM (P.length + k) capM) (n + 1)).setIfInBounds 2 (.slice (some ⟨g1, 0, none⟩) (P.length + k + 1) capg1) = bookCells vss vrs q (.slice (some ⟨g1, 0, none⟩) (P.length + k + 1) capg1) (.slice aoM (P.length + k) capM) (n + 1) := by simp [bookCells]
          rw [e4] at s4
          have M4 : Hid (OwnsIn (w3.setCell ⟨wb, 2, none⟩ (.slice (some ⟨g1, 0, none⟩) (P.length + k + 1) capg1)) D 3 1 (.slice aoM (P.length + k) capM) (P.length + k) ((P ++ newP m L.length k).map fun p => .int .i64 p.1)) := k4.ownsIn (K3.ownsIn HBK.out.2.2.1 (by simp)) (by simp)
          have A4 : Hid (Kd D [36, 38, 3] wr (w3.setCell ⟨wb, 2, none⟩ (.slice (some ⟨g1, 0, none⟩) (P.length + k + 1) capg1)) ∧ (w3.setCell ⟨wb, 2, none⟩ (.slice (some ⟨g1, 0, none⟩) (P.length + k + 1) capg1)).heap[wb]? = some (.cells (bookCells vss vrs q (.slice (some ⟨g1, 0, none⟩) (P.length + k + 1) capg1) (.slice aoM (P.length + k) capM) (n + 1)) 36 (0, 0)) ∧ OwnsIn (w3.setCell ⟨wb, 2, none⟩ (.slice (some ⟨g1, 0, none⟩) (P.length + k + 1) capg1)) D 38 1 (.slice (some ⟨g1, 0, none⟩) (P.length + k + 1) capg1) (P.length + k + 1) (Vs ++ (Vk ++ [.slice ao1 (L.length + k) cap1]))) := ⟨(K3.mono (by simp)).trans (k4.mono (by simp)), s4, k4.ownsIn N3 (by simp)⟩
          clear ho3 hg3 hat3 hlt3 K3 s3 N3 k4 s4 e4 c2
          go_wp2_with (at_builtin; refine wpList_append_lies _ rfl (.tmp 41) (.tmp 43) 32 rfl 0 3 i3 _ 1 8 Tryz.underlying32 hi3 hz3a hz3b hz3c rfl (by decide) _ _ _ rfl (M4.out.own.alloc _) ⟨w3.heap.size, 0, none⟩ 1 1 [.int .i64 m] rfl rfl (alloc_one _ _ (by simp [World.setCell]) _ _) (by intro u hu; simp at hu; subst hu; rfl) (by omega) (by unfold maxLen; omega) (by omega) (Nat.zero_le _) _ rfl ?_)
          intro g2 capg2 w5 ho5 hg5 hat5 hlt5
          have hDw4 : Opn D (w3.setCell ⟨wb, 2, none⟩ (.slice (some ⟨g1, 0, none⟩) (P.length + k + 1) capg1)) := hDr.out.later A4.out.1.size
          have K5 : Kd D [36, 38, 3] wr w5 := A4.out.1.trans ((((Kd.refl D [3] _).alloc _).grown (M4.out.alloc _) hg5 (by simp)).mono (by simp))
          have K5' : Kd D [3] (w3.setCell ⟨wb, 2, none⟩ (.slice (some ⟨g1, 0, none⟩) (P.length + k + 1) capg1)) w5 := ((Kd.refl D [3] _).alloc _).grown (M4.out.alloc _) hg5 (by simp)
          have s5 := K5'.keep A4.out.2.1 (by simp)
          have N5 : OwnsIn w5 D 3 1 (.slice (some ⟨g2, 0, none⟩) (P.length + k + 1) capg2) (P.length + k + 1) ((P ++ newP m L.length k).map (fun p => Value.int .i64 p.1) ++ [.int .i64 m]) := M4.out.put hDw4 (by rw [List.map_append, List.append_assoc]; exact ho5) (hat5.imp id fun e => by rw [e]; simp)
          have Q5 := K5'.ownsIn A4.out.2.2 (by simp)
          have c6c : w5.cell? ⟨wb, 6, none⟩ = some (.slice aoM (P.length + k) capM) := by simp [World.cell?, s5, bookCells]
          have f6c : w5.frozen? ⟨wb, 6, none⟩ = false := by simp [World.frozen?, s5]
          have x5 := K5.keep hxw.out (by simp)
          have cx0 : w5.cell? ⟨xb, 0, none⟩ = some (.string (mk m).k) := by simp [World.cell?, x5]
          have cx1 : w5.cell? ⟨xb, 1, none⟩ = some (.string (mk m).v) := by simp [World.cell?, x5]
          have cx2 : w5.cell? ⟨xb, 2, none⟩ = some (.bool (mk m).g) := by simp [World.cell?, x5]
          have k6 := Kd.field HD.out.2 s5 6 (.slice (some ⟨g2, 0, none⟩) (P.length + k + 1) capg2)
          have s6 := set_book s5 6 (.slice (some ⟨g2, 0, none⟩) (P.length + k + 1) capg2)
          have e6 : (bookCells vss vrs q (.slice (some ⟨g1, 0, none⟩) (P.length + k + 1) capg1) (.slice aoM (P.length + k) capM) (n + 1)).setIfInBounds 6 (.slice (some ⟨g2, 0, none⟩) (P.length + k + 1) capg2) = bookCells vss vrs q (.slice (some ⟨g1, 0, none⟩) (P.length + k + 1) capg1) (.slice (some ⟨g2, 0, none⟩) (P.length + k + 1) capg2) (n + 1) := by simp [bookCells]
          rw [e6] at s6
          have K6 : Kd D [36, 38, 3] wr (w5.setCell ⟨wb, 6, none⟩ (.slice (some ⟨g2, 0, none⟩) (P.length + k + 1) capg2)) := K5.trans (k6.mono (by simp))
          have A6 : Hid (Kd D [36, 38, 3] wr (w5.setCell ⟨wb, 6, none⟩ (.slice (some ⟨g2, 0, none⟩) (P.length + k + 1) capg2)) ∧ (w5.setCell ⟨wb, 6, none⟩ (.slice (some ⟨g2, 0, none⟩) (P.length + k + 1) capg2)).heap[wb]? = some (.cells (bookCells vss vrs q (.slice (some ⟨g1, 0, none⟩) (P.length + k + 1) capg1) (.slice (some ⟨g2, 0, none⟩) (P.length + k + 1) capg2) (n + 1)) 36 (0, 0)) ∧ OwnsIn (w5.setCell ⟨wb, 6, none⟩ (.slice (some ⟨g2, 0, none⟩) (P.length + k + 1) capg2)) D 38 1 (.slice (some ⟨g1, 0, none⟩) (P.length + k + 1) capg1) (P.length + k + 1) (Vs ++ (Vk ++ [.slice ao1 (L.length + k) cap1])) ∧ OwnsIn (w5.setCell ⟨wb, 6, none⟩ (.slice (some ⟨g2, 0, none⟩) (P.length + k + 1) capg2)) D 3 1 (.slice (some ⟨g2, 0, none⟩) (P.length + k + 1) capg2) (P.length + k + 1) ((P ++ newP m L.length (k + 1)).map (fun p => Value.int .i64 p.1)) ∧ (w5.setCell ⟨wb, 6, none⟩ (.slice (some ⟨g2, 0, none⟩) (P.length + k + 1) capg2)).heap[xb]? = some (.cells #[.string (mk m).k, .string (mk m).v, .bool (mk m).g] 57 (0, 0))) := by
            refine ⟨K6, s6, k6.ownsIn Q5 (by simp), ?_, K6.keep hxw.out (by simp)⟩
            have h7 := k6.ownsIn N5 (by simp)
            rw [newP_succ]
            simpa using h7
          have R6 : Hid ((w5.setCell ⟨wb, 6, none⟩ (.slice (some ⟨g2, 0, none⟩) (P.length + k + 1) capg2)).ownsRow N 57 3 (.slice ao1 (L.length + k) cap1) (L.length + k) (pcells (List.replicate (L.length + k) (mk m)))) := K6.owns HR.out (by simp)
          have hN6 : N ≤ w5.heap.size := Nat.le_trans hww (Nat.le_trans hwr K5.size)
          clear ho5 hg5 hat5 hlt5 K5 K5' s5 N5 Q5 x5 k6 s6 e6 K6 hDw4 c2b f2b c6b
          go_wp2_with (at_builtin; refine wpList_append_keeps rfl (.tmp 47) (.tmp 49) 38 rfl N 57 i57 _ 3 40 Tryz.underlying38 hi57 hz57a hz57b hz57c rfl (by decide) _ _ _ rfl (R6.out.alloc _) ⟨w5.heap.size, 0, none⟩ 1 1 (Pr.cells (mk m)) rfl rfl (alloc_pair _ _ (by simp [World.setCell]) _) (ones_pair _) (by omega) (by unfold maxLen; omega) (by omega) (by simp [World.setCell]; omega) ?_)
          intro g3 capg3 w7 ho7 k7 hat7 hkeep
          have K7 : Kd (fun b => (Value.slice ao1 (L.length + k) cap1).ownBlock = some b) [57] (w5.setCell ⟨wb, 6, none⟩ (.slice (some ⟨g2, 0, none⟩) (P.length + k + 1) capg2)) w7 := (Kd.of_below ((Below.refl _ _).alloc (Nat.le_refl _) _)).trans k7
          have KEEP : ∀ b' v' n' ys, (w5.setCell ⟨wb, 6, none⟩ (.slice (some ⟨g2, 0, none⟩) (P.length + k + 1) capg2)).ownsRow b' 57 3 v' n' ys → n' ≤ L.length + k → w7.ownsRow b' 57 3 v' n' ys := fun b' v' n' ys h hn => hkeep b' v' n' ys (h.alloc _) hn
          have HF : Hid (w7.ownsRow N 57 3 (.slice (some ⟨g3, 0, none⟩) (L.length + (k + 1)) capg3) (L.length + (k + 1)) (pcells (List.replicate (L.length + (k + 1)) (mk m))) ∧ (Value.slice (some ⟨g3, 0, none⟩) (L.length + (k + 1)) capg3).ownBlock ≠ some xb ∧ MkB D wb xb N vss vrs q P (n + 1) m L.length (k + 1) Vs w w7) := by
            refine ⟨by rw [← rep_succ]; exact ho7, ?_, ⟨⟨_, _, Vk ++ [.slice ao1 (L.length + k) cap1], K7.keep A6.out.2.1 (by simp), K7.ownsIn A6.out.2.2.1 (by simp), K7.ownsIn A6.out.2.2.2.1 (by simp), ?_, ?_⟩, ?_, ?_⟩⟩
            · simp only [Value.ownBlock, ne_eq, Option.some.injEq]
              intro e
              rcases hat7 with h8 | h8
              · exact HNE.out (by rw [h8, e])
              · have h9 := (Array.getElem?_eq_some_iff.1 A6.out.2.2.2.2).1
                simp only [World.setCell, Array.size_modify] at h9
                try simp [World.setCell] at h8
                omega
            · rw [List.length_append, HBK.out.2.2.2.1]; rfl
            · intro j hj
              rcases Nat.lt_succ_iff_lt_or_eq.1 hj with hj | rfl
              · obtain ⟨vj, h8, h9⟩ := HBK.out.2.2.2.2 j hj
                refine ⟨vj, by rw [List.getElem?_append_left (by rw [HBK.out.2.2.2.1]; exact hj)]; exact h8, KEEP _ _ _ _ (A6.out.1.owns h9 (by simp)) (by omega)⟩
              · refine ⟨_, by rw [List.getElem?_append_right (by rw [HBK.out.2.2.2.1]; exact Nat.le_refl _), HBK.out.2.2.2.1, Nat.sub_self]; rfl, KEEP _ _ _ _ (owns_base R6.out (Nat.zero_le _)) (Nat.le_refl _)⟩
            · exact K7.keepN A6.out.2.2.2.2 HNE.out
            · refine (HMB.out.fr.trans (Kx.of_kd A6.out.1 fun b e _ hd he => .inl ⟨hd, he⟩)).trans (Kx.of_kd K7 fun b e _ hd _ => .inr ?_)
              exact (R6.out.lt b hd).1
          clear ho7 k7 hat7 hkeep K7 KEEP
          go_wp2
          go_roundw
          case rel => exact ⟨k + 1, by omega, by go_num, ⟨_, _, rfl⟩, HF.out.1, HF.out.2.1, HF.out.2.2⟩
          case measure => simp [intOf]; omega
        · obtain rfl : k = 4 := by omega
          rw [show (((4 : Nat) : Int)) = 4 from rfl]
          have HF : Hid (BkAt D wb vss vrs q (P ++ newP m L.length 4) (n + 1) wr ∧ Kx (PairsX D N) w wr) := by
            obtain ⟨vps', vpm', Vk, b1, b2, b3, b4⟩ := HMB.out.bk
            have hll : (P ++ newP m L.length 4).length = P.length + 4 := by simp [newP]
            refine ⟨⟨vps', vpm', Vs ++ Vk, HD.out.2, b1, by rw [hll]; exact b2, by rw [hll]; exact b3, lists_new ?_ HLS.out.2.2 b4⟩, HMB.out.fr⟩
            have kx : Kx (PairsX D N) w0 wr := (Kx.of_below HLS.out.2.1).trans HMB.out.fr
            refine HLS.out.1.kx kx fun g hg hx => ?_
            rcases hx with ⟨_, hx⟩ | hx
            · simp at hx
            · rw [HNN.out] at hg; omega
          go_wp2
          go_end0
          exact HPP.out _ HF.out.1 HF.out.2
end Go.Proofs.YtakipjofboipmaaGreatDoor

/- The walks of this proof: do all lists that came out hold what their owner wrote? -/
namespace Go.Proofs.YtakipjofboipmaaGreatDoor
open Go.RowKit Go.Sort

/-- The cells of a row whose elements take one cell. -/
theorem row_one {w : World} {base : Nat} {e : TypeId} {v : Value} {n : Nat} {xs : List Value} (h : w.ownsRow base e 1 v n xs) {i : Nat} {u : Value} (hu : xs[i]? = some u) : ∃ g cap, v = .slice (some ⟨g, 0, none⟩) n cap ∧ g < w.heap.size ∧ w.cell? ⟨g, i, none⟩ = some u := by
  have hi : i < xs.length := (List.getElem?_eq_some_iff.1 hu).1
  have hx := h.1
  rcases h.2 with ⟨_, h0⟩ | ⟨g, cap, cur, rfl, hb, hg, hnc, _⟩
  · omega
  · exact ⟨g, cap, rfl, lt_of_block hg, by rw [h.cellAt i (by omega)]; exact hu⟩

/-- The entry that tells a mark. -/
def mkE (m : Int) : En := ⟨⟨#[109, 97, 114, 107]⟩, m, false, ⟨#[]⟩⟩

/-- The book's lists of entries, as their owner wrote them. -/
def BkE (D : Nat → Prop) (ves vem : Value) (P : List (Int × Nat)) (w : World) : Prop :=
  ∃ Ve : List Value, OwnsIn w D 59 1 ves P.length Ve ∧ OwnsIn w D 3 1 vem P.length (P.map fun p => .int .i64 p.1) ∧ ∀ (i : Nat) (m : Int) (l : Nat), P[i]? = some (m, l) → ∃ vi, Ve[i]? = some vi ∧ OwnsIn w D 61 4 vi l (ecells (List.replicate l (mkE m)))

/-- The cells of a list of tables that tell a mark. -/
def mtcells (l : Nat) (m : Int) : List Value := (List.replicate l m).flatMap fun m => [.int .i64 m, .slice none 0 0]

/-- The book's lists of tables, as their owner wrote them. -/
def BkT (D : Nat → Prop) (vts vtm : Value) (P : List (Int × Nat)) (w : World) : Prop :=
  ∃ Vt : List Value, OwnsIn w D 62 1 vts P.length Vt ∧ OwnsIn w D 3 1 vtm P.length (P.map fun p => .int .i64 p.1) ∧ ∀ (i : Nat) (m : Int) (l : Nat), P[i]? = some (m, l) → ∃ vi, Vt[i]? = some vi ∧ OwnsIn w D 64 2 vi l (mtcells l m)

theorem mt_cells {w w' : World} {base l : Nat} {m : Int} {v : Value} (h : w.ownsRow base 64 2 v l (mtcells l m)) (hb : Below w.heap.size w w') {k : Nat} (hk : k < l) :
    ∃ g cap, v = .slice (some ⟨g, 0, none⟩) l cap ∧ w'.cell? ⟨g, k * 2, none⟩ = some (.int .i64 m) ∧ w'.cell? ⟨g, k * 2 + 1, none⟩ = some (.slice none 0 0) := by
  have h' : w.ownsRow base 64 2 v (List.replicate l m).length ((List.replicate l m).flatMap fun m => [.int .i64 m, .slice none 0 0]) := by rw [List.length_replicate]; exact h
  obtain ⟨g, cap, rfl, _, _, _, hcell⟩ := row_cell (fun a => by rfl) h' (by rw [List.length_replicate]; omega)
  rw [List.length_replicate]
  have hm : (List.replicate l m)[k]? = some m := by rw [List.getElem?_replicate, if_pos hk]
  exact ⟨g, cap, rfl, cell_later hb (by simpa using hcell k m 0 hm (by omega)), cell_later hb (by simpa using hcell k m 1 hm (by omega))⟩

theorem me_cells {w w' : World} {base l : Nat} {m : Int} {v : Value} (h : w.ownsRow base 61 4 v l (ecells (List.replicate l (mkE m)))) (hb : Below w.heap.size w w') {k : Nat} (hk : k < l) :
    ∃ g cap, v = .slice (some ⟨g, 0, none⟩) l cap ∧ w'.cell? ⟨g, k * 4, none⟩ = some (.string ⟨#[109, 97, 114, 107]⟩) ∧ w'.cell? ⟨g, k * 4 + 1, none⟩ = some (.int .i64 m) ∧ w'.cell? ⟨g, k * 4 + 2, none⟩ = some (.bool false) ∧ w'.cell? ⟨g, k * 4 + 3, none⟩ = some (.string ⟨#[]⟩) := by
  have h' : w.ownsRow base 61 4 v (List.replicate l (mkE m)).length (ecells (List.replicate l (mkE m))) := by rw [List.length_replicate]; exact h
  obtain ⟨g, cap, rfl, _, _, _, hcell⟩ := row_cell (fun a => by rfl) h' (by rw [List.length_replicate]; omega)
  rw [List.length_replicate]
  have hm : (List.replicate l (mkE m))[k]? = some (mkE m) := by rw [List.getElem?_replicate, if_pos hk]
  exact ⟨g, cap, rfl, cell_later hb (hcell k _ 0 hm (by omega)), cell_later hb (hcell k _ 1 hm (by omega)), cell_later hb (hcell k _ 2 hm (by omega)), cell_later hb (hcell k _ 3 hm (by omega))⟩

set_option maxHeartbeats 8000000 in
set_option maxRecDepth 100000 in
theorem bkept_any (D : Nat → Prop) (wb : Nat) (vss vrs : Value) (q : BkQ) (P : List (Int × Nat)) (n : Int) (w : World) (hb : BkAt D wb vss vrs q P n w) (De Dt : Nat → Prop) (Pe Pt : List (Int × Nat)) (hbe : BkE De q.es q.em Pe w) (hbt : BkT Dt q.ts q.tm Pt w) (hT : ∀ w', Below w.heap.size w w' → Tab w') (hP : P.length < 4500000000000) (hPe : Pe.length < 10000000000000) (hPt : Pt.length < 10000000000000) (hle : ∀ p ∈ Pe, p.2 < 4500000000000) (hlt : ∀ p ∈ Pt, p.2 < 4500000000000) (hl : ∀ p ∈ P, -9223372036854775808 ≤ p.1 ∧ p.1 ≤ 9223372036854775807 ∧ p.2 < 4500000000000) :
    Calls Tryz.prog 9 #[.pointer (some ⟨wb, 2, none⟩)] w fun e w' => e = .returned (.bool true) ∧ Below w.heap.size w w' := by
  obtain ⟨vps, vpm, Vs, hB, hs, hps, hpm, hls⟩ := hb
  obtain ⟨Ve, hes, hem, hel⟩ := hbe
  obtain ⟨Vt, hts, htm, htl⟩ := hbt
  obtain ⟨aoP, capP, rfl⟩ := slice_form hps.own
  obtain ⟨qes, qts, qem, qtm⟩ := q
  simp only at hes hem hts htm
  obtain ⟨aoE, capE, rfl⟩ := slice_form hes.own
  obtain ⟨aoEM, capEM, rfl⟩ := slice_form hem.own
  obtain ⟨aoT, capT, rfl⟩ := slice_form hts.own
  obtain ⟨aoTM, capTM, rfl⟩ := slice_form htm.own
  obtain ⟨aoM, capM, rfl⟩ := slice_form hpm.own
  have c2 : w.cell? ⟨wb, 2, none⟩ = some (.slice aoP P.length capP) := by simp [World.cell?, hs, bookCells]
  have c6 : w.cell? ⟨wb, 6, none⟩ = some (.slice aoM P.length capM) := by simp [World.cell?, hs, bookCells]
  have c3 : w.cell? ⟨wb, 3, none⟩ = some (.slice aoE Pe.length capE) := by simp [World.cell?, hs, bookCells]
  have c4 : w.cell? ⟨wb, 4, none⟩ = some (.slice aoT Pt.length capT) := by simp [World.cell?, hs, bookCells]
  have c5 : w.cell? ⟨wb, 5, none⟩ = some (.slice none 0 0) := by simp [World.cell?, hs, bookCells]
  have c7 : w.cell? ⟨wb, 7, none⟩ = some (.slice aoEM Pe.length capEM) := by simp [World.cell?, hs, bookCells]
  have c8 : w.cell? ⟨wb, 8, none⟩ = some (.slice aoTM Pt.length capTM) := by simp [World.cell?, hs, bookCells]
  have HE : Hid (OwnsIn w De 59 1 (.slice aoE Pe.length capE) Pe.length Ve ∧ OwnsIn w De 3 1 (.slice aoEM Pe.length capEM) Pe.length (Pe.map fun p => .int .i64 p.1) ∧ ∀ (i : Nat) (m : Int) (l : Nat), Pe[i]? = some (m, l) → ∃ vi, Ve[i]? = some vi ∧ OwnsIn w De 61 4 vi l (ecells (List.replicate l (mkE m)))) := ⟨hes, hem, hel⟩
  have HTT : Hid (OwnsIn w Dt 62 1 (.slice aoT Pt.length capT) Pt.length Vt ∧ OwnsIn w Dt 3 1 (.slice aoTM Pt.length capTM) Pt.length (Pt.map fun p => .int .i64 p.1) ∧ ∀ (i : Nat) (m : Int) (l : Nat), Pt[i]? = some (m, l) → ∃ vi, Vt[i]? = some vi ∧ OwnsIn w Dt 64 2 vi l (mtcells l m)) := ⟨hts, htm, htl⟩
  have HLE : Hid (∀ p ∈ Pe, p.2 < 4500000000000) := hle
  have HLT : Hid (∀ p ∈ Pt, p.2 < 4500000000000) := hlt
  clear hes hem hel hts htm htl hle hlt
  have H : Hid (OwnsIn w D 38 1 (.slice aoP P.length capP) P.length Vs ∧ OwnsIn w D 3 1 (.slice aoM P.length capM) P.length (P.map fun p => .int .i64 p.1) ∧ ListsAt w P Vs) := ⟨hps, hpm, hls⟩
  have HL : Hid _ := hl
  have HT : Hid _ := hT
  clear hs hps hpm hls hl hT
  go_enter Tryz.func9, Tryz.ntmps9
  go_wp2
  go_loopg [3, 4, 5] P.length (fun kx s3 s4 s5 wr => ∃ i : Nat, i ≤ P.length ∧ P.length - i ≤ kx ∧ s3 = .int .i64 i ∧ Hid (Below w.heap.size w wr))
  case atStart => exact ⟨0, Nat.zero_le _, Nat.le_refl _, rfl, Below.refl _ _⟩
  case round =>
    obtain ⟨i, hi, hik, rfl, HB⟩ := hrel
    have c2r := cell_later HB.out c2
    have c6r := cell_later HB.out c6
    by_cases hlt : i < P.length
    · obtain ⟨⟨m, len⟩, hpi⟩ : ∃ p, P[i]? = some p := ⟨_, List.getElem?_eq_getElem hlt⟩
      obtain ⟨hm0, hm1, hlen⟩ := HL.out _ (List.mem_of_getElem? hpi)
      simp only at hm0 hm1 hlen
      obtain ⟨vi, hvi, hoi⟩ := H.out.2.2 i m len hpi
      obtain ⟨aoI, capI, rfl⟩ := slice_form hoi
      obtain ⟨gP, capP', hv, hgP, cP⟩ := row_one H.out.1.own hvi
      simp only [Value.slice.injEq, true_and] at hv
      obtain ⟨rfl, rfl⟩ := hv
      obtain ⟨gM, capM', hv, hgM, cM⟩ := row_one H.out.2.1.own (i := i) (u := .int .i64 m) (by simp [hpi])
      simp only [Value.slice.injEq, true_and] at hv
      obtain ⟨rfl, rfl⟩ := hv
      have cMr := cell_later HB.out cM
      have HOI : Hid (w.ownsRow 0 57 3 (.slice aoI len capI) len (pcells (List.replicate len (mk m)))) := hoi
      have hil : (i : Int) < (P.length : Int) := by omega
      have HCP : Hid (w.cell? ⟨gP, i, none⟩ = some (.slice aoI len capI)) := cP
      clear hpi hvi hoi cP
      go_wp2_with fail
      refine (markPair_any m hm0 hm1 wr (fun w' h' => HT.out w' (below_trans' HB.out h'))).mono ?_
      rintro e w2 ⟨rfl, hb2⟩
      have HB2 : Hid (Below w.heap.size w w2) := below_trans' HB.out hb2
      clear hb2 c2r c6r cMr
      have q0 : (w2.alloc (.cells #[.string (mk m).k, .string (mk m).v, .bool (mk m).g] 57)).cell? ⟨w2.heap.size, 0, none⟩ = some (.string (mk m).k) := by simp
      have q1 : (w2.alloc (.cells #[.string (mk m).k, .string (mk m).v, .bool (mk m).g] 57)).cell? ⟨w2.heap.size, 1, none⟩ = some (.string (mk m).v) := by simp
      have q2 : (w2.alloc (.cells #[.string (mk m).k, .string (mk m).v, .bool (mk m).g] 57)).cell? ⟨w2.heap.size, 2, none⟩ = some (.bool (mk m).g) := by simp
      have HQ : Hid _ := And.intro q0 (And.intro q1 q2)
      have HBA : Hid (Below w.heap.size w (w2.alloc (.cells #[.string (mk m).k, .string (mk m).v, .bool (mk m).g] 57))) := HB2.out.alloc HB2.out.size _
      clear q0 q1 q2
      go_wp2
      generalize hwA : w2.alloc (.cells #[.string (mk m).k, .string (mk m).v, .bool (mk m).g] 57) = wA at HQ HBA ⊢
      have c2A := cell_later HBA.out c2
      clear hwA
      go_loopg [5] len (fun kx s5 wx => ∃ k : Nat, k ≤ len ∧ len - k ≤ kx ∧ s5 = .int .i64 k ∧ Hid (Below wA.heap.size wA wx))
      case atStart => exact ⟨0, Nat.zero_le _, Nat.le_refl _, rfl, Below.refl _ _⟩
      case round =>
        obtain ⟨k, hk, hkk, rfl, HBx⟩ := hrel
        have HBw : Hid (Below w.heap.size w wr) := below_trans' HBA.out HBx.out
        have c2x := cell_later HBw.out c2
        have cPx := cell_later HBw.out HCP.out
        by_cases hkl : k < len
        · obtain ⟨gI, capI', hv, _, _, _, hcell⟩ := pr_cells (L := List.replicate len (mk m)) (by rw [List.length_replicate]; exact HOI.out) HBw.out (by rw [List.length_replicate]; omega)
          simp only [Value.slice.injEq, List.length_replicate, true_and] at hv
          obtain ⟨rfl, rfl⟩ := hv
          obtain ⟨d0, d1, d2⟩ := hcell k (mk m) (by rw [List.getElem?_replicate]; simp [hkl])
          have q0 := cell_regrown (cell_later HBx.out HQ.out.1)
          have q1 := cell_regrown (cell_later HBx.out HQ.out.2.1)
          have q2 := cell_regrown (cell_later HBx.out HQ.out.2.2)
          have c2y := cell_regrown c2x
          have cPy := cell_regrown cPx
          have d0 := cell_regrown d0
          have d1 := cell_regrown d1
          have d2 := cell_regrown d2
          have hkl' : (k : Int) < (len : Int) := by omega
          clear hcell
          go_wp2
          refine wp_region_quiet_below (by kernel_rfl) (by kernel_rfl) ?_
          repeat (first | go_big_quiet_step (fail) | quiet_step (fail))
          refine wpQuiet_nil ?_
          intro w3 hw'
          have hb := below_of_regrown hw'
          have HB3 : Hid (Below wA.heap.size wA w3) := below_trans' HBx.out hb
          clear hb hw'
          go_wp2
          go_roundg (len - (k + 1))
          case measure => omega
          case rel => exact ⟨k + 1, by omega, Nat.le_refl _, by go_num, HB3.out⟩
        · obtain rfl : k = len := by omega
          go_wp2
          go_roundg (P.length - (i + 1))
          case measure => omega
          case rel => exact ⟨i + 1, by omega, Nat.le_refl _, by go_num, HBw.out⟩
    · obtain rfl : i = P.length := by omega
      have HB1 := HB
      clear HB
      go_wp2
      go_loopg [6, 7, 8] Pe.length (fun kx s6 s7 s8 wx => ∃ i : Nat, i ≤ Pe.length ∧ Pe.length - i ≤ kx ∧ s6 = .int .i64 i ∧ Hid (Below w.heap.size w wx))
      case atStart => exact ⟨0, Nat.zero_le _, Nat.le_refl _, rfl, HB1.out⟩
      case round =>
        clear HB1
        obtain ⟨i, hi, hik, rfl, HB⟩ := hrel
        have c3r := cell_later HB.out c3
        by_cases hlt : i < Pe.length
        · obtain ⟨⟨m, len⟩, hpi⟩ : ∃ p, Pe[i]? = some p := ⟨_, List.getElem?_eq_getElem hlt⟩
          have hlen := HLE.out _ (List.mem_of_getElem? hpi)
          simp only at hlen
          obtain ⟨vi, hvi, hoi⟩ := HE.out.2.2 i m len hpi
          obtain ⟨aoI, capI, rfl⟩ := slice_form hoi.own
          obtain ⟨gE, capE', hv, hgE, cE⟩ := row_one HE.out.1.own hvi
          simp only [Value.slice.injEq, true_and] at hv
          obtain ⟨rfl, rfl⟩ := hv
          obtain ⟨gM, capM', hv, hgM, cM⟩ := row_one HE.out.2.1.own (i := i) (u := .int .i64 m) (by simp [hpi])
          simp only [Value.slice.injEq, true_and] at hv
          obtain ⟨rfl, rfl⟩ := hv
          have HOI : Hid (w.ownsRow 0 61 4 (.slice aoI len capI) len (ecells (List.replicate len (mkE m)))) := owns_base hoi.own (Nat.zero_le _)
          have hil : (i : Int) < (Pe.length : Int) := by omega
          have HCE : Hid (w.cell? ⟨gE, i, none⟩ = some (.slice aoI len capI)) := cE
          have HCM : Hid (w.cell? ⟨gM, i, none⟩ = some (.int .i64 m)) := cM
          clear hpi hvi hoi cE cM
          go_wp2
          go_loopg [7, 8] len (fun kx s7 s8 wx => ∃ k : Nat, k ≤ len ∧ len - k ≤ kx ∧ s7 = .int .i64 k ∧ Hid (Below w.heap.size w wx))
          case atStart => exact ⟨0, Nat.zero_le _, Nat.le_refl _, rfl, HB.out⟩
          case round =>
            clear HB c3r
            obtain ⟨k, hk, hkk, rfl, HBx⟩ := hrel
            have c3x := cell_later HBx.out c3
            have cEx := cell_later HBx.out HCE.out
            by_cases hkl : k < len
            · obtain ⟨gI, capI', hv, d0, d1, d2, d3⟩ := me_cells HOI.out HBx.out hkl
              simp only [Value.slice.injEq, true_and] at hv
              obtain ⟨rfl, rfl⟩ := hv
              have hkl' : (k : Int) < (len : Int) := by omega
              have HBA : Hid (Below w.heap.size w (wr.alloc (.cells #[.string ⟨#[109, 97, 114, 107]⟩, .int .i64 m, .bool false, .string ⟨#[]⟩] 61))) := HBx.out.alloc HBx.out.size _
              go_wp2
              have q0 := cell_regrown (show (wr.alloc (.cells #[.string ⟨#[109, 97, 114, 107]⟩, .int .i64 m, .bool false, .string ⟨#[]⟩] 61)).cell? ⟨wr.heap.size, 0, none⟩ = some (.string ⟨#[109, 97, 114, 107]⟩) by simp)
              have q1 := cell_regrown (show (wr.alloc (.cells #[.string ⟨#[109, 97, 114, 107]⟩, .int .i64 m, .bool false, .string ⟨#[]⟩] 61)).cell? ⟨wr.heap.size, 1, none⟩ = some (.int .i64 m) by simp)
              have q2 := cell_regrown (show (wr.alloc (.cells #[.string ⟨#[109, 97, 114, 107]⟩, .int .i64 m, .bool false, .string ⟨#[]⟩] 61)).cell? ⟨wr.heap.size, 2, none⟩ = some (.bool false) by simp)
              have q3 := cell_regrown (show (wr.alloc (.cells #[.string ⟨#[109, 97, 114, 107]⟩, .int .i64 m, .bool false, .string ⟨#[]⟩] 61)).cell? ⟨wr.heap.size, 3, none⟩ = some (.string ⟨#[]⟩) by simp)
              have c7y := cell_regrown (cell_later HBA.out c7)
              have cMy := cell_regrown (cell_later HBA.out HCM.out)
              refine wp_region_quiet_below (by kernel_rfl) (by kernel_rfl) ?_
              repeat (first | go_big_quiet_step (fail) | quiet_step (fail))
              refine wpQuiet_nil ?_
              intro w3 hw'
              have hb := below_of_regrown hw'
              have HB3 : Hid (Below w.heap.size w w3) := below_trans' HBA.out hb
              clear hb hw'
              go_wp2
              go_roundg (len - (k + 1))
              case measure => omega
              case rel => exact ⟨k + 1, by omega, Nat.le_refl _, by go_num, HB3.out⟩
            · obtain rfl : k = len := by omega
              go_wp2
              go_roundg (Pe.length - (i + 1))
              case measure => omega
              case rel => exact ⟨i + 1, by omega, Nat.le_refl _, by go_num, HBx.out⟩
        · obtain rfl : i = Pe.length := by omega
          go_wp2
          go_loopg [9, 10] Pt.length (fun kx s9 s10 wx => ∃ i : Nat, i ≤ Pt.length ∧ Pt.length - i ≤ kx ∧ s9 = .int .i64 i ∧ Hid (Below w.heap.size w wx))
          case atStart => exact ⟨0, Nat.zero_le _, Nat.le_refl _, rfl, HB.out⟩
          case round =>
            clear HB c3r
            obtain ⟨i, hi, hik, rfl, HB⟩ := hrel
            have c4r := cell_later HB.out c4
            by_cases hlt : i < Pt.length
            · obtain ⟨⟨m, len⟩, hpi⟩ : ∃ p, Pt[i]? = some p := ⟨_, List.getElem?_eq_getElem hlt⟩
              have hlen := HLT.out _ (List.mem_of_getElem? hpi)
              simp only at hlen
              obtain ⟨vi, hvi, hoi⟩ := HTT.out.2.2 i m len hpi
              obtain ⟨aoI, capI, rfl⟩ := slice_form hoi.own
              obtain ⟨gE, capE', hv, hgE, cE⟩ := row_one HTT.out.1.own hvi
              simp only [Value.slice.injEq, true_and] at hv
              obtain ⟨rfl, rfl⟩ := hv
              obtain ⟨gM, capM', hv, hgM, cM⟩ := row_one HTT.out.2.1.own (i := i) (u := .int .i64 m) (by simp [hpi])
              simp only [Value.slice.injEq, true_and] at hv
              obtain ⟨rfl, rfl⟩ := hv
              have HOI : Hid (w.ownsRow 0 64 2 (.slice aoI len capI) len (mtcells len m)) := owns_base hoi.own (Nat.zero_le _)
              have hil : (i : Int) < (Pt.length : Int) := by omega
              have HCE : Hid (w.cell? ⟨gE, i, none⟩ = some (.slice aoI len capI)) := cE
              have HCM : Hid (w.cell? ⟨gM, i, none⟩ = some (.int .i64 m)) := cM
              clear hpi hvi hoi cE cM
              go_wp2
              go_loopg [10] len (fun kx s10 wx => ∃ k : Nat, k ≤ len ∧ len - k ≤ kx ∧ s10 = .int .i64 k ∧ Hid (Below w.heap.size w wx))
              case atStart => exact ⟨0, Nat.zero_le _, Nat.le_refl _, rfl, HB.out⟩
              case round =>
                clear HB c4r
                obtain ⟨k, hk, hkk, rfl, HBx⟩ := hrel
                have c4x := cell_later HBx.out c4
                have cEx := cell_later HBx.out HCE.out
                by_cases hkl : k < len
                · obtain ⟨gI, capI', hv, d0, d1⟩ := mt_cells HOI.out HBx.out hkl
                  simp only [Value.slice.injEq, true_and] at hv
                  obtain ⟨rfl, rfl⟩ := hv
                  have hkl' : (k : Int) < (len : Int) := by omega
                  have c8y := cell_regrown (cell_later HBx.out c8)
                  have cMy := cell_regrown (cell_later HBx.out HCM.out)
                  have c4y := cell_regrown c4x
                  have cEy := cell_regrown cEx
                  have d0 := cell_regrown d0
                  have d1 := cell_regrown d1
                  go_wp2
                  refine wp_region_quiet_below (by kernel_rfl) (by kernel_rfl) ?_
                  repeat (first | go_big_quiet_step (fail) | quiet_step (fail))
                  refine wpQuiet_nil ?_
                  intro w3 hw'
                  have hb := below_of_regrown hw'
                  have HB3 : Hid (Below w.heap.size w w3) := below_trans' HBx.out hb
                  clear hb hw'
                  go_wp2
                  go_roundg (len - (k + 1))
                  case measure => omega
                  case rel => exact ⟨k + 1, by omega, Nat.le_refl _, by go_num, HB3.out⟩
                · obtain rfl : k = len := by omega
                  go_wp2
                  go_roundg (Pt.length - (i + 1))
                  case measure => omega
                  case rel => exact ⟨i + 1, by omega, Nat.le_refl _, by go_num, HBx.out⟩
            · obtain rfl : i = Pt.length := by omega
              have c5r := cell_later HB.out c5
              go_wp2
              go_loopg [11, 12, 13] 0 (fun kx s11 s12 s13 wx => s11 = .int .i64 0 ∧ wx = wr)
              case atStart => exact ⟨rfl, rfl⟩
              case round =>
                obtain ⟨rfl, rfl⟩ := hrel
                go_wp2
                go_ret
                exact ⟨rfl, HB.out⟩
end Go.Proofs.YtakipjofboipmaaGreatDoor
