/- What is read of the argument: a script. -/
import Derived.Test.YtakipjofboipmaaGreatDoorJ34
import Derived.ProofKit
import Derived.OpenShut
import Derived.JoinedCond
import Derived.Deep.Slices
import Derived.SizedLaws
namespace Go.Proofs.YtakipjofboipmaaGreatDoor
open Go.ChangeShapes Go.WideShapes Go.ChangeAt Go.RowKit Go.Deep

theorem Tryz.cells57 : Tryz.prog.cellsOf 57 = 3 := by kernel_rfl
theorem Tryz.bytes57 : Tryz.prog.bytesOf 57 = 40 := by kernel_rfl
theorem Tryz.bytes41 : Tryz.prog.bytesOf 41 = 128 := by kernel_rfl
theorem Tryz.cells41 : Tryz.prog.cellsOf 41 = 9 := by kernel_rfl
theorem Tryz.cells3 : Tryz.prog.cellsOf 3 = 1 := by kernel_rfl
theorem Tryz.cells4 : Tryz.prog.cellsOf 4 = 1 := by kernel_rfl
theorem Tryz.cells9 : Tryz.prog.cellsOf 9 = 1 := by kernel_rfl
theorem Tryz.cells38 : Tryz.prog.cellsOf 38 = 1 := by kernel_rfl
theorem Tryz.cells39 : Tryz.prog.cellsOf 39 = 1 := by kernel_rfl
theorem Tryz.cells32 : Tryz.prog.cellsOf 32 = 1 := by kernel_rfl

theorem len3 {α : Type} : ∀ {l : List α}, l.length = 3 → ∃ a b c, l = [a, b, c]
  | [a, b, c], _ => ⟨a, b, c, rfl⟩
theorem len9 {α : Type} : ∀ {l : List α}, l.length = 9 → ∃ a b c d e f g h i, l = [a, b, c, d, e, f, g, h, i]
  | [a, b, c, d, e, f, g, h, i], _ => ⟨a, b, c, d, e, f, g, h, i, rfl⟩

theorem all_weights {H : Type} {P : Program} {e : TypeId} {d : DataW H} : ∀ {l : List (DataW H)}, d ∈ l → ∀ n ∈ d.weights P e, n ∈ DataW.weightsAll P e l
  | [], h, _, _ => by simp at h
  | c :: l, h, n, hn => by
    rw [DataW.weightsAll, List.mem_append]
    rcases List.mem_cons.1 h with rfl | h
    · exact .inl hn
    · exact .inr (all_weights h n hn)

/-- Each string, slice and map that is met in reading takes no more than the form's reach. -/
def Fits {H : Type} (t : TypeId) (d : DataW H) : Prop := ∀ n ∈ d.weights Tryz.prog t, n ≤ 140737488351232

theorem Fits.slice {H : Type} {t e : TypeId} {elems spare : List (DataW H)} (h : Fits t (DataW.slice elems spare)) (hu : Tryz.prog.underlying t = some (.slice e)) : (elems.length + spare.length) * Tryz.prog.bytesOf e ≤ 140737488351232 ∧ ∀ d ∈ elems, Fits e d := by
  unfold Fits at h
  simp only [DataW.weights, hu] at h
  refine ⟨h _ List.mem_cons_self, fun d hd n hn => h n ?_⟩
  exact List.mem_cons_of_mem _ (List.mem_append_left _ (all_weights hd n hn))

theorem Fits.part {H : Type} {t tj : TypeId} {fs : Array Field} {parts : List (DataW H)} {j : Nat} {d : DataW H} (h : Fits t (DataW.agg parts)) (hu : Tryz.prog.underlying t = some (.struct fs)) (ht : (fs.toList.map (·.type))[j]? = some tj) (hd : parts[j]? = some d) : Fits tj d := by
  unfold Fits at h
  simp only [DataW.weights, hu] at h
  exact fun n hn => h n (DataW.weights_mem_each ht hd n hn)

section
variable {H : Type} {enc : TypeId × Value → H} {W : World} {base : Nat} {spare : Nat → Bool} {held : Bool}

theorem cell_at {a : Addr} {n i : Nat} {v : Value} (hs : a.spot = none) (h : W.cell? ((a.add n).add i) = some v) : W.cell? ⟨a.block, a.off + n + i, none⟩ = some v := by
  obtain ⟨b, o, s⟩ := a
  simp only at hs
  subst hs
  rw [add_plain, add_plain] at h
  exact h

theorem int_of {fuel : Nat} {v : Value} {x : DataW H × List MemPlace} (h : DataW.trod enc Tryz.prog W base spare held fuel 3 [v] = some x) : ∃ n : Int, v = .int .i64 n ∧ -9223372036854775808 ≤ n ∧ n ≤ 9223372036854775807 := by
  obtain ⟨n, hc, _, hw⟩ := DataW.trod_int Tryz.underlying3 h
  simp only [List.cons.injEq, and_true] at hc
  exact ⟨n, hc, bounds_i64 hw⟩

theorem bool_of {fuel : Nat} {v : Value} {x : DataW H × List MemPlace} (h : DataW.trod enc Tryz.prog W base spare held fuel 4 [v] = some x) : ∃ b : Bool, v = .bool b := by
  obtain ⟨b, hc, _⟩ := DataW.trod_bool Tryz.underlying4 h
  simp only [List.cons.injEq, and_true] at hc
  exact ⟨b, hc⟩

theorem str_of {fuel : Nat} {v : Value} {x : DataW H × List MemPlace} (h : DataW.trod enc Tryz.prog W base spare held fuel 9 [v] = some x) : ∃ s : ByteArray, v = .string s ∧ (Fits 9 x.1 → s.size ≤ 140737488351232) := by
  obtain ⟨s, hc, hx, _⟩ := DataW.trod_string Tryz.underlying9 h
  simp only [List.cons.injEq, and_true] at hc
  refine ⟨s, hc, fun hf => ?_⟩
  rw [hx] at hf
  have := hf s.data.toList.length (by simp [DataW.weights])
  rw [Array.length_toList] at this
  exact this

theorem slice_of {t e : TypeId} {fuel : Nat} {v : Value} {x : DataW H × List MemPlace} (ht : Tryz.prog.underlying t = some (.slice e)) (h : DataW.trod enc Tryz.prog W base spare held fuel t [v] = some x) : ∃ ao l c, v = .slice ao l c := by
  rcases open_slice ht h with ⟨hcs, _⟩ | ⟨a, len, cap, m, n, D, Pl, hcs, _⟩
  · simp only [List.cons.injEq, and_true] at hcs
    exact ⟨_, _, _, hcs⟩
  · simp only [List.cons.injEq, and_true] at hcs
    exact ⟨_, _, _, hcs⟩

theorem spot_of {a : Addr} {k : Nat} {cs' : List Value} (h1 : W.cells? base (a.add (0 * k)) k = some cs') (hk : 0 < k) : a.spot = none := by
  obtain ⟨_, hlen, hcell⟩ := World.cells?_some h1
  have := hcell 0 (by omega)
  rw [List.getElem?_eq_getElem (by omega)] at this
  simpa [Addr.add] using World.cell?_spot this

theorem pair_of {fuel : Nat} {cs : List Value} {x : DataW H × List MemPlace} (hlen : cs.length = 3) (h : DataW.trod enc Tryz.prog W base spare held fuel 57 cs = some x) (hw : Fits 57 x.1) : ∃ p : Pr, cs = Pr.cells p ∧ p.k.size ≤ 140737488351232 ∧ p.v.size ≤ 140737488351232 := by
  obtain ⟨xs, j, _, hx, _, hxl, hf⟩ := DataW.trod_struct Tryz.underlying57 h
  obtain ⟨y0, y1, y2, rfl⟩ := len3 hxl
  obtain ⟨v0, v1, v2, rfl⟩ := len3 hlen
  have g0 := hf 0 _ rfl
  have g1 := hf 1 _ rfl
  have g2 := hf 2 _ rfl
  simp [Tryz.cells9, Tryz.cells4] at g0 g1 g2
  rw [hx] at hw
  simp only [List.map_cons, List.map_nil] at hw
  obtain ⟨s0, rfl, b0⟩ := str_of g0
  obtain ⟨s1, rfl, b1⟩ := str_of g1
  obtain ⟨b, rfl⟩ := bool_of g2
  exact ⟨⟨s0, s1, b⟩, rfl, b0 (hw.part Tryz.underlying57 (j := 0) rfl rfl), b1 (hw.part Tryz.underlying57 (j := 1) rfl rfl)⟩

theorem pairs_of {fuel : Nat} {v : Value} {x : DataW H × List MemPlace} (h : DataW.trod enc Tryz.prog W base spare held fuel 38 [v] = some x) (hw : Fits 38 x.1) : ∃ (L : List Pr) (ao : Option Addr) (cap : Nat), v = .slice ao L.length cap ∧ PairsAt W (.slice ao L.length cap) L := by
  rcases open_slice Tryz.underlying38 h with ⟨hcs, _⟩ | ⟨a, len, cap, m, n, D, Pl, hcs, _, hl, _, hmm, hxx, hx⟩
  · simp only [List.cons.injEq, and_true] at hcs
    subst hcs
    exact ⟨[], none, 0, rfl, none, 0, rfl, by simp, by simp, fun k p hp => by simp at hp⟩
  · simp only [List.cons.injEq, and_true] at hcs
    subst hcs
    have hlm : len ≤ m := by rw [hmm]; split <;> omega
    rw [Tryz.cells57] at hx
    rw [hxx] at hw
    obtain ⟨hwl, hwe⟩ := hw.slice Tryz.underlying38
    rw [Tryz.bytes57] at hwl
    simp only [List.length_map, List.length_range] at hwl
    have hel : ∀ k, ∃ p : Pr, k < len → (W.cell? ⟨a.block, a.off + k * 3, none⟩ = some (.string p.k) ∧ W.cell? ⟨a.block, a.off + k * 3 + 1, none⟩ = some (.string p.v) ∧ W.cell? ⟨a.block, a.off + k * 3 + 2, none⟩ = some (.bool p.g)) ∧ a.spot = none ∧ p.k.size ≤ 140737488351232 ∧ p.v.size ≤ 140737488351232 := fun k => by
      by_cases hk : k < len
      · obtain ⟨cs', h1, h2⟩ := hx k (by omega)
        have hsp : a.spot = none := by
          obtain ⟨cs0, h0, _⟩ := hx 0 (by omega)
          exact spot_of h0 (by omega)
        obtain ⟨_, hcl, hcell⟩ := World.cells?_some h1
        obtain ⟨p, rfl, b0, b1⟩ := pair_of hcl h2 (hwe _ (List.mem_map.2 ⟨k, List.mem_range.2 hk, rfl⟩))
        exact ⟨p, fun _ => ⟨⟨cell_at hsp (hcell 0 (by omega)), cell_at hsp (hcell 1 (by omega)), cell_at hsp (hcell 2 (by omega))⟩, hsp, b0, b1⟩⟩
      · exact ⟨⟨⟨#[]⟩, ⟨#[]⟩, false⟩, fun h => absurd h hk⟩
    obtain ⟨f, hf⟩ := Classical.skolem.1 hel
    have hL : ((List.range len).map f).length = len := by simp
    refine ⟨(List.range len).map f, some a, cap, by rw [hL], some a, cap, rfl, by rw [hL]; omega, fun p hp => ?_, fun k p hp => ?_⟩
    · obtain ⟨k, hk, rfl⟩ := List.mem_map.1 hp
      have := hf k (List.mem_range.1 hk)
      exact ⟨this.2.2.1, this.2.2.2⟩
    · have hk : k < len := by have := (List.getElem?_eq_some_iff.1 hp).1; rw [hL] at this; exact this
      have he : p = f k := by
        rw [List.getElem?_map, List.getElem?_range hk] at hp
        simpa using hp.symm
      subst he
      have := hf k hk
      exact ⟨a, rfl, this.2.1, this.1⟩

theorem op_of {fuel : Nat} {cs : List Value} {x : DataW H × List MemPlace} (hlen : cs.length = 9) (h : DataW.trod enc Tryz.prog W base spare held fuel 41 cs = some x) (hw : Fits 41 x.1) : ∃ o : OpD, cs = o.cells.toList ∧ OpOk o W.heap.size W := by
  obtain ⟨xs, j, _, hx, _, hxl, hf⟩ := DataW.trod_struct Tryz.underlying41 h
  obtain ⟨y0, y1, y2, y3, y4, y5, y6, y7, y8, rfl⟩ := len9 hxl
  obtain ⟨v0, v1, v2, v3, v4, v5, v6, v7, v8, rfl⟩ := len9 hlen
  have g0 := hf 0 _ rfl
  have g1 := hf 1 _ rfl
  have g2 := hf 2 _ rfl
  have g3 := hf 3 _ rfl
  have g4 := hf 4 _ rfl
  have g5 := hf 5 _ rfl
  have g6 := hf 6 _ rfl
  have g7 := hf 7 _ rfl
  have g8 := hf 8 _ rfl
  simp [Tryz.cells3, Tryz.cells9, Tryz.cells4, Tryz.cells38, Tryz.cells39, Tryz.cells32] at g0 g1 g2 g3 g4 g5 g6 g7 g8
  rw [hx] at hw
  simp only [List.map_cons, List.map_nil] at hw
  obtain ⟨n0, rfl, _, _⟩ := int_of g0
  obtain ⟨n1, rfl, _, _⟩ := int_of g1
  obtain ⟨n2, rfl, _, _⟩ := int_of g2
  obtain ⟨n3, rfl, b3, b3'⟩ := int_of g3
  obtain ⟨s, rfl, bs⟩ := str_of g4
  obtain ⟨b, rfl⟩ := bool_of g5
  obtain ⟨L, aP, cP, rfl, hP⟩ := pairs_of g6 (hw.part Tryz.underlying41 (j := 6) rfl rfl)
  obtain ⟨aC, lC, cC, rfl⟩ := slice_of Tryz.underlying39 g7
  obtain ⟨aK, lK, cK, rfl⟩ := slice_of Tryz.underlying32 g8
  exact ⟨⟨n0, n1, n2, n3, s, b, L, aP, cP, aC, lC, cC, aK, lK, cK⟩, rfl, fun w' hb => hP.below hb, bs (hw.part Tryz.underlying41 (j := 4) rfl rfl), b3, b3'⟩

theorem script_of {fuel : Nat} {v : Value} {x : DataW H × List MemPlace} (h : DataW.trod enc Tryz.prog W base spare held fuel 22 [v] = some x) (hw : Fits 22 x.1) : ∃ os, OpsAt W v os ∧ os.length ≤ 1099511627744 := by
  rcases open_slice Tryz.underlying22 h with ⟨hcs, _⟩ | ⟨a, len, cap, m, n, D, Pl, hcs, _, hl, _, hmm, hxx, hx⟩
  · simp only [List.cons.injEq, and_true] at hcs
    subst hcs
    exact ⟨[], ⟨none, 0, rfl, fun k o ho => by simp at ho⟩, by simp⟩
  · simp only [List.cons.injEq, and_true] at hcs
    subst hcs
    have hlm : len ≤ m := by rw [hmm]; split <;> omega
    rw [Tryz.cells41] at hx
    rw [hxx] at hw
    obtain ⟨hwl, hwe⟩ := hw.slice Tryz.underlying22
    rw [Tryz.bytes41] at hwl
    simp only [List.length_map, List.length_range] at hwl
    have hel : ∀ k, ∃ o : OpD, k < len → OpOk o W.heap.size W ∧ a.spot = none ∧ ∀ f u, o.cells[f]? = some u → W.cell? ⟨a.block, a.off + k * 9 + f, none⟩ = some u := fun k => by
      by_cases hk : k < len
      · obtain ⟨cs', h1, h2⟩ := hx k (by omega)
        have hsp : a.spot = none := by
          obtain ⟨cs0, h0, _⟩ := hx 0 (by omega)
          exact spot_of h0 (by omega)
        obtain ⟨_, hcl, hcell⟩ := World.cells?_some h1
        obtain ⟨o, rfl, hok⟩ := op_of hcl h2 (hwe _ (List.mem_map.2 ⟨k, List.mem_range.2 hk, rfl⟩))
        refine ⟨o, fun _ => ⟨hok, hsp, fun f u hu => ?_⟩⟩
        have hfl : f < 9 := by have := (Array.getElem?_eq_some_iff.1 hu).1; simpa [OpD.cells] using this
        refine cell_at hsp ?_
        rw [hcell f hfl, Array.getElem?_toList]
        exact hu
      · exact ⟨op0, fun h => absurd h hk⟩
    obtain ⟨f, hf⟩ := Classical.skolem.1 hel
    have hL : ((List.range len).map f).length = len := by simp
    refine ⟨(List.range len).map f, ⟨some a, cap, by rw [hL], fun k o ho => ?_⟩, by rw [hL]; omega⟩
    have hk : k < len := by have := (List.getElem?_eq_some_iff.1 ho).1; rw [hL] at this; exact this
    have he : o = f k := by
      rw [List.getElem?_map, List.getElem?_range hk] at ho
      simpa using ho.symm
    subst he
    obtain ⟨h1, h2, h3⟩ := hf k hk
    exact ⟨h1, a, rfl, h2, h3⟩
end
end Go.Proofs.YtakipjofboipmaaGreatDoor
