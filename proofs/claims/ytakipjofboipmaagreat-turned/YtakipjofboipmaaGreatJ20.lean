/- The contract of slices.SortFunc, laid over this program by the command of the guide. -/
import Derived.Shelf.SlSortCmp.WholeK
import Derived.Test.YtakipjofboipmaaGreatProg
import Derived.Test.YtakipjofboipmaaGreatJ6
import Derived.Test.YtakipjofboipmaaGreatJ1
import Derived.Test.YtakipjofboipmaaGreatJ19
namespace Go.Proofs
open Go.Shelf
def Tryz.sortE_ren : Go.Shelf.Ren := ⟨fun | 6 => 187 | 15 => 136 | 14 => 212 | 28 => 177 | 29 => 178 | 20 => 228 | 21 => 229 | 22 => 230 | 23 => 231 | 24 => 232 | 25 => 233 | 26 => 234 | 27 => 235 | 46 => 244 | 47 => 200 | 48 => 201 | 49 => 245 | 50 => 246 | 57 => 251 | n => n, fun | 22 => 54 | 24 => 58 | 25 => 240 | 3 => 3 | 39 => 132 | 0 => 0 | 53 => 130 | 55 => 152 | 4 => 4 | 46 => 257 | 45 => 256 | 50 => 128 | 5 => 5 | 9 => 9 | 66 => 278 | 70 => 281 | 76 => 300 | 77 => 301 | n => n, fun | n => n⟩
theorem Tryz.sortE : Go.Proofs.SlLaysF0.n6 Tryz.prog Tryz.sortE_ren := {
  mixed := by kernel_rfl
  f6 := ⟨Tryz.f187.name, by decide, Tryz.func187.trans (congrArg some (by kernel_rfl))⟩
  f14 := ⟨Tryz.f212.name, by decide, Tryz.func212.trans (congrArg some (by kernel_rfl))⟩
  f15 := Tryz.func136.trans (congrArg some (by kernel_rfl))
  f20 := ⟨Tryz.f228.name, by decide, Tryz.func228.trans (congrArg some (by kernel_rfl))⟩
  f21 := ⟨Tryz.f229.name, by decide, Tryz.func229.trans (congrArg some (by kernel_rfl))⟩
  f22 := ⟨Tryz.f230.name, by decide, Tryz.func230.trans (congrArg some (by kernel_rfl))⟩
  f23 := ⟨Tryz.f231.name, by decide, Tryz.func231.trans (congrArg some (by kernel_rfl))⟩
  f24 := ⟨Tryz.f232.name, by decide, Tryz.func232.trans (congrArg some (by kernel_rfl))⟩
  f25 := ⟨Tryz.f233.name, by decide, Tryz.func233.trans (congrArg some (by kernel_rfl))⟩
  f26 := ⟨Tryz.f234.name, by decide, Tryz.func234.trans (congrArg some (by kernel_rfl))⟩
  f27 := ⟨Tryz.f235.name, by decide, Tryz.func235.trans (congrArg some (by kernel_rfl))⟩
  f28 := Tryz.func177.trans (congrArg some (by kernel_rfl))
  f29 := Tryz.func178.trans (congrArg some (by kernel_rfl))
  f46 := ⟨Tryz.f244.name, by decide, Tryz.func244.trans (congrArg some (by kernel_rfl))⟩
  f47 := Tryz.func200.trans (congrArg some (by kernel_rfl))
  f48 := Tryz.func201.trans (congrArg some (by kernel_rfl))
  f49 := ⟨Tryz.f245.name, by decide, Tryz.func245.trans (congrArg some (by kernel_rfl))⟩
  f50 := ⟨Tryz.f246.name, by decide, Tryz.func246.trans (congrArg some (by kernel_rfl))⟩
  f57 := ⟨Tryz.f251.name, by decide, Tryz.func251.trans (congrArg some (by kernel_rfl))⟩
  t0 := Tryz.underlying0
  a0 := Tryz.isAgg0
  z0 := Tryz.sizeOf0
  v0 := Tryz.zeroValue0
  t3 := Tryz.underlying3
  a3 := Tryz.isAgg3
  z3 := Tryz.sizeOf3
  v3 := Tryz.zeroValue3
  t4 := Tryz.underlying4
  a4 := Tryz.isAgg4
  z4 := Tryz.sizeOf4
  v4 := Tryz.zeroValue4
  t5 := Tryz.underlying5
  a5 := Tryz.isAgg5
  z5 := Tryz.sizeOf5
  v5 := Tryz.zeroValue5
  t9 := Tryz.underlying9
  a9 := Tryz.isAgg9
  z9 := Tryz.sizeOf9
  v9 := Tryz.zeroValue9
  t22 := Tryz.underlying54
  a22 := Tryz.isAgg54
  z22 := Tryz.sizeOf54
  v22 := Tryz.zeroValue54
  t25 := Tryz.underlying240
  a25 := Tryz.isAgg240
  z25 := Tryz.sizeOf240
  v25 := Tryz.zeroValue240
  t39 := Tryz.underlying132
  a39 := Tryz.isAgg132
  z39 := Tryz.sizeOf132
  v39 := Tryz.zeroValue132
  t45 := Tryz.underlying256
  a45 := Tryz.isAgg256
  z45 := Tryz.sizeOf256
  v45 := Tryz.zeroValue256
  t46 := Tryz.underlying257
  a46 := Tryz.isAgg257
  z46 := Tryz.sizeOf257
  v46 := Tryz.zeroValue257
  t50 := Tryz.underlying128
  a50 := Tryz.isAgg128
  z50 := Tryz.sizeOf128
  v50 := Tryz.zeroValue128
  t53 := Tryz.underlying130
  a53 := Tryz.isAgg130
  z53 := Tryz.sizeOf130
  v53 := Tryz.zeroValue130
  t55 := Tryz.underlying152
  a55 := Tryz.isAgg152
  z55 := Tryz.sizeOf152
  v55 := Tryz.zeroValue152
  t66 := Tryz.underlying278
  a66 := Tryz.isAgg278
  z66 := Tryz.sizeOf278
  v66 := Tryz.zeroValue278
  t70 := Tryz.underlying281
  a70 := Tryz.isAgg281
  z70 := Tryz.sizeOf281
  v70 := Tryz.zeroValue281
  t76 := Tryz.underlying300
  a76 := Tryz.isAgg300
  z76 := Tryz.sizeOf300
  v76 := Tryz.zeroValue300
  t77 := Tryz.underlying301
  a77 := Tryz.isAgg301
  z77 := Tryz.sizeOf301
  v77 := Tryz.zeroValue301 }
end Go.Proofs

/- The walks of this proof: entries put in order by slices.SortFunc. -/
namespace Go.Proofs.YtakipjofboipmaaGreat
open Go.RowKit Go.Sort Go.Shelf

def cfE (a b : En) : Int := oc a.k a.s b.k b.s

theorem ltE_true {x y : En} : ltOf cfE x y = true ↔ oc x.k x.s y.k y.s < 0 := decide_eq_true_iff
theorem ltE_false {x y : En} : ltOf cfE x y = false ↔ ¬ oc x.k x.s y.k y.s < 0 := decide_eq_false_iff_not

theorem swoE : SWO (ltOf cfE) := by
  refine ⟨fun x => ?_, fun x y z h1 h2 => ?_, fun x y z h1 h2 => ?_⟩
  · rw [ltE_false, oc_lt, kc_self]
    omega
  · rw [ltE_true] at *
    exact oc_trans h1 h2
  · rw [ltE_false] at *
    intro h3
    by_cases e : x.k = y.k ∧ x.s = y.s
    · rw [e.1, e.2] at h3
      exact h2 h3
    · exact h2 (oc_trans (oc_total h1 e) h3)

set_option maxHeartbeats 400000 in
theorem order_lays (a b : En) (w : World) :
    Calls Tryz.prog 146 #[.agg #[.string a.k, .int .i64 a.s, .bool a.g, .string a.v], .agg #[.string b.k, .int .i64 b.s, .bool b.g, .string b.v]] w fun e w' => e = .returned (.int .i64 (oc a.k a.s b.k b.s)) ∧ ∃ q os, w' = grow (w.drewN q) os := by
  obtain ⟨k1, s1, g1, v1⟩ := a
  obtain ⟨k2, s2, g2, v2⟩ := b
  have fin : ∀ o1 o2 : Obj, ∃ q os, (w.alloc o1).alloc o2 = grow (w.drewN q) os := fun o1 o2 => ⟨0, #[o1, o2], by rw [alloc_eq_grow, alloc_eq_grow, grow_grow]; rfl⟩
  have HF : Hid _ := fin
  clear fin
  dsimp only
  generalize hn : kc k1 k2 = n
  have H : Hid (kc k1 k2 = n) := hn
  clear hn
  by_cases h0 : n = 0
  · subst h0
    have e : oc k1 s1 k2 s2 = ci s2 s1 := by simp [oc, ci, H.out]
    simp only [e]
    go_enter Tryz.func146, Tryz.ntmps146
    go_wp2_with (first
      | (go_at_call 137; refine (compare_any _ _ _).mono ?_; rintro e w' ⟨rfl, rfl⟩; rw [H.out])
      | (go_at_call 124; refine (cmpint_any _ _ _).mono ?_; rintro e w' ⟨rfl, rfl⟩))
    go_ret
    exact ⟨rfl, HF.out _ _⟩
  · have e : oc k1 s1 k2 s2 = n := by simp [oc, H.out, h0]
    simp only [e]
    have hb : (n != 0) = true := by simp [h0]
    go_enter Tryz.func146, Tryz.ntmps146
    go_wp2_with (first
      | (go_at_call 137; refine (compare_any _ _ _).mono ?_; rintro e w' ⟨rfl, rfl⟩; rw [H.out])
      | (go_at_call 124; refine (cmpint_any _ _ _).mono ?_; rintro e w' ⟨rfl, rfl⟩))
    go_ret
    exact ⟨rfl, HF.out _ _⟩

section
variable [Inhabited En]

theorem ec_get : ∀ (L : List En) (t : Nat), t < L.length * 4 → (ecells L)[t]? = some ((En.cells L[t / 4]!)[t % 4]!)
  | [], t, h => by simp at h
  | a :: r, t, h => by
    have e : ecells (a :: r) = En.cells a ++ ecells r := rfl
    rw [e]
    by_cases h4 : t < 4
    · have : t = 0 ∨ t = 1 ∨ t = 2 ∨ t = 3 := by omega
      rcases this with rfl | rfl | rfl | rfl <;> simp [En.cells]
    · obtain ⟨u, rfl⟩ : ∃ u, t = u + 4 := ⟨t - 4, by omega⟩
      rw [List.getElem?_append_right (by simp [En.cells]), show u + 4 - (En.cells a).length = u by simp [En.cells], ec_get r u (by simp at h; omega)]
      have e1 : (u + 4) / 4 = u / 4 + 1 := by omega
      have e2 : (u + 4) % 4 = u % 4 := by omega
      rw [e1, e2]
      simp

theorem flat_eq (L : List En) : flatK En.cells 4 L.toArray = (ecells L).toArray := by
  refine ext_get! (by simp [ecells_len]) fun t ht => ?_
  have ht' : t < L.length * 4 := by simpa using ht
  rw [get_flatK _ _ _ t (by simpa using ht')]
  have h := ec_get L t ht'
  have e1 : (ecells L).toArray[t]! = (En.cells L[t / 4]!)[t % 4]! := by
    rw [getElem!_def]
    simp [h]
  rw [e1]
  simp

end

theorem put_take (cur : Array Value) (xs : List Value) (h : xs.length ≤ cur.size) : (putCells id 0 xs.toArray cur).toList.take xs.length = xs := by
  apply List.ext_getElem?
  intro j
  by_cases hj : j < xs.length
  · rw [List.getElem?_take_of_lt hj, Array.getElem?_toList]
    simp [putCells, hj, show j < cur.size by omega]
  · rw [List.getElem?_take_eq_none (by omega), List.getElem?_eq_none (by omega)]

section
variable [Inhabited En]

theorem sw_heap {w : World} {g n : Nat} {os : Array Obj} {cur : Array Value} {e : TypeId} {fr : Nat × Nat} (L : List En) (hb : w.heap[g]? = some (.cells cur e fr)) :
    (sortWorldK En.cells 4 w g 0 n L.toArray os).heap[g]? = some (.cells (putCells id 0 (ecells L).toArray cur) e fr) := by
  have hg : g < w.heap.size := (Array.getElem?_eq_some_iff.1 hb).1
  unfold sortWorldK putRowK
  rw [flat_eq, heap_grow_old _ _ (by simpa using hg)]
  simp [putRow, mapBlock, Sort.ahead, Array.getElem?_modify, hb, onCells]

theorem sw_grown {w : World} {g n : Nat} {os : Array Obj} (d : Array En) : w.grownBy (sortWorldK En.cells 4 w g 0 n d os) (some g) := by
  unfold sortWorldK putRowK
  refine ⟨rfl, rfl, rfl, by simp, fun k hk hne => ?_⟩
  rw [heap_grow_old _ _ (by simpa using hk)]
  have : g ≠ k := fun e => hne (by rw [e])
  simp [putRow, mapBlock, Sort.ahead, Array.getElem?_modify, this]

theorem holdsE {w : World} {g : Nat} {cur : Array Value} {e : TypeId} {L : List En} (hb : w.heap[g]? = some (.cells cur e (0, 0))) (ht : cur.toList.take (L.length * 4) = ecells L) : HoldsK En.cells 4 w g 0 L.toArray := by
  unfold HoldsK
  rw [flat_eq]
  intro j hj
  have hj' : j < L.length * 4 := by simpa [ecells_len] using hj
  refine ⟨?_, by simp [World.frozen?, hb]⟩
  have h1 : (cur.toList.take (L.length * 4))[j]? = (ecells L)[j]? := by rw [ht]
  rw [List.getElem?_take_of_lt hj'] at h1
  simp only [World.cell?, hb, Nat.zero_add]
  simp only [Option.isSome_none, Bool.false_eq_true, if_false]
  rw [← Array.getElem?_toList, h1]
  have hj2 : j < (ecells L).length := by rw [ecells_len]; exact hj'
  simp [hj2]

theorem sorted_arr {L : List En} {d' : Array En} (hd : DistE L) (hp : PermIn 0 L.toArray.size L.toArray d') (hs : SortedIn (ltOf cfE) 0 L.toArray.size d') : d' = (srt L).toArray := by
  obtain ⟨h1, _, h3⟩ := hp
  have hperm : d'.toList.Perm L := by
    have e1 : d'.extract 0 L.toArray.size = d' := by rw [← h1]; simp
    rw [e1] at h3
    simpa using h3
  have hdd : DistE d'.toList := hperm.symm.pairwise hd (fun {a b} hab hba => hab ⟨hba.1.symm, hba.2.symm⟩)
  have hS : Sorted d'.toList := by
    refine List.pairwise_iff_getElem.2 fun i j hi hj hij => ?_
    have hi' : i < d'.size := by simpa using hi
    have hj' : j < d'.size := by simpa using hj
    have h := hs i j (Nat.zero_le _) hij (by rw [← h1]; exact hj')
    rw [getElem!_pos d' j hj', getElem!_pos d' i hi'] at h
    rw [ltE_false] at h
    have hne := List.pairwise_iff_getElem.1 hdd i j hi hj hij
    simp only [Array.getElem_toList] at hne ⊢
    exact oc_total h (fun e => hne ⟨e.1.symm, e.2.symm⟩)
  have := sorted_ext hS (srt_sorted hd) (fun e => by rw [srt_mem]; exact hperm.mem_iff)
  rw [← this]

end

theorem sortE_any (L : List En) (base g cap : Nat) (w : World) (hd : DistE L) (hfew : L.length < 1000000000) (h : w.ownsRow base 58 4 (.slice (some ⟨g, 0, none⟩) L.length cap) L.length (ecells L)) :
    Calls Tryz.prog 187 #[.slice (some ⟨g, 0, none⟩) L.length cap, .func (.func 146) #[] #[]] w fun e w' => e = .returned (.tuple #[]) ∧ w'.ownsRow base 58 4 (.slice (some ⟨g, 0, none⟩) L.length cap) L.length (ecells (srt L)) ∧ w.grownBy w' (some g) := by
  have : Inhabited En := ⟨⟨.empty, 0, false, .empty⟩⟩
  rcases h.2 with ⟨h', _⟩ | ⟨g', cap', cur, hv, hb, hg, hnc, hcm, hsz, htake⟩
  · cases h'
  · simp only [Value.slice.injEq, Option.some.injEq, Addr.mk.injEq] at hv
    obtain ⟨⟨rfl, _⟩, _, rfl⟩ := hv
    have key := AnyQ.slices_SortFunc Tryz.sortE 4 Tryz.isAgg58 Tryz.sizeOf58 En.cells (fun _ => rfl) (fun x v hv => by simp only [En.cells, List.mem_cons, List.not_mem_nil, or_false] at hv; rcases hv with rfl | rfl | rfl | rfl <;> rfl) cfE swoE 146 #[] g 0 cap L.toArray w
      (enters_of Tryz.func146 (by kernel_rfl) rfl) (fun m os dk _ x y => order_lays x y _) (holdsE hg htake) (Array.getElem?_eq_some_iff.1 hg).1 (by simp; omega)
    refine Calls.mono (show Calls Tryz.prog 187 #[.slice (some ⟨g, 0, none⟩) L.length cap, .func (.func 146) #[] #[]] w _ from key) ?_
    rintro e w' ⟨rfl, d', n, os, hp, hs, rfl⟩
    obtain rfl := sorted_arr hd hp hs
    refine ⟨rfl, ⟨by rw [ecells_len, srt_len], .inr ⟨g, cap, _, rfl, hb, sw_heap _ hg, hnc, hcm, by simp [putCells, hsz], ?_⟩⟩, sw_grown _⟩
    rw [show L.length * 4 = (ecells (srt L)).length by rw [ecells_len, srt_len]]
    exact put_take cur _ (by rw [ecells_len, srt_len, hsz]; exact Nat.mul_le_mul_right _ hnc)
end Go.Proofs.YtakipjofboipmaaGreat

/- The walks of this proof: a memory made of entries. -/
namespace Go.Proofs.YtakipjofboipmaaGreat
open Go.RowKit Go.Sort Go.Shelf

theorem bitsLen_nil (w : World) : Calls Tryz.prog 136 #[.int .u64 0] w fun e w' => e = .returned (.int .i64 0) ∧ w' = w := by
  have h := Any.bits_Len (SlLaysF0.n15.bits (P := Tryz.prog) (ρ := Tryz.sortE_ren) { Tryz.sortE with }) 0 w (by omega) (by omega)
  exact h

set_option maxHeartbeats 1000000 in
set_option maxRecDepth 100000 in
theorem insertion_nil (w : World) : Calls Tryz.prog 228 #[.slice none 0 0, .int .i64 0, .int .i64 0, .func (.func 146) #[] #[]] w fun e w' => e = .returned (.tuple #[]) ∧ Below w.heap.size w w' := by
  go_enter Tryz.func228, Tryz.ntmps228
  go_wp2
  go_loopg [8] 0 (fun kx s8 wr => s8 = .int .i64 1 ∧ Below w.heap.size w wr)
  case atStart => exact ⟨rfl, Below.refl _ _⟩
  case round =>
    obtain ⟨rfl, hb⟩ := hrel
    go_wp2
    go_end0
    exact ⟨rfl, hb⟩

set_option maxHeartbeats 1000000 in
set_option maxRecDepth 100000 in
theorem pdq_nil (w : World) : Calls Tryz.prog 212 #[.slice none 0 0, .int .i64 0, .int .i64 0, .int .i64 0, .func (.func 146) #[] #[]] w fun e w' => e = .returned (.tuple #[]) ∧ Below w.heap.size w w' := by
  go_enter Tryz.func212, Tryz.ntmps212
  go_wp2
  go_loopg [1, 2] 0 (fun kx s1 s2 wr => s1 = .int .i64 0 ∧ s2 = .int .i64 0 ∧ Below w.heap.size w wr)
  case atStart => exact ⟨rfl, rfl, Below.refl _ _⟩
  case round =>
    obtain ⟨rfl, rfl, hb⟩ := hrel
    have HB : Hid (Below w.heap.size w wr) := hb
    clear hb
    go_wp2_with fail
    refine Calls.mono (insertion_nil _) ?_
    rintro e w2 ⟨rfl, h2⟩
    have H2 : Hid (Below w.heap.size w w2) := HB.out.trans (h2.mono HB.out.size)
    clear h2
    go_wp2
    refine bodyPost_ret (results_none rfl _ _ _) rfl ?_
    exact ⟨rfl, H2.out⟩

theorem sortE_nil (w : World) : Calls Tryz.prog 187 #[.slice none 0 0, .func (.func 146) #[] #[]] w fun e w' => e = .returned (.tuple #[]) ∧ Below w.heap.size w w' := by
  go_enter Tryz.func187, Tryz.ntmps187
  go_wp2_with fail
  refine Calls.mono (bitsLen_nil _) ?_
  rintro e w2 ⟨rfl, rfl⟩
  go_wp2_with fail
  refine Calls.mono (pdq_nil _) ?_
  rintro e w2 ⟨rfl, h2⟩
  have H2 : Hid _ := h2
  clear h2
  go_wp2
  go_end0
  exact ⟨rfl, H2.out⟩

/-- Entries in order, in memory of their own. -/
def MemPost (L : List En) (w : World) (e : Ending) (w' : World) : Prop :=
  ∃ v, e = .returned v ∧ w'.ownsRow w.heap.size 58 4 v L.length (ecells (srt L)) ∧ Below w.heap.size w w'

set_option maxHeartbeats 1000000 in
theorem sortedFunc_any (L : List En) (Bn cap : Nat) (ao : Option Addr) (w : World) (hd : DistE L) (hcap : L.length ≤ cap) (hfew : L.length < 1000000000) (hBn : Bn < w.heap.size) (hc : w.cell? ⟨Bn, 0, none⟩ = some (.slice ao L.length cap)) (hO : 0 < L.length → ∃ g, ao = some ⟨g, 0, none⟩ ∧ g < w.heap.size ∧ EnAt w g L) :
    Calls Tryz.prog 144 #[.func (.func 188) #[] #[.pointer (some ⟨Bn, 0, none⟩)], .func (.func 146) #[] #[]] w fun e w' => MemPost L w e w' := by
  have H : Hid _ := collect_any L Bn cap ao w hcap hfew hBn hc hO
  have HD : Hid (DistE L) := hd
  clear hO hc hBn hd
  go_enter Tryz.func144, Tryz.ntmps144
  go_wp2_with fail
  refine Calls.mono H.out ?_
  rintro e w2 ⟨v, rfl, ho, hb⟩
  have HB : Hid (Below w.heap.size w w2) := hb
  have HO : Hid (w2.ownsRow w.heap.size 58 4 v L.length (ecells L)) := ho
  rcases ho.2 with ⟨rfl, h0⟩ | ⟨g, c2, cur, rfl, hge, _⟩
  · have hL : L = [] := List.length_eq_zero_iff.1 h0
    subst hL
    clear ho hb h0
    go_wp2_with fail
    refine Calls.mono (sortE_nil _) ?_
    rintro e w3 ⟨rfl, h3⟩
    have HF : Hid (MemPost [] w (.returned (.slice none 0 0)) w3) := ⟨_, rfl, by rw [show ecells (srt []) = [] by simp [srt, ecells]]; exact World.ownsRow_nil _ _ _ _, HB.out.trans (h3.mono HB.out.size)⟩
    clear h3
    go_wp2
    go_ret
    exact HF.out
  · clear ho hb
    go_wp2_with fail
    refine Calls.mono (sortE_any L w.heap.size g c2 _ HD.out hfew HO.out) ?_
    rintro e w3 ⟨rfl, h3, h4⟩
    have HF : Hid (MemPost L w (.returned (.slice (some ⟨g, 0, none⟩) L.length c2)) w3) := ⟨_, rfl, h3, HB.out.grown h4 HB.out.size (fun k e => by cases e; exact hge)⟩
    clear h3 h4
    go_wp2
    go_ret
    exact HF.out

theorem owns_set {w : World} {base : Nat} {e : TypeId} {size : Nat} {v : Value} {n : Nat} {xs : List Value} (h : w.ownsRow base e size v n xs) {b o : Nat} (hb : b < base) (u : Value) : (w.setCell ⟨b, o, none⟩ u).ownsRow base e size v n xs := by
  refine ⟨h.1, ?_⟩
  rcases h.2 with h1 | ⟨g, cap, cur, hv, hbase, hg, r⟩
  · exact .inl h1
  · exact .inr ⟨g, cap, cur, hv, hbase, by rw [Below.heap_setCell _ _ _ _ (show g ≠ b by omega)]; exact hg, r⟩

theorem valuesE_any (v : Value) (w : World) (hv : ∃ ao n c, v = .slice ao n c) : Calls Tryz.prog 145 #[v] w fun e w' => e = .returned (.func (.func 188) #[] #[.pointer (some ⟨w.heap.size, 0, none⟩)]) ∧ w' = w.alloc (.cells #[v] 54) := by
  obtain ⟨ao, n, c, rfl⟩ := hv
  go_enter Tryz.func145, Tryz.ntmps145
  go_wp2
  go_ret
  exact ⟨rfl, rfl⟩

set_option maxHeartbeats 1000000 in
theorem newMem_any (L : List En) (cap : Nat) (ao : Option Addr) (w : World) (hd : DistE L) (hcap : L.length ≤ cap) (hfew : L.length < 1000000000) (hO : 0 < L.length → ∃ g, ao = some ⟨g, 0, none⟩ ∧ g < w.heap.size ∧ EnAt w g L) :
    Calls Tryz.prog 100 #[.slice ao L.length cap] w fun e w' => ∃ v, e = .returned (.agg #[v]) ∧ w'.ownsRow w.heap.size 58 4 v L.length (ecells (srt L)) ∧ Below w.heap.size w w' := by
  have H : Hid (∀ w2 : World, Below w.heap.size w w2 → ∀ Bn, Bn < w2.heap.size → w2.cell? ⟨Bn, 0, none⟩ = some (.slice ao L.length cap) → Calls Tryz.prog 144 #[.func (.func 188) #[] #[.pointer (some ⟨Bn, 0, none⟩)], .func (.func 146) #[] #[]] w2 fun e w' => MemPost L w2 e w') := fun w2 hb Bn hB hc =>
    sortedFunc_any L Bn cap ao w2 hd hcap hfew hB hc (fun h => by obtain ⟨g, h1, h2, h3⟩ := hO h; exact ⟨g, h1, Nat.lt_of_lt_of_le h2 hb.size, h3.below hb⟩)
  clear hd hO
  go_enter Tryz.func100, Tryz.ntmps100
  go_wp2_with fail
  refine Calls.mono (valuesE_any _ _ ⟨_, _, _, rfl⟩) ?_
  rintro e w1 ⟨rfl, rfl⟩
  have hb1 : Below w.heap.size w ((w.alloc (.cells #[.slice none 0 0] 108)).alloc (.cells #[.slice ao L.length cap] 54)) := ((Below.refl _ _).alloc (Nat.le_refl _) _).alloc (by simp) _
  have HC := H.out _ hb1 (w.heap.size + 1) (by simp) (by simp)
  have hr1 : ((w.alloc (.cells #[.slice none 0 0] 108)).alloc (.cells #[.slice ao L.length cap] 54)).cell? ⟨w.heap.size, 0, none⟩ = some (.slice none 0 0) := by simp
  have hf1 : ((w.alloc (.cells #[.slice none 0 0] 108)).alloc (.cells #[.slice ao L.length cap] 54)).frozen? ⟨w.heap.size, 0, none⟩ = false := by simp
  have hz1 : ((w.alloc (.cells #[.slice none 0 0] 108)).alloc (.cells #[.slice ao L.length cap] 54)).heap.size = w.heap.size + 2 := by simp
  generalize hW1 : (w.alloc (.cells #[.slice none 0 0] 108)).alloc (.cells #[.slice ao L.length cap] 54) = W1 at hb1 HC hr1 hf1 hz1
  have HCH : Hid _ := HC
  have HB1 : Hid (Below w.heap.size w W1 ∧ W1.heap.size = w.heap.size + 2) := ⟨hb1, hz1⟩
  clear H HC hb1 hz1 hcap hW1
  go_wp2_with fail
  refine Calls.mono HCH.out ?_
  rintro e w3 ⟨v, rfl, ho3, hb3⟩
  obtain ⟨aoV, cV, rfl⟩ := slice_form ho3
  have hlt : w.heap.size < W1.heap.size := by have := HB1.out.2; omega
  have r3 : w3.cell? ⟨w.heap.size, 0, none⟩ = some (.slice none 0 0) := (hb3.cell (p := ⟨w.heap.size, 0, none⟩) hlt).trans hr1
  have f3 : w3.frozen? ⟨w.heap.size, 0, none⟩ = false := (hb3.frozen (p := ⟨w.heap.size, 0, none⟩) hlt).trans hf1
  have hlt3 : w.heap.size < w3.heap.size := Nat.lt_of_lt_of_le hlt hb3.size
  have FIN : Hid ((w3.setCell ⟨w.heap.size, 0, none⟩ (.slice aoV L.length cV)).ownsRow w.heap.size 58 4 (.slice aoV L.length cV) L.length (ecells (srt L)) ∧ Below w.heap.size w (w3.setCell ⟨w.heap.size, 0, none⟩ (.slice aoV L.length cV))) :=
    ⟨owns_base (owns_set ho3 hlt _) (Nat.le_of_lt hlt), (HB1.out.1.trans (hb3.mono (Nat.le_of_lt hlt))).setCell (Nat.le_refl _) _⟩
  clear ho3 hb3 HCH HB1 hr1 hf1
  go_wp2
  exact bodyPost_ret (v := .agg #[.slice aoV L.length cV]) (by simp [results, Tryz.results100, go_sem, r3]) rfl ⟨_, rfl, FIN.out⟩
end Go.Proofs.YtakipjofboipmaaGreat
