/- The walks of this proof: the bytes of batches, by the document. -/
import Derived.Test.YtakipjofboipmaaGreatJ25
import Derived.Test.YtakipjofboipmaaGreatJ18
import Derived.Test.YtakipjofboipmaaGreatJ12
import Derived.Test.YtakipjofboipmaaGreatJ23
namespace Go.Proofs.YtakipjofboipmaaGreat
open Go.RowKit Go.Sort

def bestVal : Option (Nat × Pr) → Value
  | some (j, _) => .int .i64 j
  | none => .int .i64 (-1)

theorem bs_append (a b : List UInt8) : bs a ++ bs b = bs (a ++ b) := by
  apply ByteArray.ext
  simp [bs]

theorem settles_unique {L C M : List Pr} (h : SamePr (keep L) C ∧ Upto C C.length) (hM : Settles L M) : C = M := by
  have up : ∀ {X : List Pr}, Upto X X.length → X.Pairwise (fun a b => kc a.k b.k < 0) := fun {X} hX => List.pairwise_iff_getElem.2 fun i j hi hj hij => hX i j _ _ hij hj (List.getElem?_eq_getElem hi) (List.getElem?_eq_getElem hj)
  exact upto_unique (up hM.2) (up h.2) fun p => by rw [h.1.2, hM.1.2]

theorem addr_add' (g i : Nat) : (⟨g, 0, none⟩ : Addr).add i = ⟨g, i, none⟩ := by unfold Addr.add; split <;> simp_all

/-- One byte as a text. -/
theorem conv_one (W : World) (x : UInt8) (c : Int) (hc : c = (x.toNat : Int)) : (convert 71 9 (.slice (some ⟨W.heap.size, 0, none⟩) 1 1)).run Tryz.prog (W.alloc (.cells #[.int .u8 c] 5)) = .ok (.string (bs [x])) (W.alloc (.cells #[.int .u8 c] 5)) := by
  subst hc
  exact run_convert_bytes_back (P := Tryz.prog) _ 71 9 5 ⟨W.heap.size, 0, none⟩ 1 [x] Tryz.underlying71 Tryz.underlying5 Tryz.underlying9 (fun j hj => by
    obtain rfl : j = 0 := by simpa using hj
    simp [Addr.add])

theorem conv_four (W : World) (l : List UInt8) (a b c d : Int) (hl : bcells l = [.int .u8 a, .int .u8 b, .int .u8 c, .int .u8 d]) : (convert 71 9 (.slice (some ⟨W.heap.size, 0, none⟩) 4 4)).run Tryz.prog (W.alloc (.cells #[.int .u8 a, .int .u8 b, .int .u8 c, .int .u8 d] 5)) = .ok (.string (bs l)) (W.alloc (.cells #[.int .u8 a, .int .u8 b, .int .u8 c, .int .u8 d] 5)) := by
  have h4 : l.length = 4 := by rw [← bcells_len, hl]; rfl
  have := run_convert_bytes_back (P := Tryz.prog) (W.alloc (.cells #[.int .u8 a, .int .u8 b, .int .u8 c, .int .u8 d] 5)) 71 9 5 ⟨W.heap.size, 0, none⟩ 4 l Tryz.underlying71 Tryz.underlying5 Tryz.underlying9 (fun j hj => by
    have e : (bcells l)[j]? = some (.int .u8 (l[j].toNat : Int)) := by simp [bcells, hj]
    rw [hl] at e
    rw [h4] at hj
    have : j = 0 ∨ j = 1 ∨ j = 2 ∨ j = 3 := by omega
    rcases this with rfl | rfl | rfl | rfl <;> (rw [← e]; simp [Addr.add]))
  rw [h4] at this
  exact this

set_option maxHeartbeats 8000000 in
set_option maxRecDepth 100000 in
theorem journalT_any (A B : List (List Pr)) (vA : Value) (base : Nat) (w : World) (hA : AllAt base w vA A) (ok : ∀ a ∈ A, BOk a) (hl : A.length ≤ 100) (hS : B.length = A.length) (hset : ∀ (i : Nat) a b, A[i]? = some a → B[i]? = some b → Settles a b) :
    Calls Tryz.prog 29 #[vA] w fun e w' => e = .returned (.string (bs (B.flatMap recB))) ∧ Below w.heap.size w w' := by
  obtain ⟨i0, hi, hz0, hz1, hz2⟩ := info_parts Tryz.info5
  obtain ⟨Ws, hWo, hWr⟩ := hA
  obtain ⟨aoA, cA, rfl⟩ := slice_form hWo
  have HROW : Hid (w.ownsRow base 49 1 (.slice aoA A.length cA) A.length Ws ∧ ∀ (i : Nat) (b : List Pr), A[i]? = some b → ∃ vi, Ws[i]? = some vi ∧ w.ownsRow base 48 3 vi b.length (pcells b)) := ⟨hWo, hWr⟩
  have HOK : Hid (∀ a ∈ A, BOk a) := ok
  have HSE : Hid (∀ (i : Nat) a b, A[i]? = some a → B[i]? = some b → Settles a b) := hset
  clear hWo hWr ok hset
  go_enter Tryz.func29, Tryz.ntmps29
  go_wp2
  go_loopg [3, 4] A.length (fun kx s3 s4 wr => ∃ i : Nat, i ≤ A.length ∧ A.length - i ≤ kx ∧ s4 = .int .i64 i ∧ s3 = .string (bs ((B.take i).flatMap recB)) ∧ Hid (Below w.heap.size w wr))
  case atStart => exact ⟨0, Nat.zero_le _, Nat.le_refl _, rfl, rfl, Below.refl _ _⟩
  case round =>
    obtain ⟨i, hiA, hik, rfl, rfl, HB⟩ := hrel
    by_cases hlt : i < A.length
    · obtain ⟨a, hai⟩ : ∃ a, A[i]? = some a := ⟨_, List.getElem?_eq_getElem hlt⟩
      obtain ⟨M, hMi⟩ : ∃ M, B[i]? = some M := ⟨_, List.getElem?_eq_getElem (by omega)⟩
      have hbok := HOK.out a (List.mem_of_getElem? hai)
      have ha1 := hbok.lo
      have ha4 := hbok.hi
      obtain ⟨vi, hWi, hoi⟩ := HROW.out.2 i a hai
      obtain ⟨gA, cA', hvA, _, hgA⟩ := HROW.out.1.form (by omega)
      simp only [Value.slice.injEq] at hvA
      obtain ⟨rfl, _, rfl⟩ := hvA
      have cW : w.cell? ⟨gA, i, none⟩ = some vi := by
        rw [← addr_add' gA i]
        exact HROW.out.1.cells (g := gA) rfl i vi hWi
      obtain ⟨g, cap, rfl, _, hgw, hcap, hpc⟩ := pr_cells hoi (Below.refl _ _) (by omega)
      have HPC : Hid (∀ (k : Nat) p, a[k]? = some p → w.cell? ⟨g, k * 3, none⟩ = some (.string p.k) ∧ w.cell? ⟨g, k * 3 + 1, none⟩ = some (.string p.v) ∧ w.cell? ⟨g, k * 3 + 2, none⟩ = some (.bool p.g)) := hpc
      have CW : Hid (w.cell? ⟨gA, i, none⟩ = some (.slice (some ⟨g, 0, none⟩) a.length cap)) := cW
      have HSEM : Hid (Settles a M ∧ BOk a ∧ B[i]? = some M) := ⟨HSE.out i a M hai hMi, hbok, hMi⟩
      have H0 : Hid (CntInv a [] ⟨#[]⟩) := cnt_start fun p hp => (hbok.ok p hp).lo
      clear hai hMi hbok hWi hoi hpc cW
      go_wp2
      go_loopg [5, 6, 7, 8] a.length (fun kx s5 s6 s7 s8 wx => ∃ (C : List Pr) (last : ByteArray), C.length ≤ a.length ∧ a.length - C.length ≤ kx ∧ s6 = .int .i64 C.length ∧ s8 = .int .i64 C.length ∧ s7 = .string last ∧ Hid (CntInv a C last) ∧ Hid (BR w.heap.size s5 (C.flatMap prB) wx) ∧ Hid (Below w.heap.size w wx))
      case atStart => exact ⟨[], ⟨#[]⟩, Nat.zero_le _, Nat.le_refl _, rfl, rfl, rfl, H0.out, World.ownsRow_nil _ _ _ _, HB.out⟩
      case round =>
        clear H0 HB
        obtain ⟨C, last, hCL, hCk, rfl, rfl, rfl, HI, HO, HB⟩ := hrel
        have cW := cell_later HB.out CW.out
        have hgA2 : gA < wr.heap.size := block_lt_of_cell cW
        obtain ⟨PC, hPC⟩ : ∃ PC, C.flatMap prB = PC := ⟨_, rfl⟩
        have HPCC : Hid (C.flatMap prB = PC) := hPC
        rw [hPC] at HO
        clear hPC
        obtain ⟨aoC, capC, rfl⟩ := HO.out.form
        by_cases hlt2 : C.length < a.length
        · go_wp2
          go_loopg [9, 10] a.length (fun kx s9 s10 wx => ∃ (m : Nat) (o : Option (Nat × Pr)), m ≤ a.length ∧ a.length - m ≤ kx ∧ s10 = .int .i64 m ∧ s9 = bestVal o ∧ Hid (BestInv a last m o) ∧ Hid (BR w.heap.size (.slice aoC PC.length capC) PC wx) ∧ Hid (Below w.heap.size w wx))
          case atStart => exact ⟨0, none, Nat.zero_le _, Nat.le_refl _, rfl, rfl, best_start _ _, HO.out, HB.out⟩
          case round =>
            clear HO HB cW hgA2
            obtain ⟨m, o, hml, hmk, rfl, rfl, HBI, HO, HB⟩ := hrel
            have cW := cell_later HB.out CW.out
            have hgA2 : gA < wr.heap.size := block_lt_of_cell cW
            have cW' := cell_regrown cW
            by_cases hmlt : m < a.length
            · obtain ⟨q, hq⟩ : ∃ q, a[m]? = some q := ⟨_, List.getElem?_eq_getElem hmlt⟩
              have c0 := cell_later HB.out (HPC.out m q hq).1
              have hgl : g < wr.heap.size := block_lt_of_cell c0
              have c0' := cell_regrown c0
              have e1 := bytesLess_kc q.k last
              have HQ : Hid (a[m]? = some q) := hq
              clear hq
              have hneg := kc_neg last q.k
              have hcase : (kc q.k last < 0 ∧ (q.k.toList == last.toList) = false ∧ ¬ kc last q.k < 0) ∨ (q.k = last ∧ ¬ kc last q.k < 0) ∨ (¬ kc q.k last < 0 ∧ (q.k.toList == last.toList) = false ∧ kc last q.k < 0) := by
                by_cases he : q.k = last
                · exact .inr (.inl ⟨he, by rw [he, kc_self]; omega⟩)
                · have h0 : kc last q.k ≠ 0 := fun h => he (kc_zero h).symm
                  by_cases hl : kc q.k last < 0
                  · exact .inl ⟨hl, str_ne he, by omega⟩
                  · exact .inr (.inr ⟨hl, str_ne he, by omega⟩)
              clear hneg
              rcases hcase with ⟨h1, h2, h3⟩ | ⟨h1, h3⟩ | ⟨h1, h2, h3⟩
              · simp only [h1, decide_true] at e1
                have HS : Hid (BestInv a last (m + 1) o) := best_skip HBI.out HQ.out (.inl h3)
                clear h1 h3
                go_wp2
                refine wp_region_quiet_below (by kernel_rfl) (by kernel_rfl) ?_
                repeat (first | go_big_quiet_step (fail) | quiet_step (fail))
                refine wpQuiet_nil ?_
                intro w2 hw'
                have hb := below_of_regrown hw'
                clear hw'
                have HO2 : Hid (BR w.heap.size (.slice aoC PC.length capC) PC w2) := HO.out.below hb
                have HB2 : Hid (Below w.heap.size w w2) := below_trans' HB.out hb
                clear hb
                go_wp2
                go_roundg (a.length - (m + 1))
                case measure => omega
                case rel => exact ⟨m + 1, o, by omega, Nat.le_refl _, by go_num, rfl, HS.out, HO2.out, HB2.out⟩
              · subst h1
                rw [kc_self] at e1
                simp only [Int.lt_irrefl, decide_false] at e1
                have h2 := str_same q.k
                have HS : Hid (BestInv a q.k (m + 1) o) := best_skip HBI.out HQ.out (.inl h3)
                clear h3
                go_wp2
                refine wp_region_quiet_below (by kernel_rfl) (by kernel_rfl) ?_
                repeat (first | go_big_quiet_step (fail) | quiet_step (fail))
                refine wpQuiet_nil ?_
                intro w2 hw'
                have hb := below_of_regrown hw'
                clear hw'
                have HO2 : Hid (BR w.heap.size (.slice aoC PC.length capC) PC w2) := HO.out.below hb
                have HB2 : Hid (Below w.heap.size w w2) := below_trans' HB.out hb
                clear hb
                go_wp2
                go_roundg (a.length - (m + 1))
                case measure => omega
                case rel => exact ⟨m + 1, o, by omega, Nat.le_refl _, by go_num, rfl, HS.out, HO2.out, HB2.out⟩
              · simp only [h1, decide_false] at e1
                match o, HBI with
                | none, HBI =>
                  have HS : Hid (BestInv a last (m + 1) (some (m, q))) := best_take HBI.out HQ.out h3 (fun j p h => by cases h)
                  clear h1 h3
                  simp only [bestVal]
                  go_wp2
                  refine wp_region_quiet_below (by kernel_rfl) (by kernel_rfl) ?_
                  repeat (first | go_big_quiet_step (fail) | quiet_step (fail))
                  refine wpQuiet_nil ?_
                  intro w2 hw'
                  have hb := below_of_regrown hw'
                  clear hw'
                  have HO2 : Hid (BR w.heap.size (.slice aoC PC.length capC) PC w2) := HO.out.below hb
                  have HB2 : Hid (Below w.heap.size w w2) := below_trans' HB.out hb
                  clear hb
                  go_wp2
                  go_roundg (a.length - (m + 1))
                  case measure => omega
                  case rel => exact ⟨m + 1, some (m, q), by omega, Nat.le_refl _, by go_num, rfl, HS.out, HO2.out, HB2.out⟩
                | some (jj, p), HBI =>
                  have hjl : jj < a.length := by have := HBI.out.1; omega
                  have d0 := cell_later HB.out (HPC.out jj p HBI.out.2.1).1
                  have d0' := cell_regrown d0
                  have e2 := bytesLess_kc q.k p.k
                  have hneg := kc_neg p.k q.k
                  have hcase : (kc q.k p.k < 0 ∧ (q.k.toList == p.k.toList) = false ∧ ¬ kc p.k q.k < 0) ∨ (q.k = p.k ∧ ¬ kc p.k q.k < 0) ∨ (¬ kc q.k p.k < 0 ∧ (q.k.toList == p.k.toList) = false ∧ kc p.k q.k < 0) := by
                    by_cases he : q.k = p.k
                    · exact .inr (.inl ⟨he, by rw [he, kc_self]; omega⟩)
                    · have h0 : kc p.k q.k ≠ 0 := fun h => he (kc_zero h).symm
                      by_cases hl : kc q.k p.k < 0
                      · exact .inl ⟨hl, str_ne he, by omega⟩
                      · exact .inr (.inr ⟨hl, str_ne he, by omega⟩)
                  clear hneg
                  simp only [bestVal]
                  rcases hcase with ⟨g1, g2, g3⟩ | ⟨g1, g3⟩ | ⟨g1, g2, g3⟩
                  · simp only [g1, decide_true] at e2
                    have HS : Hid (BestInv a last (m + 1) (some (m, q))) := best_take HBI.out HQ.out h3 (fun j p h => by cases h; exact g3)
                    clear h1 h3 g1 g3
                    go_wp2
                    refine wp_region_quiet_below (by kernel_rfl) (by kernel_rfl) ?_
                    repeat (first | go_big_quiet_step (fail) | quiet_step (fail))
                    refine wpQuiet_nil ?_
                    intro w2 hw'
                    have hb := below_of_regrown hw'
                    clear hw'
                    have HO2 : Hid (BR w.heap.size (.slice aoC PC.length capC) PC w2) := HO.out.below hb
                    have HB2 : Hid (Below w.heap.size w w2) := below_trans' HB.out hb
                    clear hb
                    go_wp2
                    go_roundg (a.length - (m + 1))
                    case measure => omega
                    case rel => exact ⟨m + 1, some (m, q), by omega, Nat.le_refl _, by go_num, rfl, HS.out, HO2.out, HB2.out⟩
                  · have HS : Hid (BestInv a last (m + 1) (some (m, q))) := best_take HBI.out HQ.out h3 (fun j p h => by cases h; exact g3)
                    rw [← g1, kc_self] at e2
                    simp only [Int.lt_irrefl, decide_false] at e2
                    have g2 := str_same q.k
                    rw [← g1] at d0 d0'
                    clear h1 h3 g1 g3
                    go_wp2
                    refine wp_region_quiet_below (by kernel_rfl) (by kernel_rfl) ?_
                    repeat (first | go_big_quiet_step (fail) | quiet_step (fail))
                    refine wpQuiet_nil ?_
                    intro w2 hw'
                    have hb := below_of_regrown hw'
                    clear hw'
                    have HO2 : Hid (BR w.heap.size (.slice aoC PC.length capC) PC w2) := HO.out.below hb
                    have HB2 : Hid (Below w.heap.size w w2) := below_trans' HB.out hb
                    clear hb
                    go_wp2
                    go_roundg (a.length - (m + 1))
                    case measure => omega
                    case rel => exact ⟨m + 1, some (m, q), by omega, Nat.le_refl _, by go_num, rfl, HS.out, HO2.out, HB2.out⟩
                  · simp only [g1, decide_false] at e2
                    have HS : Hid (BestInv a last (m + 1) (some (jj, p))) := best_skip HBI.out HQ.out (.inr ⟨jj, p, rfl, g3⟩)
                    clear h1 h3 g1 g3
                    go_wp2
                    refine wp_region_quiet_below (by kernel_rfl) (by kernel_rfl) ?_
                    repeat (first | go_big_quiet_step (fail) | quiet_step (fail))
                    refine wpQuiet_nil ?_
                    intro w2 hw'
                    have hb := below_of_regrown hw'
                    clear hw'
                    have HO2 : Hid (BR w.heap.size (.slice aoC PC.length capC) PC w2) := HO.out.below hb
                    have HB2 : Hid (Below w.heap.size w w2) := below_trans' HB.out hb
                    clear hb
                    go_wp2
                    go_roundg (a.length - (m + 1))
                    case measure => omega
                    case rel => exact ⟨m + 1, some (jj, p), by omega, Nat.le_refl _, by go_num, rfl, HS.out, HO2.out, HB2.out⟩
            · obtain rfl : m = a.length := by omega
              cases o with
              | none =>
                have HF : Hid (SamePr (keep a) C ∧ Upto C C.length) := cnt_none HI.out HBI.out
                unfold bestVal
                have hCM : C = M := settles_unique HF.out HSEM.out.1
                have bt : Bt M := HSEM.out.1.bt HSEM.out.2.1.lo HSEM.out.2.1.hi HSEM.out.2.1.ok
                have hM1 := bt.lo
                have hM4 := bt.hi
                have hCl : C.length = M.length := by rw [hCM]
                have HBODY : Hid ([UInt8.ofNat C.length] ++ PC = bodyB M) := by show _ = _; rw [hCl, ← HPCC.out, hCM]; rfl
                have HBL : Hid ((bodyB M).length ≤ 1000000) := by show _ ≤ _; have := bodyB_len bt; omega
                have hPC1 : 0 < PC.length := by
                  have h1 := bodyB_len bt
                  rw [← HBODY.out, List.length_append, List.length_singleton] at h1
                  omega
                obtain ⟨gC, cC, hvC, _, hgC⟩ := World.ownsRow.form HO.out hPC1
                simp only [Value.slice.injEq] at hvC
                obtain ⟨rfl, _, rfl⟩ := hvC
                have hcv1 := conv_one wr (UInt8.ofNat C.length) (C.length : Int) (by rw [byte_of (by omega)])
                have hcv2 : (convert 71 9 (.slice (some ⟨gC, 0, none⟩) PC.length capC)).run Tryz.prog (wr.alloc (.cells #[.int .u8 (C.length : Int)] 5)) = .ok (.string (bs PC)) (wr.alloc (.cells #[.int .u8 (C.length : Int)] 5)) :=
                  run_convert_bytes_back (P := Tryz.prog) _ 71 9 5 ⟨gC, 0, none⟩ capC PC Tryz.underlying71 Tryz.underlying5 Tryz.underlying9 (fun j hj => World.ownsRow.cells (World.ownsRow.alloc (w := wr) HO.out _) (g := gC) rfl j _ (by simp [bcells, hj]))
                have HOUT : Hid ((B.take i).flatMap recB ++ bodyB M ++ num4 (ceil (bodyB M)) = (B.take (i + 1)).flatMap recB) := by
                  show _ = _
                  rw [List.take_add_one, HSEM.out.2.2]
                  simp [recB]
                have hC4 : C.length ≤ 4 := by omega
                have hsz := HB.out.size
                have hPl : PC.length ≤ 200 := by
                  have h1 := bodyB_len bt
                  rw [← HBODY.out, List.length_append, List.length_singleton] at h1
                  omega
                have hXl : ((B.take i).flatMap recB).length ≤ 10000 := by
                  have hall : ∀ b ∈ B.take i, 8 ≤ (recB b).length ∧ (recB b).length ≤ 73 := fun b hb => by
                    obtain ⟨j, hj⟩ := List.getElem?_of_mem (List.mem_of_mem_take hb)
                    have hjl := (List.getElem?_eq_some_iff.1 hj).1
                    have hb2 := HOK.out _ (List.getElem_mem (show j < A.length by omega))
                    exact recB_len ((HSE.out j _ b (List.getElem?_eq_getElem (by omega)) hj).bt hb2.lo hb2.hi hb2.ok)
                  have h1 := flat_bounds recB 8 73 (B.take i) hall
                  have h2 : (B.take i).length ≤ 100 := by rw [List.length_take]; omega
                  omega
                obtain ⟨S1, hS1⟩ : ∃ S, bs [UInt8.ofNat C.length] = S := ⟨_, rfl⟩
                obtain ⟨S2, hS2⟩ : ∃ S, bs PC = S := ⟨_, rfl⟩
                obtain ⟨SX, hSX⟩ : ∃ S, bs ((B.take i).flatMap recB) = S := ⟨_, rfl⟩
                have z1 : S1.size = 1 := by rw [← hS1]; exact bs_size _
                have z2 : S2.size = PC.length := by rw [← hS2]; exact bs_size _
                have z3 : SX.size ≤ 10000 := by rw [← hSX, bs_size]; exact hXl
                have HSS : Hid (S1 ++ S2 = bs (bodyB M)) := by show _ = _; rw [← hS1, ← hS2, bs_append, HBODY.out]
                have HSX : Hid (bs ((B.take i).flatMap recB) = SX) := hSX
                rw [hS1] at hcv1
                rw [hS2] at hcv2
                rw [hSX]
                clear hCM hCl bt hM1 hM4 hS1 hS2 hSX hXl
                go_wp2_with fail
                rw [HSS.out]
                refine Calls.mono (ceilT_any (bodyB M) _ HBL.out) ?_
                rintro e w5 ⟨rfl, rfl⟩
                obtain ⟨W1, hW1⟩ : ∃ W1, wr.alloc (.cells #[.int .u8 (C.length : Int)] 5) = W1 := ⟨_, rfl⟩
                have HBW : Hid (Below w.heap.size w W1) := by show Below _ _ _; rw [← hW1]; exact HB.out.alloc hsz _
                rw [hW1]
                clear hW1 hcv1 hcv2 hgC HO HB
                obtain ⟨c, hc⟩ : ∃ c, ceil (bodyB M) = c := ⟨_, rfl⟩
                rw [hc] at HOUT ⊢
                clear hc
                obtain ⟨SB, hSB⟩ : ∃ S, bs (bodyB M) = S := ⟨_, rfl⟩
                have z4 : SB.size ≤ 1000000 := by rw [← hSB, bs_size]; exact HBL.out
                have HSB : Hid (bs (bodyB M) = SB) := hSB
                rw [hSB]
                obtain ⟨S4, hS4⟩ : ∃ S, bs (num4 c) = S := ⟨_, rfl⟩
                have z5 : S4.size = 4 := by rw [← hS4]; exact bs_size _
                have HFS : Hid (SX ++ SB ++ S4 = bs ((B.take (i + 1)).flatMap recB)) := by show _ = _; rw [← HSX.out, ← HSB.out, ← hS4, bs_append, bs_append, HOUT.out]
                clear HBODY HBL hSB HSS
                have h0 : (0 : Int) ≤ c.toNat := by omega
                have h1 : (c.toNat : Int) ≤ 4294967295 := by have := c.isLt; omega
                obtain ⟨x, hx⟩ : ∃ x : Int, (c.toNat : Int) = x := ⟨_, rfl⟩
                have hcv4 := conv_four W1 (num4 c) (x % 256) (x / 256 % 256) (x / 65536 % 256) (x / 16777216) (by
                  have hlt := c.isLt
                  have e0 : (x % 256) = ((UInt8.ofNat c.toNat).toNat : Int) := by rw [UInt8.toNat_ofNat']; omega
                  have e1 : (x / 256 % 256) = ((UInt8.ofNat (c.toNat / 256)).toNat : Int) := by rw [UInt8.toNat_ofNat']; omega
                  have e2 : (x / 65536 % 256) = ((UInt8.ofNat (c.toNat / 65536)).toNat : Int) := by rw [UInt8.toNat_ofNat']; omega
                  have e3 : (x / 16777216) = ((UInt8.ofNat (c.toNat / 16777216)).toNat : Int) := by rw [UInt8.toNat_ofNat']; omega
                  simp only [num4, bcells, List.map_cons, List.map_nil]
                  rw [e0, e1, e2, e3])
                rw [hx] at h0 h1 ⊢
                rw [hS4] at hcv4
                clear hx hS4
                go_wp2
                go_roundg (A.length - (i + 1))
                case measure => omega
                case rel => exact ⟨i + 1, hlt, Nat.le_refl _, by go_num, by rw [HFS.out], HBW.out.alloc HBW.out.size _⟩
              | some jp =>
                obtain ⟨jj, p⟩ := jp
                have hjl : jj < a.length := HBI.out.1
                obtain ⟨c0, c1, c2⟩ := HPC.out jj p HBI.out.2.1
                have okp := HSEM.out.2.1.ok p (List.mem_of_getElem? HBI.out.2.1)
                have hks := okp.hi
                have hvs := okp.val
                have c0 := cell_later HB.out c0
                have c1 := cell_later HB.out c1
                have c2 := cell_later HB.out c2
                have hgl : g < wr.heap.size := block_lt_of_cell c0
                have HI2 : Hid (CntInv a (C ++ [p]) p.k) := cnt_step HI.out HBI.out
                have hsz := HB.out.size
                have hPl : PC.length ≤ 200 := by
                  rw [← HPCC.out]
                  have := flat_bounds prB 3 17 C fun q hq => prB_len (HSEM.out.2.1.ok q (lastP_key (HI.out.mem q hq)).2)
                  omega
                clear okp HBI
                unfold bestVal
                obtain ⟨pk, pv, pg⟩ := p
                simp only at c0 c1 c2 hks hvs HI2
                cases pg with
                | true =>
                  go_wp2_with (at_builtin; refine wpList_append_own _ rfl (.tmp 87) (.tmp 92) 71 rfl w.heap.size 5 i0 _ 1 1 Tryz.underlying71 hi hz0 hz1 hz2 rfl (by decide) (.slice aoC PC.length capC) PC.length (bcells PC) rfl (by exact (HO.out.alloc _).alloc _) ⟨wr.heap.size + 1, 0, none⟩ 2 2 [.int .u8 1, .int .u8 (pk.size : Int)] rfl rfl (by intro j u hj; match j, hj with | 0, hj => (simp at hj; subst hj; simp [Addr.add]) | 1, hj => (simp at hj; subst hj; simp [Addr.add]) | j + 2, hj => (simp at hj)) (by intro u hu; simp at hu; rcases hu with rfl | rfl <;> rfl) (by unfold maxLen; omega) (by omega) (by simp; omega) ?_)
                  intro v1 w1 ho1 hg1 _
                  have B1 : Hid (Kp w.heap.size [5] (wr.alloc (.cells #[.string pk, .string pv, .bool true] 48)) w1) := Kp.grown ((Kp.refl _ _ _).alloc _) ((HO.out.alloc _).alloc _) hg1 (Nat.le_refl _) (by simp)
                  have k0 : w1.cell? ⟨wr.heap.size, 0, none⟩ = some (.string pk) := by simp [World.cell?, B1.out.keep (heap_alloc_new wr _) (by simp)]
                  have hwl : wr.heap.size < w1.heap.size := lt_of_block (B1.out.keep (heap_alloc_new wr _) (by simp))
                  have hsz1 : w.heap.size ≤ w1.heap.size := by omega
                  have HO1 : Hid _ := ho1
                  obtain ⟨ao1, cap1, rfl⟩ := slice_form ho1
                  clear ho1 hg1
                  go_wp2_with (at_builtin; refine Lib.wpList_append_own_string _ rfl (.tmp 94) (.tmp 96) 71 9 rfl w.heap.size 5 i0 Tryz.underlying71 Tryz.underlying9 hi hz0 hz1 hz2 _ _ _ rfl HO1.out pk rfl (by unfold maxLen; omega) (by omega) hsz1 ?_)
                  intro v2 w2 ho2 hg2 _
                  have FIN : Hid (BR w.heap.size v2 ((C ++ [(⟨pk, pv, true⟩ : Pr)]).flatMap prB) w2 ∧ Below w.heap.size w w2) := by
                    have k2 : Kp w.heap.size [5] wr w2 := ((Kp.refl _ _ _).alloc _).trans (B1.out.grown HO1.out hg2 (Nat.le_refl _) (by simp))
                    refine ⟨BR.of ho2 ?_ ?_, HB.out.trans (k2.belowB hsz)⟩
                    · rw [List.flatMap_append, HPCC.out]
                      simp [prB, txB_len]
                      omega
                    · rw [List.flatMap_append, HPCC.out, bcells_append, strCells_b]
                      simp only [List.flatMap_cons, List.flatMap_nil, List.append_nil, prB, if_true, txB, bcells, List.map_cons]
                      rw [byte_of (by omega)]
                      rfl
                  obtain ⟨ao2, cap2, rfl⟩ := slice_form ho2
                  clear ho2 hg2 HO1 B1 HO HB
                  go_wp2
                  go_roundg (a.length - (C.length + 1))
                  case measure => omega
                  case rel => exact ⟨C ++ [(⟨pk, pv, true⟩ : Pr)], pk, by simp; omega, by simp, by simp only [List.length_append, List.length_singleton]; go_num, by simp only [List.length_append, List.length_singleton]; go_num, rfl, HI2.out, FIN.out.1, FIN.out.2⟩
                | false =>
                  go_wp2_with (at_builtin; refine wpList_append_own _ rfl (.tmp 98) (.tmp 103) 71 rfl w.heap.size 5 i0 _ 1 1 Tryz.underlying71 hi hz0 hz1 hz2 rfl (by decide) (.slice aoC PC.length capC) PC.length (bcells PC) rfl (by exact (HO.out.alloc _).alloc _) ⟨wr.heap.size + 1, 0, none⟩ 2 2 [.int .u8 0, .int .u8 (pk.size : Int)] rfl rfl (by intro j u hj; match j, hj with | 0, hj => (simp at hj; subst hj; simp [Addr.add]) | 1, hj => (simp at hj; subst hj; simp [Addr.add]) | j + 2, hj => (simp at hj)) (by intro u hu; simp at hu; rcases hu with rfl | rfl <;> rfl) (by unfold maxLen; omega) (by omega) (by simp; omega) ?_)
                  intro v1 w1 ho1 hg1 _
                  have B1 : Hid (Kp w.heap.size [5] (wr.alloc (.cells #[.string pk, .string pv, .bool false] 48)) w1) := Kp.grown ((Kp.refl _ _ _).alloc _) ((HO.out.alloc _).alloc _) hg1 (Nat.le_refl _) (by simp)
                  have k0 : w1.cell? ⟨wr.heap.size, 0, none⟩ = some (.string pk) := by simp [World.cell?, B1.out.keep (heap_alloc_new wr _) (by simp)]
                  have hwl : wr.heap.size < w1.heap.size := lt_of_block (B1.out.keep (heap_alloc_new wr _) (by simp))
                  have hsz1 : w.heap.size ≤ w1.heap.size := by omega
                  have HO1 : Hid _ := ho1
                  obtain ⟨ao1, cap1, rfl⟩ := slice_form ho1
                  clear ho1 hg1
                  go_wp2_with (at_builtin; refine Lib.wpList_append_own_string _ rfl (.tmp 105) (.tmp 107) 71 9 rfl w.heap.size 5 i0 Tryz.underlying71 Tryz.underlying9 hi hz0 hz1 hz2 _ _ _ rfl HO1.out pk rfl (by unfold maxLen; omega) (by omega) hsz1 ?_)
                  intro v2 w2 ho2 hg2 _
                  have B2 : Hid (Kp w.heap.size [5] (wr.alloc (.cells #[.string pk, .string pv, .bool false] 48)) w2) := B1.out.grown HO1.out hg2 (Nat.le_refl _) (by simp)
                  have k1 : w2.cell? ⟨wr.heap.size, 1, none⟩ = some (.string pv) := by simp [World.cell?, B2.out.keep (heap_alloc_new wr _) (by simp)]
                  have hwl2 : wr.heap.size < w2.heap.size := lt_of_block (B2.out.keep (heap_alloc_new wr _) (by simp))
                  have hsz2 : w.heap.size ≤ w2.heap.size := by omega
                  have HO2 : Hid _ := ho2
                  obtain ⟨ao2, cap2, rfl⟩ := slice_form ho2
                  clear ho2 hg2 HO1 B1 k0
                  go_wp2_with (at_builtin; refine wpList_append_own _ rfl (.tmp 109) (.tmp 114) 71 rfl w.heap.size 5 i0 _ 1 1 Tryz.underlying71 hi hz0 hz1 hz2 rfl (by decide) _ _ _ rfl (by exact World.ownsRow.alloc (w := w2) HO2.out _) ⟨w2.heap.size, 0, none⟩ 1 1 [.int .u8 (pv.size : Int)] rfl rfl (by intro j u hj; match j, hj with | 0, hj => (simp at hj; subst hj; simp [Addr.add]) | j + 1, hj => (simp at hj)) (by intro u hu; simp at hu; subst hu; rfl) (by unfold maxLen; omega) (by omega) (by simp; omega) ?_)
                  intro v3 w3 ho3 hg3 _
                  have B3 : Hid (Kp w.heap.size [5] (wr.alloc (.cells #[.string pk, .string pv, .bool false] 48)) w3) := (B2.out.alloc _).grown (World.ownsRow.alloc (w := w2) HO2.out _) hg3 (Nat.le_refl _) (by simp)
                  have k1' : w3.cell? ⟨wr.heap.size, 1, none⟩ = some (.string pv) := by simp [World.cell?, B3.out.keep (heap_alloc_new wr _) (by simp)]
                  have hwl3 : wr.heap.size < w3.heap.size := lt_of_block (B3.out.keep (heap_alloc_new wr _) (by simp))
                  have hsz3 : w.heap.size ≤ w3.heap.size := by omega
                  have HO3 : Hid _ := ho3
                  obtain ⟨ao3, cap3, rfl⟩ := slice_form ho3
                  clear ho3 hg3 HO2 B2 k1
                  go_wp2_with (at_builtin; refine Lib.wpList_append_own_string _ rfl (.tmp 116) (.tmp 118) 71 9 rfl w.heap.size 5 i0 Tryz.underlying71 Tryz.underlying9 hi hz0 hz1 hz2 _ _ _ rfl HO3.out pv rfl (by unfold maxLen; omega) (by omega) hsz3 ?_)
                  intro v4 w4 ho4 hg4 _
                  have FIN : Hid (BR w.heap.size v4 ((C ++ [(⟨pk, pv, false⟩ : Pr)]).flatMap prB) w4 ∧ Below w.heap.size w w4) := by
                    have k4 : Kp w.heap.size [5] wr w4 := ((Kp.refl _ _ _).alloc _).trans (B3.out.grown HO3.out hg4 (Nat.le_refl _) (by simp))
                    refine ⟨BR.of ho4 ?_ ?_, HB.out.trans (k4.belowB hsz)⟩
                    · rw [List.flatMap_append, HPCC.out]
                      simp [prB, txB_len]
                      omega
                    · rw [List.flatMap_append, HPCC.out, bcells_append, strCells_b, strCells_b]
                      simp only [List.flatMap_cons, List.flatMap_nil, List.append_nil, prB, Bool.false_eq_true, if_false, txB, bcells, List.map_cons, List.map_append, List.cons_append]
                      rw [byte_of (by omega), byte_of (by omega)]
                      rfl
                  obtain ⟨ao4, cap4, rfl⟩ := slice_form ho4
                  clear ho4 hg4 HO3 B3 HO HB
                  go_wp2
                  go_roundg (a.length - (C.length + 1))
                  case measure => omega
                  case rel => exact ⟨C ++ [(⟨pk, pv, false⟩ : Pr)], pk, by simp; omega, by simp, by simp only [List.length_append, List.length_singleton]; go_num, by simp only [List.length_append, List.length_singleton]; go_num, rfl, HI2.out, FIN.out.1, FIN.out.2⟩
        · have HF : Hid (SamePr (keep a) C ∧ Upto C C.length) := cnt_full HI.out (by omega)
          have hCM : C = M := settles_unique HF.out HSEM.out.1
          have bt : Bt M := HSEM.out.1.bt HSEM.out.2.1.lo HSEM.out.2.1.hi HSEM.out.2.1.ok
          have hM1 := bt.lo
          have hM4 := bt.hi
          have hCl : C.length = M.length := by rw [hCM]
          have HBODY : Hid ([UInt8.ofNat C.length] ++ PC = bodyB M) := by show _ = _; rw [hCl, ← HPCC.out, hCM]; rfl
          have HBL : Hid ((bodyB M).length ≤ 1000000) := by show _ ≤ _; have := bodyB_len bt; omega
          have hPC1 : 0 < PC.length := by
            have h1 := bodyB_len bt
            rw [← HBODY.out, List.length_append, List.length_singleton] at h1
            omega
          obtain ⟨gC, cC, hvC, _, hgC⟩ := World.ownsRow.form HO.out hPC1
          simp only [Value.slice.injEq] at hvC
          obtain ⟨rfl, _, rfl⟩ := hvC
          have hcv1 := conv_one wr (UInt8.ofNat C.length) (C.length : Int) (by rw [byte_of (by omega)])
          have hcv2 : (convert 71 9 (.slice (some ⟨gC, 0, none⟩) PC.length capC)).run Tryz.prog (wr.alloc (.cells #[.int .u8 (C.length : Int)] 5)) = .ok (.string (bs PC)) (wr.alloc (.cells #[.int .u8 (C.length : Int)] 5)) :=
            run_convert_bytes_back (P := Tryz.prog) _ 71 9 5 ⟨gC, 0, none⟩ capC PC Tryz.underlying71 Tryz.underlying5 Tryz.underlying9 (fun j hj => World.ownsRow.cells (World.ownsRow.alloc (w := wr) HO.out _) (g := gC) rfl j _ (by simp [bcells, hj]))
          have HOUT : Hid ((B.take i).flatMap recB ++ bodyB M ++ num4 (ceil (bodyB M)) = (B.take (i + 1)).flatMap recB) := by
            show _ = _
            rw [List.take_add_one, HSEM.out.2.2]
            simp [recB]
          have hC4 : C.length ≤ 4 := by omega
          have hsz := HB.out.size
          have hPl : PC.length ≤ 200 := by
            have h1 := bodyB_len bt
            rw [← HBODY.out, List.length_append, List.length_singleton] at h1
            omega
          have hXl : ((B.take i).flatMap recB).length ≤ 10000 := by
            have hall : ∀ b ∈ B.take i, 8 ≤ (recB b).length ∧ (recB b).length ≤ 73 := fun b hb => by
              obtain ⟨j, hj⟩ := List.getElem?_of_mem (List.mem_of_mem_take hb)
              have hjl := (List.getElem?_eq_some_iff.1 hj).1
              have hb2 := HOK.out _ (List.getElem_mem (show j < A.length by omega))
              exact recB_len ((HSE.out j _ b (List.getElem?_eq_getElem (by omega)) hj).bt hb2.lo hb2.hi hb2.ok)
            have h1 := flat_bounds recB 8 73 (B.take i) hall
            have h2 : (B.take i).length ≤ 100 := by rw [List.length_take]; omega
            omega
          obtain ⟨S1, hS1⟩ : ∃ S, bs [UInt8.ofNat C.length] = S := ⟨_, rfl⟩
          obtain ⟨S2, hS2⟩ : ∃ S, bs PC = S := ⟨_, rfl⟩
          obtain ⟨SX, hSX⟩ : ∃ S, bs ((B.take i).flatMap recB) = S := ⟨_, rfl⟩
          have z1 : S1.size = 1 := by rw [← hS1]; exact bs_size _
          have z2 : S2.size = PC.length := by rw [← hS2]; exact bs_size _
          have z3 : SX.size ≤ 10000 := by rw [← hSX, bs_size]; exact hXl
          have HSS : Hid (S1 ++ S2 = bs (bodyB M)) := by show _ = _; rw [← hS1, ← hS2, bs_append, HBODY.out]
          have HSX : Hid (bs ((B.take i).flatMap recB) = SX) := hSX
          rw [hS1] at hcv1
          rw [hS2] at hcv2
          rw [hSX]
          clear hCM hCl bt hM1 hM4 hS1 hS2 hSX hXl
          go_wp2_with fail
          rw [HSS.out]
          refine Calls.mono (ceilT_any (bodyB M) _ HBL.out) ?_
          rintro e w5 ⟨rfl, rfl⟩
          obtain ⟨W1, hW1⟩ : ∃ W1, wr.alloc (.cells #[.int .u8 (C.length : Int)] 5) = W1 := ⟨_, rfl⟩
          have HBW : Hid (Below w.heap.size w W1) := by show Below _ _ _; rw [← hW1]; exact HB.out.alloc hsz _
          rw [hW1]
          clear hW1 hcv1 hcv2 hgC HO HB
          obtain ⟨c, hc⟩ : ∃ c, ceil (bodyB M) = c := ⟨_, rfl⟩
          rw [hc] at HOUT ⊢
          clear hc
          obtain ⟨SB, hSB⟩ : ∃ S, bs (bodyB M) = S := ⟨_, rfl⟩
          have z4 : SB.size ≤ 1000000 := by rw [← hSB, bs_size]; exact HBL.out
          have HSB : Hid (bs (bodyB M) = SB) := hSB
          rw [hSB]
          obtain ⟨S4, hS4⟩ : ∃ S, bs (num4 c) = S := ⟨_, rfl⟩
          have z5 : S4.size = 4 := by rw [← hS4]; exact bs_size _
          have HFS : Hid (SX ++ SB ++ S4 = bs ((B.take (i + 1)).flatMap recB)) := by show _ = _; rw [← HSX.out, ← HSB.out, ← hS4, bs_append, bs_append, HOUT.out]
          clear HBODY HBL hSB HSS
          have h0 : (0 : Int) ≤ c.toNat := by omega
          have h1 : (c.toNat : Int) ≤ 4294967295 := by have := c.isLt; omega
          obtain ⟨x, hx⟩ : ∃ x : Int, (c.toNat : Int) = x := ⟨_, rfl⟩
          have hcv4 := conv_four W1 (num4 c) (x % 256) (x / 256 % 256) (x / 65536 % 256) (x / 16777216) (by
            have hlt := c.isLt
            have e0 : (x % 256) = ((UInt8.ofNat c.toNat).toNat : Int) := by rw [UInt8.toNat_ofNat']; omega
            have e1 : (x / 256 % 256) = ((UInt8.ofNat (c.toNat / 256)).toNat : Int) := by rw [UInt8.toNat_ofNat']; omega
            have e2 : (x / 65536 % 256) = ((UInt8.ofNat (c.toNat / 65536)).toNat : Int) := by rw [UInt8.toNat_ofNat']; omega
            have e3 : (x / 16777216) = ((UInt8.ofNat (c.toNat / 16777216)).toNat : Int) := by rw [UInt8.toNat_ofNat']; omega
            simp only [num4, bcells, List.map_cons, List.map_nil]
            rw [e0, e1, e2, e3])
          rw [hx] at h0 h1 ⊢
          rw [hS4] at hcv4
          clear hx hS4
          go_wp2
          go_roundg (A.length - (i + 1))
          case measure => omega
          case rel => exact ⟨i + 1, hlt, Nat.le_refl _, by go_num, by rw [HFS.out], HBW.out.alloc HBW.out.size _⟩
    · obtain rfl : i = A.length := by omega
      have HT : Hid (B.take A.length = B) := by show _ = _; rw [← hS, List.take_length]
      rw [HT.out]
      go_wp2
      go_ret
      exact ⟨rfl, HB.out⟩
end Go.Proofs.YtakipjofboipmaaGreat

/- Plain mathematics of this proof: a journal that was cut short, or one byte of which was turned. -/
namespace Go.Proofs.YtakipjofboipmaaGreat
open Go.Sort

theorem reads_nil {r : List UInt8} {Bs : List (List Pr)} (h : Reads r Bs) (hn : NoRec r) : Bs = [] := by
  cases Bs with
  | nil => rfl
  | cons c Bs =>
    have h1 := h.pre
    rw [List.flatMap_cons] at h1
    exact absurd ((List.prefix_append _ _).trans h1) (hn c (h.all c List.mem_cons_self))

theorem reads_cons {b : List Pr} (bt : Bt b) {r : List UInt8} {Bs : List (List Pr)} (h : Reads (recB b ++ r) Bs) : ∃ Cs, Bs = b :: Cs ∧ Reads r Cs := by
  cases Bs with
  | nil =>
    have h1 := h.non
    simp only [List.flatMap_nil, List.length_nil, List.drop_zero] at h1
    exact absurd (List.prefix_append _ _) (h1 b bt)
  | cons c Cs =>
    have hc := h.all c List.mem_cons_self
    have h1 := h.pre
    rw [List.flatMap_cons] at h1
    have h2 := takeP_pre hc ((List.prefix_append _ _).trans h1)
    rw [takeP_rec bt] at h2
    subst h2
    refine ⟨Cs, rfl, fun x hx => h.all x (List.mem_cons_of_mem _ hx), (List.prefix_append_right_inj _).1 h1, ?_⟩
    have h3 := h.non
    rw [List.flatMap_cons, List.length_append, ← List.drop_drop, List.drop_left] at h3
    exact h3

theorem reads_app {As : List (List Pr)} (hA : ∀ b ∈ As, Bt b) {r : List UInt8} {Bs : List (List Pr)} (h : Reads (As.flatMap recB ++ r) Bs) : ∃ Cs, Bs = As ++ Cs ∧ Reads r Cs := by
  induction As generalizing Bs with
  | nil => exact ⟨Bs, rfl, h⟩
  | cons a As ih =>
    rw [List.flatMap_cons, List.append_assoc] at h
    obtain ⟨Cs, rfl, h2⟩ := reads_cons (hA a List.mem_cons_self) h
    obtain ⟨Ds, rfl, h3⟩ := ih (fun b hb => hA b (List.mem_cons_of_mem _ hb)) h2
    exact ⟨Ds, rfl, h3⟩

theorem reads_mk {As Bs : List (List Pr)} (hA : ∀ b ∈ As, Bt b) {r : List UInt8} (h : Reads r Bs) : Reads (As.flatMap recB ++ r) (As ++ Bs) := by
  refine ⟨fun b hb => (List.mem_append.1 hb).elim (hA b) (h.all b), ?_, ?_⟩
  · rw [List.flatMap_append, List.prefix_append_right_inj]
    exact h.pre
  · rw [List.flatMap_append, List.length_append, ← List.drop_drop, List.drop_left]
    exact h.non

/-- Which record a byte belongs to. -/
structure AtRec (B : List (List Pr)) (i c : Nat) (M : List Pr) : Prop where
  here : B[c]? = some M
  lo : rl (B.take c) ≤ i
  hi : i < rl (B.take c) + (recB M).length

theorem rl_next {B : List (List Pr)} {c : Nat} {M : List Pr} (h : B[c]? = some M) : rl (B.take (c + 1)) = rl (B.take c) + (recB M).length := by
  rw [List.take_add_one, h]
  simp [rl]

theorem AtRec.split {B : List (List Pr)} {i c : Nat} {M : List Pr} (h : AtRec B i c M) : B.flatMap recB = (B.take c).flatMap recB ++ (recB M ++ (B.drop (c + 1)).flatMap recB) := by
  obtain ⟨h1, h2⟩ := List.getElem?_eq_some_iff.1 h.here
  conv => lhs; rw [← List.take_append_drop c B, List.drop_eq_getElem_cons h1, h2]
  simp

/-- Cut short, it is read up to that batch. -/
theorem reads_cut {B : List (List Pr)} (hB : ∀ b ∈ B, Bt b) {i c : Nat} {M : List Pr} (h : AtRec B i c M) {Bs : List (List Pr)} (hr : Reads ((B.flatMap recB).take i) Bs) : Bs = B.take c := by
  have hc := (List.getElem?_eq_some_iff.1 h.here).1
  have hle : rl (B.take (c + 1)) ≤ rl B := rl_take_le _ _
  rw [rl_next h.here] at hle
  obtain ⟨j, hj, h1, h2, h3⟩ := reads_take hB i (by have := h.hi; omega)
  obtain rfl := hr.unique h3
  have h4 := h2 c (by omega) h.lo
  have h5 : j ≤ c := by
    refine Nat.le_of_not_lt fun hlt => ?_
    have h6 : rl (B.take (c + 1)) ≤ rl (B.take j) := by
      rcases Nat.eq_or_lt_of_le hlt with e | e
      · rw [← e]; exact Nat.le_refl _
      · exact Nat.le_of_lt (rl_lt hB e hj)
    rw [rl_next h.here] at h6
    have := h.hi
    omega
  rw [show j = c by omega]

/-- One byte turned: it is read up to that batch at least. -/
theorem reads_turned {B : List (List Pr)} (hB : ∀ b ∈ B, Bt b) {i c : Nat} {M : List Pr} (h : AtRec B i c M) (b : UInt8) {Bs : List (List Pr)} (hr : Reads ((B.flatMap recB).set i b) Bs) :
    ∃ Cs, Bs = B.take c ++ Cs ∧ Reads ((recB M ++ (B.drop (c + 1)).flatMap recB).set (i - rl (B.take c)) b) Cs := by
  have hlo := h.lo
  have e : (B.flatMap recB).set i b = (B.take c).flatMap recB ++ (recB M ++ (B.drop (c + 1)).flatMap recB).set (i - rl (B.take c)) b := by
    rw [h.split, List.set_append_right _ _ (by exact hlo)]
    rfl
  rw [e] at hr
  exact reads_app (fun b hb => hB b (List.mem_of_mem_take hb)) hr

/-- A byte of a key, a value or the ceiling turned: no further. -/
theorem reads_plain {B : List (List Pr)} (hB : ∀ b ∈ B, Bt b) {i c : Nat} {M : List Pr} (h : AtRec B i c M) (hp : PlainIn M (i - rl (B.take c))) {b : UInt8} (hne : (B.flatMap recB)[i]? ≠ some b) {Bs : List (List Pr)} (hr : Reads ((B.flatMap recB).set i b) Bs) : Bs = B.take c := by
  obtain ⟨Cs, rfl, h2⟩ := reads_turned hB h b hr
  have hlo := h.lo
  have hhi := h.hi
  have hne' : (recB M)[i - rl (B.take c)]? ≠ some b := fun e => hne (by
    rw [h.split, List.getElem?_append_right (by exact hlo)]
    have e1 : ((B.take c).flatMap recB).length = rl (B.take c) := rfl
    rw [e1, List.getElem?_append_left (by omega)]
    exact e)
  rw [reads_nil h2 (norec_turned (hB M (List.mem_of_getElem? h.here)) (by omega) hp hne' _), List.append_nil]
end Go.Proofs.YtakipjofboipmaaGreat
