/- The walks of this proof: do all lists that came out hold what their owner wrote? -/
import Derived.Test.YtojdkfamihlnkaaGreatDoorL5
namespace Go.Proofs.YtojdkfamihlnkaaGreatDoor
open Go.RowKit Go.Sort

/-- The cells of a row whose elements take one cell. -/
theorem row_one {w : World} {base : Nat} {e : TypeId} {v : Value} {n : Nat} {xs : List Value} (h : w.ownsRow base e 1 v n xs) {i : Nat} {u : Value} (hu : xs[i]? = some u) : ∃ g cap, v = .slice (some ⟨g, 0, none⟩) n cap ∧ g < w.heap.size ∧ w.cell? ⟨g, i, none⟩ = some u := by
  have hi : i < xs.length := (List.getElem?_eq_some_iff.1 hu).1
  have hx := h.1
  rcases h.2 with ⟨_, h0⟩ | ⟨g, cap, cur, rfl, hb, hg, hnc, _⟩
  · omega
  · exact ⟨g, cap, rfl, lt_of_block hg, by rw [h.cellAt i (by omega)]; exact hu⟩

set_option maxHeartbeats 4000000 in
set_option maxRecDepth 100000 in
theorem kept_any (D : Nat → Prop) (wb : Nat) (vss vrs : Value) (P : List (Int × Nat)) (n : Int) (w : World) (hb : BkAt D wb vss vrs P n w) (hT : ∀ w', Below w.heap.size w w' → Tab w') (hP : P.length < 1000000000) (hl : ∀ p ∈ P, -9223372036854775808 ≤ p.1 ∧ p.1 ≤ 9223372036854775807 ∧ p.2 < 1000000000) :
    Calls Tryz.prog 7 #[.pointer (some ⟨wb, 2, none⟩)] w fun e w' => e = .returned (.bool true) ∧ Below w.heap.size w w' := by
  obtain ⟨vps, vpm, Vs, hB, hs, hps, hpm, hls⟩ := hb
  obtain ⟨aoP, capP, rfl⟩ := slice_form hps.own
  obtain ⟨aoM, capM, rfl⟩ := slice_form hpm.own
  have c2 : w.cell? ⟨wb, 2, none⟩ = some (.slice aoP P.length capP) := by simp [World.cell?, hs, bookCells]
  have c6 : w.cell? ⟨wb, 6, none⟩ = some (.slice aoM P.length capM) := by simp [World.cell?, hs, bookCells]
  have c3 : w.cell? ⟨wb, 3, none⟩ = some (.slice none 0 0) := by simp [World.cell?, hs, bookCells]
  have c4 : w.cell? ⟨wb, 4, none⟩ = some (.slice none 0 0) := by simp [World.cell?, hs, bookCells]
  have c5 : w.cell? ⟨wb, 5, none⟩ = some (.slice none 0 0) := by simp [World.cell?, hs, bookCells]
  have H : Hid (OwnsIn w D 38 1 (.slice aoP P.length capP) P.length Vs ∧ OwnsIn w D 3 1 (.slice aoM P.length capM) P.length (P.map fun p => .int .i64 p.1) ∧ ListsAt w P Vs) := ⟨hps, hpm, hls⟩
  have HL : Hid _ := hl
  have HT : Hid _ := hT
  clear hs hps hpm hls hl hT
  go_enter Tryz.func7, Tryz.ntmps7
  go_wp2
  go_loopg [3, 4, 5] P.length (fun kx s3 s4 s5 wr => ∃ i : Nat, i ≤ P.length ∧ P.length - i ≤ kx ∧ s3 = .int .i64 i ∧ Hid (Below w.heap.size w wr))
  case atStart => exact ⟨0, Nat.zero_le _, Nat.le_refl _, rfl, Below.refl _ _⟩
  case round =>
    obtain ⟨i, hi, hik, rfl, HB⟩ := hrel
    have c2r := cell_later HB.out c2
    have c6r := cell_later HB.out c6
    by_cases hlt : i < P.length
    · obtain ⟨⟨m, len⟩, hpi⟩ : ∃ p, P[i]? = some p := ⟨_, List.getElem?_eq_getElem hlt⟩
      obtain ⟨hm0, hm1, hlen⟩ := HL.out _ (List.mem_of_getElem? hpi)
      simp only at hm0 hm1 hlen
      obtain ⟨vi, hvi, hoi⟩ := H.out.2.2 i m len hpi
      obtain ⟨aoI, capI, rfl⟩ := slice_form hoi
      obtain ⟨gP, capP', hv, hgP, cP⟩ := row_one H.out.1.own hvi
      simp only [Value.slice.injEq, true_and] at hv
      obtain ⟨rfl, rfl⟩ := hv
      obtain ⟨gM, capM', hv, hgM, cM⟩ := row_one H.out.2.1.own (i := i) (u := .int .i64 m) (by simp [hpi])
      simp only [Value.slice.injEq, true_and] at hv
      obtain ⟨rfl, rfl⟩ := hv
      have cMr := cell_later HB.out cM
      have HOI : Hid (w.ownsRow 0 57 3 (.slice aoI len capI) len (pcells (List.replicate len (mk m)))) := hoi
      have hil : (i : Int) < (P.length : Int) := by omega
      have HCP : Hid (w.cell? ⟨gP, i, none⟩ = some (.slice aoI len capI)) := cP
      clear hpi hvi hoi cP
      go_wp2_with fail
      refine (markPair_any m hm0 hm1 wr (fun w' h' => HT.out w' (below_trans' HB.out h'))).mono ?_
      rintro e w2 ⟨rfl, hb2⟩
      have HB2 : Hid (Below w.heap.size w w2) := below_trans' HB.out hb2
      clear hb2 c2r c6r cMr
      have q0 : (w2.alloc (.cells #[.string (mk m).k, .string (mk m).v, .bool (mk m).g] 57)).cell? ⟨w2.heap.size, 0, none⟩ = some (.string (mk m).k) := by simp
      have q1 : (w2.alloc (.cells #[.string (mk m).k, .string (mk m).v, .bool (mk m).g] 57)).cell? ⟨w2.heap.size, 1, none⟩ = some (.string (mk m).v) := by simp
      have q2 : (w2.alloc (.cells #[.string (mk m).k, .string (mk m).v, .bool (mk m).g] 57)).cell? ⟨w2.heap.size, 2, none⟩ = some (.bool (mk m).g) := by simp
      have HQ : Hid _ := And.intro q0 (And.intro q1 q2)
      have HBA : Hid (Below w.heap.size w (w2.alloc (.cells #[.string (mk m).k, .string (mk m).v, .bool (mk m).g] 57))) := HB2.out.alloc HB2.out.size _
      clear q0 q1 q2
      go_wp2
      generalize hwA : w2.alloc (.cells #[.string (mk m).k, .string (mk m).v, .bool (mk m).g] 57) = wA at HQ HBA ⊢
      have c2A := cell_later HBA.out c2
      clear hwA
      go_loopg [5] len (fun kx s5 wx => ∃ k : Nat, k ≤ len ∧ len - k ≤ kx ∧ s5 = .int .i64 k ∧ Hid (Below wA.heap.size wA wx))
      case atStart => exact ⟨0, Nat.zero_le _, Nat.le_refl _, rfl, Below.refl _ _⟩
      case round =>
        obtain ⟨k, hk, hkk, rfl, HBx⟩ := hrel
        have HBw : Hid (Below w.heap.size w wr) := below_trans' HBA.out HBx.out
        have c2x := cell_later HBw.out c2
        have cPx := cell_later HBw.out HCP.out
        by_cases hkl : k < len
        · obtain ⟨gI, capI', hv, _, _, _, hcell⟩ := pr_cells (L := List.replicate len (mk m)) (by rw [List.length_replicate]; exact HOI.out) HBw.out (by rw [List.length_replicate]; omega)
          simp only [Value.slice.injEq, List.length_replicate, true_and] at hv
          obtain ⟨rfl, rfl⟩ := hv
          obtain ⟨d0, d1, d2⟩ := hcell k (mk m) (by rw [List.getElem?_replicate]; simp [hkl])
          have q0 := cell_regrown (cell_later HBx.out HQ.out.1)
          have q1 := cell_regrown (cell_later HBx.out HQ.out.2.1)
          have q2 := cell_regrown (cell_later HBx.out HQ.out.2.2)
          have c2y := cell_regrown c2x
          have cPy := cell_regrown cPx
          have d0 := cell_regrown d0
          have d1 := cell_regrown d1
          have d2 := cell_regrown d2
          have hkl' : (k : Int) < (len : Int) := by omega
          clear hcell
          go_wp2
          refine wp_region_quiet_below (by kernel_rfl) (by kernel_rfl) ?_
          repeat (first | go_big_quiet_step (fail) | quiet_step (fail))
          refine wpQuiet_nil ?_
          intro w3 hw'
          have hb := below_of_regrown hw'
          have HB3 : Hid (Below wA.heap.size wA w3) := below_trans' HBx.out hb
          clear hb hw'
          go_wp2
          go_roundg (len - (k + 1))
          case measure => omega
          case rel => exact ⟨k + 1, by omega, Nat.le_refl _, by go_num, HB3.out⟩
        · obtain rfl : k = len := by omega
          go_wp2
          go_roundg (P.length - (i + 1))
          case measure => omega
          case rel => exact ⟨i + 1, by omega, Nat.le_refl _, by go_num, HBw.out⟩
    · obtain rfl : i = P.length := by omega
      have HB1 := HB
      have c3r := cell_later HB1.out c3
      have c4r := cell_later HB1.out c4
      have c5r := cell_later HB1.out c5
      clear HB c2 c6 c3 c4 c5
      go_wp2
      go_loopg [6, 7, 8] 0 (fun kx s6 s7 s8 wx => s6 = .int .i64 0 ∧ wx = wr)
      case atStart => exact ⟨rfl, rfl⟩
      case round =>
        obtain ⟨rfl, rfl⟩ := hrel
        go_wp2
        go_loopg [9, 10] 0 (fun kx s9 s10 wx => s9 = .int .i64 0 ∧ wx = wr)
        case atStart => exact ⟨rfl, rfl⟩
        case round =>
          obtain ⟨rfl, rfl⟩ := hrel
          go_wp2
          go_loopg [11, 12, 13] 0 (fun kx s11 s12 s13 wx => s11 = .int .i64 0 ∧ wx = wr)
          case atStart => exact ⟨rfl, rfl⟩
          case round =>
            obtain ⟨rfl, rfl⟩ := hrel
            go_wp2
            go_ret
            exact ⟨rfl, HB1.out⟩
end Go.Proofs.YtojdkfamihlnkaaGreatDoor
