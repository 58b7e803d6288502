/- The walks of this proof: the shop, and what its batches make of a key. -/
import Derived.Test.YtojdkfamihlnkaaV
namespace Go.Proofs.Ytojdkfamihlnkaa
open Go.RowKit Go.Sort

/-- The batches, each a row. -/
def AllAt (B : Nat) (w : World) (vA : Value) (A : List (List Pr)) : Prop :=
  ∃ Ws : List Value, w.ownsRow B 53 1 vA A.length Ws ∧ ∀ (i : Nat) (b : List Pr), A[i]? = some b → ∃ vi, Ws[i]? = some vi ∧ w.ownsRow B 78 3 vi b.length (pcells b)

/-- A shop that lies in block hb. -/
def ShopAt (B hb : Nat) (x : St) (A : List (List Pr)) (w : World) : Prop :=
  ∃ (sb : Nat) (vA vS : Value) (su la : Int) (o0 o1 : Bool), B ≤ hb ∧ w.heap[hb]? = some (.cells #[.pointer (some ⟨sb, 0, none⟩), vA, vS, .int .i64 su, .int .i64 la, .bool o0, .bool o1] 36 (0, 0)) ∧
    StoreAt B sb x w ∧ AllAt B w vA A ∧ w.ownsRow B 69 2 vS x.S.length (scells x.S)

/-- What is true of every shop. -/
structure ShOk (x : St) (A : List (List Pr)) : Prop where
  st : StOk x
  last : x.last = A.length
  rel : Rel x.E A
  ok : ∀ b ∈ A, BOk b
  few : A.length < 100000000

theorem AllAt.kept {B B' : Nat} {ts : List Nat} {w w' : World} {vA : Value} {A : List (List Pr)} (h : AllAt B w vA A) (k : Kp B' ts w w') (h1 : 53 ∉ ts) (h2 : 78 ∉ ts) : AllAt B w' vA A := by
  obtain ⟨Ws, h3, h4⟩ := h
  exact ⟨Ws, k.owns h3 h1, fun i b hb => by obtain ⟨vi, h5, h6⟩ := h4 i b hb; exact ⟨vi, h5, k.owns h6 h2⟩⟩

theorem ShopAt.below {B hb : Nat} {x : St} {A : List (List Pr)} {w w' : World} (h : ShopAt B hb x A w) (k : Below w.heap.size w w') : ShopAt B hb x A w' := by
  obtain ⟨sb, vA, vS, su, la, o0, o1, h1, h2, h3, h4, h5⟩ := h
  have kp : Kp 0 [] w w' := Kp.of_below k
  exact ⟨sb, vA, vS, su, la, o0, o1, h1, kp.keep h2 (by simp), h3.below k, h4.kept kp (by simp) (by simp), kp.owns h5 (by simp)⟩

/-- The cells of a batch. -/
theorem all_cells {B : Nat} {w : World} {vA : Value} {A : List (List Pr)} (h : AllAt B w vA A) {i : Nat} {b : List Pr} (hb : A[i]? = some b) (hl : 0 < b.length) :
    ∃ g cap gi ci, vA = .slice (some ⟨g, 0, none⟩) A.length cap ∧ g < w.heap.size ∧ w.cell? ⟨g, i, none⟩ = some (.slice (some ⟨gi, 0, none⟩) b.length ci) ∧ gi < w.heap.size ∧
      ∀ (k : Nat) p, b[k]? = some p → w.cell? ⟨gi, k * 3, none⟩ = some (.string p.k) ∧ w.cell? ⟨gi, k * 3 + 1, none⟩ = some (.string p.v) ∧ w.cell? ⟨gi, k * 3 + 2, none⟩ = some (.bool p.g) := by
  obtain ⟨Ws, h3, h4⟩ := h
  obtain ⟨vi, h5, h6⟩ := h4 i b hb
  have hA : 0 < A.length := by have := (List.getElem?_eq_some_iff.1 hb).1; omega
  have hWl : Ws.length = A.length := by have := h3.1; omega
  have e : Ws.flatMap (fun v => [v]) = Ws := by induction Ws <;> simp_all
  obtain ⟨g, cap, rfl, _, hgl, _, hcell⟩ := row_cell (f := fun v => [v]) (size := 1) (l := Ws) (fun a => rfl) (by rw [hWl, e]; exact h3) (by omega)
  have hc := hcell i vi 0 h5 (by omega)
  obtain ⟨gi, ci, rfl, _, hgi, _, hce⟩ := pr_cells h6 (Below.refl _ _) hl
  rw [hWl]
  exact ⟨g, cap, gi, ci, rfl, hgl, by simpa using hc, hgi, hce⟩

theorem val_succ {A : List (List Pr)} {k : ByteArray} {i : Nat} {b : List Pr} (hb : A[i]? = some b) : val A k (i + 1) = match lastP b k with | some p => some p | none => val A k i := by
  show (match lastP (A.getD i []) k with | some p => some p | none => val A k i) = _
  rw [List.getD_eq_getElem?_getD, hb, Option.getD_some]

theorem lastP_take {b : List Pr} {r : Nat} {p : Pr} (k : ByteArray) (h : b[r]? = some p) : lastP (b.take (r + 1)) k = if p.k = k then some p else lastP (b.take r) k := by
  rw [List.take_add_one, h]
  exact lastP_snoc _ _ _

/-- What value answers. -/
def valAns (A : List (List Pr)) (k : ByteArray) (n : Nat) : Value :=
  match vk A k n with
  | some v => .tuple #[.string v, .bool true]
  | none => .tuple #[.string ⟨#[]⟩, .bool false]

set_option maxHeartbeats 1000000 in
set_option maxRecDepth 100000 in
theorem value_any (B hb : Nat) (x : St) (A : List (List Pr)) (k : ByteArray) (n : Nat) (w : World) (hx : ShopAt B hb x A w) (ok : ∀ b ∈ A, BOk b) (hn : n ≤ A.length) (hA : A.length < 100000000) :
    Calls Try.prog 27 #[.pointer (some ⟨hb, 0, none⟩), .string k, .int .i64 n] w fun e w' => e = .returned (valAns A k n) ∧ Below w.heap.size w w' := by
  obtain ⟨sb, vA, vS, su, la, o0, o1, hB, hs, _, hall, _⟩ := hx
  have c1 : w.cell? ⟨hb, 1, none⟩ = some vA := by simp [World.cell?, hs]
  have hbl : hb < w.heap.size := lt_of_block hs
  have HALL : Hid (AllAt B w vA A) := hall
  have OK : Hid (∀ b ∈ A, BOk b) := ok
  clear hall ok hs
  go_enter Try.func27, Try.ntmps27
  go_wp2
  go_loopg [8, 9] n (fun kx s8 s9 wr => ∃ m : Nat, s8 = .int .i64 ((m : Int) - 1) ∧ m ≤ kx ∧ m ≤ n ∧ wr = w ∧ Hid (val A k n = val A k m))
  case atStart => exact ⟨n, rfl, Nat.le_refl _, Nat.le_refl _, rfl, rfl⟩
  case round =>
    obtain ⟨m, rfl, hmk, hmn, rfl, HV⟩ := hrel
    obtain _ | i := m
    · have hv : Hid (valAns A k n = .tuple #[.string ⟨#[]⟩, .bool false]) := by show _ = _; unfold valAns vk; rw [HV.out]; rfl
      rw [show (((0 : Nat) : Int) - 1) = -1 from rfl]
      go_wp2
      go_ret2
      exact ⟨by rw [hv.out]; rfl, Below.refl _ _⟩
    · have e1 : (((i + 1 : Nat) : Int) - 1) = i := by omega
      rw [e1]
      obtain ⟨b, hbi⟩ : ∃ b, A[i]? = some b := ⟨_, List.getElem?_eq_getElem (by omega)⟩
      have hbo := OK.out b (List.mem_of_getElem? hbi)
      have hb1 := hbo.lo
      have hb4 := hbo.hi
      have HG : Hid (∀ p, p ∈ b → PrOk p) := hbo.ok
      obtain ⟨g, cap, gi, ci, rfl, hgl, cg, hgil, hce⟩ := all_cells HALL.out hbi (by omega)
      have HCE : Hid _ := hce
      have HBI : Hid (A[i]? = some b) := hbi
      clear hce hbo e1 hbi
      go_wp2
      go_loopg [9] b.length (fun kx s9 wx => ∃ r : Nat, s9 = .int .i64 ((r : Int) - 1) ∧ r ≤ kx ∧ r ≤ b.length ∧ wx = wr ∧ Hid (lastP b k = lastP (b.take r) k))
      case atStart => exact ⟨b.length, rfl, Nat.le_refl _, Nat.le_refl _, rfl, by show _ = _; rw [List.take_of_length_le (Nat.le_refl _)]⟩
      case round =>
        obtain ⟨r, rfl, hrk, hrb, rfl, HL⟩ := hrel
        obtain _ | j := r
        · rw [show (((0 : Nat) : Int) - 1) = -1 from rfl]
          go_wp2
          go_roundg i
          case measure => omega
          case rel => exact ⟨i, rfl, Nat.le_refl _, by omega, rfl, by show _ = _; rw [HV.out, val_succ HBI.out, HL.out]; rfl⟩
        · have e1 : (((j + 1 : Nat) : Int) - 1) = j := by omega
          rw [e1]
          clear e1
          obtain ⟨p, hp⟩ : ∃ p, b[j]? = some p := ⟨_, List.getElem?_eq_getElem (by omega)⟩
          obtain ⟨d0, d1, d2⟩ := HCE.out j p hp
          have HT : Hid (lastP b k = if p.k = k then some p else lastP (b.take j) k) := by
            show _ = _
            rw [HL.out, lastP_take k hp]
          have HPO : Hid (PrOk p) := HG.out p (List.mem_of_getElem? hp)
          clear hp HL
          by_cases hk : p.k = k
          · have hv : Hid (valAns A k n = .tuple #[.string p.v, .bool (!p.g)]) := by
              show _ = _
              unfold valAns vk
              rw [HV.out, val_succ HBI.out, HT.out, if_pos hk]
              cases hg : p.g with
              | true => simp [HPO.out.gone hg, hg]
              | false => simp [hg]
            subst hk
            have c1' := cell_regrown c1
            have cg' := cell_regrown cg
            have d1' := cell_regrown d1
            have d2' := cell_regrown d2
            go_wp2_with fail
            refine wp_region_quiet_below (by kernel_rfl) (by kernel_rfl) ?_
            repeat (first | go_big_quiet_step (fail) | quiet_step (fail))
            refine wpQuiet_nil ?_
            intro w2 hw'
            have hb2 := below_of_regrown hw'
            clear hw'
            go_wp2
            go_ret2
            exact ⟨by rw [hv.out]; rfl, hb2⟩
          · have hnb := str_ne hk
            go_wp2
            go_roundg j
            case measure => omega
            case rel => exact ⟨j, rfl, Nat.le_refl _, by omega, rfl, by show _ = _; rw [HT.out, if_neg hk]⟩
end Go.Proofs.Ytojdkfamihlnkaa
