/- The walks of this proof: the bytes of a record (that there are some, not which). -/
import Derived.Test.YtojdkfamihlnkaaGreatDoorW14
import Derived.Lib.AppendStr
import Derived.Deep.RegionHeldLaw
namespace Go.Proofs.YtojdkfamihlnkaaGreatDoor
open Go.RowKit Go.Sort

/-- A slice of n bytes, from block 'base' on. -/
def BR (base : Nat) (v : Value) (n : Nat) (w : World) : Prop := ∃ R : List Value, w.ownsRow base 5 1 v n R ∧ ∀ u ∈ R, ∃ x : Int, u = .int .u8 x

theorem BR.below {base : Nat} {v : Value} {n : Nat} {w w' : World} (h : BR base v n w) (hb : Below w.heap.size w w') : BR base v n w' :=
  let ⟨R, h1, h2⟩ := h
  ⟨R, (Kp.of_below (B := 0) (ts := []) hb).owns h1 (by simp), h2⟩

theorem BR.form {base : Nat} {v : Value} {n : Nat} {w : World} (h : BR base v n w) : ∃ ao cap, v = .slice ao n cap := slice_form h.choose_spec.1

/-- An append to a row of the call's own. -/
theorem own_below {base : Nat} {w w' : World} {v : Value} {e : TypeId} {size n : Nat} {xs : List Value} (ho : w.ownsRow base e size v n xs) (hg : w.grownBy w' v.ownBlock) (hb : base ≤ w.heap.size) : Below base w w' :=
  (Below.refl base w).grown hg hb fun k hk => (ho.lt k hk).1

def AppPost (base n : Nat) (w : World) (e : Ending) (w' : World) : Prop := ∃ v', e = .returned v' ∧ BR base v' n w' ∧ Kp base [5] w w'

set_option maxHeartbeats 1000000 in
theorem appendText_any (base : Nat) (v : Value) (n : Nat) (s : ByteArray) (w : World) (h : BR base v n w) (hb : base ≤ w.heap.size) (hn : n + 1 + s.size ≤ 1000000) (hs : s.size ≤ 8) :
    Calls Tryz.prog 130 #[v, .string s] w fun e w' => AppPost base (n + 1 + s.size) w e w' := by
  obtain ⟨i0, hi, hz0, hz1, hz2⟩ := info_parts Tryz.info5
  obtain ⟨R, hown, hR⟩ := h
  have HR : Hid (∀ u ∈ R, ∃ x : Int, u = .int .u8 x) := hR
  clear hR
  obtain ⟨ao, cap, rfl⟩ := slice_form hown
  go_enter Tryz.func130, Tryz.ntmps130
  go_wp2_with (at_builtin; refine wpList_append_own _ rfl (.tmp 5) (.tmp 9) 74 rfl base 5 i0 _ 1 1 Tryz.underlying74 hi hz0 hz1 hz2 rfl (by decide) _ _ _ rfl (hown.alloc _) ⟨w.heap.size, 0, none⟩ 1 1 [.int .u8 (s.size : Int)] rfl rfl ?c1 ?c2 ?c3 ?c4 ?c5 ?_)
  case c1 =>
    intro j u hj
    match j, hj with
    | 0, hj => simp at hj; subst hj; simp [Addr.add]
    | j + 1, hj => simp at hj
  case c2 => intro u hu; simp at hu; subst hu; rfl
  case c3 => unfold maxLen; omega
  case c4 => omega
  case c5 => simp; omega
  intro v1 w1 ho1 hg1 _
  have B1 : Kp base [5] w w1 := ((Kp.refl base [5] w).alloc _).grown (hown.alloc _) hg1 (Nat.le_refl _) (by simp)
  have HB1 : Hid (Kp base [5] w w1) := B1
  have hb1 : base ≤ w1.heap.size := Nat.le_trans hb B1.size
  obtain ⟨ao1, cap1, rfl⟩ := slice_form ho1
  clear hg1 B1 hown
  go_wp2_with (at_builtin; refine Lib.wpList_append_own_string _ rfl (.tmp 10) (.tmp 11) 74 9 rfl base 5 i0 Tryz.underlying74 Tryz.underlying9 hi hz0 hz1 hz2 _ _ _ rfl ho1 s rfl ?d1 ?d2 ?d3 ?_)
  case d1 => unfold maxLen; omega
  case d2 => omega
  case d3 => exact hb1
  intro v2 w2 ho2 hg2 _
  have HF : Hid (BR base v2 (n + 1 + s.size) w2 ∧ Kp base [5] w w2) := by
    refine ⟨⟨_, ho2, fun u hu => ?_⟩, HB1.out.grown ho1 hg2 (Nat.le_refl _) (by simp)⟩
    have hu' : u ∈ R ∨ u = .int .u8 (s.size : Int) ∨ u ∈ Lib.strCells s := by simpa [or_assoc] using hu
    rcases hu' with hu | hu | hu
    · exact HR.out u hu
    · exact ⟨_, hu⟩
    · obtain ⟨b, _, rfl⟩ := List.mem_map.1 hu
      exact ⟨_, rfl⟩
  clear ho2 hg2 ho1
  go_wp2
  go_ret
  exact ⟨_, rfl, HF.out⟩

/-- One byte appended, at a step of a region that draws. -/
theorem BR.push {base : Nat} {n : Nat} {x : Int} {R : List Value} {g cap : Nat} {w1 : World} (hR : ∀ u ∈ R, ∃ x : Int, u = .int .u8 x) (h : w1.ownsRow base 5 1 (.slice (some ⟨g, 0, none⟩) (n + 1) cap) (n + 1) (R ++ [.int .u8 x])) : BR base (.slice (some ⟨g, 0, none⟩) (n + 1) cap) (n + 1) w1 :=
  ⟨_, h, fun u hu => by
    rcases List.mem_append.1 hu with hu | hu
    · exact hR u hu
    · simp at hu; exact ⟨_, hu⟩⟩

set_option maxHeartbeats 2000000 in
set_option maxRecDepth 100000 in
theorem appendPair_any (base : Nat) (v : Value) (n : Nat) (p : Pr) (w : World) (h : BR base v n w) (hb : base ≤ w.heap.size) (hn : n + 100 ≤ 1000000) (ok : PrOk p) :
    Calls Tryz.prog 116 #[v, .agg #[.string p.k, .string p.v, .bool p.g]] w fun e w' => ∃ m, m ≤ n + 100 ∧ AppPost base m w e w' := by
  obtain ⟨i0, hi, hz0, hz1, hz2⟩ := info_parts Tryz.info5
  obtain ⟨R, hown, hR⟩ := h
  have HR : Hid (∀ u ∈ R, ∃ x : Int, u = .int .u8 x) := hR
  have HOWN : Hid (w.ownsRow base 5 1 v n R) := hown
  have hk6 := ok.hi
  have hv8 := ok.val
  clear hR hown ok
  obtain ⟨k, vv, g⟩ := p
  simp only at hk6 hv8 ⊢
  have KA : Hid (∀ o, Kp base [5] w (w.alloc o)) := fun o => (Kp.refl _ _ _).alloc o
  cases g with
  | true =>
    go_enter Tryz.func116, Tryz.ntmps116
    go_wp2
    go_region_held_law (fun w' => w'.cell? ⟨w.heap.size, 0, none⟩ = some (.string k)) (first | go_keep | assumption) (first
      | (refine step_append_lies _ rfl (.tmp 7) (.tmp 8) 74 rfl base 5 i0 _ 1 1 Tryz.underlying74 hi hz0 hz1 hz2 rfl (by decide) v n R rfl (by exact (HOWN.out.alloc _).alloc _) ⟨w.heap.size + 1, 0, none⟩ 1 1 [.int .u8 1] rfl rfl (by intro j u hj; match j, hj with | 0, hj => (simp at hj; subst hj; simp [Addr.add]) | j + 1, hj => (simp at hj)) (by intro u hu; simp at hu; subst hu; rfl) (by omega) (by unfold maxLen; omega) (by omega) (by simp; omega) _ rfl ?_; intro g1 cap1 w1 ho1 hg1 hat hlt; have K1 : Hid (BR base (.slice (some ⟨g1, 0, none⟩) (n + 1) cap1) (n + 1) w1) := BR.push HR.out ho1; have B1 : Hid (Kp base [5] (w.alloc (.cells #[.string k, .string vv, .bool true] 57)) w1) := Kp.grown ((Kp.refl _ _ _).alloc _).drew (by exact (HOWN.out.alloc _).alloc _) hg1 (Nat.le_refl _) (by simp); have k0 : w1.cell? ⟨w.heap.size, 0, none⟩ = some (.string k) := (by simp [World.cell?, B1.out.keep (heap_alloc_new w _) (by simp)]); have k1 : w1.cell? ⟨w.heap.size, 1, none⟩ = some (.string vv) := (by simp [World.cell?, B1.out.keep (heap_alloc_new w _) (by simp)]); have hsz1 : base ≤ w1.heap.size := Nat.le_trans hb (Nat.le_trans (Nat.le_trans (Nat.le_succ _) (by simp)) B1.out.size); clear ho1 hg1 hat hlt)
      | (go_at_call 130; refine (appendText_any base _ (n + 1) k _ K1.out hsz1 (by omega) (by omega)).mono ?_; rintro e w2 ⟨v2, rfl, hbr2, hbl2⟩; have B2 := B1.out.trans hbl2; have HF : Hid (BR base v2 (n + 1 + 1 + k.size) w2 ∧ Kp base [5] w w2) := ⟨hbr2, (KA.out _).trans B2⟩; have m0 : w2.cell? ⟨w.heap.size, 0, none⟩ = some (.string k) := (by simp [World.cell?, B2.keep (heap_alloc_new w _) (by simp)]); clear hbr2 hbl2 B2))
    all_goals go_wp2
    all_goals go_ret
    all_goals exact ⟨n + 1 + 1 + k.size, by omega, _, rfl, Hid.out (by assumption)⟩
  | false =>
    go_enter Tryz.func116, Tryz.ntmps116
    go_wp2
    go_region_held_law (fun w' => w'.cell? ⟨w.heap.size, 0, none⟩ = some (.string k) ∧ w'.cell? ⟨w.heap.size, 1, none⟩ = some (.string vv)) (first | go_keep | (constructor <;> assumption)) (first
      | (refine step_append_lies _ rfl (.tmp 13) (.tmp 14) 74 rfl base 5 i0 _ 1 1 Tryz.underlying74 hi hz0 hz1 hz2 rfl (by decide) v n R rfl (by exact (HOWN.out.alloc _).alloc _) ⟨w.heap.size + 1, 0, none⟩ 1 1 [.int .u8 0] rfl rfl (by intro j u hj; match j, hj with | 0, hj => (simp at hj; subst hj; simp [Addr.add]) | j + 1, hj => (simp at hj)) (by intro u hu; simp at hu; subst hu; rfl) (by omega) (by unfold maxLen; omega) (by omega) (by simp; omega) _ rfl ?_; intro g1 cap1 w1 ho1 hg1 hat hlt; have K1 : Hid (BR base (.slice (some ⟨g1, 0, none⟩) (n + 1) cap1) (n + 1) w1) := BR.push HR.out ho1; have B1 : Hid (Kp base [5] (w.alloc (.cells #[.string k, .string vv, .bool false] 57)) w1) := Kp.grown ((Kp.refl _ _ _).alloc _).drew (by exact (HOWN.out.alloc _).alloc _) hg1 (Nat.le_refl _) (by simp); have k0 : w1.cell? ⟨w.heap.size, 0, none⟩ = some (.string k) := (by simp [World.cell?, B1.out.keep (heap_alloc_new w _) (by simp)]); have k1 : w1.cell? ⟨w.heap.size, 1, none⟩ = some (.string vv) := (by simp [World.cell?, B1.out.keep (heap_alloc_new w _) (by simp)]); have hsz1 : base ≤ w1.heap.size := Nat.le_trans hb (Nat.le_trans (Nat.le_trans (Nat.le_succ _) (by simp)) B1.out.size); clear ho1 hg1 hat hlt)
      | (go_at_call_of 130 (Value.string k); refine (appendText_any base _ (n + 1) k _ K1.out hsz1 (by omega) (by omega)).mono ?_; rintro e w2 ⟨v2, rfl, hbr2, hbl2⟩; have B2 : Hid _ := B1.out.trans hbl2; have K2 : Hid (BR base v2 (n + 1 + 1 + k.size) w2) := hbr2; have hsz2 : base ≤ w2.heap.size := Nat.le_trans hsz1 hbl2.size; have m0 : w2.cell? ⟨w.heap.size, 0, none⟩ = some (.string k) := (by simp [World.cell?, B2.out.keep (heap_alloc_new w _) (by simp)]); have m1 : w2.cell? ⟨w.heap.size, 1, none⟩ = some (.string vv) := (by simp [World.cell?, B2.out.keep (heap_alloc_new w _) (by simp)]); clear hbr2 hbl2)
      | (go_at_call_of 130 (Value.string vv); refine (appendText_any base _ (n + 1 + 1 + k.size) vv _ K2.out hsz2 (by omega) (by omega)).mono ?_; rintro e w3 ⟨v3, rfl, hbr3, hbl3⟩; have B3 := B2.out.trans hbl3; have HF : Hid (BR base v3 (n + 1 + 1 + k.size + 1 + vv.size) w3 ∧ Kp base [5] w w3) := ⟨hbr3, (KA.out _).trans B3⟩; have m0 : w3.cell? ⟨w.heap.size, 0, none⟩ = some (.string k) := (by simp [World.cell?, B3.keep (heap_alloc_new w _) (by simp)]); have m1 : w3.cell? ⟨w.heap.size, 1, none⟩ = some (.string vv) := (by simp [World.cell?, B3.keep (heap_alloc_new w _) (by simp)]); clear hbr3 hbl3 B3))
    all_goals go_wp2
    all_goals go_ret
    all_goals exact ⟨n + 1 + 1 + k.size + 1 + vv.size, by omega, _, rfl, Hid.out (by assumption)⟩
end Go.Proofs.YtojdkfamihlnkaaGreatDoor
