/- The walks of this proof: the document's store: the first error of a batch. -/
import Derived.Test.YtojdkfamihlnkaaGreatDoorR3
namespace Go.Proofs.YtojdkfamihlnkaaGreatDoor
open Go.RowKit Go.Sort

/-- Pairs that can be read, wherever they lie. -/
def PairsAt (w : World) (v : Value) (L : List Pr) : Prop :=
  ∃ (ao : Option Addr) (cap : Nat), v = .slice ao L.length cap ∧ L.length ≤ 10000000 ∧ (∀ p ∈ L, p.k.size ≤ 10000000 ∧ p.v.size ≤ 10000000) ∧ ∀ (k : Nat) (p : Pr), L[k]? = some p → ∃ b : Addr, ao = some b ∧ b.spot = none ∧
    w.cell? ⟨b.block, b.off + k * 3, none⟩ = some (.string p.k) ∧ w.cell? ⟨b.block, b.off + k * 3 + 1, none⟩ = some (.string p.v) ∧ w.cell? ⟨b.block, b.off + k * 3 + 2, none⟩ = some (.bool p.g)

theorem PairsAt.below {w w' : World} {v : Value} {L : List Pr} (h : PairsAt w v L) (hb : Below w.heap.size w w') : PairsAt w' v L := by
  obtain ⟨ao, cap, rfl, hl, hs, hc⟩ := h
  refine ⟨ao, cap, rfl, hl, hs, fun k p hp => ?_⟩
  obtain ⟨b, h1, h2, h3, h4, h5⟩ := hc k p hp
  exact ⟨b, h1, h2, cell_later hb h3, cell_later hb h4, cell_later hb h5⟩

def noKey (p : Pr) : Bool := decide (p.k.size < 1) || decide (6 < p.k.size)
def isLong (p : Pr) : Bool := decide (8 < p.v.size)
def goneW (p : Pr) : Bool := p.g && !p.v.toList.isEmpty

/-- The first error of a batch. -/
def flt (L : List Pr) : Int :=
  if L.length = 0 ∨ 4 < L.length then 3 else if L.any noKey then 1 else if L.any isLong then 2 else if L.any goneW then 4 else 0

theorem any_take {L : List Pr} {k : Nat} {p : Pr} (f : Pr → Bool) (h : L[k]? = some p) : (L.take (k + 1)).any f = ((L.take k).any f || f p) := by
  rw [List.take_add_one, h]
  simp

set_option maxHeartbeats 4000000 in
set_option maxRecDepth 100000 in
theorem fault_any (L : List Pr) (v : Value) (w : World) (h : PairsAt w v L) :
    Calls Tryz.prog 74 #[v] w fun e w' => e = .returned (.int .i64 (flt L)) ∧ Below w.heap.size w w' := by
  obtain ⟨ao, cap, rfl, hl, hs, hc⟩ := h
  have HC : Hid _ := hc
  have HS : Hid _ := hs
  clear hc hs
  go_enter Tryz.func74, Tryz.ntmps74
  go_wp2
  go_loopg [3, 4, 5, 6, 7] L.length (fun kx s3 s4 s5 s6 s7 wr => ∃ (k : Nat) (K G A : Bool), k ≤ L.length ∧ L.length - k ≤ kx ∧ s6 = .int .i64 k ∧ s3 = .bool K ∧ s4 = .bool G ∧ s5 = .bool A ∧ Hid (K = (L.take k).any noKey) ∧ Hid (G = (L.take k).any isLong) ∧ Hid (A = (L.take k).any goneW) ∧ Hid (Below w.heap.size w wr))
  case atStart => exact ⟨0, false, false, false, Nat.zero_le _, Nat.le_refl _, rfl, rfl, rfl, rfl, rfl, rfl, rfl, Below.refl _ _⟩
  case round =>
    obtain ⟨k, K, G, A, hk, hkx, rfl, rfl, rfl, rfl, HK, HG, HA, HB⟩ := hrel
    by_cases hlt : k < L.length
    · obtain ⟨p, hp⟩ : ∃ p, L[k]? = some p := ⟨_, List.getElem?_eq_getElem hlt⟩
      obtain ⟨⟨g, off, spot⟩, rfl, hsp, c0, c1, c2⟩ := HC.out k p hp
      simp only at hsp c0 c1 c2
      subst hsp
      have c0 := cell_later HB.out c0
      have c1 := cell_later HB.out c1
      have c2 := cell_later HB.out c2
      have hgl : g < wr.heap.size := block_lt_of_cell c0
      have hps := HS.out p (List.mem_of_getElem? hp)
      have HK2 : Hid (∀ b, (K || noKey p) = b → b = (L.take (k + 1)).any noKey) := fun b hb => by rw [any_take noKey hp, ← HK.out, hb]
      have HG2 : Hid (∀ b, (G || isLong p) = b → b = (L.take (k + 1)).any isLong) := fun b hb => by rw [any_take isLong hp, ← HG.out, hb]
      have HA2 : Hid (∀ b, (A || goneW p) = b → b = (L.take (k + 1)).any goneW) := fun b hb => by rw [any_take goneW hp, ← HA.out, hb]
      have HF : Hid (Below w.heap.size w (wr.alloc (.cells #[.string p.k, .string p.v, .bool p.g] 57))) := HB.out.alloc HB.out.size _
      obtain ⟨hpk, hpv⟩ := hps
      clear hp HK HG HA
      obtain ⟨pk, pv, pg⟩ := p
      simp only at c0 c1 c2 hpk hpv HF
      have h6 : (∃ b, (K || noKey ⟨pk, pv, pg⟩) = b ∧ ((K = true ∧ b = true) ∨ (K = false ∧ (pk.size : Int) < 1 ∧ b = true) ∨ (K = false ∧ ¬ (pk.size : Int) < 1 ∧ (6 : Int) < pk.size ∧ b = true) ∨ (K = false ∧ ¬ (pk.size : Int) < 1 ∧ ¬ (6 : Int) < pk.size ∧ b = false))) := by
        refine ⟨_, rfl, ?_⟩
        cases K
        · by_cases h1 : pk.size < 1
          · exact .inr (.inl ⟨rfl, by omega, by simp [noKey, h1]⟩)
          · by_cases h2 : 6 < pk.size
            · exact .inr (.inr (.inl ⟨rfl, by omega, by omega, by simp [noKey, h2]⟩))
            · exact .inr (.inr (.inr ⟨rfl, by omega, by omega, by simp [noKey, h1, h2]⟩))
        · exact .inl ⟨rfl, by simp⟩
      have h7 : (∃ b, (G || isLong ⟨pk, pv, pg⟩) = b ∧ ((G = true ∧ b = true) ∨ (G = false ∧ (8 : Int) < pv.size ∧ b = true) ∨ (G = false ∧ ¬ (8 : Int) < pv.size ∧ b = false))) := by
        refine ⟨_, rfl, ?_⟩
        cases G
        · by_cases h2 : 8 < pv.size
          · exact .inr (.inl ⟨rfl, by omega, by simp [isLong, h2]⟩)
          · exact .inr (.inr ⟨rfl, by omega, by simp [isLong, h2]⟩)
        · exact .inl ⟨rfl, by simp⟩
      have h8 : (∃ b, (A || goneW ⟨pk, pv, pg⟩) = b ∧ ((A = true ∧ b = true) ∨ (A = false ∧ pg = false ∧ b = false) ∨ (A = false ∧ pg = true ∧ b = !pv.toList.isEmpty))) := by
        refine ⟨_, rfl, ?_⟩
        cases A
        · cases pg
          · exact .inr (.inl ⟨rfl, rfl, by simp [goneW]⟩)
          · exact .inr (.inr ⟨rfl, rfl, by simp [goneW]⟩)
        · exact .inl ⟨rfl, by simp⟩
      obtain ⟨b6, e6, h6⟩ := h6
      obtain ⟨b7, e7, h7⟩ := h7
      obtain ⟨b8, e8, h8⟩ := h8
      have HE6 : Hid _ := HK2.out _ e6
      have HE7 : Hid _ := HG2.out _ e7
      have HE8 : Hid _ := HA2.out _ e8
      clear e6 e7 e8 HK2 HG2 HA2
      rcases h6 with ⟨rfl, rfl⟩ | ⟨rfl, h61, rfl⟩ | ⟨rfl, h61, h62, rfl⟩ | ⟨rfl, h61, h62, rfl⟩ <;>
        rcases h7 with ⟨rfl, rfl⟩ | ⟨rfl, h71, rfl⟩ | ⟨rfl, h71, rfl⟩ <;>
        rcases h8 with ⟨rfl, rfl⟩ | ⟨rfl, rfl, rfl⟩ | ⟨rfl, rfl, rfl⟩
      all_goals (
        go_wp2
        go_roundg (L.length - (k + 1))
        case measure => omega
        case rel => exact ⟨k + 1, _, _, _, by omega, Nat.le_refl _, by go_num, rfl, rfl, rfl, HE6.out, HE7.out, HE8.out, HF.out⟩)
    · obtain rfl : k = L.length := by omega
      have hFL : Hid (flt L = if L.length = 0 ∨ 4 < L.length then 3 else if K then 1 else if G then 2 else if A then 4 else 0) := by
        show _ = _
        unfold flt
        rw [HK.out, HG.out, HA.out, List.take_of_length_le (Nat.le_refl _)]
      clear HK HG HA
      by_cases h0 : L.length = 0
      · have hd0 : ((L.length : Int) == 0) = true := by rw [beq_iff_eq]; omega
        have HV : Hid (flt L = 3) := by show _ = _; rw [hFL.out, if_pos (.inl h0)]
        clear hFL
        go_wp2
        go_ret
        exact ⟨by rw [HV.out]; rfl, HB.out⟩
      · have hd0 : ((L.length : Int) == 0) = false := by rw [beq_eq_false_iff_ne]; omega
        by_cases h4 : 4 < L.length
        · have HV : Hid (flt L = 3) := by show _ = _; rw [hFL.out, if_pos (.inr h4)]
          clear hFL
          go_wp2
          go_ret
          exact ⟨by rw [HV.out]; rfl, HB.out⟩
        · have HV : Hid (flt L = if K then 1 else if G then 2 else if A then 4 else 0) := by show _ = _; rw [hFL.out, if_neg (fun h => h.elim h0 h4)]
          clear hFL
          cases K
          · cases G
            · cases A
              · go_wp2
                go_ret
                exact ⟨by rw [HV.out]; rfl, HB.out⟩
              · go_wp2
                go_ret
                exact ⟨by rw [HV.out]; rfl, HB.out⟩
            · go_wp2
              go_ret
              exact ⟨by rw [HV.out]; rfl, HB.out⟩
          · go_wp2
            go_ret
            exact ⟨by rw [HV.out]; rfl, HB.out⟩
end Go.Proofs.YtojdkfamihlnkaaGreatDoor
