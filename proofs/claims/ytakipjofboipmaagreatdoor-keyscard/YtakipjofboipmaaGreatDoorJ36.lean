/- From a call that stays alone to a row that says 'leaving'. -/
import Derived.Test.YtakipjofboipmaaGreatDoorJ1
import Derived.Handed
namespace Go.Proofs.YtakipjofboipmaaGreatDoor

/-- Whoever is alone at the return leaves nobody behind. -/
theorem leaving_of_alone {P : Program} {last : Machine} {w : World} {t : Trace} (h : aloneAtReturn P last w t) : leavingAtReturn P last w t := by
  obtain ⟨hq, h1, h2⟩ := h
  refine ⟨h1, ⟨fun g hg => ?_, ?_⟩, h2⟩
  · have := List.all_eq_true.1 hq.1 g hg
    exact ⟨0, by simpa [Goroutine.LeavesIn] using this⟩
  · exact hq.2

theorem holds_leaving {p : Pinned} {s : OpenSpec} {c : OpenClaim} (hstart : c.start = .entering) (hstops : c.stops = []) (hw : c.wf s = true) (hl : c.leaving = true) (h : ({ c with leaving := false } : OpenClaim).holds p s) : c.holds p s := by
  obtain ⟨_, a2, a3, a4, a5, a6, a7, a8, f, fn, b1, b2, b3, b4, b5, b6, b7, b8, b9, b10, b11, b12, b13, b14, b15, b16, b17, b18, b19, b20, b21, L, hL, hf⟩ := h
  refine ⟨hw, a2, a3, a4, a5, a6, a7, a8, f, fn, b1, b2, b3, b4, b5, b6, b7, b8, b9, b10, b11, b12, b13, b14, b15, b16, b17, b18, b19, b20, b21, L, hL, fun os o1 o2 H enc inj => ?_⟩
  have hh := hf os o1 o2 H enc inj
  unfold OpenClaim.form at hh ⊢
  simp only [hstart, hstops] at hh ⊢
  intro F
  have e1 : c.atReturn p.checked.prog = leavingAtReturn p.checked.prog := by unfold OpenClaim.atReturn; rw [hl]
  rw [e1]
  exact ReturnsInOpen.mono (fun _ _ _ h => leaving_of_alone h) (fun _ h => h) (hh F)
end Go.Proofs.YtakipjofboipmaaGreatDoor
