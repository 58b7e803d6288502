/- The walks of this proof: pairs and batches out of raw numbers. -/
import Derived.Deep.RegionHeld
import Derived.Test.YtakipjofboipmaaGreatDoorJ21
namespace Go.Proofs.YtakipjofboipmaaGreatDoor
open Go.RowKit Go.Sort

/-- Which of n things a raw number speaks of. -/
def pk (c n : Int) : Int := (if c < 0 then -(c + 1) else c) % n

theorem pk_lt {c n : Int} (h : 0 < n) : 0 ≤ pk c n ∧ pk c n < n := ⟨Int.emod_nonneg _ (by omega), Int.emod_lt_of_pos _ h⟩

end Go.Proofs.YtakipjofboipmaaGreatDoor
