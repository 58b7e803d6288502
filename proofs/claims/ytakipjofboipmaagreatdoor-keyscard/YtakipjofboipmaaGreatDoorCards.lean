/-
  DERIVED. GIVEN WITH THE SEED: THE CARDS: each row of YtakipjofboipmaaGreatDoorRows.lean that lists a variable, with what it lists TIED to the program's text (the seventh form; the later family's looks); each row that meets fmt, with fmt's text TOLD by the authors' own Lean function (tested against real Go, not proved from fmt's source: count such statements apart). THE CARD IS WHAT COUNTS. Prove the row's statement (the work); the ties are given (YtakipjofboipmaaGreatDoorTie.lean); close each card by the builder's one call (the guide's Derived/Test/ToyasCard.lean, 'card_holds'). Laid BY PROGRAM, IN A SANDBOX (cutbox-door.mjs). By AI agents, Wed Nov 11 2026. No macro, syntax, notation, axiom, sorry.
-/
import Derived.Test.YtakipjofboipmaaGreatDoorRows
import GoSem.ClaimSeven
namespace Go.Proofs.YtakipjofboipmaaGreatDoor
namespace Rows

/-- THE TIED CARD OF 'silolaw.Keys'. -/
def keysCard : Claim7 := { stood := { row := keysRow, standIns := [], harness := (true, "00ce82f6c8c50ddc6e04eb37b9cf2666731480f0cf979a72d598ccc7faac534b"), looks := false }, kinds := [], alts := [], goes := true, laidByText := true, laidKinds := [.data, .data, .data], laidTests := true, laidLooks := .later }
def KeysCardSaid : Prop := Claim7.holds Tryz.pinned (.plain (OpenSpec.ofChange keysSpec)) keysCard

/-- THE TIED CARD OF 'silolaw.Levels'. -/
def levelsCard : Claim7 := { stood := { row := levelsRow, standIns := [], harness := (true, "00ce82f6c8c50ddc6e04eb37b9cf2666731480f0cf979a72d598ccc7faac534b"), looks := false }, kinds := [], alts := [], goes := true, laidByText := true, laidKinds := [.data, .data, .data], laidTests := true, laidLooks := .later }
def LevelsCardSaid : Prop := Claim7.holds Tryz.pinned (.plain (OpenSpec.ofChange levelsSpec)) levelsCard

/-- THE TIED CARD OF 'silolaw.Lasts'. -/
def lastsCard : Claim7 := { stood := { row := lastsRow, standIns := [], harness := (true, "00ce82f6c8c50ddc6e04eb37b9cf2666731480f0cf979a72d598ccc7faac534b"), looks := false }, kinds := [], alts := [], goes := true, laidByText := true, laidKinds := [.data, .data, .data], laidTests := true, laidLooks := .later }
def LastsCardSaid : Prop := Claim7.holds Tryz.pinned (.plain (OpenSpec.ofChange lastsSpec)) lastsCard
end Rows
end Go.Proofs.YtakipjofboipmaaGreatDoor
