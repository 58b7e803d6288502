/-
  DERIVED. GIVEN WITH THE SEED: THE CARDS: each row of YtojdkfamihlnkaaGreatDoorRows.lean that lists a variable, with what it lists TIED to the program's text (the seventh form; the later family's looks); each row that meets fmt, with fmt's text TOLD by the authors' own Lean function (tested against real Go, not proved from fmt's source: count such statements apart). THE CARD IS WHAT COUNTS. Prove the row's statement (the work); the ties are given (YtojdkfamihlnkaaGreatDoorTie.lean); close each card by the builder's one call (the guide's Derived/Test/ToyasCard.lean, 'card_holds'). Laid BY PROGRAM, IN A SANDBOX (cutbox-door.mjs). By AI agents, Wed Nov 11 2026. No macro, syntax, notation, axiom, sorry.
-/
import Derived.Test.YtojdkfamihlnkaaGreatDoorRows
import GoSem.ClaimSeven
namespace Go.Proofs.YtojdkfamihlnkaaGreatDoor
namespace Rows

/-- THE TIED CARD OF 'silolaw.Keys'. -/
def keysCard : Claim7 := { stood := { row := keysRow, standIns := [], harness := (true, "302150739074613b4b4621824ba75b601c1568e7b840ae763e27d7cb37e0b1a6"), looks := false }, kinds := [], alts := [], laidByText := true, laidKinds := [.data, .data, .data], laidTests := true, laidLooks := .later }
def KeysCardSaid : Prop := Claim7.holds Tryz.pinned (.plain (OpenSpec.ofChange keysSpec)) keysCard

/-- THE SECOND FORM's CARD OF 'silolaw.Keys'. -/
def keysUptoCard : Claim7 := { stood := { row := keysUptoRow, standIns := [], harness := (true, "302150739074613b4b4621824ba75b601c1568e7b840ae763e27d7cb37e0b1a6"), looks := false }, kinds := [], alts := [], laidByText := true, laidKinds := [.data, .data, .data], laidTests := true, laidLooks := .later }
def KeysUptoCardSaid : Prop := Claim7.holds Tryz.pinned (.plain (OpenSpec.upto keysSpec)) keysUptoCard
end Rows
end Go.Proofs.YtojdkfamihlnkaaGreatDoor
