/-
  DERIVED. GIVEN WITH THE SEED: THE CARDS: each row of YtckjkmhkkmiofaaGreatDoorRows.lean that lists a variable, with what it lists TIED to the program's text (the seventh form; the later family's looks); each row that meets fmt, with fmt's text TOLD by the authors' own Lean function (tested against real Go, not proved from fmt's source: count such statements apart). THE CARD IS WHAT COUNTS. Prove the row's statement (the work); the ties are given (YtckjkmhkkmiofaaGreatDoorTie.lean); close each card by the builder's one call (the guide's Derived/Test/ToyasCard.lean, 'card_holds'). Laid BY PROGRAM, IN A SANDBOX (cutbox-door.mjs). By AI agents, Wed Nov 11 2026. No macro, syntax, notation, axiom, sorry.
-/
import Derived.Test.YtckjkmhkkmiofaaGreatDoorRows
import GoSem.ClaimSeven
namespace Go.Proofs.YtckjkmhkkmiofaaGreatDoor
namespace Rows

/-- THE TIED CARD OF 'batchkeep.Cut'. -/
def cutCard : Claim7 := { stood := { row := cutRow, standIns := [], harness := (true, "d10983b285ecd49ba1649de4af5e52ce13350ce70ea9e32aecf0a40670db98d3"), looks := false }, kinds := [], alts := [], laidByText := true, laidKinds := [.data, .data, .data], laidTests := true, laidLooks := .later }
def CutCardSaid : Prop := Claim7.holds Tryz.pinned (.plain (OpenSpec.ofChange cutSpec)) cutCard

/-- THE SECOND FORM's CARD OF 'batchkeep.Cut'. -/
def cutUptoCard : Claim7 := { stood := { row := cutUptoRow, standIns := [], harness := (true, "d10983b285ecd49ba1649de4af5e52ce13350ce70ea9e32aecf0a40670db98d3"), looks := false }, kinds := [], alts := [], laidByText := true, laidKinds := [.data, .data, .data], laidTests := true, laidLooks := .later }
def CutUptoCardSaid : Prop := Claim7.holds Tryz.pinned (.plain (OpenSpec.upto cutSpec)) cutUptoCard
end Rows
end Go.Proofs.YtckjkmhkkmiofaaGreatDoor
