/-
  DERIVED. GIVEN WITH THE SEED: THE CARDS: each row of YtanknpmojblmcaaGreatDoorRows.lean that lists a variable, with what it lists TIED to the program's text (the seventh form; the later family's looks); each row that meets fmt, with fmt's text TOLD by the authors' own Lean function (tested against real Go, not proved from fmt's source: count such statements apart). THE CARD IS WHAT COUNTS. Prove the row's statement (the work); the ties are given (YtanknpmojblmcaaGreatDoorTie.lean); close each card by the builder's one call (the guide's Derived/Test/ToyasCard.lean, 'card_holds'). Laid BY PROGRAM, IN A SANDBOX (cutbox-door.mjs). By AI agents, Wed Nov 11 2026. No macro, syntax, notation, axiom, sorry.
-/
import Derived.Test.YtanknpmojblmcaaGreatDoorRows
import GoSem.ClaimSeven
namespace Go.Proofs.YtanknpmojblmcaaGreatDoor
namespace Rows

/-- THE TIED CARD OF 'batchkeep.Cut'. -/
def cutCard : Claim7 := { stood := { row := cutRow, standIns := [], harness := (true, "87504063c8b85587dde0de35eb05001764b1a6b3f02f12634768af99c871847b"), looks := false }, kinds := [], alts := [], laidByText := true, laidKinds := [.data, .data, .data], laidTests := true, laidLooks := .later }
def CutCardSaid : Prop := Claim7.holds Tryz.pinned (.plain (OpenSpec.ofChange cutSpec)) cutCard

/-- THE TIED CARD OF 'batchkeep.Decides'. -/
def decidesCard : Claim7 := { stood := { row := decidesRow, standIns := [], harness := (true, "87504063c8b85587dde0de35eb05001764b1a6b3f02f12634768af99c871847b"), looks := false }, kinds := [], alts := [], laidByText := true, laidKinds := [.data, .data, .data], laidTests := true, laidLooks := .later }
def DecidesCardSaid : Prop := Claim7.holds Tryz.pinned (.plain (OpenSpec.ofChange decidesSpec)) decidesCard

/-- THE SECOND FORM's CARD OF 'batchkeep.Cut'. -/
def cutUptoCard : Claim7 := { stood := { row := cutUptoRow, standIns := [], harness := (true, "87504063c8b85587dde0de35eb05001764b1a6b3f02f12634768af99c871847b"), looks := false }, kinds := [], alts := [], laidByText := true, laidKinds := [.data, .data, .data], laidTests := true, laidLooks := .later }
def CutUptoCardSaid : Prop := Claim7.holds Tryz.pinned (.plain (OpenSpec.upto cutSpec)) cutUptoCard

/-- THE SECOND FORM's CARD OF 'batchkeep.Decides'. -/
def decidesUptoCard : Claim7 := { stood := { row := decidesUptoRow, standIns := [], harness := (true, "87504063c8b85587dde0de35eb05001764b1a6b3f02f12634768af99c871847b"), looks := false }, kinds := [], alts := [], laidByText := true, laidKinds := [.data, .data, .data], laidTests := true, laidLooks := .later }
def DecidesUptoCardSaid : Prop := Claim7.holds Tryz.pinned (.plain (OpenSpec.upto decidesSpec)) decidesUptoCard
end Rows
end Go.Proofs.YtanknpmojblmcaaGreatDoor
