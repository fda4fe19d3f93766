/-
  DERIVED. GIVEN WITH THE SEED: THE CARDS: each row of YtanknpmojblmcabGreatDoorRows.lean that lists a variable, with what it lists TIED to the program's text (the seventh form; the later family's looks); each row that meets fmt, with fmt's text TOLD by the authors' own Lean function (tested against real Go, not proved from fmt's source: count such statements apart). THE CARD IS WHAT COUNTS. Prove the row's statement (the work); the ties are given (YtanknpmojblmcabGreatDoorTie.lean); close each card by the builder's one call (the guide's Derived/Test/ToyasCard.lean, 'card_holds'). Laid BY PROGRAM, IN A SANDBOX (cutbox-door.mjs). By AI agents, Wed Nov 11 2026. No macro, syntax, notation, axiom, sorry.
-/
import Derived.Test.YtanknpmojblmcabGreatDoorRows
import GoSem.ClaimSeven
namespace Go.Proofs.YtanknpmojblmcabGreatDoor
namespace Rows

/-- THE TIED CARD OF 'batchkeep.Within'. -/
def withinCard : Claim7 := { stood := { row := withinRow, standIns := [], harness := (true, "9d69981c0c77c175477abe154502e1215bad75de73c59823f81bde16ce5df66a"), looks := false }, kinds := [], alts := [], laidByText := true, laidKinds := [.data, .data, .data], laidTests := true, laidLooks := .later }
def WithinCardSaid : Prop := Claim7.holds Tryz.pinned (.plain (OpenSpec.ofChange withinSpec)) withinCard

/-- THE TIED CARD OF 'batchkeep.Prompt'. -/
def promptCard : Claim7 := { stood := { row := promptRow, standIns := [], harness := (true, "9d69981c0c77c175477abe154502e1215bad75de73c59823f81bde16ce5df66a"), looks := false }, kinds := [], alts := [], laidByText := true, laidKinds := [.data, .data, .data], laidTests := true, laidLooks := .later }
def PromptCardSaid : Prop := Claim7.holds Tryz.pinned (.plain (OpenSpec.ofChange promptSpec)) promptCard

/-- THE TIED CARD OF 'batchkeep.Tight'. -/
def tightCard : Claim7 := { stood := { row := tightRow, standIns := [], harness := (true, "9d69981c0c77c175477abe154502e1215bad75de73c59823f81bde16ce5df66a"), looks := false }, kinds := [], alts := [], laidByText := true, laidKinds := [.data, .data, .data], laidTests := true, laidLooks := .later }
def TightCardSaid : Prop := Claim7.holds Tryz.pinned (.plain (OpenSpec.ofChange tightSpec)) tightCard

/-- THE TIED CARD OF 'batchkeep.Firm'. -/
def firmCard : Claim7 := { stood := { row := firmRow, standIns := [], harness := (true, "9d69981c0c77c175477abe154502e1215bad75de73c59823f81bde16ce5df66a"), looks := false }, kinds := [], alts := [], laidByText := true, laidKinds := [.data, .data, .data], laidTests := true, laidLooks := .later }
def FirmCardSaid : Prop := Claim7.holds Tryz.pinned (.plain (OpenSpec.ofChange firmSpec)) firmCard

/-- THE TIED CARD OF 'batchkeep.Ends'. -/
def endsCard : Claim7 := { stood := { row := endsRow, standIns := [], harness := (true, "9d69981c0c77c175477abe154502e1215bad75de73c59823f81bde16ce5df66a"), looks := false }, kinds := [], alts := [], laidByText := true, laidKinds := [.data, .data, .data], laidTests := true, laidLooks := .later }
def EndsCardSaid : Prop := Claim7.holds Tryz.pinned (.plain (OpenSpec.ofChange endsSpec)) endsCard

/-- THE TIED CARD OF 'batchkeep.Apart'. -/
def apartCard : Claim7 := { stood := { row := apartRow, standIns := [], harness := (true, "9d69981c0c77c175477abe154502e1215bad75de73c59823f81bde16ce5df66a"), looks := false }, kinds := [], alts := [], laidByText := true, laidKinds := [.data, .data, .data], laidTests := true, laidLooks := .later }
def ApartCardSaid : Prop := Claim7.holds Tryz.pinned (.plain (OpenSpec.ofChange apartSpec)) apartCard

/-- THE SECOND FORM's CARD OF 'batchkeep.Within'. -/
def withinUptoCard : Claim7 := { stood := { row := withinUptoRow, standIns := [], harness := (true, "9d69981c0c77c175477abe154502e1215bad75de73c59823f81bde16ce5df66a"), looks := false }, kinds := [], alts := [], laidByText := true, laidKinds := [.data, .data, .data], laidTests := true, laidLooks := .later }
def WithinUptoCardSaid : Prop := Claim7.holds Tryz.pinned (.plain (OpenSpec.upto withinSpec)) withinUptoCard

/-- THE SECOND FORM's CARD OF 'batchkeep.Prompt'. -/
def promptUptoCard : Claim7 := { stood := { row := promptUptoRow, standIns := [], harness := (true, "9d69981c0c77c175477abe154502e1215bad75de73c59823f81bde16ce5df66a"), looks := false }, kinds := [], alts := [], laidByText := true, laidKinds := [.data, .data, .data], laidTests := true, laidLooks := .later }
def PromptUptoCardSaid : Prop := Claim7.holds Tryz.pinned (.plain (OpenSpec.upto promptSpec)) promptUptoCard

/-- THE SECOND FORM's CARD OF 'batchkeep.Tight'. -/
def tightUptoCard : Claim7 := { stood := { row := tightUptoRow, standIns := [], harness := (true, "9d69981c0c77c175477abe154502e1215bad75de73c59823f81bde16ce5df66a"), looks := false }, kinds := [], alts := [], laidByText := true, laidKinds := [.data, .data, .data], laidTests := true, laidLooks := .later }
def TightUptoCardSaid : Prop := Claim7.holds Tryz.pinned (.plain (OpenSpec.upto tightSpec)) tightUptoCard

/-- THE SECOND FORM's CARD OF 'batchkeep.Firm'. -/
def firmUptoCard : Claim7 := { stood := { row := firmUptoRow, standIns := [], harness := (true, "9d69981c0c77c175477abe154502e1215bad75de73c59823f81bde16ce5df66a"), looks := false }, kinds := [], alts := [], laidByText := true, laidKinds := [.data, .data, .data], laidTests := true, laidLooks := .later }
def FirmUptoCardSaid : Prop := Claim7.holds Tryz.pinned (.plain (OpenSpec.upto firmSpec)) firmUptoCard

/-- THE SECOND FORM's CARD OF 'batchkeep.Ends'. -/
def endsUptoCard : Claim7 := { stood := { row := endsUptoRow, standIns := [], harness := (true, "9d69981c0c77c175477abe154502e1215bad75de73c59823f81bde16ce5df66a"), looks := false }, kinds := [], alts := [], laidByText := true, laidKinds := [.data, .data, .data], laidTests := true, laidLooks := .later }
def EndsUptoCardSaid : Prop := Claim7.holds Tryz.pinned (.plain (OpenSpec.upto endsSpec)) endsUptoCard

/-- THE SECOND FORM's CARD OF 'batchkeep.Apart'. -/
def apartUptoCard : Claim7 := { stood := { row := apartUptoRow, standIns := [], harness := (true, "9d69981c0c77c175477abe154502e1215bad75de73c59823f81bde16ce5df66a"), looks := false }, kinds := [], alts := [], laidByText := true, laidKinds := [.data, .data, .data], laidTests := true, laidLooks := .later }
def ApartUptoCardSaid : Prop := Claim7.holds Tryz.pinned (.plain (OpenSpec.upto apartSpec)) apartUptoCard
end Rows
end Go.Proofs.YtanknpmojblmcabGreatDoor
