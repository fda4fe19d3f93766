/-
  CdFx, put together.
-/
import Derived.Test.YtanknpmojblmcabGreatDoorVf2
import Derived.Test.YtanknpmojblmcabGreatDoorVf1
/-
  Firm: for every input it returns true, and the input reads as it did; the listed tables are tied to the program's text by the given tie (of the pruned copy), and the walk asks nothing of them.
-/
namespace Go.Proofs.YtanknpmojblmcabGreatDoor
theorem firm_card : Rows.FirmCardSaid := firm_over Firm_walk
end Go.Proofs.YtanknpmojblmcabGreatDoor
