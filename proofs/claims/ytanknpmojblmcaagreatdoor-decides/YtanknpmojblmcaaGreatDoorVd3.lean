/-
  CdDx, put together.
-/
import Derived.Test.YtanknpmojblmcaaGreatDoorVd2
import Derived.Test.YtanknpmojblmcaaGreatDoorVd1
/-
  Decides: for every input it returns true, and the input reads as it did; the listed tables are tied to the program's text by the given tie (of the pruned copy), and the walk asks nothing of them.
-/
namespace Go.Proofs.YtanknpmojblmcaaGreatDoor
theorem decides_card : Rows.DecidesCardSaid := decides_over Decides_walk
end Go.Proofs.YtanknpmojblmcaaGreatDoor
