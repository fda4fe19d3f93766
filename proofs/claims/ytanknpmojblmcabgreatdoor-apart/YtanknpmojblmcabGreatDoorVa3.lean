/-
  CdAx, put together.
-/
import Derived.Test.YtanknpmojblmcabGreatDoorVa2
import Derived.Test.YtanknpmojblmcabGreatDoorVa1
/-
  Apart: for every input it returns true, and the input reads as it did; the listed tables are tied to the program's text by the given tie (of the pruned copy), and the walk asks nothing of them.
-/
namespace Go.Proofs.YtanknpmojblmcabGreatDoor
theorem apart_card : Rows.ApartCardSaid := apart_over Apart_walk
end Go.Proofs.YtanknpmojblmcabGreatDoor
