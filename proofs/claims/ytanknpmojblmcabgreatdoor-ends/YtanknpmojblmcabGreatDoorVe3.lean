/-
  CdEx, put together.
-/
import Derived.Test.YtanknpmojblmcabGreatDoorVe2
import Derived.Test.YtanknpmojblmcabGreatDoorVe1
/-
  Ends: the card.
-/
namespace Go.Proofs.YtanknpmojblmcabGreatDoor
theorem ends_card : Rows.EndsCardSaid := ends_over Ends_walk
end Go.Proofs.YtanknpmojblmcabGreatDoor
