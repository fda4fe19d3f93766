/-
  CdX, put together.
-/
import Derived.Test.YtanknpmojblmcabGreatDoorVw2
import Derived.Test.YtanknpmojblmcabGreatDoorVw1
/-
  Within: the card.
-/
namespace Go.Proofs.YtanknpmojblmcabGreatDoor
theorem within_card : Rows.WithinCardSaid := within_over Within_walk
end Go.Proofs.YtanknpmojblmcabGreatDoor
