/-
  CdZ, put together.
-/
import Derived.Test.YtanknpmojblmcabGreatDoorVt2
import Derived.Test.YtanknpmojblmcabGreatDoorVt1
/-
  Tight: the card.
-/
namespace Go.Proofs.YtanknpmojblmcabGreatDoor
theorem tight_card : Rows.TightCardSaid := tight_over Tight_walk
end Go.Proofs.YtanknpmojblmcabGreatDoor
