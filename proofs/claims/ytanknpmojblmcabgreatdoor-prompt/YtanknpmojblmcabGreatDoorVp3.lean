/-
  CdY, put together.
-/
import Derived.Test.YtanknpmojblmcabGreatDoorVp2
import Derived.Test.YtanknpmojblmcabGreatDoorVp1
/-
  Prompt: the card.
-/
namespace Go.Proofs.YtanknpmojblmcabGreatDoor
theorem prompt_card : Rows.PromptCardSaid := prompt_over Prompt_walk
end Go.Proofs.YtanknpmojblmcabGreatDoor
