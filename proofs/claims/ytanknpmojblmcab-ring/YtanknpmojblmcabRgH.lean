/-
  For every three numbers Ring returns true, and they read as they did. No condition.
-/
import Derived.Test.YtanknpmojblmcabRgE
set_option linter.unusedVariables false
namespace Go.Proofs.Ytanknpmojblmcab

theorem ring_holds : Rows.RingSaid := ring_over (fun a b c h1 h2 h3 h4 h5 h6 w => Ring_walk a b c h1 h2 h3 h4 h5 h6 w)

end Go.Proofs.Ytanknpmojblmcab
