/-
  Read keeps the document: what the program's Read answers is what the document's answer is, at every text.
-/
import Derived.Test.YtanknpmojblmcaaFin
import Derived.Test.YtanknpmojblmcaaMathH
import Derived.Test.YtanknpmojblmcaaMathP
set_option linter.unusedSimpArgs false
set_option linter.unusedVariables false
namespace Go.Proofs.Ytanknpmojblmcaa

theorem reads_holds : Rows.ReadsSaid := over (agree_of plain_thm)

end Go.Proofs.Ytanknpmojblmcaa
