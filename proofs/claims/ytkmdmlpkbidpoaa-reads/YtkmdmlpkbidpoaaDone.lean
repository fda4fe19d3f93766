/-
  Read keeps the document: what the program's Read answers is what the document's answer is, at every text.
-/
import Derived.Test.YtkmdmlpkbidpoaaFin
import Derived.Test.YtkmdmlpkbidpoaaMathH
import Derived.Test.YtkmdmlpkbidpoaaMathP
set_option linter.unusedSimpArgs false
set_option linter.unusedVariables false
namespace Go.Proofs.Ytkmdmlpkbidpoaa

theorem reads_holds : Rows.ReadsSaid := over (agree_of plain_thm)

end Go.Proofs.Ytkmdmlpkbidpoaa
