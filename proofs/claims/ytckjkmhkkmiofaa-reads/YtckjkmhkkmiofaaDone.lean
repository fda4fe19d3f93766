/-
  Read keeps the document: what the program's Read answers is what the document's answer is, at every text.
-/
import Derived.Test.YtckjkmhkkmiofaaFin
import Derived.Test.YtckjkmhkkmiofaaMathH
import Derived.Test.YtckjkmhkkmiofaaMathP
set_option linter.unusedSimpArgs false
set_option linter.unusedVariables false
namespace Go.Proofs.Ytckjkmhkkmiofaa

theorem reads_holds : Rows.ReadsSaid := over (agree_of plain_thm)

end Go.Proofs.Ytckjkmhkkmiofaa
