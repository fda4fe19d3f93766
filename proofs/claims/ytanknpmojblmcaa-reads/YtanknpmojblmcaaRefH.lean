/-
  The document's answer: head as a whole; limit.
-/
import Derived.Test.YtanknpmojblmcaaRefG1
import Derived.Test.YtanknpmojblmcaaRefG2
import Derived.Test.YtanknpmojblmcaaRefG3
import Derived.Test.YtanknpmojblmcaaRefG4
set_option linter.unusedSimpArgs false
set_option linter.unusedVariables false
namespace Go.Proofs.Ytanknpmojblmcaa
open Go.RowKit

theorem refhead_any (T : ByteArray) (f a b : Nat) (w : World) (hT : T.size ≤ 600) (hb : b ≤ T.size) (ha : a + 3 ≤ b) (hok : ∀ p, behO T.data.toList a b kAfter = some p → PlainOK f (cut T.data.toList p b)) :
    Calls Try.prog 28 #[.string T, .int .i64 (a : Int), .int .i64 (b : Int)] w fun e w' => e = .returned (rvV (rhd T.data.toList f a b)) ∧ Below w.heap.size w w' := by
  cases hA : behO T.data.toList a b kArray with
  | none =>
    cases hW : behO T.data.toList a b kAfter with
    | none => exact refhead_nn T f a b w hT hb ha hA hW
    | some pW => exact refhead_nw T f a b pW w hT hb ha hA hW (hok pW hW)
  | some pA =>
    cases hW : behO T.data.toList a b kAfter with
    | none => exact refhead_an T f a b pA w hT hb ha hA hW
    | some pW => exact refhead_aw T f a b pA pW w hT hb ha hA hW (hok pW hW)

end Go.Proofs.Ytanknpmojblmcaa
