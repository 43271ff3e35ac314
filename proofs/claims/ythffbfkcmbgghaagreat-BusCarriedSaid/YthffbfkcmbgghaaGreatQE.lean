/-
  Walks of the rules for all chapters: limits, orders, the first of errors, the error of a range.
-/
import Derived.Test.YthffbfkcmbgghaaGreatQB
import Derived.Test.YthffbfkcmbgghaaGreatQC
import Derived.Test.YthffbfkcmbgghaaGreatQA
set_option linter.all false
namespace Go.Proofs.YthffbfkcmbgghaaGreat
open Go.RowKit Go.Shelf
attribute [local go_sem] monoUpon_value monoUpon_skip monoUpon_enter
end Go.Proofs.YthffbfkcmbgghaaGreat

namespace Go.Proofs.YthffbfkcmbgghaaGreat
open Go.RowKit Go.Shelf
attribute [local go_sem] monoUpon_value monoUpon_skip monoUpon_enter
end Go.Proofs.YthffbfkcmbgghaaGreat
