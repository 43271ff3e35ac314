/-
  Walks of chapter 1's pulls: the iterator over pulls, which ranges over the iterator of lifts.
-/
import Derived.Test.YthffbfkcmbgghaaGreatZLi
import Derived.Test.YthffbfkcmbgghaaGreatQB
set_option linter.all false
namespace Go.Proofs.YthffbfkcmbgghaaGreat
open Go.RowKit Go.Shelf
attribute [local go_sem] Oper.semAt_some wide_fn wide_depth round_fn round_depth
end Go.Proofs.YthffbfkcmbgghaaGreat
