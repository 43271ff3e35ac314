/-
  Walks of chapter 1's bends of a line.
-/
import Derived.Test.YthffbfkcmbgghaaGreatQJ
import Derived.Test.YthffbfkcmbgghaaGreatQI
import Derived.Test.YthffbfkcmbgghaaGreatQH
set_option linter.all false
namespace Go.Proofs.YthffbfkcmbgghaaGreat
open Go.RowKit Go.Shelf
attribute [local go_sem] monoUpon_value monoUpon_skip monoUpon_enter
def bendsF : List (Int × Int) → List (Int × Int)
  | a :: b :: r => bend a b :: bendsF (b :: r)
  | _ => []
def bends (l : Ln) (c : List Int) : List (Int × Int) := bendsF (tensions l c)
end Go.Proofs.YthffbfkcmbgghaaGreat

namespace Go.Proofs.YthffbfkcmbgghaaGreat
open Go.RowKit Go.Shelf
end Go.Proofs.YthffbfkcmbgghaaGreat

namespace Go.Proofs.YthffbfkcmbgghaaGreat
open Go.RowKit Go.Shelf
end Go.Proofs.YthffbfkcmbgghaaGreat

namespace Go.Proofs.YthffbfkcmbgghaaGreat
open Go.RowKit Go.Shelf
end Go.Proofs.YthffbfkcmbgghaaGreat
