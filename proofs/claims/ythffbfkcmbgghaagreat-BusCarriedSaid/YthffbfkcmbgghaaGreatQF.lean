/-
  Walks of chapter 1's checks of lines and links.
-/
import Derived.Test.YthffbfkcmbgghaaGreatQC
import Derived.Test.YthffbfkcmbgghaaGreatQA
import Derived.Test.YthffbfkcmbgghaaGreatQD
import Derived.Test.YthffbfkcmbgghaaGreatQE
set_option linter.all false
namespace Go.Proofs.YthffbfkcmbgghaaGreat
open Go.RowKit Go.Shelf
attribute [local go_sem] monoUpon_value monoUpon_skip monoUpon_enter
end Go.Proofs.YthffbfkcmbgghaaGreat

namespace Go.Proofs.YthffbfkcmbgghaaGreat
open Go.RowKit
end Go.Proofs.YthffbfkcmbgghaaGreat

namespace Go.Proofs.YthffbfkcmbgghaaGreat
open Go.RowKit
end Go.Proofs.YthffbfkcmbgghaaGreat

namespace Go.Proofs.YthffbfkcmbgghaaGreat
open Go.RowKit Go.Shelf
attribute [local go_sem] Oper.semAt_some wide_fn wide_depth round_fn round_depth
def lifts (l : Ln) : List (Nat × Int) := (List.range l.ks.length).map fun i => (i, (zs l).getD i 0)
end Go.Proofs.YthffbfkcmbgghaaGreat

namespace Go.Proofs.YthffbfkcmbgghaaGreat
open Go.RowKit Go.Shelf
attribute [local go_sem] Oper.semAt_some wide_fn wide_depth round_fn round_depth
end Go.Proofs.YthffbfkcmbgghaaGreat
