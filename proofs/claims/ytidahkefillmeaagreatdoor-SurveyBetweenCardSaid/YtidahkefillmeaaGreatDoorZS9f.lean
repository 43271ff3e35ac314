/-
  Stretches: the longest ranges of neighbouring positions with a property, as the program collects them and as the reference does.
-/
import Derived.Test.YtidahkefillmeaaGreatDoorZIa
set_option linter.all false
namespace Go.Proofs.YtidahkefillmeaaGreatDoor
open Go Go.RowKit
abbrev Ran := Int × Int
def ext (i : Int) : List Ran → List Ran
  | [] => [(i, i)]
  | [x] => if x.2 = i - 1 then [(x.1, i)] else [x, (i, i)]
  | x :: y :: r => x :: ext i (y :: r)
def apart (i : Int) : List Ran → Prop
  | [] => True
  | [x] => x.2 < i - 1
  | _ :: y :: r => apart i (y :: r)
/-! ### What the ranges are -/
def mem (j : Int) (A : List Ran) : Prop := ∃ r ∈ A, r.1 ≤ j ∧ j ≤ r.2
end Go.Proofs.YtidahkefillmeaaGreatDoor
