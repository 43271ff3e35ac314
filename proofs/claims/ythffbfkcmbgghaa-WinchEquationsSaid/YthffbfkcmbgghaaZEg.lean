/-
  The clean machine: calls of what is known, evaluated whole.
-/
import Derived.Test.YthffbfkcmbgghaaZEc
import Derived.Test.YthffbfkcmbgghaaZEd
set_option linter.all false
namespace Go.Proofs.Ythffbfkcmbgghaa.Cm
open Go Go.RowKit
end Go.Proofs.Ythffbfkcmbgghaa.Cm
namespace Go.Proofs.Ythffbfkcmbgghaa
open Go Go.RowKit
abbrev ys (n : Nat) : Cm.CV := .sym .i64 (.v n)
theorem lnil {α : Type} (l : List α) : l = l ++ [] := (List.append_nil l).symm
abbrev KO (P : Program) (X : List Int) (Y : List (List Value)) (K : Cm.KE) : Prop := ∀ N M, ∃ v x q, Cm.KE.ok P (Cm.vals (X ++ N) (Y ++ M)) K v x q
abbrev ns (a b : Nat) : Cm.Eqn := .num (.v a) (.v b)
end Go.Proofs.Ythffbfkcmbgghaa
