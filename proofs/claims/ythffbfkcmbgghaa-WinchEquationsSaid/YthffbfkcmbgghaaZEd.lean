/-
  Elements as cells (written by tools/lift.py).
-/
import Derived.Test.YthffbfkcmbgghaaZEc
import Derived.Test.YthffbfkcmbgghaaProg
set_option linter.all false
namespace Go.Proofs.Ythffbfkcmbgghaa
open Go Go.RowKit
theorem mixed : Try.prog.follows .mixedOrders = true := by kernel_rfl
namespace Cm
@[reducible] noncomputable def vals (ns : List Int) (Ls : List (List Value)) : Val := valsP Try.prog ns Ls
def enI (x : Int) : List Value := [.int .i64 x]
theorem enI_len (x : Int) : (enI x).length = 1 ∧ ∀ u ∈ enI x, u.oneCell' = true := ⟨rfl, List.forall_mem_cons.2 ⟨rfl, fun _ h => nomatch h⟩⟩
end Cm
end Go.Proofs.Ythffbfkcmbgghaa
