/-
  Elements as cells (written by tools/lift.py).
-/
import Derived.Test.YthffbfkcmbgghaaGreatZEc
import Derived.Test.YthffbfkcmbgghaaGreatProg
set_option linter.all false
namespace Go.Proofs.YthffbfkcmbgghaaGreat
open Go Go.RowKit
theorem mixed : Tryz.prog.follows .mixedOrders = true := by kernel_rfl
namespace Cm
@[reducible] noncomputable def vals (ns : List Int) (Ls : List (List Value)) : Val := valsP Tryz.prog ns Ls
def enI (x : Int) : List Value := [.int .i64 x]
theorem enI_len (x : Int) : (enI x).length = 1 ∧ ∀ u ∈ enI x, u.oneCell' = true := ⟨rfl, List.forall_mem_cons.2 ⟨rfl, fun _ h => nomatch h⟩⟩
def enII (x : Int × Int) : List Value := [.int .i64 x.1, .int .i64 x.2]
theorem enII_len (x : Int × Int) : (enII x).length = 2 ∧ ∀ u ∈ enII x, u.oneCell' = true := ⟨rfl, List.forall_mem_cons.2 ⟨rfl, List.forall_mem_cons.2 ⟨rfl, fun _ h => nomatch h⟩⟩⟩
end Cm
end Go.Proofs.YthffbfkcmbgghaaGreat
