/-
  Elements as cells (written by tools/lift.py).
-/
import Derived.Test.YtidahkefillmeaaGreatDoorZEc
import Derived.Test.YtidahkefillmeaaGreatDoorProg
set_option linter.all false
namespace Go.Proofs.YtidahkefillmeaaGreatDoor
open Go Go.RowKit
theorem mixed : Tryz.prog.follows .mixedOrders = true := by kernel_rfl
namespace Cm
def enI (x : Int) : List Value := [.int .i64 x]
theorem enI_len (x : Int) : (enI x).length = 1 ∧ ∀ u ∈ enI x, u.oneCell' = true := ⟨rfl, List.forall_mem_cons.2 ⟨rfl, fun _ h => nomatch h⟩⟩
def enIIII (x : Int × Int × Int × Int) : List Value := [.int .i64 x.1, .int .i64 x.2.1, .int .i64 x.2.2.1, .int .i64 x.2.2.2]
theorem enIIII_len (x : Int × Int × Int × Int) : (enIIII x).length = 4 ∧ ∀ u ∈ enIIII x, u.oneCell' = true := ⟨rfl, List.forall_mem_cons.2 ⟨rfl, List.forall_mem_cons.2 ⟨rfl, List.forall_mem_cons.2 ⟨rfl, List.forall_mem_cons.2 ⟨rfl, fun _ h => nomatch h⟩⟩⟩⟩⟩
end Cm
end Go.Proofs.YtidahkefillmeaaGreatDoor
