/-
  Elements as cells (written by tools/lift.py).
-/
import Derived.Test.YtlfmdkmjfokgbaaGreatDoorZEc
import Derived.Test.YtlfmdkmjfokgbaaGreatDoorProg
set_option linter.all false
namespace Go.Proofs.YtlfmdkmjfokgbaaGreatDoor
open Go Go.RowKit
theorem mixed : Tryz.prog.follows .mixedOrders = true := by kernel_rfl
namespace Cm
@[reducible] noncomputable def vals (ns : List Int) (Ls : List (List Value)) : Val := valsP Tryz.prog ns Ls
def enI (x : Int) : List Value := [.int .i64 x]
theorem enI_len (x : Int) : (enI x).length = 1 ∧ ∀ u ∈ enI x, u.oneCell' = true := ⟨rfl, List.forall_mem_cons.2 ⟨rfl, fun _ h => nomatch h⟩⟩
def enIII (x : Int × Int × Int) : List Value := [.int .i64 x.1, .int .i64 x.2.1, .int .i64 x.2.2]
theorem enIII_len (x : Int × Int × Int) : (enIII x).length = 3 ∧ ∀ u ∈ enIII x, u.oneCell' = true := ⟨rfl, List.forall_mem_cons.2 ⟨rfl, List.forall_mem_cons.2 ⟨rfl, List.forall_mem_cons.2 ⟨rfl, fun _ h => nomatch h⟩⟩⟩⟩
def enS (x : Int) : List Value := [.string (strOf x)]
theorem enS_len (x : Int) : (enS x).length = 1 ∧ ∀ u ∈ enS x, u.oneCell' = true := ⟨rfl, List.forall_mem_cons.2 ⟨rfl, fun _ h => nomatch h⟩⟩
def enIIIIB (x : Int × Int × Int × Int × Bool) : List Value := [.int .i64 x.1, .int .i64 x.2.1, .int .i64 x.2.2.1, .int .i64 x.2.2.2.1, .bool (bI x.2.2.2.2 != 0)]
theorem enIIIIB_len (x : Int × Int × Int × Int × Bool) : (enIIIIB x).length = 5 ∧ ∀ u ∈ enIIIIB x, u.oneCell' = true := ⟨rfl, List.forall_mem_cons.2 ⟨rfl, List.forall_mem_cons.2 ⟨rfl, List.forall_mem_cons.2 ⟨rfl, List.forall_mem_cons.2 ⟨rfl, List.forall_mem_cons.2 ⟨rfl, fun _ h => nomatch h⟩⟩⟩⟩⟩⟩
end Cm
end Go.Proofs.YtlfmdkmjfokgbaaGreatDoor
