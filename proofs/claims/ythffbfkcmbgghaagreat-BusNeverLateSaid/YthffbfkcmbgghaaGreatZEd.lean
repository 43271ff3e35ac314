/-
  Elements as cells (written by tools/lift.py).
-/
import Derived.Test.YthffbfkcmbgghaaGreatZEc
import Derived.Test.YthffbfkcmbgghaaGreatProg
set_option linter.all false
namespace Go.Proofs.YthffbfkcmbgghaaGreat
open Go Go.RowKit
theorem mixed : Tryz.prog.follows .mixedOrders = true := by kernel_rfl
namespace Cm
@[reducible] noncomputable def vals (ns : List Int) (Ls : List (List Value)) : Val := valsP Tryz.prog ns Ls
def enI (x : Int) : List Value := [.int .i64 x]
theorem enI_len (x : Int) : (enI x).length = 1 ∧ ∀ u ∈ enI x, u.oneCell' = true := ⟨rfl, List.forall_mem_cons.2 ⟨rfl, fun _ h => nomatch h⟩⟩
def enSIII (x : Int × Int × Int × Int) : List Value := [.string (strOf x.1), .int .i64 x.2.1, .int .i64 x.2.2.1, .int .i64 x.2.2.2]
theorem enSIII_len (x : Int × Int × Int × Int) : (enSIII x).length = 4 ∧ ∀ u ∈ enSIII x, u.oneCell' = true := ⟨rfl, List.forall_mem_cons.2 ⟨rfl, List.forall_mem_cons.2 ⟨rfl, List.forall_mem_cons.2 ⟨rfl, List.forall_mem_cons.2 ⟨rfl, fun _ h => nomatch h⟩⟩⟩⟩⟩
def enS (x : Int) : List Value := [.string (strOf x)]
theorem enS_len (x : Int) : (enS x).length = 1 ∧ ∀ u ∈ enS x, u.oneCell' = true := ⟨rfl, List.forall_mem_cons.2 ⟨rfl, fun _ h => nomatch h⟩⟩
def enSIIIII (x : Int × Int × Int × Int × Int × Int) : List Value := [.string (strOf x.1), .int .i64 x.2.1, .int .i64 x.2.2.1, .int .i64 x.2.2.2.1, .int .i64 x.2.2.2.2.1, .int .i64 x.2.2.2.2.2]
theorem enSIIIII_len (x : Int × Int × Int × Int × Int × Int) : (enSIIIII x).length = 6 ∧ ∀ u ∈ enSIIIII x, u.oneCell' = true := ⟨rfl, List.forall_mem_cons.2 ⟨rfl, List.forall_mem_cons.2 ⟨rfl, List.forall_mem_cons.2 ⟨rfl, List.forall_mem_cons.2 ⟨rfl, List.forall_mem_cons.2 ⟨rfl, List.forall_mem_cons.2 ⟨rfl, fun _ h => nomatch h⟩⟩⟩⟩⟩⟩⟩
end Cm
end Go.Proofs.YthffbfkcmbgghaaGreat
