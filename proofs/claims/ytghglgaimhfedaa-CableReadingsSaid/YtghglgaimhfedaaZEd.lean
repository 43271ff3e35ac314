/-
  Elements as cells (written by tools/lift.py).
-/
import Derived.Test.YtghglgaimhfedaaZEc
import Derived.Test.YtghglgaimhfedaaProg
set_option linter.all false
namespace Go.Proofs.Ytghglgaimhfedaa
open Go Go.RowKit

theorem mixed : Try.prog.follows .mixedOrders = true := by kernel_rfl
namespace Cm
def enI (x : Int) : List Value := [.int .i64 x]
theorem enI_len (x : Int) : (enI x).length = 1 ∧ ∀ u ∈ enI x, u.oneCell' = true := ⟨rfl, List.forall_mem_cons.2 ⟨rfl, fun _ h => nomatch h⟩⟩
def enIII (x : Int × Int × Int) : List Value := [.int .i64 x.1, .int .i64 x.2.1, .int .i64 x.2.2]
theorem enIII_len (x : Int × Int × Int) : (enIII x).length = 3 ∧ ∀ u ∈ enIII x, u.oneCell' = true := ⟨rfl, List.forall_mem_cons.2 ⟨rfl, List.forall_mem_cons.2 ⟨rfl, List.forall_mem_cons.2 ⟨rfl, fun _ h => nomatch h⟩⟩⟩⟩
def enII (x : Int × Int) : List Value := [.int .i64 x.1, .int .i64 x.2]
theorem enII_len (x : Int × Int) : (enII x).length = 2 ∧ ∀ u ∈ enII x, u.oneCell' = true := ⟨rfl, List.forall_mem_cons.2 ⟨rfl, List.forall_mem_cons.2 ⟨rfl, fun _ h => nomatch h⟩⟩⟩
def enSIII (x : Int × Int × Int × Int) : List Value := [.string (strOf x.1), .int .i64 x.2.1, .int .i64 x.2.2.1, .int .i64 x.2.2.2]
theorem enSIII_len (x : Int × Int × Int × Int) : (enSIII x).length = 4 ∧ ∀ u ∈ enSIII x, u.oneCell' = true := ⟨rfl, List.forall_mem_cons.2 ⟨rfl, List.forall_mem_cons.2 ⟨rfl, List.forall_mem_cons.2 ⟨rfl, List.forall_mem_cons.2 ⟨rfl, fun _ h => nomatch h⟩⟩⟩⟩⟩
def enS (x : Int) : List Value := [.string (strOf x)]
theorem enS_len (x : Int) : (enS x).length = 1 ∧ ∀ u ∈ enS x, u.oneCell' = true := ⟨rfl, List.forall_mem_cons.2 ⟨rfl, fun _ h => nomatch h⟩⟩
def enIIII (x : Int × Int × Int × Int) : List Value := [.int .i64 x.1, .int .i64 x.2.1, .int .i64 x.2.2.1, .int .i64 x.2.2.2]
theorem enIIII_len (x : Int × Int × Int × Int) : (enIIII x).length = 4 ∧ ∀ u ∈ enIIII x, u.oneCell' = true := ⟨rfl, List.forall_mem_cons.2 ⟨rfl, List.forall_mem_cons.2 ⟨rfl, List.forall_mem_cons.2 ⟨rfl, List.forall_mem_cons.2 ⟨rfl, fun _ h => nomatch h⟩⟩⟩⟩⟩
end Cm
end Go.Proofs.Ytghglgaimhfedaa
