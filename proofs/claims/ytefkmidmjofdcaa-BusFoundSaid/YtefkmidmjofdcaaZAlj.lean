/-
  What the row of 'BusFound' asks of its program: each fact by itself (in one the kernel needs more than 10 GB in a great seat).
-/
import Derived.Test.YtefkmidmjofdcaaZKd
set_option linter.all false
namespace Go.Proofs.Ytefkmidmjofdcaa
open Go.ChangeShapes Go.WideShapes Go.ChangeAt Go.RowKit
set_option maxRecDepth 100000

theorem busFoundLaidOut : laidOutB Try.prog = true := by kernel_rfl
theorem busFoundMapsRowed : mapsRowed Try.prog = true := by kernel_rfl
theorem busFoundHeard : Try.prog.stopsHeard = true := by kernel_rfl
theorem busFoundEnters : Try.prog.mayEnter = true := by kernel_rfl
theorem busFoundKeys : Try.prog.plainKeys = Rows.busFoundRow.plainKeys := by kernel_rfl
theorem busFoundLifts : Try.prog.liftsFinal = Rows.busFoundRow.lifted := by kernel_rfl
theorem busFoundJoined : joinedFacts Try.prog 6 Try.f6 Rows.busFoundSpec Rows.busFoundRow = true := by
  unfold joinedFacts
  rw [busFoundLaidOut, busFoundMapsRowed, busFoundHeard, busFoundEnters, busFoundKeys, busFoundLifts]
  kernel_rfl
end Go.Proofs.Ytefkmidmjofdcaa
