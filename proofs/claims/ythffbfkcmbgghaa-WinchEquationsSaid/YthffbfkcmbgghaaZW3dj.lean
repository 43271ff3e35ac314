/-
  What the row of 'WinchEquations' asks of its program: each fact by itself (in one the kernel needs more than 10 GB in a great seat).
-/
import Derived.Test.YthffbfkcmbgghaaZKd
set_option linter.all false
namespace Go.Proofs.Ythffbfkcmbgghaa
open Go.ChangeShapes Go.WideShapes Go.ChangeAt Go.RowKit
set_option maxRecDepth 100000
theorem winchEquationsLaidOut : laidOutB Try.prog = true := by kernel_rfl
theorem winchEquationsMapsRowed : mapsRowed Try.prog = true := by kernel_rfl
theorem winchEquationsHeard : Try.prog.stopsHeard = true := by kernel_rfl
theorem winchEquationsEnters : Try.prog.mayEnter = true := by kernel_rfl
theorem winchEquationsKeys : Try.prog.plainKeys = Rows.winchEquationsRow.plainKeys := by kernel_rfl
theorem winchEquationsLifts : Try.prog.liftsFinal = Rows.winchEquationsRow.lifted := by kernel_rfl
theorem winchEquationsJoined : joinedFacts Try.prog 5 Try.f5 Rows.winchEquationsSpec Rows.winchEquationsRow = true := by
  unfold joinedFacts
  rw [winchEquationsLaidOut, winchEquationsMapsRowed, winchEquationsHeard, winchEquationsEnters, winchEquationsKeys, winchEquationsLifts]
  kernel_rfl
end Go.Proofs.Ythffbfkcmbgghaa
