/-
  What the row of 'WinchUnloaded' asks of its program: each fact by itself (in one the kernel needs more than 10 GB in a great seat).
-/
import Derived.Test.YtefkmidmjofdcaaZKd
set_option linter.all false
namespace Go.Proofs.Ytefkmidmjofdcaa
open Go.ChangeShapes Go.WideShapes Go.ChangeAt Go.RowKit
set_option maxRecDepth 100000

theorem winchUnloadedLaidOut : laidOutB Try.prog = true := by kernel_rfl
theorem winchUnloadedMapsRowed : mapsRowed Try.prog = true := by kernel_rfl
theorem winchUnloadedHeard : Try.prog.stopsHeard = true := by kernel_rfl
theorem winchUnloadedEnters : Try.prog.mayEnter = true := by kernel_rfl
theorem winchUnloadedKeys : Try.prog.plainKeys = Rows.winchUnloadedRow.plainKeys := by kernel_rfl
theorem winchUnloadedLifts : Try.prog.liftsFinal = Rows.winchUnloadedRow.lifted := by kernel_rfl
theorem winchUnloadedJoined : joinedFacts Try.prog 5 Try.f5 Rows.winchUnloadedSpec Rows.winchUnloadedRow = true := by
  unfold joinedFacts
  rw [winchUnloadedLaidOut, winchUnloadedMapsRowed, winchUnloadedHeard, winchUnloadedEnters, winchUnloadedKeys, winchUnloadedLifts]
  kernel_rfl
end Go.Proofs.Ytefkmidmjofdcaa
