/-
  What the row of 'WinchSamples' asks of its program: each fact by itself (in one the kernel needs more than 10 GB in a great seat).
-/
import Derived.Test.YthffbfkcmbgghaaZKd
set_option linter.all false
namespace Go.Proofs.Ythffbfkcmbgghaa
open Go.ChangeShapes Go.WideShapes Go.ChangeAt Go.RowKit
set_option maxRecDepth 100000
theorem winchSamplesLaidOut : laidOutB Try.prog = true := by kernel_rfl
theorem winchSamplesMapsRowed : mapsRowed Try.prog = true := by kernel_rfl
theorem winchSamplesHeard : Try.prog.stopsHeard = true := by kernel_rfl
theorem winchSamplesEnters : Try.prog.mayEnter = true := by kernel_rfl
theorem winchSamplesKeys : Try.prog.plainKeys = Rows.winchSamplesRow.plainKeys := by kernel_rfl
theorem winchSamplesLifts : Try.prog.liftsFinal = Rows.winchSamplesRow.lifted := by kernel_rfl
theorem winchSamplesJoined : joinedFacts Try.prog 4 Try.f4 Rows.winchSamplesSpec Rows.winchSamplesRow = true := by
  unfold joinedFacts
  rw [winchSamplesLaidOut, winchSamplesMapsRowed, winchSamplesHeard, winchSamplesEnters, winchSamplesKeys, winchSamplesLifts]
  kernel_rfl
end Go.Proofs.Ythffbfkcmbgghaa
