/-
  What the row of 'FixNets' asks of its program: each fact by itself (in one the kernel needs more than 10 GB in a great seat).
-/
import Derived.Test.YtaafodbiigdbaaaGreatZKd
set_option linter.all false
namespace Go.Proofs.YtaafodbiigdbaaaGreat
open Go.ChangeShapes Go.WideShapes Go.ChangeAt Go.RowKit
set_option maxRecDepth 100000

theorem fixNetsLaidOut : laidOutB Tryz.prog = true := by kernel_rfl
theorem fixNetsMapsRowed : mapsRowed Tryz.prog = true := by kernel_rfl
theorem fixNetsHeard : Tryz.prog.stopsHeard = true := by kernel_rfl
theorem fixNetsEnters : Tryz.prog.mayEnter = true := by kernel_rfl
theorem fixNetsKeys : Tryz.prog.plainKeys = Rows.fixNetsRow.plainKeys := by kernel_rfl
theorem fixNetsLifts : Tryz.prog.liftsFinal = Rows.fixNetsRow.lifted := by kernel_rfl
theorem fixNetsJoined : joinedFacts Tryz.prog 5 Tryz.f5 Rows.fixNetsSpec Rows.fixNetsRow = true := by
  unfold joinedFacts
  rw [fixNetsLaidOut, fixNetsMapsRowed, fixNetsHeard, fixNetsEnters, fixNetsKeys, fixNetsLifts]
  kernel_rfl
end Go.Proofs.YtaafodbiigdbaaaGreat
