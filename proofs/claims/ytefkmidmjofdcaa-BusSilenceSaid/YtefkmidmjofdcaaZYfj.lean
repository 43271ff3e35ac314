/-
  What the row of 'BusSilence' asks of its program: each fact by itself (in one the kernel needs more than 10 GB in a great seat).
-/
import Derived.Test.YtefkmidmjofdcaaZKd
set_option linter.all false
namespace Go.Proofs.Ytefkmidmjofdcaa
open Go.ChangeShapes Go.WideShapes Go.ChangeAt Go.RowKit
set_option maxRecDepth 100000

theorem busSilenceLaidOut : laidOutB Try.prog = true := by kernel_rfl
theorem busSilenceMapsRowed : mapsRowed Try.prog = true := by kernel_rfl
theorem busSilenceHeard : Try.prog.stopsHeard = true := by kernel_rfl
theorem busSilenceEnters : Try.prog.mayEnter = true := by kernel_rfl
theorem busSilenceKeys : Try.prog.plainKeys = Rows.busSilenceRow.plainKeys := by kernel_rfl
theorem busSilenceLifts : Try.prog.liftsFinal = Rows.busSilenceRow.lifted := by kernel_rfl
theorem busSilenceJoined : joinedFacts Try.prog 7 Try.f7 Rows.busSilenceSpec Rows.busSilenceRow = true := by
  unfold joinedFacts
  rw [busSilenceLaidOut, busSilenceMapsRowed, busSilenceHeard, busSilenceEnters, busSilenceKeys, busSilenceLifts]
  kernel_rfl
end Go.Proofs.Ytefkmidmjofdcaa
