/-
  What the row of 'CableAgreed' asks of its program: each fact by itself (in one the kernel needs more than 10 GB in a great seat).
-/
import Derived.Test.YthffbfkcmbgghaaZKd
set_option linter.all false
namespace Go.Proofs.Ythffbfkcmbgghaa
open Go.ChangeShapes Go.WideShapes Go.ChangeAt Go.RowKit
set_option maxRecDepth 100000
theorem cableAgreedLaidOut : laidOutB Try.prog = true := by kernel_rfl
theorem cableAgreedMapsRowed : mapsRowed Try.prog = true := by kernel_rfl
theorem cableAgreedHeard : Try.prog.stopsHeard = true := by kernel_rfl
theorem cableAgreedEnters : Try.prog.mayEnter = true := by kernel_rfl
theorem cableAgreedKeys : Try.prog.plainKeys = Rows.cableAgreedRow.plainKeys := by kernel_rfl
theorem cableAgreedLifts : Try.prog.liftsFinal = Rows.cableAgreedRow.lifted := by kernel_rfl
theorem cableAgreedJoined : joinedFacts Try.prog 3 Try.f3 Rows.cableAgreedSpec Rows.cableAgreedRow = true := by
  unfold joinedFacts
  rw [cableAgreedLaidOut, cableAgreedMapsRowed, cableAgreedHeard, cableAgreedEnters, cableAgreedKeys, cableAgreedLifts]
  kernel_rfl
end Go.Proofs.Ythffbfkcmbgghaa
