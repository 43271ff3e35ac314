/-
  Arguments that are strings.
-/
import Derived.Test.YtlfmdkmjfokgbaaGreatDoorZEf
set_option linter.all false
namespace Go.Proofs.YtlfmdkmjfokgbaaGreatDoor.Cm
open Go Go.RowKit
theorem arg_str {P : Program} {w : World} {t : TypeId} {r : Reach} {b0 : Nat} {v : Value} (hu : P.underlying t = some .string) (hv : Value.okWide P w r b0 t v) : ∃ n : Int, v = .string (strOf n) := by
 have : ∃ s, v = .string s := by
  simp only [Value.okWide, hu, Cell.okWide] at hv
  cases v <;> simp_all [Cell.ok]
 obtain ⟨s, rfl⟩ := this
 exact ⟨codeS s, by rw [strOf_code]⟩
end Go.Proofs.YtlfmdkmjfokgbaaGreatDoor.Cm
