/-
  The whole numbers of a struct among a law's arguments are such that an int holds.
-/
import Derived.Test.YtlfmdkmjfokgbaaGreatDoorZEf
set_option linter.all false
namespace Go.Proofs.YtlfmdkmjfokgbaaGreatDoor.Cm
open Go Go.ChangeShapes Go.WideShapes Go.ChangeAt Go.RowKit Go.Deep
theorem okWide_ints {P : Program} {w : World} {t : TypeId} {fs : Array Field} {r : Reach} {b0 : Nat} {cs : List Value} (hu : P.underlying t = some (.struct fs)) (hv : Value.okWide P w r b0 t (.agg ⟨cs⟩)) : ∀ (i : Nat) (n : Int), cs[i]? = some (.int .i64 n) → -9223372036854775808 ≤ n ∧ n ≤ 9223372036854775807 := by
 intro i n hi
 simp only [Value.okWide, hu] at hv
 obtain ⟨cs', e, _, ts, _, _, h⟩ := hv
 injection e with e
 subst e
 obtain ⟨u, _, hc⟩ := h i (.int .i64 n) (by simpa using hi)
 have hk : Cell.ok P w r b0 u (.int .i64 n) := by
  unfold Cell.okWide at hc
  split at hc
  all_goals first | exact hc | (rename_i h1 h2; cases h2) | skip
 unfold Cell.ok at hk
 split at hk
 all_goals first | (rename_i k k' m h1 h2; injection h2 with h3 h4; subst h4; obtain ⟨h5, h6⟩ := hk; subst h5; subst h3; exact h6) | (rename_i h1 h2; cases h2) | exact hk.elim
end Go.Proofs.YtlfmdkmjfokgbaaGreatDoor.Cm
