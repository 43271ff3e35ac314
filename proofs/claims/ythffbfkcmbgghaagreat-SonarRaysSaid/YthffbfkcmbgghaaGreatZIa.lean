/-
  General: loops over lists, errors, wrapped numbers, common divisors (of functions as tools/lift.py writes them).
-/
import Derived.Test.YthffbfkcmbgghaaGreatZEc
set_option linter.all false
namespace Go.Proofs.YthffbfkcmbgghaaGreat
open Go Go.RowKit
theorem idx {α : Type} {l : List α} {i : Nat} {e : α} (h : l[i]? = some e) : (i : Int) < (l.length : Int) ∧ (0 : Int) ≤ (i : Int) ∧ l[0 + ((i : Int)).toNat]? = some e := by
  have := (List.getElem?_eq_some_iff.1 h).1
  refine ⟨by omega, by omega, ?_⟩
  rw [Int.toNat_natCast, Nat.zero_add]; exact h
theorem wrapS {i : Nat} (h : i < 4611686018427387904) : IntKind.wrap .i64 ((i : Int) + 1) = ((i + 1 : Nat) : Int) := by
  rw [IntKind.wrap_i64]; omega
theorem wrapB {x : Int} (h : -9223372036854775808 ≤ x) (h' : x ≤ 9223372036854775807) : IntKind.wrap .i64 x = x := by
  rw [IntKind.wrap_i64]; omega
/-! ### Errors -/
def limE (a lo hi : Int) : Int := if a < lo ∨ hi < a then 2 else 0
theorem limE_zero {a lo hi : Int} : limE a lo hi = 0 ↔ lo ≤ a ∧ a ≤ hi := by
  unfold limE; split <;> omega
theorem limE_two {a lo hi : Int} (h : ¬ (lo ≤ a ∧ a ≤ hi)) : limE a lo hi = 2 := by
  unfold limE; rw [if_pos (by omega)]
/-! ### Common divisors -/
end Go.Proofs.YthffbfkcmbgghaaGreat
