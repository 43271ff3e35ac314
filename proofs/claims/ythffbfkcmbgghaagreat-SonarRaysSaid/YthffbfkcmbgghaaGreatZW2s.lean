/-
  Sums of products of samples, and the inequality of Cauchy and Schwarz.
-/
import Derived.Test.YthffbfkcmbgghaaGreatZIa
set_option linter.all false
namespace Go.Proofs.YthffbfkcmbgghaaGreat
open Go Go.RowKit
theorem mulB {x y m n : Int} (hx : -m ≤ x ∧ x ≤ m) (hy : -n ≤ y ∧ y ≤ n) : -(m * n) ≤ x * y ∧ x * y ≤ m * n := by
  have h1 := Int.mul_nonneg (show 0 ≤ m - x by omega) (show 0 ≤ n + y by omega)
  have h2 := Int.mul_nonneg (show 0 ≤ m + x by omega) (show 0 ≤ n - y by omega)
  have h3 := Int.mul_nonneg (show 0 ≤ m - x by omega) (show 0 ≤ n - y by omega)
  have h4 := Int.mul_nonneg (show 0 ≤ m + x by omega) (show 0 ≤ n + y by omega)
  have e1 : (m - x) * (n + y) + (m + x) * (n - y) = 2 * (m * n) - 2 * (x * y) := by grind
  have e2 : (m - x) * (n - y) + (m + x) * (n + y) = 2 * (m * n) + 2 * (x * y) := by grind
  omega
def at0 (l : List Int) (i : Nat) : Int := (l[i]?).getD 0
end Go.Proofs.YthffbfkcmbgghaaGreat
