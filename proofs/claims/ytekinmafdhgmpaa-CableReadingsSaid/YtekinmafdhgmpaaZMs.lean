/-
  Walks of chapter 1: roots, squares and lengths of pulls, in the program.
-/
import Derived.Test.YtekinmafdhgmpaaQO
import Derived.Test.YtekinmafdhgmpaaQI
namespace Go.Proofs.Ytekinmafdhgmpaa
open Go.RowKit Go.Shelf

/-! ### squares -/
def sqR (p : Pl) : Int × Int := ((if p.lo ≤ 0 ∧ 0 ≤ p.hi then 0 else min (p.lo * p.lo) (p.hi * p.hi)) + p.z * p.z, max (p.lo * p.lo) (p.hi * p.hi) + p.z * p.z)
theorem mul_self_nn (x : Int) : 0 ≤ x * x := by
  rcases Int.le_total 0 x with h | h
  · exact Int.mul_nonneg h h
  · exact Int.mul_nonneg_of_nonpos_of_nonpos h h
theorem sqR_bd {p : Pl} (hp : PlOk p) : (0 ≤ (sqR p).1 ∧ (sqR p).1 ≤ 800000000) ∧ (0 ≤ (sqR p).2 ∧ (sqR p).2 ≤ 800000000) := by
  have m1 := mul_bd p.lo p.lo 20000 20000 ⟨hp.l0, hp.l1⟩ ⟨hp.l0, hp.l1⟩
  have m2 := mul_bd p.hi p.hi 20000 20000 ⟨hp.u0, hp.u1⟩ ⟨hp.u0, hp.u1⟩
  have m3 := mul_bd p.z p.z 20000 20000 ⟨hp.z0, hp.z1⟩ ⟨hp.z0, hp.z1⟩
  have n1 := mul_self_nn p.lo
  have n2 := mul_self_nn p.hi
  have n3 := mul_self_nn p.z
  unfold sqR
  simp only
  generalize p.lo * p.lo = a at *
  generalize p.hi * p.hi = b at *
  generalize p.z * p.z = c at *
  split <;> omega
end Go.Proofs.Ytekinmafdhgmpaa
