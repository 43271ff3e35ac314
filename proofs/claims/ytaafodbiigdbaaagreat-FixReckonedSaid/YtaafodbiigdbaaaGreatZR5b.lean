/-
  Dead reckoning: a coordinate of a box that is carried.
-/
import Derived.Test.YtaafodbiigdbaaaGreatZM5b
set_option linter.all false
namespace Go.Proofs.YtaafodbiigdbaaaGreat
open Go Go.RowKit

theorem k_mul {T v p q : Int} (hT : 0 ≤ T) (h1 : p ≤ v) (h2 : v ≤ q) : T * p ≤ T * v ∧ T * v ≤ T * q :=
  ⟨Int.mul_le_mul_of_nonneg_left h1 hT, Int.mul_le_mul_of_nonneg_left h2 hT⟩
/-- The position is in the box carried. -/
theorem k_to {a b T p q w0 w1 x v : Int} (hT : 0 ≤ T) (h1 : p ≤ v) (h2 : v ≤ q) (ha : a ≤ x) (hb : x ≤ b) (hw : w0 ≤ x + T * v) (hw2 : x + T * v ≤ w1) :
    (cmn (a + T * p) (b + T * q) w0 w1).1 ≤ x + T * v ∧ x + T * v ≤ (cmn (a + T * p) (b + T * q) w0 w1).2 ∧ w0 ≤ (cmn (a + T * p) (b + T * q) w0 w1).1 ∧ (cmn (a + T * p) (b + T * q) w0 w1).2 ≤ w1 := by
  obtain ⟨m1, m2⟩ := k_mul hT h1 h2
  unfold cmn
  simp only
  refine ⟨?_, ?_, ?_, ?_⟩ <;> split <;> omega
/-- The position from which it came is in that box carried back. -/
theorem k_back {T p q w0 w1 x v c d : Int} (hT : 0 ≤ T) (h1 : p ≤ v) (h2 : v ≤ q) (hc : c ≤ x + T * v) (hd : x + T * v ≤ d) (hw : w0 ≤ x) (hw2 : x ≤ w1) :
    (cmn (c + T * (-q)) (d + T * (-p)) w0 w1).1 ≤ x ∧ x ≤ (cmn (c + T * (-q)) (d + T * (-p)) w0 w1).2 := by
  obtain ⟨m1, m2⟩ := k_mul hT h1 h2
  unfold cmn
  simp only [Int.mul_neg]
  refine ⟨?_, ?_⟩ <;> split <;> omega
theorem k_still {a b p q w0 w1 : Int} (h1 : w0 ≤ a) (h2 : b ≤ w1) : cmn (a + 0 * p) (b + 0 * q) w0 w1 = (a, b) := by
  unfold cmn
  rw [Int.zero_mul, Int.zero_mul, if_neg (by omega), if_neg (by omega), Int.add_zero, Int.add_zero]
/-- Two moves, one after the other. -/
theorem k_two {a b h r p q w0 w1 : Int} (h1 : w0 < (cmn (a + h * p) (b + h * q) w0 w1).1) (h2 : (cmn (a + h * p) (b + h * q) w0 w1).2 < w1) :
    cmn ((cmn (a + h * p) (b + h * q) w0 w1).1 + r * p) ((cmn (a + h * p) (b + h * q) w0 w1).2 + r * q) w0 w1 = cmn (a + (h + r) * p) (b + (h + r) * q) w0 w1 := by
  have e1 : (cmn (a + h * p) (b + h * q) w0 w1).1 = a + h * p := by
    unfold cmn at h1 ⊢
    simp only at h1 ⊢
    split
    · rename_i c; rw [if_pos c] at h1; omega
    · rfl
  have e2 : (cmn (a + h * p) (b + h * q) w0 w1).2 = b + h * q := by
    unfold cmn at h2 ⊢
    simp only at h2 ⊢
    split
    · rename_i c; rw [if_pos c] at h2; omega
    · rfl
  rw [e1, e2, Int.add_mul, Int.add_mul, Int.add_assoc, Int.add_assoc]
end Go.Proofs.YtaafodbiigdbaaaGreat
