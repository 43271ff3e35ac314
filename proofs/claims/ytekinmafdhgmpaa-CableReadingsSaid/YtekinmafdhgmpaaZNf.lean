/-
  Walks of chapter 1's reference: which of two fractions is greater.
-/
import Derived.Test.YtekinmafdhgmpaaZNe
namespace Go.Proofs.Ytekinmafdhgmpaa
open Go.RowKit Go.Shelf
attribute [local go_sem] monoUpon_value monoUpon_skip monoUpon_enter

/-- The order of n/d and m/k. -/
def cmpF (n d m k : Int) : Int := if n * k < m * d then -1 else if m * d < n * k then 1 else 0
theorem cmp_split (n d m k : Int) (hd : 0 < d) (hk : 0 < k) :
    ∃ a b D, a = n - n / d * d ∧ b = m - m / k * k ∧ D = d * k ∧ n * k - m * d = (n / d - m / k) * D + (a * k - b * d) ∧ 0 ≤ a ∧ a < d ∧ 0 ≤ b ∧ b < k ∧ 0 ≤ a * k ∧ a * k < D ∧ 0 ≤ b * d ∧ b * d < D := by
  refine ⟨_, _, _, rfl, rfl, rfl, ?_⟩
  have h1 := Int.ediv_mul_le n (show d ≠ 0 by omega)
  have h2 := Int.lt_ediv_add_one_mul_self n hd
  have h3 := Int.ediv_mul_le m (show k ≠ 0 by omega)
  have h4 := Int.lt_ediv_add_one_mul_self m hk
  generalize n / d = p at *
  generalize m / k = q at *
  rw [Int.add_mul, Int.one_mul] at h2 h4
  have a0 : 0 ≤ n - p * d := by omega
  have a1 : n - p * d < d := by omega
  have b0 : 0 ≤ m - q * k := by omega
  have b1 : m - q * k < k := by omega
  refine ⟨?_, a0, a1, b0, b1, Int.mul_nonneg a0 (by omega), ?_, Int.mul_nonneg b0 (by omega), ?_⟩
  · rw [Int.sub_mul, Int.sub_mul, Int.sub_mul]
    have x1 : p * d * k = p * (d * k) := Int.mul_assoc _ _ _
    have x2 : q * k * d = q * (d * k) := by rw [Int.mul_assoc, Int.mul_comm k d]
    omega
  · exact Int.mul_lt_mul_of_pos_right a1 hk
  · rw [Int.mul_comm d k]; exact Int.mul_lt_mul_of_pos_right b1 hd
theorem cmp_less {n d m k : Int} (hd : 0 < d) (hk : 0 < k) (h : n / d < m / k) : cmpF n d m k = -1 := by
  obtain ⟨a, b, D, _, _, _, e, _, _, _, _, a0, a1, b0, b1⟩ := cmp_split n d m k hd hk
  have : (n / d - m / k) * D ≤ -1 * D := Int.mul_le_mul_of_nonneg_right (by omega) (by omega)
  unfold cmpF
  rw [if_pos (by omega)]
theorem cmp_more {n d m k : Int} (hd : 0 < d) (hk : 0 < k) (h : m / k < n / d) : cmpF n d m k = 1 := by
  obtain ⟨a, b, D, _, _, _, e, _, _, _, _, a0, a1, b0, b1⟩ := cmp_split n d m k hd hk
  have : 1 * D ≤ (n / d - m / k) * D := Int.mul_le_mul_of_nonneg_right (by omega) (by omega)
  unfold cmpF
  rw [if_neg (by omega), if_pos (by omega)]
/-- The whole parts are the same: the rest, turned round. -/
theorem cmp_same {n d m k : Int} (hd : 0 < d) (hk : 0 < k) (h : n / d = m / k) : ∃ a b, a = n - n / d * d ∧ b = m - m / k * k ∧ 0 ≤ a ∧ a < d ∧ 0 ≤ b ∧ b < k ∧
    (a = 0 → b = 0 → cmpF n d m k = 0) ∧ (a = 0 → 0 < b → cmpF n d m k = -1) ∧ (0 < a → b = 0 → cmpF n d m k = 1) ∧ cmpF k b d a = cmpF n d m k := by
  obtain ⟨a, b, D, ea, eb, _, e, a2, a3, b2, b3, a0, a1, b0, b1⟩ := cmp_split n d m k hd hk
  rw [h, Int.sub_self, Int.zero_mul] at e
  refine ⟨a, b, ea, eb, a2, a3, b2, b3, ?_, ?_, ?_, ?_⟩
  · rintro rfl rfl
    rw [Int.zero_mul, Int.zero_mul] at e
    unfold cmpF
    rw [if_neg (by omega), if_neg (by omega)]
  · rintro rfl hb
    rw [Int.zero_mul] at e
    have := Int.mul_pos hb hd
    unfold cmpF
    rw [if_pos (by omega)]
  · rintro ha rfl
    rw [Int.zero_mul] at e
    have := Int.mul_pos ha hk
    unfold cmpF
    rw [if_neg (by omega), if_pos (by omega)]
  · unfold cmpF
    rw [Int.mul_comm k a, Int.mul_comm d b]
    by_cases h1 : a * k < b * d
    · rw [if_pos h1, if_pos (by omega)]
    · by_cases h2 : b * d < a * k
      · rw [if_neg h1, if_pos h2, if_neg (by omega), if_pos (by omega)]
      · rw [if_neg h1, if_neg h2, if_neg (by omega), if_neg (by omega)]
end Go.Proofs.Ytekinmafdhgmpaa
