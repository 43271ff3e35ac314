/-
  Walks of chapter 1: lengths of pulls; sums over pulls of whatever range.
-/
import Derived.Test.YtekinmafdhgmpaaZMs
import Derived.Test.YtekinmafdhgmpaaQB
namespace Go.Proofs.Ytekinmafdhgmpaa
open Go.RowKit Go.Shelf
attribute [local go_sem] monoUpon_value monoUpon_skip monoUpon_enter

def lenR (p : Pl) : Int × Int := (isqrt (p.h * p.h * (sqR p).1) / p.z, -(-isqrtUp (p.h * p.h * (sqR p).2) / p.z))
theorem div_bd {n m B : Int} (hm : 0 < m) (h0 : 0 ≤ n) (h1 : n ≤ B) : 0 ≤ n / m ∧ n / m ≤ B := by
  refine ⟨Int.ediv_nonneg h0 (by omega), ?_⟩
  have := Int.ediv_le_self m h0
  omega
theorem cdiv_bd {n m B : Int} (hm : 0 < m) (h0 : 0 ≤ n) (h1 : n ≤ B) : 0 ≤ -(-n / m) ∧ -(-n / m) ≤ B := by
  have h2 := Int.ediv_le_ediv hm (show -n ≤ 0 by omega)
  rw [Int.zero_ediv] at h2
  have h3 : -n ≤ -n / m := by
    rw [Int.le_ediv_iff_mul_le hm]
    have : -n * m ≤ -n * 1 := Int.mul_le_mul_of_nonpos_left (by omega) (by omega)
    omega
  omega
theorem isqrt_le {n B : Int} (h0 : 0 ≤ n) (h1 : n < 2 ^ 62) (hB : 0 ≤ B) (h : n < (B + 1) * (B + 1)) : isqrt n ≤ B := by
  obtain ⟨a, b, _⟩ := isqrt_spec h0 h1
  rcases Int.lt_or_le B (isqrt n) with h2 | h2
  · have h3 : (B + 1) * (B + 1) ≤ isqrt n * isqrt n := Int.mul_le_mul h2 h2 (by omega) a
    omega
  · exact h2
/-- The numbers whose roots are taken are small. -/
theorem area_bd {p : Pl} (hp : PlOk p) : (0 ≤ p.h * p.h * (sqR p).1 ∧ p.h * p.h * (sqR p).1 ≤ 800000000000000) ∧ (0 ≤ p.h * p.h * (sqR p).2 ∧ p.h * p.h * (sqR p).2 ≤ 800000000000000) ∧ 0 ≤ p.h * p.h ∧ p.h * p.h ≤ 1000000 := by
  have h0 := hp.h0
  have h1 := hp.h1
  have m1 := mul_bd p.h p.h 1000 1000 (by omega) (by omega)
  have n1 := mul_self_nn p.h
  obtain ⟨⟨a, b⟩, c, d⟩ := sqR_bd hp
  have m2 := mul_bd (p.h * p.h) (sqR p).1 1000000 800000000 (by omega) (by omega)
  have m3 := mul_bd (p.h * p.h) (sqR p).2 1000000 800000000 (by omega) (by omega)
  have n2 := Int.mul_nonneg n1 a
  have n3 := Int.mul_nonneg n1 c
  omega
theorem lenR_bd {p : Pl} (hp : PlOk p) (hz : 0 < p.z) : (0 ≤ (lenR p).1 ∧ (lenR p).1 ≤ 40000000) ∧ (0 ≤ (lenR p).2 ∧ (lenR p).2 ≤ 40000000) := by
  obtain ⟨⟨a, b⟩, ⟨c, d⟩, _⟩ := area_bd hp
  have h62 : (2 : Int) ^ 62 = 4611686018427387904 := by decide
  have r1 := isqrt_le (B := 30000000) a (by omega) (by decide) (by omega)
  have r2 := isqrt_le (B := 30000000) c (by omega) (by decide) (by omega)
  have s1 := (isqrt_spec a (by omega)).1
  obtain ⟨s2, _, s3⟩ := isqrtUp_spec c (by omega)
  exact ⟨div_bd hz s1 (by omega), cdiv_bd hz s2 (by omega)⟩
end Go.Proofs.Ytekinmafdhgmpaa
