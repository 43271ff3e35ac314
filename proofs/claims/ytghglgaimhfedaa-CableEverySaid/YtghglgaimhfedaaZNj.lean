/-
  Mathematics of the law CableShapes: the sums of the reference are those of the program.
-/
import Derived.Test.YtghglgaimhfedaaZNh
import Derived.Test.YtghglgaimhfedaaZNe
import Derived.Test.YtghglgaimhfedaaZMw
namespace Go.Proofs.Ytghglgaimhfedaa

theorem low_div (n : Int) {d : Int} (hd : 0 < d) : (low n d).1 / (low n d).2 = n / d ∧ -(low n d).1 / (low n d).2 = -n / d := by
  have hg : (0 : Int) < (Int.gcd n d : Int) := by have := Int.gcd_pos_of_ne_zero_right n (show d ≠ 0 by omega); omega
  obtain ⟨a, ha⟩ := Int.gcd_dvd_left n d
  obtain ⟨b, hb⟩ := Int.gcd_dvd_right n d
  unfold low
  simp only
  generalize (Int.gcd n d : Int) = g at *
  subst ha; subst hb
  rw [Int.mul_ediv_cancel_left _ (by omega), Int.mul_ediv_cancel_left _ (by omega), Int.mul_ediv_mul_of_pos _ _ hg, ← Int.mul_neg, Int.mul_ediv_mul_of_pos _ _ hg]
  exact ⟨rfl, rfl⟩
theorem layF_tot (ps : List Pl) (h : ∀ p ∈ ps, p.lo = p.hi ∧ 0 < p.z) : layF (ps.map loP) = totR offR ps := by
  have : ∀ (ps : List Pl) (a b : Int), (∀ p ∈ ps, p.lo = p.hi ∧ 0 < p.z) → (ps.map loP).foldl (fun s q => (s.1 + q.1 / q.2, s.2 + -(-q.1 / q.2))) (a, b) = (a + (totR offR ps).1, b + (totR offR ps).2) := by
    intro ps
    induction ps with
    | nil => intro a b _; simp [totR]
    | cons p r ih =>
      intro a b hp
      obtain ⟨h1, h2⟩ := hp p (by simp)
      obtain ⟨d1, d2⟩ := low_div (p.h * p.lo) h2
      simp only [List.map_cons, List.foldl_cons, totR]
      rw [ih _ _ fun q hq => hp q (by simp [hq])]
      unfold loP
      rw [d1, d2, h1]
      unfold offR
      rw [h1]
      simp only [Prod.mk.injEq]
      constructor <;> omega
  unfold layF
  rw [this ps 0 0 h]
  simp
theorem ceil_of {n z q : Int} (hz : 0 < z) (h1 : (q - 1) * z < n) (h2 : n ≤ q * z) : -(-n / z) = q := by
  have a : -q ≤ -n / z := (Int.le_ediv_iff_mul_le hz).2 (by rw [Int.neg_mul]; omega)
  have e : (-q + 1) * z = -((q - 1) * z) := by rw [← Int.neg_mul]; congr 1; omega
  have b : -n / z < -q + 1 := Int.ediv_lt_of_lt_mul hz (by rw [e]; omega)
  omega
theorem sqR_one {p : Pl} (he : p.lo = p.hi) : sqR p = (sq (p.lo, p.z), sq (p.lo, p.z)) := by
  obtain ⟨ph, pw, pd, plo, phi, pz⟩ := p
  simp only at he
  subst he
  unfold sqR sq
  simp only [Int.min_self, Int.max_self, Prod.mk.injEq, and_true]
  by_cases h : plo ≤ 0 ∧ 0 ≤ plo
  · obtain rfl : plo = 0 := by omega
    simp
  · rw [if_neg h]
theorem longR_lenR {p : Pl} (hp : PlOk p) (hz : 0 < p.z) (he : p.lo = p.hi) : longR p.h (p.lo, p.z) = lenR p := by
  have hs := sqR_one he
  have b1 := sq_bd (p.lo, p.z) 20000 ⟨hp.l0, hp.l1⟩ ⟨hp.z0, hp.z1⟩
  have n1 := mul_self_nn p.h
  have m1 := mul_bd p.h p.h 1000 1000 (by have := hp.h0; have := hp.h1; omega) (by have := hp.h0; have := hp.h1; omega)
  have m2 := mul_bd (p.h * p.h) (sq (p.lo, p.z)) 1000000 800000000 (by omega) (by omega)
  have s0 : 0 ≤ p.h * p.h * sq (p.lo, p.z) := Int.mul_nonneg n1 b1.1
  have h62 : (2 : Int) ^ 62 = 4611686018427387904 := by decide
  unfold longR lenR
  rw [hs]
  simp only
  generalize p.h * p.h * sq (p.lo, p.z) = s at *
  obtain ⟨r0, r1, r2⟩ := isqrt_spec s0 (by omega)
  have hU : isqrtUp s = if isqrt s * isqrt s < s then isqrt s + 1 else isqrt s := rfl
  generalize isqrt s = r at *
  generalize isqrtUp s = u at *
  have hq1 : r / p.z * p.z ≤ r := Int.ediv_mul_le r (by omega)
  have hq2 : r < (r / p.z + 1) * p.z := Int.lt_ediv_add_one_mul_self r hz
  have hq0 : 0 ≤ r / p.z := Int.ediv_nonneg r0 (by omega)
  generalize r / p.z = q at *
  generalize p.z = z at *
  have hqz : 0 ≤ q * z := Int.mul_nonneg hq0 (by omega)
  have e1 : q * q * z * z = (q * z) * (q * z) := by ac_rfl
  have e2 : (q + 1) * z = q * z + z := by rw [Int.add_mul, Int.one_mul]
  rw [e1]
  rw [e2] at hq2
  congr 1
  by_cases hc : r * r < s
  · rw [if_pos hc] at hU
    have : q * z * (q * z) ≤ r * r := Int.mul_le_mul hq1 hq1 hqz r0
    rw [if_pos (by omega), hU, ceil_of hz (q := q + 1) (by rw [show q + 1 - 1 = q by omega]; omega) (by rw [e2]; omega)]
  · rw [if_neg hc] at hU
    have hrs : r * r = s := by omega
    subst hU
    by_cases hd : q * z = u
    · rw [hd, if_neg (by omega), ceil_of hz (q := q) (by rw [Int.sub_mul, Int.one_mul]; omega) (by omega)]
    · have hlt : q * z < u := by omega
      have : q * z * (q * z) < u * u := Int.lt_of_le_of_lt (Int.mul_le_mul_of_nonneg_left hq1 hqz) (Int.mul_lt_mul_of_pos_right hlt (by omega))
      rw [if_pos (by omega), ceil_of hz (q := q + 1) (by rw [show q + 1 - 1 = q by omega]; omega) (by rw [e2]; omega)]
end Go.Proofs.Ytghglgaimhfedaa
