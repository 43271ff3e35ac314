/-
  'WinchEquations': the equations are enough. Least squares, recurrences.
-/
import Derived.Test.YthffbfkcmbgghaaZW2f
set_option linter.all false
namespace Go.Proofs.Ythffbfkcmbgghaa
open Go Go.RowKit
def sqs (l : List Int) (a b : Int) : Nat → Int
  | 0 => 0
  | k + 1 => sqs l a b k + (at0 l (k + 2) - a * at0 l (k + 1) - b * at0 l k) * (at0 l (k + 2) - a * at0 l (k + 1) - b * at0 l k)
theorem sqs_eq (l : List Int) (a b : Int) : ∀ k : Nat, sqs l a b k = sm l 0 0 k - 2 * (a * sm l 0 1 k) - 2 * (b * sm l 0 2 k) + (a * a * sm l 1 1 k + 2 * (a * b) * sm l 1 2 k + b * b * sm l 2 2 k)
  | 0 => by unfold sqs sm; simp
  | k + 1 => by
    have h := sqs_eq l a b k
    unfold sqs
    rw [h, show sm l 0 0 (k + 1) = sm l 0 0 k + at0 l (k + 2) * at0 l (k + 2) from rfl, show sm l 0 1 (k + 1) = sm l 0 1 k + at0 l (k + 2) * at0 l (k + 1) from rfl, show sm l 0 2 (k + 1) = sm l 0 2 k + at0 l (k + 2) * at0 l k from rfl,
      show sm l 1 1 (k + 1) = sm l 1 1 k + at0 l (k + 1) * at0 l (k + 1) from rfl, show sm l 1 2 (k + 1) = sm l 1 2 k + at0 l (k + 1) * at0 l k from rfl, show sm l 2 2 (k + 1) = sm l 2 2 k + at0 l k * at0 l k from rfl]
    generalize at0 l (k + 2) = x
    generalize at0 l (k + 1) = y
    generalize at0 l k = z
    generalize sm l 0 0 k = s0
    generalize sm l 0 1 k = s1
    generalize sm l 0 2 k = s2
    generalize sm l 1 1 k = s3
    generalize sm l 1 2 k = s4
    generalize sm l 2 2 k = s5
    grind
theorem exact_div {x : Int} {g : Nat} (h : (g : Int) ∣ x) : Int.tdiv x (g : Int) * (g : Int) = x := Int.tdiv_mul_cancel h
theorem gcd_dvd3 (a b d : Int) : ((gcdL [a, b, d] : Nat) : Int) ∣ a ∧ ((gcdL [a, b, d] : Nat) : Int) ∣ b ∧ ((gcdL [a, b, d] : Nat) : Int) ∣ d := by
  rw [gcdL3]
  refine ⟨?_, ?_, ?_⟩
  · exact Int.ofNat_dvd_left.2 (Nat.dvd_trans (Nat.gcd_dvd_left _ _) (Nat.gcd_dvd_left _ _))
  · exact Int.ofNat_dvd_left.2 (Nat.dvd_trans (Nat.gcd_dvd_left _ _) (Nat.gcd_dvd_right _ _))
  · exact Int.ofNat_dvd_left.2 (Nat.gcd_dvd_right _ _)
theorem prd_mul (l : List Int) (N : Nat) : (prd l N).1 * (gcdL [aT l N, bT l N, dT l N] : Int) = aT l N ∧ (prd l N).2.1 * (gcdL [aT l N, bT l N, dT l N] : Int) = bT l N ∧ (prd l N).2.2 * (gcdL [aT l N, bT l N, dT l N] : Int) = dT l N := by
  obtain ⟨h1, h2, h3⟩ := gcd_dvd3 (aT l N) (bT l N) (dT l N)
  exact ⟨exact_div h1, exact_div h2, exact_div h3⟩
theorem cancel {g : Nat} (hg : 0 < g) {x y : Int} (h : x * (g : Int) = y * (g : Int)) : x = y := Int.eq_of_mul_eq_mul_right (by omega) h
theorem prd_eq1 {l : List Int} (hs : smallL l) {N : Nat} (hN : N ≤ 20) (hd : dT l N ≠ 0) : eqA l (prd l N).1 (prd l N).2.1 (prd l N).2.2 1 N := by
  obtain ⟨g0, _, _, _, _⟩ := prd_ok hs hN hd
  obtain ⟨h1, h2, h3⟩ := prd_mul l N
  unfold eqA
  refine cancel g0 ?_
  rw [Int.add_mul, Int.mul_assoc, Int.mul_assoc, Int.mul_assoc, h1, h2, h3]
  unfold aT bT dT
  generalize sm l 1 1 N = p
  generalize sm l 1 2 N = q
  generalize sm l 2 2 N = r
  generalize sm l 1 0 N = s
  generalize sm l 2 0 N = t
  grind
theorem prd_eq2 {l : List Int} (hs : smallL l) {N : Nat} (hN : N ≤ 20) (hd : dT l N ≠ 0) : eqA l (prd l N).1 (prd l N).2.1 (prd l N).2.2 2 N := by
  obtain ⟨g0, _, _, _, _⟩ := prd_ok hs hN hd
  obtain ⟨h1, h2, h3⟩ := prd_mul l N
  unfold eqA
  refine cancel g0 ?_
  rw [Int.add_mul, Int.mul_assoc, Int.mul_assoc, Int.mul_assoc, h1, h2, h3, sm_comm l 2 1]
  unfold aT bT dT
  generalize sm l 1 1 N = p
  generalize sm l 1 2 N = q
  generalize sm l 2 2 N = r
  generalize sm l 1 0 N = s
  generalize sm l 2 0 N = t
  grind
theorem prd_gcd {l : List Int} (hs : smallL l) {N : Nat} (hN : N ≤ 20) (hd : dT l N ≠ 0) : gcdL [(prd l N).1, (prd l N).2.1, (prd l N).2.2] = 1 := by
  obtain ⟨g0, _, _, _, _⟩ := prd_ok hs hN hd
  obtain ⟨h1, h2, h3⟩ := prd_mul l N
  generalize hA : (prd l N).1 = A at *
  generalize hB : (prd l N).2.1 = B at *
  generalize hD : (prd l N).2.2 = D at *
  generalize hg : gcdL [aT l N, bT l N, dT l N] = g at *
  rw [gcdL3] at hg ⊢
  rw [← h1, ← h2, ← h3, Int.natAbs_mul, Int.natAbs_mul, Int.natAbs_mul, Int.natAbs_natCast, Nat.gcd_mul_right, Nat.gcd_mul_right] at hg
  exact Nat.eq_of_mul_eq_mul_right g0 (by rw [hg, Nat.one_mul])
theorem prd_predE {l : List Int} (hs : smallL l) {N : Nat} (hN : N ≤ 20) (hd : dT l N ≠ 0) : predE (prd l N).1 (prd l N).2.1 (prd l N).2.2 = 0 := by
  obtain ⟨_, _, pa, pb, pd⟩ := prd_ok hs hN hd
  unfold predE
  rw [if_pos ⟨⟨by omega, by omega⟩, ⟨by omega, by omega⟩, ⟨by omega, by omega⟩⟩, if_pos (prd_gcd hs hN hd)]
theorem prd_prf {l : List Int} (hs : smallL l) {N : Nat} (hN : N ≤ 20) (hd : dT l N ≠ 0) : prf l (prd l N).1 (prd l N).2.1 (prd l N).2.2 N = (0, 0) := by
  unfold prf
  rw [if_pos (prd_eq1 hs hN hd), if_pos (prd_eq2 hs hN hd), if_neg hd]
theorem prf_more {l : List Int} (hs : smallL l) {N : Nat} (hN : N ≤ 20) (hd : dT l N ≠ 0) : (prf l ((prd l N).1 + 1) (prd l N).2.1 (prd l N).2.2 N).2 = 19 := by
  have e1 := prd_eq1 hs hN hd
  have : ¬ eqA l ((prd l N).1 + 1) (prd l N).2.1 (prd l N).2.2 1 N := fun h => by
    unfold eqA at h e1
    rw [Int.mul_add, Int.mul_one] at h
    have h0 : sm l 1 1 N = 0 := by omega
    have h1 := sm_det l N
    have h2 := abd_in hs hN
    unfold dT at hd
    rw [h0, Int.zero_mul] at h1 hd
    have h3 : 0 ≤ sm l 1 2 N * sm l 1 2 N := by
      rcases Int.le_total 0 (sm l 1 2 N) with c | c
      · exact Int.mul_nonneg c c
      · have := Int.mul_nonneg (show 0 ≤ -sm l 1 2 N by omega) (show 0 ≤ -sm l 1 2 N by omega); rwa [Int.neg_mul_neg] at this
    omega
  unfold prf
  rw [if_neg this]
theorem prf_less {l : List Int} (hs : smallL l) {N : Nat} (hN : N ≤ 20) (hd : dT l N ≠ 0) : (prf l (prd l N).1 ((prd l N).2.1 - 1) (prd l N).2.2 N).2 = 19 := by
  have e1 := prd_eq1 hs hN hd
  have e2 := prd_eq2 hs hN hd
  unfold prf
  by_cases c1 : eqA l (prd l N).1 ((prd l N).2.1 - 1) (prd l N).2.2 1 N
  · rw [if_pos c1]
    have : ¬ eqA l (prd l N).1 ((prd l N).2.1 - 1) (prd l N).2.2 2 N := fun h => by
      unfold eqA at h e1 e2 c1
      rw [Int.mul_sub, Int.mul_one] at h c1
      have h0 : sm l 2 2 N = 0 := by omega
      have h1 : sm l 1 2 N = 0 := by omega
      unfold dT at hd
      rw [h0, h1] at hd
      simp at hd
    rw [if_neg this]
  · rw [if_neg c1]
theorem rs_least {l : List Int} (hs : smallL l) {N : Nat} (hN : N ≤ 20) (hd : dT l N ≠ 0) (a b : Int) : rs l (prd l N).1 (prd l N).2.1 (prd l N).2.2 N ≤ (prd l N).2.2 * sqs l a b N ∧ 0 ≤ rs l (prd l N).1 (prd l N).2.1 (prd l N).2.2 N := by
  obtain ⟨_, _, _, _, pd⟩ := prd_ok hs hN hd
  have e1 := prd_eq1 hs hN hd
  have e2 := prd_eq2 hs hN hd
  unfold eqA at e1 e2
  rw [sm_comm l 2 1, sm_comm l 2 0] at e2
  rw [sm_comm l 1 0] at e1
  generalize (prd l N).1 = A at *
  generalize (prd l N).2.1 = B at *
  generalize (prd l N).2.2 = D at *
  have f1 := sm_form l (D * a - A) (D * b - B) N
  have f2 := sqs_eq l a b N
  have f3 : 0 ≤ D * rs l A B D N := by
    have g : ∀ k : Nat, 0 ≤ D * D * sm l 0 0 k - 2 * (D * A * sm l 0 1 k) - 2 * (D * B * sm l 0 2 k) + (A * A * sm l 1 1 k + 2 * (A * B) * sm l 1 2 k + B * B * sm l 2 2 k) := by
      intro k
      induction k with
      | zero => unfold sm; simp
      | succ k ih =>
        rw [show sm l 0 0 (k + 1) = sm l 0 0 k + at0 l (k + 2) * at0 l (k + 2) from rfl, show sm l 0 1 (k + 1) = sm l 0 1 k + at0 l (k + 2) * at0 l (k + 1) from rfl, show sm l 0 2 (k + 1) = sm l 0 2 k + at0 l (k + 2) * at0 l k from rfl,
          show sm l 1 1 (k + 1) = sm l 1 1 k + at0 l (k + 1) * at0 l (k + 1) from rfl, show sm l 1 2 (k + 1) = sm l 1 2 k + at0 l (k + 1) * at0 l k from rfl, show sm l 2 2 (k + 1) = sm l 2 2 k + at0 l k * at0 l k from rfl]
        generalize at0 l (k + 2) = x
        generalize at0 l (k + 1) = y
        generalize at0 l k = z
        generalize sm l 0 0 k = s0 at *
        generalize sm l 0 1 k = s1 at *
        generalize sm l 0 2 k = s2 at *
        generalize sm l 1 1 k = s3 at *
        generalize sm l 1 2 k = s4 at *
        generalize sm l 2 2 k = s5 at *
        have q : 0 ≤ (D * x - A * y - B * z) * (D * x - A * y - B * z) := by
          generalize D * x - A * y - B * z = w
          rcases Int.le_total 0 w with c | c
          · exact Int.mul_nonneg c c
          · have := Int.mul_nonneg (show 0 ≤ -w by omega) (show 0 ≤ -w by omega); rwa [Int.neg_mul_neg] at this
        have e : D * D * (s0 + x * x) - 2 * (D * A * (s1 + x * y)) - 2 * (D * B * (s2 + x * z)) + (A * A * (s3 + y * y) + 2 * (A * B) * (s4 + y * z) + B * B * (s5 + z * z)) = (D * D * s0 - 2 * (D * A * s1) - 2 * (D * B * s2) + (A * A * s3 + 2 * (A * B) * s4 + B * B * s5)) + (D * x - A * y - B * z) * (D * x - A * y - B * z) := by grind
        rw [e]; omega
    have := g N
    unfold rs
    generalize sm l 0 0 N = s0 at *
    generalize sm l 0 1 N = s1 at *
    generalize sm l 0 2 N = s2 at *
    generalize sm l 1 1 N = s3 at *
    generalize sm l 1 2 N = s4 at *
    generalize sm l 2 2 N = s5 at *
    have e : D * (D * s0 - A * s1 - B * s2) = D * D * s0 - 2 * (D * A * s1) - 2 * (D * B * s2) + (A * A * s3 + 2 * (A * B) * s4 + B * B * s5) := by grind
    rw [e]; exact this
  have f4 : D * (D * sqs l a b N - rs l A B D N) = (D * a - A) * (D * a - A) * sm l 1 1 N + 2 * ((D * a - A) * (D * b - B)) * sm l 1 2 N + (D * b - B) * (D * b - B) * sm l 2 2 N := by
    rw [f2]
    unfold rs
    generalize sm l 0 0 N = s0 at *
    generalize sm l 0 1 N = s1 at *
    generalize sm l 0 2 N = s2 at *
    generalize sm l 1 1 N = s3 at *
    generalize sm l 1 2 N = s4 at *
    generalize sm l 2 2 N = s5 at *
    grind
  rw [← f4] at f1
  have p1 : 0 ≤ D * sqs l a b N - rs l A B D N := Int.nonneg_of_mul_nonneg_right f1 (by omega)
  have p2 : 0 ≤ rs l A B D N := Int.nonneg_of_mul_nonneg_right f3 (by omega)
  omega
def Rec (l : List Int) (a b : Int) : Prop := ∀ k, k + 2 < l.length → at0 l (k + 2) = a * at0 l (k + 1) + b * at0 l k
theorem rec_sums {l : List Int} {a b : Int} (h : Rec l a b) : ∀ k : Nat, k + 2 ≤ l.length → sm l 1 0 k = a * sm l 1 1 k + b * sm l 1 2 k ∧ sm l 2 0 k = a * sm l 1 2 k + b * sm l 2 2 k ∧ sm l 0 0 k = a * sm l 0 1 k + b * sm l 0 2 k
  | 0, _ => by unfold sm; simp
  | k + 1, hk => by
    obtain ⟨h1, h2, h3⟩ := rec_sums h k (by omega)
    have e := h k (by omega)
    rw [show sm l 0 0 (k + 1) = sm l 0 0 k + at0 l (k + 2) * at0 l (k + 2) from rfl, show sm l 0 1 (k + 1) = sm l 0 1 k + at0 l (k + 2) * at0 l (k + 1) from rfl, show sm l 0 2 (k + 1) = sm l 0 2 k + at0 l (k + 2) * at0 l k from rfl,
      show sm l 1 1 (k + 1) = sm l 1 1 k + at0 l (k + 1) * at0 l (k + 1) from rfl, show sm l 1 2 (k + 1) = sm l 1 2 k + at0 l (k + 1) * at0 l k from rfl, show sm l 2 2 (k + 1) = sm l 2 2 k + at0 l k * at0 l k from rfl,
      show sm l 1 0 (k + 1) = sm l 1 0 k + at0 l (k + 1) * at0 l (k + 2) from rfl, show sm l 2 0 (k + 1) = sm l 2 0 k + at0 l k * at0 l (k + 2) from rfl, h1, h2, h3]
    generalize at0 l (k + 1) = y at *
    generalize at0 l k = z at *
    generalize at0 l (k + 2) = x at *
    subst e
    refine ⟨?_, ?_, ?_⟩ <;> grind
theorem rec_prd {l : List Int} (hs : smallL l) {N : Nat} (hN : N ≤ 20) (hl : N + 2 ≤ l.length) (hd : dT l N ≠ 0) {a b : Int} (h : Rec l a b) : prd l N = (a, b, 1) ∧ rs l a b 1 N = 0 := by
  obtain ⟨h1, h2, h3⟩ := rec_sums h N hl
  have ea : aT l N = a * dT l N := by unfold aT dT; rw [h1, h2]; grind
  have eb : bT l N = b * dT l N := by unfold bT dT; rw [h1, h2]; grind
  obtain ⟨⟨d1, d2⟩, _, _⟩ := abd_in hs hN
  obtain ⟨D, hD⟩ := Int.eq_ofNat_of_zero_le d1
  have hg : gcdL [aT l N, bT l N, dT l N] = D := by
    rw [gcdL3, ea, eb, hD, Int.natAbs_mul, Int.natAbs_mul, Int.natAbs_natCast, Nat.gcd_mul_right]
    exact Nat.gcd_mul_left_left _ D
  have hD0 : (D : Int) ≠ 0 := by omega
  refine ⟨?_, ?_⟩
  · unfold prd
    rw [hg, ea, eb, hD, Int.mul_tdiv_cancel _ hD0, Int.mul_tdiv_cancel _ hD0, Int.tdiv_self hD0]
  · unfold rs; rw [h3]; omega
end Go.Proofs.Ythffbfkcmbgghaa
