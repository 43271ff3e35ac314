/-
  Sums of products of samples, and the inequality of Cauchy and Schwarz.
-/
import Derived.Test.YthffbfkcmbgghaaZIa
set_option linter.all false
namespace Go.Proofs.Ythffbfkcmbgghaa
open Go Go.RowKit
theorem mulB {x y m n : Int} (hx : -m ≤ x ∧ x ≤ m) (hy : -n ≤ y ∧ y ≤ n) : -(m * n) ≤ x * y ∧ x * y ≤ m * n := by
  have h1 := Int.mul_nonneg (show 0 ≤ m - x by omega) (show 0 ≤ n + y by omega)
  have h2 := Int.mul_nonneg (show 0 ≤ m + x by omega) (show 0 ≤ n - y by omega)
  have h3 := Int.mul_nonneg (show 0 ≤ m - x by omega) (show 0 ≤ n - y by omega)
  have h4 := Int.mul_nonneg (show 0 ≤ m + x by omega) (show 0 ≤ n + y by omega)
  have e1 : (m - x) * (n + y) + (m + x) * (n - y) = 2 * (m * n) - 2 * (x * y) := by grind
  have e2 : (m - x) * (n - y) + (m + x) * (n + y) = 2 * (m * n) + 2 * (x * y) := by grind
  omega
def at0 (l : List Int) (i : Nat) : Int := (l[i]?).getD 0
theorem at0_some {l : List Int} {i : Nat} (h : i < l.length) : l[i]? = some (at0 l i) := by
  unfold at0; rw [List.getElem?_eq_getElem h]; rfl
def sm (l : List Int) (a b : Nat) : Nat → Int
  | 0 => 0
  | k + 1 => sm l a b k + at0 l (k + 2 - a) * at0 l (k + 2 - b)
def smallL (l : List Int) : Prop := ∀ x ∈ l, -100 ≤ x ∧ x ≤ 100
theorem at_in {l : List Int} (h : smallL l) (i : Nat) : -100 ≤ at0 l i ∧ at0 l i ≤ 100 := by
  unfold at0
  cases e : l[i]? with
  | none => simp
  | some x => exact h x (List.mem_of_getElem? e)
theorem sm_in {l : List Int} (h : smallL l) (a b : Nat) : ∀ k : Nat, -(10000 * (k : Int)) ≤ sm l a b k ∧ sm l a b k ≤ 10000 * (k : Int)
  | 0 => by unfold sm; omega
  | k + 1 => by
    have := sm_in h a b k
    have := mulB (at_in h (k + 2 - a)) (at_in h (k + 2 - b))
    unfold sm
    omega
theorem sm_comm (l : List Int) (a b : Nat) : ∀ k : Nat, sm l a b k = sm l b a k
  | 0 => rfl
  | k + 1 => by unfold sm; rw [sm_comm l a b k, Int.mul_comm]
theorem sm_form (l : List Int) (s t : Int) : ∀ k : Nat, 0 ≤ s * s * sm l 1 1 k + 2 * (s * t) * sm l 1 2 k + t * t * sm l 2 2 k
  | 0 => by unfold sm; simp
  | k + 1 => by
    have h := sm_form l s t k
    unfold sm
    generalize sm l 1 1 k = A at *
    generalize sm l 1 2 k = B at *
    generalize sm l 2 2 k = C at *
    generalize at0 l (k + 2 - 1) = x
    generalize at0 l (k + 2 - 2) = y
    have e : s * s * (A + x * x) + 2 * (s * t) * (B + x * y) + t * t * (C + y * y) = (s * s * A + 2 * (s * t) * B + t * t * C) + (s * x + t * y) * (s * x + t * y) := by grind
    have q : 0 ≤ (s * x + t * y) * (s * x + t * y) := by
      generalize s * x + t * y = z
      rcases Int.le_total 0 z with c | c
      · exact Int.mul_nonneg c c
      · have := Int.mul_nonneg (show 0 ≤ -z by omega) (show 0 ≤ -z by omega); rwa [Int.neg_mul_neg] at this
    rw [e]; omega
theorem form_det {A B C : Int} (h : ∀ s t : Int, 0 ≤ s * s * A + 2 * (s * t) * B + t * t * C) : 0 ≤ A * C - B * B := by
  have hC : 0 ≤ C := by have := h 0 1; simpa using this
  have hA : 0 ≤ A := by have := h 1 0; simpa using this
  rcases Int.lt_or_eq_of_le hC with c | c
  · have h1 := h C (-B)
    have e : C * C * A + 2 * (C * -B) * B + -B * -B * C = C * (A * C - B * B) := by grind
    rw [e] at h1
    refine Int.not_lt.1 fun q => ?_
    have := Int.mul_neg_of_pos_of_neg c q
    omega
  · subst c
    have hB : B * B = 0 := by
      refine Classical.byContradiction fun q => ?_
      have h0 : 0 ≤ B * B := by
        rcases Int.le_total 0 B with c | c
        · exact Int.mul_nonneg c c
        · have := Int.mul_nonneg (show 0 ≤ -B by omega) (show 0 ≤ -B by omega); rwa [Int.neg_mul_neg] at this
      have h1 := h 1 (-((A + 1) * B))
      have e : 1 * 1 * A + 2 * (1 * -((A + 1) * B)) * B + -((A + 1) * B) * -((A + 1) * B) * 0 = A - 2 * ((A + 1) * (B * B)) := by grind
      rw [e] at h1
      have h2 := Int.mul_nonneg (show 0 ≤ A + 1 by omega) (show 0 ≤ B * B - 1 by omega)
      have e2 : (A + 1) * (B * B - 1) = (A + 1) * (B * B) - (A + 1) := by grind
      omega
    rw [hB]; simp
theorem sm_det (l : List Int) (k : Nat) : 0 ≤ sm l 1 1 k * sm l 2 2 k - sm l 1 2 k * sm l 1 2 k := form_det fun s t => sm_form l s t k
end Go.Proofs.Ythffbfkcmbgghaa
