/-
  How many operations of a region are still to come.
-/
import Derived.Test.YthffbfkcmbgghaaGreatZKb
import Derived.RangeFuncNested
import Derived.RangeFuncBound
import Derived.RangeFuncCalls
import Derived.RangeFuncLeaves
import Derived.Shelf.Abstract
import Derived.Shelf.RegionOpen
import Derived.OwnWalkIn
import Derived.TacticsInMore
import Derived.LoopNIn
import Derived.LoopIn
import Derived.StillTailTactics
import Derived.OrdersIn
set_option linter.all false
namespace Go.Proofs.YthffbfkcmbgghaaGreat.Cm
open Go.RowKit Go.Shelf
def left (listed : Array Bool) : Nat → Nat
 | 0 => 0
 | n + 1 => left listed n + if listed.getD n true = false then 1 else 0
theorem left_far (listed : Array Bool) (i : Nat) : ∀ n, n ≤ i → left (listed.setIfInBounds i true) n = left listed n
 | 0, _ => rfl
 | n + 1, h => by
  rw [left, left, left_far listed i n (by omega), getD_set_ne true (by omega)]
theorem left_set (listed : Array Bool) (i : Nat) (hi : listed.getD i true = false) : ∀ n, i < n → left (listed.setIfInBounds i true) n + 1 = left listed n
 | 0, h => by omega
 | n + 1, h => by
  rw [left, left]
  by_cases e : i = n
  ·subst e
   rw [left_far listed i i (Nat.le_refl _), if_pos hi]
   have hb : i < listed.size := by
    rcases Nat.lt_or_ge i listed.size with h' | h'
    ·exact h'
    ·simp [Array.getElem?_eq_none h'] at hi
   have : (listed.setIfInBounds i true).getD i true = true := by simp [hb]
   rw [this]; simp
  ·rw [getD_set_ne true e]
   have := left_set listed i hi n (by omega)
   omega
theorem left_zero (listed : Array Bool) : ∀ n, left listed n = 0 → ∀ i, i < n → listed.getD i true = true
 | 0, _, i, h => by omega
 | n + 1, h, i, hi => by
  rw [left] at h
  by_cases e : i = n
  ·subst e
   cases hc : listed.getD i true with
   | true => rfl
   | false => rw [if_pos hc] at h; omega
  ·exact left_zero listed n (by omega) i (by omega)
theorem left_least (listed : Array Bool) : ∀ n, left listed n ≠ 0 → ∃ i, i < n ∧ listed.getD i true = false ∧ ∀ j, j < i → listed.getD j true = true
 | 0, h => absurd rfl h
 | n + 1, h => by
  by_cases e : left listed n = 0
  ·rw [left, e] at h
   refine ⟨n, by omega, ?_, left_zero listed n e⟩
   cases hc : listed.getD n true with
   | true => rw [hc] at h; simp at h
   | false => rfl
  ·obtain ⟨i, h1, h2, h3⟩ := left_least listed n e
   exact ⟨i, by omega, h2, h3⟩
theorem left_all (m : Nat) : ∀ n, n ≤ m → left (Array.replicate m false) n = n
 | 0, _ => rfl
 | n + 1, h => by
  rw [left, left_all m n (by omega), if_pos]
  simp [show n < m by omega]
end Go.Proofs.YthffbfkcmbgghaaGreat.Cm
