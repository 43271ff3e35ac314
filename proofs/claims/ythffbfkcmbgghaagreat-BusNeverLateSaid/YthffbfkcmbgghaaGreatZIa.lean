/-
  General: loops over lists, errors, wrapped numbers, common divisors (of functions as tools/lift.py writes them).
-/
import Derived.Test.YthffbfkcmbgghaaGreatZEc
set_option linter.all false
namespace Go.Proofs.YthffbfkcmbgghaaGreat
open Go Go.RowKit
theorem idx {α : Type} {l : List α} {i : Nat} {e : α} (h : l[i]? = some e) : (i : Int) < (l.length : Int) ∧ (0 : Int) ≤ (i : Int) ∧ l[0 + ((i : Int)).toNat]? = some e := by
 have := (List.getElem?_eq_some_iff.1 h).1
 refine ⟨by omega, by omega, ?_⟩
 rw [Int.toNat_natCast, Nat.zero_add]; exact h
theorem wrapS {i : Nat} (h : i < 4611686018427387904) : IntKind.wrap .i64 ((i : Int) + 1) = ((i + 1 : Nat) : Int) := by
 rw [IntKind.wrap_i64]; omega
theorem wrapB {x : Int} (h : -9223372036854775808 ≤ x) (h' : x ≤ 9223372036854775807) : IntKind.wrap .i64 x = x := by
 rw [IntKind.wrap_i64]; omega
def runF {α σ ε : Type} (f : Nat → α → σ → ε ⊕ σ) : List α → Nat → σ → ε ⊕ σ
 | [], _, s => .inr s
 | e :: r, i, s => match f i e s with
  | .inl x => .inl x
  | .inr s' => runF f r (i + 1) s'
theorem loop_run {α σ ε τ : Type} (l : List α) (L : Nat → Nat → σ → Option τ) (f : Nat → α → σ → ε ⊕ σ) (out : ε ⊕ σ → τ)
  (hend : ∀ n s, L (n + 1) l.length s = some (out (.inr s)))
  (hstep : ∀ n i e s, l[i]? = some e → L (n + 1) i s = match f i e s with | .inl x => some (out (.inl x)) | .inr s' => L n (i + 1) s') :
  ∀ n i s, i ≤ l.length → l.length - i < n → L n i s = some (out (runF f (l.drop i) i s))
 | 0, i, s, _, h => by omega
 | n + 1, i, s, hi, h => by
  rcases Nat.lt_or_ge i l.length with h1 | h1
  ·have he : l[i]? = some l[i] := List.getElem?_eq_getElem h1
   rw [hstep n i _ s he, List.drop_eq_getElem_cons h1, runF]
   cases hf : f i l[i] s with
   | inl x => rfl
   | inr s' => exact loop_run l L f out hend hstep n (i + 1) s' (by omega) (by omega)
  ·have : i = l.length := by omega
   subst this
   rw [hend, List.drop_of_length_le (Nat.le_refl _), runF]
/-! ### Errors -/
def limE (a lo hi : Int) : Int := if a < lo ∨ hi < a then 2 else 0
theorem limE_zero {a lo hi : Int} : limE a lo hi = 0 ↔ lo ≤ a ∧ a ≤ hi := by
 unfold limE; split <;> omega
theorem limE_two {a lo hi : Int} (h : ¬ (lo ≤ a ∧ a ≤ hi)) : limE a lo hi = 2 := by
 unfold limE; rw [if_pos (by omega)]
def firstE : List Int → Int
 | [] => 0
 | a :: r => if a = 0 then firstE r else a
/-! ### Common divisors -/
end Go.Proofs.YthffbfkcmbgghaaGreat
