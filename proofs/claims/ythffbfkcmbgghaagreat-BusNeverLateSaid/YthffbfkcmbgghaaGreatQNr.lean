/-
  Chapter 7: the document's schedule of messages.
-/
import Derived.Test.YthffbfkcmbgghaaGreatZK7e
import Derived.Test.YthffbfkcmbgghaaGreatQNm
import Derived.Test.YthffbfkcmbgghaaGreatZIa
set_option linter.all false
namespace Go.Proofs.YthffbfkcmbgghaaGreat
open Go Go.RowKit
set_option maxHeartbeats 1000000
namespace Bs
abbrev Str := Int × Int × Int × Int
structure OkS (l : List Str) (s : List Int) : Prop where
 len : s.length = l.length
 few : l.length ≤ 6
 ok : ∀ (i : Nat) x, l[i]? = some x → 1 ≤ x.2.1 ∧ x.2.1 ≤ 60 ∧ 1 ≤ x.2.2.1 ∧ x.2.2.1 ≤ 60 ∧ 1 ≤ x.2.2.2 ∧ x.2.2.2 ≤ 20
 st : ∀ (i : Nat) x, s[i]? = some x → 0 ≤ x ∧ x ≤ 400
def gs (l : List Str) (i : Nat) : Str := l[i]?.getD (0, 0, 0, 0)
theorem gs_at {l : List Str} {i : Nat} {x : Str} (h : l[i]? = some x) : gs l i = x := by rw [gs, h]; rfl
def sy {l : List Str} {s : List Int} (h : OkS l s) : Sy where
 n := l.length
 P i := (gs l i).2.1
 D i := (gs l i).2.2.1
 L i := (gs l i).2.2.2
 S i := s[i]?.getD 0
 hP := fun i hi => by
  have e := List.getElem?_eq_getElem hi
  rw [gs_at e]
  have := h.ok i _ e
  omega
 hL := fun i hi => by
  have e := List.getElem?_eq_getElem hi
  rw [gs_at e]
  have := h.ok i _ e
  omega
 hS := fun i hi => by
  have e := List.getElem?_eq_getElem (show i < s.length by rw [h.len]; exact hi)
  rw [e]
  exact (h.st i _ e).1
variable {l : List Str} {s : List Int} (h : OkS l s)
end Bs
end Go.Proofs.YthffbfkcmbgghaaGreat

namespace Go.Proofs.YthffbfkcmbgghaaGreat
open Go Go.RowKit
set_option maxHeartbeats 1000000
namespace Bs
variable {l : List Str} {s : List Int} (h : OkS l s)
theorem fin_iff {c L : Int} (hl : 0 < L) : (c + 1) % L = 0 ↔ L - c % L - 1 = 0 := by
 have m1 := Int.emod_nonneg c (show L ≠ 0 by omega)
 have m2 := Int.emod_lt_of_pos c hl
 rw [← Int.emod_add_emod]
 by_cases g : c % L + 1 < L
 ·rw [Int.emod_eq_of_lt (by omega) g]
  omega
 ·rw [show c % L + 1 = L by omega, Int.emod_self]
  omega
end Bs
end Go.Proofs.YthffbfkcmbgghaaGreat

namespace Go.Proofs.YthffbfkcmbgghaaGreat
open Go Go.RowKit
set_option maxHeartbeats 1000000
namespace Bs
variable (y : Sy)
theorem up_div {c L : Int} (hl : 0 < L) : ((c + 1) % L = 0 → (c + 1) / L = c / L + 1) ∧ ((c + 1) % L ≠ 0 → (c + 1) / L = c / L) := by
 have m1 := Int.emod_nonneg c (show L ≠ 0 by omega)
 have m2 := Int.emod_lt_of_pos c hl
 have e := Int.ediv_mul_add_emod c L
 have f := fin_iff (c := c) hl
 refine ⟨fun g => ?_, fun g => ?_⟩
 ·have r := f.1 g
  refine ((Int.ediv_emod_unique (a := c + 1) (r := 0) (q := c / L + 1) hl).2 ⟨?_, by omega, hl⟩).1
  rw [Int.mul_add, Int.mul_one, Int.mul_comm]
  omega
 ·have r : c % L + 1 < L := by
   by_cases q : L - c % L - 1 = 0
   ·exact absurd (f.2 q) g
   ·omega
  refine ((Int.ediv_emod_unique (a := c + 1) (r := c % L + 1) (q := c / L) hl).2 ⟨?_, by omega, r⟩).1
  rw [Int.mul_comm]
  omega
theorem run_zero {e : Bool} {t : Nat} {o : List Int} {c : Nat → Int} {R : Nat × Int → Int} (h : Run y e t o c R) : ∀ i, i < y.n → ∀ s, sent y c i ≤ s → R (i, s) = 0 := by
 induction h with
 | zero => exact fun _ _ _ _ => rfl
 | idle h hn ih => exact ih
 | @one t o c R i h hn ih =>
  intro j hj s hs
  have hl := y.hL i hn.1
  have hp := y.hP i hn.1
  have u := up_div (c := c i) hl
  unfold putR
  by_cases g : j = i
  ·subst g
   have eu : sent y (up c j) j = y.S j + (c j + 1) / y.L j * y.P j := by simp [sent, up]
   rw [eu] at hs
   by_cases g2 : (c j + 1) % y.L j = 0
   ·rw [u.1 g2, Int.add_mul, Int.one_mul] at hs
    have : sent y c j < s := by unfold sent; omega
    rw [if_neg (fun q => by injection q with _ q; omega)]
    exact ih j hj s (by omega)
   ·rw [u.2 g2] at hs
    have hs' : sent y c j ≤ s := by unfold sent; omega
    split
    ·unfold done
     rw [if_neg g2]
     exact ih j hj _ (Int.le_refl _)
    ·exact ih j hj s hs'
  ·rw [if_neg (fun q => g (by injection q))]
   refine ih j hj s ?_
   have : sent y (up c i) j = sent y c j := by simp [sent, up, g]
   omega
def IsW (t : Nat) (R : Nat × Int → Int) (i : Nat) (w : Int) : Prop := 0 ≤ w ∧ (∀ s, (i, s) ∈ keys y t → R (i, s) ≤ w) ∧ (w = 0 ∨ ∃ s, (i, s) ∈ keys y t ∧ R (i, s) = w)
theorem isW_next {e : Bool} {t : Nat} {o : List Int} {c : Nat → Int} {R : Nat × Int → Int} (h : Run y e t o c R) {i : Nat} {w : Int} (hw : IsW y t R i w) : IsW y (t + 1) R i w := by
 have inv := run_inv y h
 obtain ⟨a, b, d⟩ := hw
 refine ⟨a, fun s hs => ?_, ?_⟩
 ·rw [keys, List.mem_append] at hs
  rcases hs with hs | hs
  ·exact b s hs
  ·have := (mem_new y).1 hs
   rw [inv.2.2.2.2 (i, s) (by show (t : Int) ≤ s; omega)]
   exact a
 ·rcases d with d | ⟨s, hs, d⟩
  ·exact .inl d
  ·exact .inr ⟨s, by rw [keys, List.mem_append]; exact .inl hs, d⟩
theorem isW_put {e : Bool} {t : Nat} {o : List Int} {c : Nat → Int} {R : Nat × Int → Int} (h : Run y e t o c R) {i : Nat} (ch : Chosen y c e (t + 1) i) {j : Nat} {w : Int} (hw : IsW y t R j w) : IsW y (t + 1) (putR R (i, sent y c i) (done y c R i t)) j (if j = i then max w (if (c i + 1) % y.L i = 0 then (t : Int) - sent y c i + 1 else 0) else w) := by
 have hn := isW_next y h hw
 have z := run_zero y h i ch.1 (sent y c i) (Int.le_refl _)
 have inv := run_inv y h
 have m := sent_mem y c ch.1 (inv.2.1 i ch.1).1 ch.2.1
 have lt := ch.2.1
 obtain ⟨a, b, d⟩ := hn
 by_cases g : j = i
 ·subst g
  rw [if_pos rfl]
  have hv : done y c R j t = if (c j + 1) % y.L j = 0 then (t : Int) - sent y c j + 1 else 0 := by unfold done; rw [z]
  rw [hv]
  have v0 : 0 ≤ (if (c j + 1) % y.L j = 0 then (t : Int) - sent y c j + 1 else 0) := by split <;> omega
  generalize (if (c j + 1) % y.L j = 0 then (t : Int) - sent y c j + 1 else 0) = v at v0
  refine ⟨by omega, fun s hs => ?_, ?_⟩
  ·unfold putR
   split
   ·omega
   ·have := b s hs; omega
  ·by_cases q : w ≤ v
   ·exact .inr ⟨_, m, by unfold putR; rw [if_pos rfl]; omega⟩
   ·rcases d with d | ⟨s, hs, d⟩
    ·omega
    ·refine .inr ⟨s, hs, ?_⟩
     unfold putR
     rw [if_neg (fun g => by rw [g] at d; omega)]
     omega
 ·rw [if_neg g]
  refine ⟨a, fun s hs => ?_, ?_⟩
  ·unfold putR
   rw [if_neg (fun q => g (by injection q))]
   exact b s hs
  ·rcases d with d | ⟨s, hs, d⟩
   ·exact .inl d
   ·refine .inr ⟨s, hs, ?_⟩
    unfold putR
    rw [if_neg (fun q => g (by injection q))]
    exact d
end Bs
end Go.Proofs.YthffbfkcmbgghaaGreat
