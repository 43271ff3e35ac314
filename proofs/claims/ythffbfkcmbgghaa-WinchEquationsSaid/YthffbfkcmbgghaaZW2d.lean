/-
  Predictors: the program's equations and the document's sums.
-/
import Derived.Test.YthffbfkcmbgghaaZW2c
import Derived.Test.YthffbfkcmbgghaaZW2s
set_option linter.all false
namespace Go.Proofs.Ythffbfkcmbgghaa
open Go Go.RowKit
theorem sm_step {l : List Int} (hs : smallL l) (a b k : Nat) (hk : k ≤ 22) : IntKind.wrap .i64 (sm l a b k + IntKind.wrap .i64 (at0 l (k + 2 - a) * at0 l (k + 2 - b))) = sm l a b (k + 1) := by
  have h1 := mulB (at_in hs (k + 2 - a)) (at_in hs (k + 2 - b))
  have h2 := sm_in hs a b k
  have h3 := sm_in hs a b (k + 1)
  rw [wrapB (x := at0 l (k + 2 - a) * at0 l (k + 2 - b)) (by omega) (by omega)]
  show IntKind.wrap .i64 (sm l a b (k + 1)) = _
  rw [wrapB (by omega) (by omega)]
theorem ix {l : List Int} {i : Nat} (h : i < l.length) (hl : l.length ≤ 22) {x : Int} (hx : x = (i : Int)) : (0 : Int) ≤ x ∧ x < (l.length : Int) ∧ l[0 + x.toNat]? = some (at0 l i) := by
  subst hx
  refine ⟨by omega, by omega, ?_⟩
  rw [show 0 + ((i : Int)).toNat = i by omega, at0_some h]
theorem rows1 (fu : Nat) {l : List Int} (hs : smallL l) (hl : l.length ≤ 22) {N : Nat} (hN : N + 2 = l.length) : ∀ (m n k : Nat), k + m = N → m < n → w_rows_1_L1 fu l (N : Int) n (sm l 1 1 k) (sm l 1 2 k) (sm l 1 0 k) (sm l 2 1 k) (sm l 2 2 k) (sm l 2 0 k) (k : Int) = some (sm l 1 1 N, sm l 1 2 N, sm l 1 0 N, sm l 2 1 N, sm l 2 2 N, sm l 2 0 N)
  | _, 0, _, _, hn => by omega
  | 0, n + 1, k, h, _ => by
    have : k = N := by omega
    subst this
    rw [w_rows_1_L1, if_neg (by omega)]
  | m + 1, n + 1, k, h, hn => by
    obtain ⟨a1, a2, a3⟩ := ix (i := k + 2) (by omega) hl (x := IntKind.wrap .i64 ((k : Int) + 2)) (by rw [wrapB] <;> omega)
    obtain ⟨b1, b2, b3⟩ := ix (i := k + 1) (by omega) hl (x := IntKind.wrap .i64 ((k : Int) + 1)) (by rw [wrapB] <;> omega)
    obtain ⟨c1, c2, c3⟩ := ix (l := l) (i := k) (by omega) hl (x := (k : Int)) rfl
    rw [w_rows_1_L1, if_pos (show (k : Int) < (N : Int) by omega), if_pos a1, if_pos a2, a3, Option.bind_some, if_pos b1, if_pos b2, b3, Option.bind_some, if_pos c1, if_pos c2, c3, Option.bind_some]
    rw [show IntKind.wrap .i64 (sm l 1 1 k + IntKind.wrap .i64 (at0 l (k + 1) * at0 l (k + 1))) = sm l 1 1 (k + 1) from sm_step hs 1 1 k (by omega),
      show IntKind.wrap .i64 (sm l 1 2 k + IntKind.wrap .i64 (at0 l (k + 1) * at0 l k)) = sm l 1 2 (k + 1) from sm_step hs 1 2 k (by omega),
      show IntKind.wrap .i64 (sm l 1 0 k + IntKind.wrap .i64 (at0 l (k + 1) * at0 l (k + 2))) = sm l 1 0 (k + 1) from sm_step hs 1 0 k (by omega),
      show IntKind.wrap .i64 (sm l 2 1 k + IntKind.wrap .i64 (at0 l k * at0 l (k + 1))) = sm l 2 1 (k + 1) from sm_step hs 2 1 k (by omega),
      show IntKind.wrap .i64 (sm l 2 2 k + IntKind.wrap .i64 (at0 l k * at0 l k)) = sm l 2 2 (k + 1) from sm_step hs 2 2 k (by omega),
      show IntKind.wrap .i64 (sm l 2 0 k + IntKind.wrap .i64 (at0 l k * at0 l (k + 2))) = sm l 2 0 (k + 1) from sm_step hs 2 0 k (by omega),
      show IntKind.wrap .i64 ((k : Int) + 1) = ((k + 1 : Nat) : Int) by rw [wrapB] <;> omega]
    exact rows1 fu hs hl hN m n (k + 1) (by omega) (by omega)
theorem w_eqs {fu : Nat} (hf : 100 ≤ fu) {l : List Int} (hs : smallL l) (hl : l.length ≤ 22) {N : Nat} (hN : N + 2 = l.length) : w_equations fu l = some (sm l 1 1 N, sm l 1 2 N, sm l 1 0 N, sm l 2 1 N, sm l 2 2 N, sm l 2 0 N) := by
  unfold w_equations w_rows_1
  rw [show IntKind.wrap .i64 ((l.length : Int) - 2) = (N : Int) by rw [wrapB] <;> omega]
  have := rows1 fu hs hl hN N fu 0 (by omega) (by omega)
  rw [show ((0 : Nat) : Int) = 0 from rfl] at this
  rw [show w_rows_1_L1 fu l (N : Int) fu 0 0 0 0 0 0 0 = _ from this]
  rfl
def dT (l : List Int) (N : Nat) : Int := sm l 1 1 N * sm l 2 2 N - sm l 1 2 N * sm l 1 2 N
def aT (l : List Int) (N : Nat) : Int := sm l 1 0 N * sm l 2 2 N - sm l 2 0 N * sm l 1 2 N
def bT (l : List Int) (N : Nat) : Int := sm l 2 0 N * sm l 1 1 N - sm l 1 0 N * sm l 1 2 N
theorem s_in {l : List Int} (hs : smallL l) {N : Nat} (hN : N ≤ 20) (a b : Nat) : -200000 ≤ sm l a b N ∧ sm l a b N ≤ 200000 := by have := sm_in hs a b N; omega
theorem pr_in {l : List Int} (hs : smallL l) {N : Nat} (hN : N ≤ 20) (a b c d : Nat) : -40000000000 ≤ sm l a b N * sm l c d N ∧ sm l a b N * sm l c d N ≤ 40000000000 := by
  have := mulB (s_in hs hN a b) (s_in hs hN c d); omega
theorem abd_in {l : List Int} (hs : smallL l) {N : Nat} (hN : N ≤ 20) : (0 ≤ dT l N ∧ dT l N ≤ 80000000000) ∧ (-80000000000 ≤ aT l N ∧ aT l N ≤ 80000000000) ∧ (-80000000000 ≤ bT l N ∧ bT l N ≤ 80000000000) := by
  have h0 := sm_det l N
  have h1 := pr_in hs hN 1 1 2 2
  have h2 := pr_in hs hN 1 2 1 2
  have h3 := pr_in hs hN 1 0 2 2
  have h4 := pr_in hs hN 2 0 1 2
  have h5 := pr_in hs hN 2 0 1 1
  have h6 := pr_in hs hN 1 0 1 2
  unfold dT aT bT
  omega
def prd (l : List Int) (N : Nat) : Int × Int × Int := (Int.tdiv (aT l N) (gcdL [aT l N, bT l N, dT l N]), Int.tdiv (bT l N) (gcdL [aT l N, bT l N, dT l N]), Int.tdiv (dT l N) (gcdL [aT l N, bT l N, dT l N]))
theorem w_det {l : List Int} (hs : smallL l) {N : Nat} (hN : N ≤ 20) (x y : Int) : w_determinant (sm l 1 1 N) (sm l 1 2 N) x (sm l 2 1 N) (sm l 2 2 N) y = some (dT l N) := by
  have h1 := pr_in hs hN 1 1 2 2
  have h2 := pr_in hs hN 1 2 1 2
  have h3 := (abd_in hs hN).1
  unfold w_determinant
  rw [sm_comm l 2 1, wrapB (x := sm l 1 1 N * sm l 2 2 N) (by omega) (by omega), wrapB (x := sm l 1 2 N * sm l 1 2 N) (by omega) (by omega), wrapB (x := _ - _) (by unfold dT at h3; omega) (by unfold dT at h3; omega)]
  rfl
end Go.Proofs.Ythffbfkcmbgghaa
