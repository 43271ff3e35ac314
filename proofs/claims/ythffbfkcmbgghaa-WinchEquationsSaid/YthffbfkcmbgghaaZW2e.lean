/-
  Samples with an index, predictors, residuals: program and document.
-/
import Derived.Test.YthffbfkcmbgghaaZW2d
set_option linter.all false
namespace Go.Proofs.Ythffbfkcmbgghaa
open Go Go.RowKit
theorem smpE_ok {l : List Int} (h : smpE l = 0) : 4 ≤ l.length ∧ l.length ≤ 20 ∧ smallL l := by
  unfold smpE at h
  split at h
  · omega
  · split at h
    · omega
    · split at h
      · rename_i h1 h2 h3
        refine ⟨by omega, by omega, fun x hx => ?_⟩
        have := List.all_eq_true.1 h3 x hx
        simpa using this
      · omega
theorem tdiv_in {x : Int} {g : Nat} (hg : 0 < g) {M : Int} (h : -M ≤ x ∧ x ≤ M) : -M ≤ Int.tdiv x (g : Int) ∧ Int.tdiv x (g : Int) ≤ M := by
  have h1 : (Int.tdiv x (g : Int)).natAbs = x.natAbs / g := by rw [Int.natAbs_tdiv, Int.natAbs_natCast]; rfl
  have h2 := Nat.div_le_self x.natAbs g
  omega
structure Prd (l : List Int) (N : Nat) : Prop where
  g : 0 < gcdL [aT l N, bT l N, dT l N]
  le : gcdL [aT l N, bT l N, dT l N] ≤ 80000000000
  a : -80000000000 ≤ (prd l N).1 ∧ (prd l N).1 ≤ 80000000000
  b : -80000000000 ≤ (prd l N).2.1 ∧ (prd l N).2.1 ≤ 80000000000
  d : 1 ≤ (prd l N).2.2 ∧ (prd l N).2.2 ≤ 80000000000
theorem prd_ok {l : List Int} (hs : smallL l) {N : Nat} (hN : N ≤ 20) (hd : dT l N ≠ 0) : Prd l N := by
  obtain ⟨⟨d1, d2⟩, a1, b1⟩ := abd_in hs hN
  have g0 : 0 < gcdL [aT l N, bT l N, dT l N] := by rw [gcdL3]; exact Nat.gcd_pos_of_pos_right _ (by omega)
  have g1 : gcdL [aT l N, bT l N, dT l N] ≤ (dT l N).natAbs := by
    rw [gcdL3]; exact Nat.gcd_le_right _ (by omega)
  refine ⟨g0, by omega, tdiv_in g0 a1, tdiv_in g0 b1, ?_, (tdiv_in g0 (M := 80000000000) ⟨by omega, d2⟩).2⟩
  show 1 ≤ Int.tdiv (dT l N) _
  have h1 : (Int.tdiv (dT l N) (gcdL [aT l N, bT l N, dT l N] : Int)).natAbs = (dT l N).natAbs / gcdL [aT l N, bT l N, dT l N] := by rw [Int.natAbs_tdiv, Int.natAbs_natCast]; rfl
  have h2 : 1 ≤ (dT l N).natAbs / gcdL [aT l N, bT l N, dT l N] := by rw [Nat.le_div_iff_mul_le g0]; omega
  have h3 := Int.tdiv_nonneg (show 0 ≤ dT l N by omega) (show (0 : Int) ≤ (gcdL [aT l N, bT l N, dT l N] : Int) by omega)
  omega
theorem w_abd {l : List Int} (hs : smallL l) {N : Nat} (hN : N ≤ 20) : IntKind.wrap .i64 (IntKind.wrap .i64 (sm l 1 0 N * sm l 2 2 N) - IntKind.wrap .i64 (sm l 2 0 N * sm l 1 2 N)) = aT l N ∧ IntKind.wrap .i64 (IntKind.wrap .i64 (sm l 2 0 N * sm l 1 1 N) - IntKind.wrap .i64 (sm l 1 0 N * sm l 2 1 N)) = bT l N := by
  obtain ⟨_, a1, b1⟩ := abd_in hs hN
  have h3 := pr_in hs hN 1 0 2 2
  have h4 := pr_in hs hN 2 0 1 2
  have h5 := pr_in hs hN 2 0 1 1
  have h6 := pr_in hs hN 1 0 1 2
  rw [sm_comm l 2 1, wrapB (x := sm l 1 0 N * sm l 2 2 N) (by omega) (by omega), wrapB (x := sm l 2 0 N * sm l 1 2 N) (by omega) (by omega), wrapB (x := sm l 2 0 N * sm l 1 1 N) (by omega) (by omega), wrapB (x := sm l 1 0 N * sm l 1 2 N) (by omega) (by omega)]
  exact ⟨wrapB (x := aT l N) (by omega) (by omega), wrapB (x := bT l N) (by omega) (by omega)⟩
theorem w_pred {fu : Nat} (hf : 18446744073709551616 ≤ fu) {l : List Int} (hl : l.length ≤ 22) : w_PredictorOf fu l = some (if smpE l = 0 then (if dT l (l.length - 2) = 0 then (0, 0, 0, 11) else ((prd l (l.length - 2)).1, (prd l (l.length - 2)).2.1, (prd l (l.length - 2)).2.2, 0)) else (0, 0, 0, smpE l)) := by
  unfold w_PredictorOf
  rw [wSamples_eq fu hf l hl, Option.bind_some]
  by_cases h : smpE l = 0
  · obtain ⟨h1, h2, hs⟩ := smpE_ok h
    have hN : l.length - 2 ≤ 20 := by omega
    rw [if_pos h, if_pos h, w_eqs (by omega) hs hl (N := l.length - 2) (by omega), Option.bind_some]
    simp only []
    rw [w_det hs hN, Option.bind_some]
    by_cases hd : dT l (l.length - 2) = 0
    · rw [if_pos hd, if_pos hd]
    · have pk := prd_ok hs hN hd
      obtain ⟨⟨d1, d2⟩, a1, b1⟩ := abd_in hs hN
      rw [if_neg hd, if_neg hd, (w_abd hs hN).1, (w_abd hs hN).2, divisor_eq fu _ (by simp; omega) (by simp) (by simp; omega) (by have := pk.le; omega), Option.bind_some, if_neg (by have := pk.g; omega)]
      obtain ⟨_, _, pa, pb, pd⟩ := pk
      have pa : -80000000000 ≤ Int.tdiv (aT l (l.length - 2)) _ ∧ Int.tdiv (aT l (l.length - 2)) _ ≤ 80000000000 := pa
      have pb : -80000000000 ≤ Int.tdiv (bT l (l.length - 2)) _ ∧ Int.tdiv (bT l (l.length - 2)) _ ≤ 80000000000 := pb
      have pd : 1 ≤ Int.tdiv (dT l (l.length - 2)) _ ∧ Int.tdiv (dT l (l.length - 2)) _ ≤ 80000000000 := pd
      rw [wrapB (x := Int.tdiv (aT l (l.length - 2)) _) (by omega) (by omega), wrapB (x := Int.tdiv (bT l (l.length - 2)) _) (by omega) (by omega), wrapB (x := Int.tdiv (dT l (l.length - 2)) _) (by omega) (by omega)]
      rfl
  · rw [if_neg h, if_neg h]
def rs (l : List Int) (A B D : Int) (k : Nat) : Int := D * sm l 0 0 k - A * sm l 0 1 k - B * sm l 0 2 k
theorem rs_in {l : List Int} (hs : smallL l) {A B D : Int} (hA : -80000000000 ≤ A ∧ A ≤ 80000000000) (hB : -80000000000 ≤ B ∧ B ≤ 80000000000) (hD : -80000000000 ≤ D ∧ D ≤ 80000000000) {k : Nat} (hk : k ≤ 20) :
    (-16000000000000000 ≤ D * sm l 0 0 k ∧ D * sm l 0 0 k ≤ 16000000000000000) ∧ (-16000000000000000 ≤ A * sm l 0 1 k ∧ A * sm l 0 1 k ≤ 16000000000000000) ∧ (-16000000000000000 ≤ B * sm l 0 2 k ∧ B * sm l 0 2 k ≤ 16000000000000000) := by
  have h1 := mulB hD (s_in hs hk 0 0)
  have h2 := mulB hA (s_in hs hk 0 1)
  have h3 := mulB hB (s_in hs hk 0 2)
  omega
theorem rows2 (fu : Nat) {l : List Int} (hs : smallL l) (hl : l.length ≤ 22) {A B D : Int} (hA : -80000000000 ≤ A ∧ A ≤ 80000000000) (hB : -80000000000 ≤ B ∧ B ≤ 80000000000) (hD : -80000000000 ≤ D ∧ D ≤ 80000000000) {N : Nat} (hN : N + 2 = l.length) : ∀ (m n k : Nat), k + m = N → m < n → w_rows_1_2_L1 fu l A B D (N : Int) n (rs l A B D k) (k : Int) = some (rs l A B D N)
  | _, 0, _, _, hn => by omega
  | 0, n + 1, k, h, _ => by
    have : k = N := by omega
    subst this
    rw [w_rows_1_2_L1, if_neg (by omega)]
  | m + 1, n + 1, k, h, hn => by
    obtain ⟨a1, a2, a3⟩ := ix (i := k + 2) (by omega) hl (x := IntKind.wrap .i64 ((k : Int) + 2)) (by rw [wrapB] <;> omega)
    obtain ⟨b1, b2, b3⟩ := ix (i := k + 1) (by omega) hl (x := IntKind.wrap .i64 ((k : Int) + 1)) (by rw [wrapB] <;> omega)
    obtain ⟨c1, c2, c3⟩ := ix (l := l) (i := k) (by omega) hl (x := (k : Int)) rfl
    rw [w_rows_1_2_L1, if_pos (show (k : Int) < (N : Int) by omega), if_pos a1, if_pos a2, a3, Option.bind_some, if_pos b1, if_pos b2, b3, Option.bind_some, if_pos c1, if_pos c2, c3, Option.bind_some]
    have x1 := mulB hD (at_in hs (k + 2))
    have x2 := mulB hA (at_in hs (k + 1))
    have x3 := mulB hB (at_in hs k)
    have x4 := mulB (m := 100) (n := 24000000000000) (at_in hs (k + 2)) (y := D * at0 l (k + 2) - A * at0 l (k + 1) - B * at0 l k) (by omega)
    have r1 := rs_in hs hA hB hD (k := k) (by omega)
    have r2 := rs_in hs hA hB hD (k := k + 1) (by omega)
    have e : rs l A B D k + at0 l (k + 2) * (D * at0 l (k + 2) - A * at0 l (k + 1) - B * at0 l k) = rs l A B D (k + 1) := by
      unfold rs
      rw [show sm l 0 0 (k + 1) = sm l 0 0 k + at0 l (k + 2) * at0 l (k + 2) from rfl, show sm l 0 1 (k + 1) = sm l 0 1 k + at0 l (k + 2) * at0 l (k + 1) from rfl, show sm l 0 2 (k + 1) = sm l 0 2 k + at0 l (k + 2) * at0 l k from rfl]
      grind
    rw [wrapB (x := D * at0 l (k + 2)) (by omega) (by omega), wrapB (x := A * at0 l (k + 1)) (by omega) (by omega), wrapB (x := B * at0 l k) (by omega) (by omega), wrapB (x := D * at0 l (k + 2) - A * at0 l (k + 1)) (by omega) (by omega), wrapB (x := D * at0 l (k + 2) - A * at0 l (k + 1) - B * at0 l k) (by omega) (by omega), wrapB (x := at0 l (k + 2) * _) (by omega) (by omega), e, wrapB (x := rs l A B D (k + 1)) (by unfold rs; omega) (by unfold rs; omega),
      show IntKind.wrap .i64 ((k : Int) + 1) = ((k + 1 : Nat) : Int) by rw [wrapB] <;> omega]
    exact rows2 fu hs hl hA hB hD hN m n (k + 1) (by omega) (by omega)
end Go.Proofs.Ythffbfkcmbgghaa
