/-
  Predictors, samples, fractions: the lifted functions.
-/
import Derived.Test.YthffbfkcmbgghaaZW2b
set_option linter.all false
namespace Go.Proofs.Ythffbfkcmbgghaa
open Go Go.RowKit
def predE (a b d : Int) : Int := if (1 ≤ d ∧ d ≤ 1000000000000) ∧ (-1000000000000 ≤ a ∧ a ≤ 1000000000000) ∧ (-1000000000000 ≤ b ∧ b ≤ 1000000000000) then (if gcdL [a, b, d] = 1 then 0 else 3) else 2
def smpE (l : List Int) : Int := if (l.length : Int) < 4 then 10 else if 20 < (l.length : Int) then 8 else if l.all (fun x => decide (-100 ≤ x ∧ x ≤ 100)) then 0 else 2
theorem gcdL3 (a b d : Int) : gcdL [a, b, d] = Nat.gcd (Nat.gcd a.natAbs b.natAbs) d.natAbs := by
  simp [gcdL, Nat.gcd_zero_left]
theorem gcdL2 (a b : Int) : gcdL [a, b] = Nat.gcd a.natAbs b.natAbs := by
  simp [gcdL, Nat.gcd_zero_left]
theorem wPred_eq (fu : Nat) (hf : 18446744073709551616 ≤ fu) (a b d : Int) : w_predictorError fu a b d = some (predE a b d) := by
  unfold w_predictorError predE
  rw [limit_eq, Option.bind_some, sizeE_eq fu _ _ (by simp; omega) (by simp) (by omega) (by omega), Option.bind_some, firstE_eq fu _ (by simp; omega) (by simp), Option.bind_some]
  by_cases h1 : 1 ≤ d ∧ d ≤ 1000000000000
  · have e1 : limE d 1 1000000000000 = 0 := limE_zero.2 h1
    by_cases h2 : (-1000000000000 ≤ a ∧ a ≤ 1000000000000) ∧ (-1000000000000 ≤ b ∧ b ≤ 1000000000000)
    · have e2 : sizeE 1000000000000 [a, b] = 0 := by unfold sizeE; simp only [List.all_cons, List.all_nil, h2.1, h2.2, decide_true, Bool.and_true, if_true, and_self]
      have hg : gcdL [a, b, d] ≤ 9223372036854775807 := by
        rw [gcdL3]
        have := Nat.gcd_le_right (Nat.gcd a.natAbs b.natAbs) (show 0 < d.natAbs by omega)
        omega
      rw [e1, e2, show firstE [0, 0] = 0 from rfl, if_pos rfl, divisor_eq fu _ (by simp; omega) (by simp) (by simp; omega) hg, Option.bind_some]
      have hr : (1 ≤ d ∧ d ≤ 1000000000000) ∧ (-1000000000000 ≤ a ∧ a ≤ 1000000000000) ∧ (-1000000000000 ≤ b ∧ b ≤ 1000000000000) := ⟨h1, h2.1, h2.2⟩
      rw [if_pos hr]
      by_cases h3 : gcdL [a, b, d] = 1
      · have h4 : ((gcdL [a, b, d] : Nat) : Int) = 1 := by omega
        rw [if_pos h4, if_pos h3]
      · have h4 : ¬ ((gcdL [a, b, d] : Nat) : Int) = 1 := by omega
        rw [if_neg h4, if_neg h3]
    · have e2 : sizeE 1000000000000 [a, b] = 2 := by
        unfold sizeE
        rw [if_neg]
        simp only [List.all_cons, List.all_nil, Bool.and_true, Bool.and_eq_true, decide_eq_true_eq]
        omega
      rw [e1, e2, show firstE [0, 2] = 2 from rfl, if_neg (by omega), if_neg (by omega)]
  · have e1 : limE d 1 1000000000000 = 2 := limE_two h1
    rw [e1, show ∀ x, firstE [2, x] = 2 from fun x => rfl, if_neg (by omega), if_neg (by omega)]
theorem rLowest_eq (fu : Nat) (hf : 18446744073709551616 ≤ fu) (a b d : Int) (hb : b.natAbs ≤ 1000000000000) (hd : 1 ≤ d ∧ d ≤ 1000000000000) : r2_Lowest fu a b d = some (IntKind.wrap .i64 (Int.tdiv a (gcdL [a, b, d])), IntKind.wrap .i64 (Int.tdiv b (gcdL [a, b, d])), IntKind.wrap .i64 (Int.tdiv d (gcdL [a, b, d]))) ∨ 9223372036854775807 < Nat.gcd a.natAbs b.natAbs := by
  by_cases hg : Nat.gcd a.natAbs b.natAbs ≤ 9223372036854775807
  · left
    have h0 : 0 < Nat.gcd (Nat.gcd a.natAbs b.natAbs) d.natAbs := Nat.gcd_pos_of_pos_right _ (by omega)
    have h1 := Nat.gcd_le_right (Nat.gcd a.natAbs b.natAbs) (show 0 < d.natAbs by omega)
    unfold r2_Lowest
    rw [gcd_eq fu a b (by omega) hg, Option.bind_some, gcd_eq fu _ d (by omega) (by rw [Int.natAbs_natCast]; omega), Option.bind_some, Int.natAbs_natCast, if_neg (by omega), if_neg (by omega), gcdL3]
  · right; omega
theorem rPred_eq (fu : Nat) (hf : 18446744073709551616 ≤ fu) (a b d : Int) : r2_PredictorErr fu a b d = some (predE a b d) := by
  unfold r2_PredictorErr predE
  rw [within_eq, Option.bind_some]
  by_cases h1 : 1 ≤ d ∧ d ≤ 1000000000000
  · rw [if_pos (by simpa using h1), within_eq, Option.bind_some]
    by_cases h2 : -1000000000000 ≤ a ∧ a ≤ 1000000000000
    · rw [if_pos (by simpa using h2), within_eq, Option.bind_some]
      by_cases h3 : -1000000000000 ≤ b ∧ b ≤ 1000000000000
      · rw [if_pos (by simpa using h3), if_pos ⟨h1, h2, h3⟩]
        have hab : Nat.gcd a.natAbs b.natAbs ≤ 1000000000000 := by
          rcases Nat.eq_zero_or_pos a.natAbs with h | h
          · rw [h, Nat.gcd_zero_left]; omega
          · have := Nat.gcd_le_left b.natAbs h; omega
        rcases rLowest_eq fu hf a b d (by omega) h1 with e | e
        · rw [e, Option.bind_some]
          have g0 : 0 < gcdL [a, b, d] := by rw [gcdL3]; exact Nat.gcd_pos_of_pos_right _ (by omega)
          have g1 : gcdL [a, b, d] ≤ 1000000000000 := by
            rw [gcdL3]
            have := Nat.gcd_le_right (Nat.gcd a.natAbs b.natAbs) (show 0 < d.natAbs by omega); omega
          generalize gcdL [a, b, d] = g at g0 g1
          by_cases hg : g = 1
          · subst hg
            have w : ∀ x : Int, -1000000000000 ≤ x → x ≤ 1000000000000 → IntKind.wrap .i64 (Int.tdiv x ((1 : Nat) : Int)) = x := fun x k1 k2 => by
              rw [show ((1 : Nat) : Int) = 1 from rfl, Int.tdiv_one, wrapB (by omega) (by omega)]
            simp only [w a h2.1 h2.2, w b h3.1 h3.2, w d (by omega) h1.2, if_true]
          · have hd : IntKind.wrap .i64 (Int.tdiv d (g : Int)) ≠ d := by
              obtain ⟨r1, r2⟩ := tdiv_range (x := d) g0 ⟨by omega, by omega⟩
              rw [wrapB r1 r2]
              have h4 : (Int.tdiv d (g : Int)).natAbs = d.natAbs / g := by rw [Int.natAbs_tdiv, Int.natAbs_natCast]; rfl
              have h5 : d.natAbs / g < d.natAbs := Nat.div_lt_self (by omega) (by omega)
              intro h6; rw [h6] at h4; omega
            simp only [hd, hg, if_false]
            repeat (first | rfl | split)
        · omega
      · rw [if_neg (by simpa using h3), if_neg (fun h => h3 h.2.2)]
    · rw [if_neg (by simpa using h2), if_neg (fun h => h2 h.2.1)]
  · rw [if_neg (by simpa using h1), if_neg (fun h => h1 h.1)]
theorem wSamples_eq (fu : Nat) (hf : 18446744073709551616 ≤ fu) (l : List Int) (hl : l.length ≤ 22) : w_samplesError fu l = some (smpE l) := by
  have one : ∀ e : Int, w_CheckSamples_1 fu e = some (if decide (-100 ≤ e ∧ e ≤ 100) = true then 0 else 2) := fun e => by
    unfold w_CheckSamples_1
    rw [sizeE_eq fu _ _ (by simp; omega) (by simp) (by omega) (by omega), Option.bind_some]
    unfold sizeE
    simp only [List.all_cons, List.all_nil, Bool.and_true]
  have loop := loop_run l (fun n i _ => u_FirstBad_int_CheckSamples_1_L1 fu l (l.length : Int) n (i : Int)) (fun i (e : Int) (_ : Unit) => if decide (-100 ≤ e ∧ e ≤ 100) = true then (.inr () : (Int × Int) ⊕ Unit) else .inl ((fun (i : Nat) (_ : Int) => ((i : Int), (2 : Int))) i e)) id
    (fun n s => by rw [u_FirstBad_int_CheckSamples_1_L1, if_neg (by omega)]; rfl)
    (fun n i e s he => by
      obtain ⟨h1, h2, h3⟩ := idx he
      rw [u_FirstBad_int_CheckSamples_1_L1, if_pos h1, if_pos h2, if_pos h1, h3, Option.bind_some, one, Option.bind_some]
      by_cases h0 : decide (-100 ≤ e ∧ e ≤ 100) = true
      · simp only [h0, if_true]; rw [wrapS (by omega)]
      · simp only [h0, if_false, Bool.false_eq_true]; rfl) fu 0 () (by omega) (by omega)
  unfold w_samplesError w_CheckSamples u_CheckList_int_CheckSamples_1 u_FirstBad_int_CheckSamples_1 smpE
  rw [show ((0 : Nat) : Int) = 0 from rfl, List.drop_zero] at loop
  obtain ⟨a1, a2⟩ := runF_all (p := fun e => decide (-100 ≤ e ∧ e ≤ 100)) (g := fun (i : Nat) (_ : Int) => ((i : Int), (2 : Int))) l 0
  by_cases h4 : (l.length : Int) < 4
  · simp only [h4, if_true, Option.bind_some]
  · by_cases h20 : 20 < (l.length : Int)
    · simp only [h4, h20, if_true, if_false, Option.bind_some]
    · simp only [h4, h20, if_false]
      cases hp : l.all (fun x => decide (-100 ≤ x ∧ x ≤ 100)) with
      | true => rw [loop, a1 hp]; rfl
      | false => obtain ⟨j, e, _, hj⟩ := a2 hp; rw [loop, hj]; rfl
theorem rSamples_eq (fu : Nat) (hf : 18446744073709551616 ≤ fu) (l : List Int) (hl : l.length ≤ 22) : r2_SamplesErr fu l = some (smpE l) := by
  have loop := loop_run l (fun n i _ => r2_CheckSamples_L1 fu l n (i : Int)) (fun i (e : Int) (_ : Unit) => if decide (-100 ≤ e ∧ e ≤ 100) = true then (.inr () : Int ⊕ Unit) else .inl ((fun (i : Nat) (_ : Int) => (i : Int)) i e)) id
    (fun n s => by rw [r2_CheckSamples_L1, if_neg (by omega)]; rfl)
    (fun n i e s he => by
      obtain ⟨h1, h2, h3⟩ := idx he
      rw [r2_CheckSamples_L1, if_pos h1, if_pos h2, h3, Option.bind_some, within_eq, Option.bind_some]
      by_cases h0 : decide (-100 ≤ e ∧ e ≤ 100) = true
      · simp only [h0, if_true]; rw [wrapS (by omega)]
      · simp only [h0, if_false, Bool.false_eq_true]; rfl) fu 0 () (by omega) (by omega)
  unfold r2_SamplesErr r2_CheckSamples smpE
  rw [show ((0 : Nat) : Int) = 0 from rfl, List.drop_zero] at loop
  obtain ⟨a1, a2⟩ := runF_all (p := fun e => decide (-100 ≤ e ∧ e ≤ 100)) (g := fun (i : Nat) (_ : Int) => (i : Int)) l 0
  by_cases h4 : (l.length : Int) < 4
  · simp only [h4, if_true, Option.bind_some]
  · by_cases h20 : 20 < (l.length : Int)
    · simp only [h4, h20, if_true, if_false, Option.bind_some]
    · simp only [h4, h20, if_false]
      cases hp : l.all (fun x => decide (-100 ≤ x ∧ x ≤ 100)) with
      | true => rw [loop, a1 hp]; rfl
      | false => obtain ⟨j, e, _, hj⟩ := a2 hp; rw [loop, hj]; rfl
end Go.Proofs.Ythffbfkcmbgghaa
