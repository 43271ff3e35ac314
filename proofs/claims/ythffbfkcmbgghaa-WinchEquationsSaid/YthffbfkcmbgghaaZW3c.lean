/-
  'WinchEquations': the lifted law is true.
-/
import Derived.Test.YthffbfkcmbgghaaZW3b
set_option linter.all false
namespace Go.Proofs.Ythffbfkcmbgghaa
open Go Go.RowKit
theorem w_tail {fu : Nat} (hf : 18446744073709551616 ≤ fu) {l : List Int} (hl : l.length ≤ 20) {a b : Int} (ha : -3 ≤ a ∧ a ≤ 3) (hb : -3 ≤ b ∧ b ≤ 3) (c d e : Int) : (Option.bind (r2_SamplesErr fu l) fun r39 => if r39 = (0 : Int) then (Option.bind (b_CopyInts l) fun r41 => Option.bind (w_PredictorOf fu r41) fun r42 => if r42.2.2.2 = (0 : Int) then (Option.bind (b_CopyInts l) fun r44 => Option.bind (w_ResidualOf fu r44) fun r45 => Option.bind (b_CopyInts l) fun r46 => Option.bind (w_CheckPredictor fu r46 r42.1 r42.2.1 r42.2.2.1) fun r47 => if r45.2.2 = (0 : Int) then (if r45.2.1 < (1 : Int) then none else (if r45.1 < (0 : Int) then none else (if r47.2 = (0 : Int) then (if r47.1 = (0 : Int) then (if r42.2.2.1 < (1 : Int) then none else (if (1000000000000 : Int) < r42.2.2.1 then none else (Option.bind (l2_WinchEquations_L2 fu l a b c d e r42.1 r42.2.1 r42.2.2.1 r45.1 r45.2.1 fu (0 : Int) (2 : Int)) fun o55 => Option.bind (b_Compare fu r45.1 r45.2.1 o55 (1 : Int)) fun r56 => if (0 : Int) < r56 then none else (Option.bind (l2_WinchEquations_L3 fu l r42.1 r42.2.1 r42.2.2.1 fu (0 : Int)) fun o58 => (match o58 with | .inl y59 => none | .inr y60 => (some true)))))) else none) else none))) else none) else (if r42.2.2.2 = (11 : Int) then (some true) else none)) else (some true)) = some true := by
  have hl2 : l.length ≤ 22 := by omega
  have cp : b_CopyInts l = some l := by unfold b_CopyInts; rw [if_pos (by omega)]
  rw [rSamples_eq fu hf l hl2, Option.bind_some]
  by_cases h : smpE l = 0
  · obtain ⟨h1, h2, hs⟩ := smpE_ok h
    have hN : l.length - 2 ≤ 20 := by omega
    rw [if_pos h, cp, Option.bind_some, w_pred hf hl2, Option.bind_some, if_pos h]
    by_cases hd : dT l (l.length - 2) = 0
    · rw [if_pos hd]; rfl
    · obtain ⟨g, g0, gd1, gd2, er⟩ := res_val hf hl2 h hd
      have pp := prd_ok hs hN hd
      have pe := prd_predE hs hN hd
      have pf := prd_prf hs hN hd
      have rl := rs_least hs hN hd a b
      have l3 := l3_ok hf hl2 h hd
      have sqi := sqs_in hs ha hb (l.length - 2)
      obtain ⟨_, _, pa, pb, pd⟩ := pp
      have rb := rs_in hs pa pb (D := (prd l (l.length - 2)).2.2) ⟨by omega, by omega⟩ hN
      have chk : w_CheckPredictor fu l (prd l (l.length - 2)).1 (prd l (l.length - 2)).2.1 (prd l (l.length - 2)).2.2 = some (0, 0) := by
        rw [w_chkp hf hl2, show firstE [smpE l, predE (prd l (l.length - 2)).1 (prd l (l.length - 2)).2.1 (prd l (l.length - 2)).2.2] = 0 by rw [h, pe]; rfl, if_pos rfl, pf]
      rw [if_neg hd]
      simp only [Option.bind_some, er, chk, if_true]
      have rdef : rs l (prd l (l.length - 2)).1 (prd l (l.length - 2)).2.1 (prd l (l.length - 2)).2.2 (l.length - 2) ≤ 48000000000000000 := by unfold rs; omega
      generalize hR : rs l (prd l (l.length - 2)).1 (prd l (l.length - 2)).2.1 (prd l (l.length - 2)).2.2 (l.length - 2) = R at *
      generalize hA : (prd l (l.length - 2)).1 = A at *
      generalize hB : (prd l (l.length - 2)).2.1 = B at *
      generalize hD : (prd l (l.length - 2)).2.2 = D at *
      have x1 := exact_div gd1
      have x2 := exact_div gd2
      have y1 := tdiv_in g0 (M := 48000000000000000) (x := R) (by omega)
      have y2 := tdiv_in g0 (M := 80000000000) (x := D) (by omega)
      have y3 := Int.tdiv_nonneg rl.2 (show (0 : Int) ≤ (g : Int) by omega)
      have y4 := Int.tdiv_nonneg (show 0 ≤ D by omega) (show (0 : Int) ≤ (g : Int) by omega)
      generalize hn : Int.tdiv R (g : Int) = num at *
      generalize hm : Int.tdiv D (g : Int) = den at *
      have den1 : 1 ≤ den := by
        rcases Int.lt_or_eq_of_le y4 with q | q
        · omega
        · rw [← q, Int.zero_mul] at x2; omega
      have le : num ≤ sqs l a b (l.length - 2) * den := by
        have : num * (g : Int) ≤ (sqs l a b (l.length - 2) * den) * (g : Int) := by
          rw [x1, Int.mul_assoc, x2, Int.mul_comm]; exact rl.1
        exact Int.le_of_mul_le_mul_right this (by omega)
      have hN2 : l.length - 2 + 2 = l.length := by omega
      have q := sq_run fu hs hl2 ha hb c d e A B D num den hN2 (l.length - 2) fu 0 (by omega) (by omega)
      rw [show sqs l a b 0 = 0 from rfl, show ((0 : Nat) : Int) + 2 = 2 from rfl] at q
      obtain ⟨r, c1, c2⟩ := cmp_ok (fu := fu) (by omega) (n := num) (d := den) (q := sqs l a b (l.length - 2)) (by omega) (by omega) (by omega) le
      rw [if_neg (by omega), if_neg (by omega), if_neg (by omega), if_neg (by omega), q, Option.bind_some, c1, Option.bind_some, if_neg (by omega), l3]
      rfl
  · rw [if_neg h]
theorem predE_rec {a b : Int} (ha : -3 ≤ a ∧ a ≤ 3) (hb : -3 ≤ b ∧ b ≤ 3) : predE a b 1 = 0 := by
  unfold predE
  rw [if_pos ⟨⟨by omega, by omega⟩, ⟨by omega, by omega⟩, ⟨by omega, by omega⟩⟩, if_pos]
  rw [gcdL3]
  exact Nat.gcd_one_right _
theorem low_one (fu : Nat) (hf : 18446744073709551616 ≤ fu) (x : Int) (hx : -1000000000000000000 ≤ x ∧ x ≤ 1000000000000000000) : u_Lowest fu x 1 = some (x, 1) := by
  rw [low_val fu hf x 1 (by omega) hx, show Nat.gcd x.natAbs (1 : Int).natAbs = 1 from Nat.gcd_one_right _]
  rw [show ((1 : Nat) : Int) = 1 from rfl, Int.tdiv_one, Int.tdiv_one]
theorem next_rec {fu : Nat} (hf : 18446744073709551616 ≤ fu) {v : List Int} (h4 : 4 ≤ v.length) (hl : v.length ≤ 20) (hs : smallL v) {a b : Int} (ha : -3 ≤ a ∧ a ≤ 3) (hb : -3 ≤ b ∧ b ≤ 3) : w_NextBy fu a b 1 v = some (a * at0 v (v.length - 1) + b * at0 v (v.length - 2), 1, 0) := by
  obtain ⟨a1, a2, a3⟩ := ix (l := v) (i := v.length - 1) (by omega) (by omega) (x := IntKind.wrap .i64 ((v.length : Int) - 1)) (by rw [wrapB] <;> omega)
  obtain ⟨b1, b2, b3⟩ := ix (l := v) (i := v.length - 2) (by omega) (by omega) (x := IntKind.wrap .i64 (IntKind.wrap .i64 ((v.length : Int) - 1) - 1)) (by rw [wrapB (x := (v.length : Int) - 1), wrapB] <;> omega)
  have m1 := mulB ha (at_in hs (v.length - 1))
  have m2 := mulB hb (at_in hs (v.length - 2))
  unfold w_NextBy
  rw [wPred_eq fu hf, Option.bind_some, wSamples_eq fu hf v (by omega), Option.bind_some, predE_rec ha hb, smpE_zero h4 hl hs, firstE_eq fu _ (by simp; omega) (by simp), Option.bind_some, show firstE [0, 0] = 0 from rfl, if_pos rfl, if_pos a1, if_pos a2, a3, Option.bind_some, if_pos b1, if_pos b2, b3, Option.bind_some, wrapB (x := a * _) (by omega) (by omega), wrapB (x := b * _) (by omega) (by omega), wrapB (x := a * _ + b * _) (by omega) (by omega), low_one fu hf _ (by omega), Option.bind_some]
theorem l2_WinchEquations_true (l : List Int) (a b c d e : Int) : ∃ fu, l2_WinchEquations fu l a b c d e = some true := by
  obtain ⟨fu, hf⟩ : ∃ fu : Nat, 18446744073709551616 ≤ fu := ⟨_, Nat.le_refl _⟩
  refine ⟨fu, ?_⟩
  unfold l2_WinchEquations
  rw [show l2_awake = some true from rfl, Option.bind_some, if_pos rfl]
  by_cases hl : 20 < (l.length : Int)
  · rw [if_pos hl]
  · rw [if_neg hl, within_eq, Option.bind_some]
    by_cases ha : -3 ≤ a ∧ a ≤ 3
    · rw [decide_eq_true ha, if_pos rfl, within_eq, Option.bind_some]
      by_cases hb : -3 ≤ b ∧ b ≤ 3
      · rw [decide_eq_true hb, if_pos rfl, within_eq, Option.bind_some]
        by_cases hc : -100 ≤ c ∧ c ≤ 100
        · rw [decide_eq_true hc, if_pos rfl, within_eq, Option.bind_some]
          by_cases hd : -100 ≤ d ∧ d ≤ 100
          · rw [decide_eq_true hd, if_pos rfl, within_eq, Option.bind_some]
            by_cases he : 0 ≤ e ∧ e ≤ 20
            · rw [decide_eq_true he, if_pos rfl]
              have s0 : smallL [c, d] := fun x hx => by
                rcases List.mem_cons.1 hx with rfl | hx
                · exact hc
                · rw [List.mem_singleton.1 hx]; exact hd
              obtain ⟨v, v1, v2, v3, v4, v5⟩ := own_run fu l ha hb c d he.2 18 fu [c, d] rfl (by omega) (by simp) s0 (fun k hk => absurd hk (by simp))
              rw [v1, Option.bind_some]
              have tail := w_tail hf (l := l) (by omega) ha hb c d e
              by_cases h4 : (4 : Int) ≤ (v.length : Int)
              · rw [if_pos h4]
                have cp : b_CopyInts v = some v := by unfold b_CopyInts; rw [if_pos (by omega)]
                have sz := smpE_zero (by omega) v3 v4
                have hN : v.length - 2 ≤ 20 := by omega
                rw [cp, Option.bind_some, w_pred hf (by omega), Option.bind_some, if_pos sz]
                by_cases hdT : dT v (v.length - 2) = 0
                · have er : w_ResidualOf fu v = some (0, 0, 11) := by
                    unfold w_ResidualOf
                    rw [w_pred hf (by omega), if_pos sz, if_pos hdT]; rfl
                  rw [if_pos hdT, Option.bind_some, er, Option.bind_some]
                  simp only []
                  rw [if_pos trivial, if_neg (by omega), if_pos trivial]
                  exact tail
                · obtain ⟨g, g0, gd1, gd2, er⟩ := res_val hf (by omega) sz hdT
                  obtain ⟨p1, p2⟩ := rec_prd v4 hN (by omega) hdT v5
                  rw [p1] at er gd1 gd2
                  rw [p2] at er gd1
                  have g1 : g = 1 := by
                    have := Int.ofNat_dvd_left.1 gd2
                    exact Nat.eq_one_of_dvd_one (by simpa using this)
                  subst g1
                  have er' : w_ResidualOf fu v = some (0, 1, 0) := by rw [er]; rfl
                  rw [if_neg hdT, p1, Option.bind_some, er', Option.bind_some]
                  simp only [if_true]
                  rw [Option.bind_some, next_rec hf (by omega) v3 v4 ha hb, Option.bind_some]
                  obtain ⟨a1, a2, a3⟩ := ix (l := v) (i := v.length - 1) (by omega) (by omega) (x := IntKind.wrap .i64 ((v.length : Int) - 1)) (by rw [wrapB] <;> omega)
                  obtain ⟨b1, b2, b3⟩ := ix (l := v) (i := v.length - 2) (by omega) (by omega) (x := IntKind.wrap .i64 ((v.length : Int) - 2)) (by rw [wrapB] <;> omega)
                  have m1 := mulB ha (at_in v4 (v.length - 1))
                  have m2 := mulB hb (at_in v4 (v.length - 2))
                  rw [if_pos rfl, if_pos a1, if_pos a2, a3, Option.bind_some, if_pos b1, if_pos b2, b3, Option.bind_some, wrapB (x := a * _) (by omega) (by omega), wrapB (x := b * _) (by omega) (by omega), wrapB (x := a * _ + b * _) (by omega) (by omega), if_pos rfl, if_pos rfl]
                  exact tail
              · rw [if_neg h4]
                exact tail
            · rw [decide_eq_false he, if_neg Bool.false_ne_true]
          · rw [decide_eq_false hd, if_neg Bool.false_ne_true]
        · rw [decide_eq_false hc, if_neg Bool.false_ne_true]
      · rw [decide_eq_false hb, if_neg Bool.false_ne_true]
    · rw [decide_eq_false ha, if_neg Bool.false_ne_true]
end Go.Proofs.Ythffbfkcmbgghaa
