/-
  The law of profiles, as a Lean function, is true.
-/
import Derived.Test.YtlakfnejokpfjaaZBe
set_option linter.all false
namespace Go.Proofs.Ytlakfnejokpfjaa
open Go Go.RowKit

theorem p_limsErr (V P : Int) : r2_LimitsErr V P = some (limsE V P) := by
  unfold r2_LimitsErr
  rw [p_within, Option.bind_some, p_within, Option.bind_some]
  rcases lims_cases V P with ⟨h, a, b, c, d⟩ | ⟨h, q⟩
  · rw [h, if_pos (decide_eq_true ⟨a, b⟩), if_pos (decide_eq_true ⟨c, d⟩)]
  · rw [h]
    by_cases c1 : 1 ≤ V ∧ V ≤ 100
    · rw [if_pos (decide_eq_true c1), if_neg (by rw [decide_eq_true_eq]; exact fun c => q ⟨c1, c⟩)]
    · rw [if_neg (by rw [decide_eq_true_eq]; exact c1)]
theorem p_distErr (D : Int) : r2_DistanceErr D = some (diE D) := by
  unfold r2_DistanceErr diE
  rw [p_within, Option.bind_some]
  by_cases c : 0 ≤ D ∧ D ≤ 10000
  · rw [if_pos (decide_eq_true c), limE_zero.2 c]
  · rw [if_neg (by rw [decide_eq_true_eq]; exact c), limE_two c]
theorem p_ints (fu : Nat) (o : List Int) (ho : o.length < fu) (ho' : o.length < 4611686018427387904) : b_Ints fu o o = some true := by
  have key : ∀ n i, i ≤ o.length → o.length - i < n → b_Ints_L1 fu o o n ((i : Nat) : Int) = some (.inr ()) := by
    intro n
    induction n with
    | zero => intro i _ h; omega
    | succ n ih =>
      intro i hi h
      rcases Nat.lt_or_ge i o.length with h1 | h1
      · obtain ⟨a1, a2, a3⟩ := idx (List.getElem?_eq_getElem h1)
        rw [b_Ints_L1, if_pos a1, if_pos a2, a3, Option.bind_some]
        try rw [if_pos a1]
        try rw [Option.bind_some]
        rw [if_pos rfl, wrapS (by omega)]
        exact ih (i + 1) (by omega) (by omega)
      · have : i = o.length := by omega
        subst this
        rw [b_Ints_L1, if_neg (by omega)]
  unfold b_Ints
  have := key fu 0 (by omega) (by omega)
  rw [show ((0 : Nat) : Int) = 0 from rfl] at this
  rw [if_pos rfl, this]; rfl
theorem p_profileFor (fu : Nat) (hf : 1000 ≤ fu) (V P D : Int) : w_ProfileFor fu V P D = some (if (tkF V P D).2 = 0 then (pr V P (tkF V P D).1.toNat 0 D, 0) else ([], (tkF V P D).2)) := by
  unfold w_ProfileFor
  rw [p_ticksFor fu hf, Option.bind_some]
  by_cases h : (tkF V P D).2 = 0
  · rw [if_pos h, if_pos h]
    have hx : ∃ x : Nat, x ≤ 200 ∧ (tkF V P D).1 = (x : Int) ∧ Lim V P ∧ 0 ≤ D ∧ D ≤ 10000 := by
      unfold tkF at h ⊢
      by_cases c : tkE V P D = 0
      · rw [if_pos c] at h ⊢
        have hl : Lim V P ∧ diE D = 0 := by
          unfold tkE firstE firstE firstE at c
          rcases lims_cases V P with ⟨h0, L⟩ | ⟨h0, _⟩
          · rw [h0, if_pos rfl] at c
            refine ⟨L, ?_⟩
            by_cases c2 : diE D = 0
            · exact c2
            · rw [if_neg c2] at c; exact c
          · rw [h0, if_neg (by decide)] at c; exact absurd c (by decide)
        have hd := limE_zero.1 hl.2
        cases ht : tk D V P 201 0 with
        | none => rw [ht] at h; exact absurd h (by decide)
        | some x =>
          have := (tk_ok ht).1
          exact ⟨x, by omega, rfl, hl.1, hd.1, hd.2⟩
      · rw [if_neg c] at h; exact absurd h c
    obtain ⟨x, hx1, hx2, L, d0, d1⟩ := hx
    rw [hx2, if_pos (by omega), if_pos (by omega), Int.toNat_natCast]
    have e := p_prog fu hf L hx1 fu 0 [] 0 D rfl (by omega) (by omega) (by omega) (by omega) d0 d1
    rw [List.nil_append, List.nil_append, Nat.sub_zero, show ((0 : Nat) : Int) = 0 from rfl] at e
    rw [e]; rfl
  · rw [if_neg h, if_neg h]
theorem l2_WinchProfiles_true (V P : Int) (l : List Int) (D : Int) : ∃ fu, l2_WinchProfiles fu V P l D = some true := by
  refine ⟨2000, ?_⟩
  generalize hfu : 2000 = fu
  have hf : 1500 ≤ fu := by omega
  have hf1 : 1000 ≤ fu := by omega
  clear hfu
  unfold l2_WinchProfiles l2_awake
  rw [Option.bind_some, if_pos rfl]
  by_cases h202 : (202 : Int) < (l.length : Int)
  · rw [if_pos h202]
  · rw [if_neg h202]
    have cl : b_CopyInts l = some l := by unfold b_CopyInts; rw [if_pos (by omega)]
    rw [cl, Option.bind_some, p_check fu hf1 V P l (by omega), Option.bind_some, p_ticksFor fu hf1, Option.bind_some, p_profileFor fu hf1, Option.bind_some, p_limsErr, Option.bind_some]
    rcases lims_cases V P with ⟨h0, L⟩ | ⟨h0, -⟩
    · rw [h0, if_pos rfl, if_pos rfl, p_profErr fu hf1 L l (by omega), Option.bind_some, if_pos rfl, if_pos rfl, p_distErr, Option.bind_some]
      by_cases hd : diE D = 0
      · have hd2 := limE_zero.1 hd
        have ht0 : tkE V P D = 0 := by unfold tkE firstE firstE; rw [h0, if_pos rfl, hd]; rfl
        rw [if_pos hd, p_ticks fu hf1 L, Option.bind_some]
        cases ht : tk D V P 201 0 with
        | none =>
          have e : tkF V P D = (0, 8) := by unfold tkF; rw [if_pos ht0, ht]
          rw [e]; rfl
        | some x =>
          have hx := tk_ok ht
          have e : tkF V P D = ((x : Int), 0) := by unfold tkF; rw [if_pos ht0, ht]
          have er : r2_Profile fu V P D (x : Int) = some (pr V P x 0 D) := by
            unfold r2_Profile
            have q := p_refP fu hf1 L fu x D [] 0 (by omega) (by omega) (by simp; omega) (by omega) (by omega) hd2.1 hd2.2 hx.2
            rw [List.nil_append] at q
            rw [wrapB (by omega) (by omega), q]; rfl
          rw [e]
          simp only [if_true, Int.toNat_natCast]
          rw [er, Option.bind_some, p_ints fu _ (by rw [pr_len]; omega) (by rw [pr_len]; omega)]; rfl
      · have ht0 : ¬ tkE V P D = 0 := by unfold tkE firstE firstE firstE; rw [h0, if_pos rfl, if_neg hd]; exact hd
        have e : tkF V P D = (0, diE D) := by
          unfold tkF; rw [if_neg ht0]
          unfold tkE firstE firstE firstE; rw [h0, if_pos rfl, if_neg hd]
        rw [if_neg hd, e]
        simp only [if_neg hd]
        simp
    · have e : tkF V P D = (0, 2) := by
        have q : tkE V P D = 2 := by unfold tkE firstE; rw [h0, if_neg (by decide)]
        unfold tkF; rw [q, if_neg (by decide)]
      have e2 : (if (2 : Int) = 0 then cpE V P l else (0, 2)) = (0, 2) := if_neg (by decide)
      rw [h0, e, e2]
      simp
end Go.Proofs.Ytlakfnejokpfjaa
