/-
  Walks of chapter 1's turns, the ways: on which side a post lies, whether it lies on a way, how a way crosses.
-/
import Derived.Test.YtegkppphaglpgaaWt
namespace Go.Proofs.Ytegkppphaglpgaa
open Go.RowKit

theorem sideOf_any (a b p : Pt) (w : World) (ha : Sm a) (hb : Sm b) (hp : Sm p) :
    Calls Try.prog 160 #[.agg #[.int .i64 a.1, .int .i64 a.2], .agg #[.int .i64 b.1, .int .i64 b.2], .agg #[.int .i64 p.1, .int .i64 p.2]] w fun e w' => e = .returned (.int .i64 (side a b p)) ∧ Below w.heap.size w w' := by
  obtain ⟨a1, a2⟩ := a; obtain ⟨b1, b2⟩ := b; obtain ⟨p1, p2⟩ := p
  obtain ⟨xa1, xa2, xa3, xa4⟩ := ha; obtain ⟨xb1, xb2, xb3, xb4⟩ := hb; obtain ⟨xp1, xp2, xp3, xp4⟩ := hp
  simp only at *
  have m1 := mul_bd (b1 - a1) (p2 - a2) 20000 20000 (by omega) (by omega)
  have m2 := mul_bd (b2 - a2) (p1 - a1) 20000 20000 (by omega) (by omega)
  obtain ⟨m1a, m1b⟩ := m1; obtain ⟨m2a, m2b⟩ := m2
  go_enter Try.func160, Try.ntmps160
  go_wp2
  go_ret
  exact ⟨rfl, (by repeat (first | assumption | exact Below.refl _ _ | refine below_al ?_ _ | refine below_dr ?_ | refine below_tr ?_ (by assumption)))⟩
theorem side_any (a b p : Pt) (w : World) (ha : Sm a) (hb : Sm b) (hp : Sm p) :
    Calls Try.prog 134 #[.agg #[.int .i64 a.1, .int .i64 a.2], .agg #[.int .i64 b.1, .int .i64 b.2], .agg #[.int .i64 p.1, .int .i64 p.2]] w fun e w' => e = .returned (.int .i64 (side a b p)) ∧ Below w.heap.size w w' := by
  obtain ⟨a1, a2⟩ := a; obtain ⟨b1, b2⟩ := b; obtain ⟨p1, p2⟩ := p
  obtain ⟨xa1, xa2, xa3, xa4⟩ := ha; obtain ⟨xb1, xb2, xb3, xb4⟩ := hb; obtain ⟨xp1, xp2, xp3, xp4⟩ := hp
  simp only at *
  have m1 := mul_bd (b1 - a1) (p2 - a2) 20000 20000 (by omega) (by omega)
  have m2 := mul_bd (b2 - a2) (p1 - a1) 20000 20000 (by omega) (by omega)
  obtain ⟨m1a, m1b⟩ := m1; obtain ⟨m2a, m2b⟩ := m2
  go_enter Try.func134, Try.ntmps134
  go_wp2
  go_ret
  exact ⟨rfl, (by repeat (first | assumption | exact Below.refl _ _ | refine below_al ?_ _ | refine below_dr ?_ | refine below_tr ?_ (by assumption)))⟩
theorem isBetween_any (a n b : Int) (w : World) :
    Calls Try.prog 161 #[.int .i64 a, .int .i64 n, .int .i64 b] w fun e w' => e = .returned (.bool (btw a n b)) ∧ w = w' := by
  go_enter Try.func161, Try.ntmps161
  go_wp2
  all_goals
    go_ret
    exact ⟨ret_bool (by rw [Bool.eq_iff_iff]; simp [btw]; omega), rfl⟩
theorem liesOn_any (a b p : Pt) (w : World) (ha : Sm a) (hb : Sm b) (hp : Sm p) :
    Calls Try.prog 157 #[.agg #[.int .i64 a.1, .int .i64 a.2], .agg #[.int .i64 b.1, .int .i64 b.2], .agg #[.int .i64 p.1, .int .i64 p.2]] w fun e w' => e = .returned (.bool (onWay a b p)) ∧ Below w.heap.size w w' := by
  have hs := fun w => sideOf_any a b p w ha hb hp
  have HS := Lib.hid hs
  clear hs ha hb hp
  have E : onWay a b p = (decide (side a b p = 0) && btw a.1 p.1 b.1 && btw a.2 p.2 b.2) := rfl
  obtain ⟨a1, a2⟩ := a; obtain ⟨b1, b2⟩ := b; obtain ⟨p1, p2⟩ := p
  simp only at E HS ⊢
  generalize side (a1, a2) (b1, b2) (p1, p2) = sd at *
  generalize onWay (a1, a2) (b1, b2) (p1, p2) = res at *
  have HE := Lib.hid E
  clear E
  by_cases h0 : sd = 0
  · have h0' : (sd == 0) = true := by simpa using h0
    cases h1 : btw a1 p1 b1
    all_goals
      go_enter Try.func157, Try.ntmps157
      go_wp2_with (first
        | (go_at_call 160; refine (HS.out _).mono ?_; rintro e w1 ⟨rfl, hb1⟩; obtain ⟨hc1, hf1, hz1⟩ := bcell hb1; simp at hz1)
        | (go_at_call 161; refine (isBetween_any _ _ _ _).mono ?_; rintro e w2 ⟨rfl, rfl⟩))
      go_ret
      clear hc1 hf1
      exact ⟨ret_bool (by rw [HE.out, h1]; simp [h0]), below_tr (by repeat (first | assumption | exact Below.refl _ _ | refine below_al ?_ _ | refine below_dr ?_ | refine below_tr ?_ (by assumption))) hb1⟩
  · have h0' : (sd == 0) = false := by simpa using h0
    go_enter Try.func157, Try.ntmps157
    go_wp2_with (first
        | (go_at_call 160; refine (HS.out _).mono ?_; rintro e w1 ⟨rfl, hb1⟩; obtain ⟨hc1, hf1, hz1⟩ := bcell hb1; simp at hz1)
        | (go_at_call 161; refine (isBetween_any _ _ _ _).mono ?_; rintro e w2 ⟨rfl, rfl⟩))
    go_ret
    clear hc1 hf1
    exact ⟨ret_bool (by rw [HE.out]; simp [h0]), below_tr (by repeat (first | assumption | exact Below.refl _ _ | refine below_al ?_ _ | refine below_dr ?_ | refine below_tr ?_ (by assumption))) hb1⟩
theorem on_any (a b p : Pt) (w : World) (ha : Sm a) (hb : Sm b) (hp : Sm p) :
    Calls Try.prog 133 #[.agg #[.int .i64 a.1, .int .i64 a.2], .agg #[.int .i64 b.1, .int .i64 b.2], .agg #[.int .i64 p.1, .int .i64 p.2]] w fun e w' => e = .returned (.bool (onWay a b p)) ∧ Below w.heap.size w w' := by
  have hs := fun w => side_any a b p w ha hb hp
  have HS := Lib.hid hs
  clear hs ha hb hp
  have E : onWay a b p = (decide (side a b p = 0) && inB p.1 (min a.1 b.1) (max a.1 b.1) && inB p.2 (min a.2 b.2) (max a.2 b.2)) := rfl
  obtain ⟨a1, a2⟩ := a; obtain ⟨b1, b2⟩ := b; obtain ⟨p1, p2⟩ := p
  simp only at E HS ⊢
  generalize side (a1, a2) (b1, b2) (p1, p2) = sd at *
  generalize onWay (a1, a2) (b1, b2) (p1, p2) = res at *
  have HE := Lib.hid E
  clear E
  by_cases h0 : sd = 0
  · have h0' : (sd == 0) = true := by simpa using h0
    go_enter Try.func133, Try.ntmps133
    go_wp2_with (first
        | (go_at_call 134; refine (HS.out _).mono ?_; rintro e w1 ⟨rfl, hb1⟩; obtain ⟨hc1, hf1, hz1⟩ := bcell hb1; simp at hz1)
        | (go_at_call 27; refine (Within_any _ _ _ _).mono ?_; rintro e w2 ⟨rfl, rfl⟩))
    all_goals
      go_ret
      refine ⟨ret_bool ?_, below_tr (by repeat (first | assumption | exact Below.refl _ _ | refine below_al ?_ _ | refine below_dr ?_ | refine below_tr ?_ (by assumption))) hb1⟩
      clear hc1 hf1 hb1 HS
      rw [HE.out, Bool.eq_iff_iff]
      simp [inB, h0] at *
      omega
  · have h0' : (sd == 0) = false := by simpa using h0
    go_enter Try.func133, Try.ntmps133
    go_wp2_with (first
        | (go_at_call 134; refine (HS.out _).mono ?_; rintro e w1 ⟨rfl, hb1⟩; obtain ⟨hc1, hf1, hz1⟩ := bcell hb1; simp at hz1)
        | (go_at_call 27; refine (Within_any _ _ _ _).mono ?_; rintro e w2 ⟨rfl, rfl⟩))
    go_ret
    clear hc1 hf1
    exact ⟨ret_bool (by rw [HE.out]; simp [h0]), below_tr (by repeat (first | assumption | exact Below.refl _ _ | refine below_al ?_ _ | refine below_dr ?_ | refine below_tr ?_ (by assumption))) hb1⟩
theorem crossing_any (a b p : Pt) (w : World) (ha : Sm a) (hb : Sm b) (hp : Sm p) :
    Calls Try.prog 158 #[.agg #[.int .i64 a.1, .int .i64 a.2], .agg #[.int .i64 b.1, .int .i64 b.2], .agg #[.int .i64 p.1, .int .i64 p.2]] w fun e w' => e = .returned (.int .i64 (cross a b p)) ∧ Below w.heap.size w w' := by
  have hs := fun w => sideOf_any a b p w ha hb hp
  have HS := Lib.hid hs
  clear hs ha hb hp
  have E : cross a b p = if a.2 ≤ p.2 ∧ p.2 < b.2 ∧ 0 < side a b p then 1 else if b.2 ≤ p.2 ∧ p.2 < a.2 ∧ side a b p < 0 then -1 else 0 := rfl
  obtain ⟨a1, a2⟩ := a; obtain ⟨b1, b2⟩ := b; obtain ⟨p1, p2⟩ := p
  simp only at E HS ⊢
  generalize side (a1, a2) (b1, b2) (p1, p2) = sd at *
  generalize cross (a1, a2) (b1, b2) (p1, p2) = res at *
  have HE := Lib.hid E
  clear E
  by_cases x1 : a2 ≤ p2
  all_goals by_cases x2 : p2 < b2
  all_goals by_cases x3 : b2 ≤ p2
  all_goals by_cases x4 : p2 < a2
  all_goals by_cases x5 : 0 < sd
  all_goals by_cases x6 : sd < 0
  all_goals try omega
  all_goals
    go_enter Try.func158, Try.ntmps158
    go_wp2_with (go_at_call 160; refine (HS.out _).mono ?_; rintro e w1 ⟨rfl, hb1⟩; obtain ⟨hc1, hf1, hz1⟩ := bcell hb1; simp at hz1)
    go_ret
    refine ⟨ret_int ?_, below_tr (by repeat (first | assumption | exact Below.refl _ _ | refine below_al ?_ _ | refine below_dr ?_ | refine below_tr ?_ (by assumption))) hb1⟩
    rw [HE.out]
    clear hc1 hf1 hb1 HS HE
    (repeat' split) <;> omega
end Go.Proofs.Ytegkppphaglpgaa
