/-
  Moves of boxes, and squares of distances: the program's functions and the reference's say the same.
-/
import Derived.Test.YtaafodbiigdbaaaGreatZN5b
import Derived.Test.YtaafodbiigdbaaaGreatZM5a
import Derived.Test.YtaafodbiigdbaaaGreatZM5e
set_option linter.all false
namespace Go.Proofs.YtaafodbiigdbaaaGreat
open Go Go.RowKit
theorem w01 : IntKind.wrap .i64 ((0 : Int) + 1) = 1 := wrapB (by omega) (by omega)
theorem w12 : IntKind.wrap .i64 ((1 : Int) + 1) = 2 := wrapB (by omega) (by omega)
theorem w23 : IntKind.wrap .i64 ((2 : Int) + 1) = 3 := wrapB (by omega) (by omega)
theorem mulB {a b A B : Int} (h0 : 0 ≤ a) (h1 : a ≤ A) (h2 : -B ≤ b) (h3 : b ≤ B) : -(A * B) ≤ a * b ∧ a * b ≤ A * B := by
  have e1 := Int.mul_le_mul_of_nonneg_left h3 h0
  have e2 := Int.mul_le_mul_of_nonneg_left h2 h0
  have e3 := Int.mul_le_mul_of_nonneg_right h1 (show 0 ≤ B by omega)
  rw [Int.mul_neg] at e2
  omega
/-! ### Errors of a move -/
def movE (T a b c d e f : Int) : Int := if ¬ (0 ≤ T ∧ T ≤ 1000) ∨ ¬ (okS 100 [a, b, c, d, e, f] = true) then 2 else ordE a b c d e f
theorem m_ends {fu : Nat} (hf : 8 ≤ fu) (a b c d e f : Int) : x_box_ends fu a b c d e f = some [a, b, c, d, e, f] := by
  obtain ⟨g, rfl⟩ : ∃ g, fu = g + 4 := ⟨fu - 4, by omega⟩
  unfold x_box_ends
  simp only [x_box_ends_L1, w01, w12, w23]
  simp
theorem m_err {fu : Nat} (hf : 1000 ≤ fu) (T a b c d e f : Int) : x_moveError fu T a b c d e f = some (movE T a b c d e f) := by
  unfold x_moveError x_boxOf movE
  simp only [Option.bind_some]
  rw [x_limit, Option.bind_some, m_ends (by omega), Option.bind_some, n_size _ _ _ (by omega) (by simp; omega) (by simp), Option.bind_some, n_order (by omega), Option.bind_some, x_first _ _ (by simp; omega) (by simp), Option.bind_some]
  congr 1
  by_cases h1 : 0 ≤ T ∧ T ≤ 1000
  · cases h2 : okS 100 [a, b, c, d, e, f] with
    | true =>
      simp only [firstE, limE_zero.2 h1, if_true]
      rw [if_neg (show ¬ (¬ (0 ≤ T ∧ T ≤ 1000) ∨ ¬ True) from fun h => h.elim (fun g => g h1) fun g => g trivial)]
      first | rfl | (split <;> simp_all)
    | false => simp [firstE, limE_zero.2 h1]
  · simp only [firstE, limE_two h1]
    rw [if_neg (by omega), if_pos (.inl h1)]
theorem okS6 (a b c d e f : Int) : okS 100 [a, b, c, d, e, f] = true ↔ ((-100 ≤ a ∧ a ≤ 100) ∧ (-100 ≤ b ∧ b ≤ 100) ∧ (-100 ≤ c ∧ c ≤ 100) ∧ (-100 ≤ d ∧ d ≤ 100) ∧ (-100 ≤ e ∧ e ≤ 100) ∧ (-100 ≤ f ∧ f ≤ 100)) := by simp [okS]
theorem movE_zero {T a b c d e f : Int} (h : movE T a b c d e f = 0) : (0 ≤ T ∧ T ≤ 1000) ∧ ((-100 ≤ a ∧ a ≤ b ∧ b ≤ 100) ∧ (-100 ≤ c ∧ c ≤ d ∧ d ≤ 100) ∧ (-100 ≤ e ∧ e ≤ f ∧ f ≤ 100)) := by
  unfold movE at h
  by_cases h1 : ¬ (0 ≤ T ∧ T ≤ 1000) ∨ ¬ (okS 100 [a, b, c, d, e, f] = true)
  · rw [if_pos h1] at h; omega
  · rw [if_neg h1] at h
    rw [okS6] at h1
    unfold ordE at h
    by_cases h2 : b < a ∨ d < c ∨ f < e
    · rw [if_pos h2] at h; omega
    · omega
theorem r_merr {fu : Nat} (hf : 1000 ≤ fu) (T a b c d e f : Int) : r5_MoveErr fu T a b c d e f = some (movE T a b c d e f) := by
  obtain ⟨g, rfl⟩ : ∃ g, fu = g + 4 := ⟨fu - 4, by omega⟩
  unfold r5_MoveErr r5_Sides movE
  rw [x_within, Option.bind_some]
  simp only [Option.bind_some, r5_MoveErr_L1, x_within, decide_eq_true_eq, w01, w12, w23, r_empty, okS6]
  by_cases h0 : 0 ≤ T ∧ T ≤ 1000
  · rw [if_pos h0]
    unfold ordE
    by_cases h1 : -100 ≤ a ∧ a ≤ 100 <;> by_cases h2 : -100 ≤ b ∧ b ≤ 100 <;> by_cases h3 : -100 ≤ c ∧ c ≤ 100 <;> by_cases h4 : -100 ≤ d ∧ d ≤ 100 <;> by_cases h5 : -100 ≤ e ∧ e ≤ 100 <;> by_cases h6 : -100 ≤ f ∧ f ≤ 100 <;> simp [h0, h1, h2, h3, h4, h5, h6] <;> (split <;> rfl)
  · rw [if_neg h0, if_pos (.inl h0)]
/-! ### Boxes carried -/
abbrev B6 := Int × Int × Int × Int × Int × Int
def cmB (x : B6) (w0 w1 w2 w3 w4 w5 : Int) : B6 := ((cmn x.1 x.2.1 w0 w1).1, (cmn x.1 x.2.1 w0 w1).2, (cmn x.2.2.1 x.2.2.2.1 w2 w3).1, (cmn x.2.2.1 x.2.2.2.1 w2 w3).2, (cmn x.2.2.2.2.1 x.2.2.2.2.2 w4 w5).1, (cmn x.2.2.2.2.1 x.2.2.2.2.2 w4 w5).2)
def fwd (a b c d e f T p q r s t u : Int) : B6 := (a + T * p, b + T * q, c + T * r, d + T * s, e + T * t, f + T * u)
structure InB (a b c d e f T p q r s t u : Int) : Prop where
  b1 : (-10000 ≤ a ∧ a ≤ 10000) ∧ (-10000 ≤ b ∧ b ≤ 10000) ∧ (-10000 ≤ c ∧ c ≤ 10000) ∧ (-10000 ≤ d ∧ d ≤ 10000) ∧ (-10000 ≤ e ∧ e ≤ 10000) ∧ (-10000 ≤ f ∧ f ≤ 10000)
  tt : 0 ≤ T ∧ T ≤ 1000
  sp : (-100 ≤ p ∧ p ≤ 100) ∧ (-100 ≤ q ∧ q ≤ 100) ∧ (-100 ≤ r ∧ r ≤ 100) ∧ (-100 ≤ s ∧ s ≤ 100) ∧ (-100 ≤ t ∧ t ≤ 100) ∧ (-100 ≤ u ∧ u ≤ 100)
theorem wr1 {a T p : Int} (ha : -10000 ≤ a ∧ a ≤ 10000) (ht : 0 ≤ T ∧ T ≤ 1000) (hp : -100 ≤ p ∧ p ≤ 100) : IntKind.wrap .i64 (a + IntKind.wrap .i64 (T * p)) = a + T * p := by
  have := mulB ht.1 ht.2 hp.1 hp.2
  rw [wrapB (x := T * p) (by omega) (by omega), wrapB (by omega) (by omega)]
theorem wr2 {a T p : Int} (ha : -10000 ≤ a ∧ a ≤ 10000) (ht : 0 ≤ T ∧ T ≤ 1000) (hp : -100 ≤ p ∧ p ≤ 100) : IntKind.wrap .i64 (a - IntKind.wrap .i64 (T * p)) = a + T * (-p) := by
  have := mulB ht.1 ht.2 hp.1 hp.2
  rw [wrapB (x := T * p) (by omega) (by omega), wrapB (by omega) (by omega), Int.mul_neg]; omega
theorem m_carried {fu : Nat} (hf : 8 ≤ fu) {a b c d e f T p q r s t u : Int} (h : InB a b c d e f T p q r s t u) : x_box_carried fu a b c d e f T p q r s t u = some (fwd a b c d e f T p q r s t u) := by
  obtain ⟨g, rfl⟩ : ∃ g, fu = g + 4 := ⟨fu - 4, by omega⟩
  obtain ⟨⟨a1, b1, c1, d1, e1, f1⟩, ht, p1, q1, r1, s1, t1, u1⟩ := h
  unfold x_box_carried x_boxOf fwd
  simp only [Option.bind_some, x_box_carried_L1, w01, w12, w23, wr1 a1 ht p1, wr1 b1 ht q1, wr1 c1 ht r1, wr1 d1 ht s1, wr1 e1 ht t1, wr1 f1 ht u1]
  simp
def resC (x : B6) : Int × Int × Int × Int × Int × Int × Int := if ordE x.1 x.2.1 x.2.2.1 x.2.2.2.1 x.2.2.2.2.1 x.2.2.2.2.2 = 0 then (x.1, x.2.1, x.2.2.1, x.2.2.2.1, x.2.2.2.2.1, x.2.2.2.2.2, 0) else (0, 0, 0, 0, 0, 0, 12)
theorem boxV_zero {w0 w1 w2 w3 w4 w5 : Int} {l : List Bn} {a b c d e f : Int} (h : boxV w0 w1 w2 w3 w4 w5 l a b c d e f = 0) : (netV w0 w1 w2 w3 w4 w5 l).2 = 0 ∧ (-10000 ≤ w0 ∧ w0 ≤ a ∧ a ≤ b ∧ b ≤ w1 ∧ w1 ≤ 10000) ∧ (-10000 ≤ w2 ∧ w2 ≤ c ∧ c ≤ d ∧ d ≤ w3 ∧ w3 ≤ 10000) ∧ (0 ≤ w4 ∧ w4 ≤ e ∧ e ≤ f ∧ f ≤ w5 ∧ w5 ≤ 10000) := by
  unfold boxV at h
  by_cases h1 : (netV w0 w1 w2 w3 w4 w5 l).2 = 0
  · refine ⟨h1, ?_⟩
    rw [if_pos h1] at h
    by_cases h2 : ordE a b c d e f = 0
    · rw [if_pos h2] at h
      by_cases h3 : (w0 ≤ a ∧ b ≤ w1) ∧ (w2 ≤ c ∧ d ≤ w3) ∧ (w4 ≤ e ∧ f ≤ w5)
      · unfold netV at h1
        by_cases h4 : worE w0 w1 w2 w3 w4 w5 = 0
        · unfold worE at h4
          by_cases h5 : ¬ (okS 10000 [w0, w1, w2, w3] = true) ∨ ¬ allE 0 10000 [w4, w5] = 0
          · rw [if_pos h5] at h4; omega
          · have e1 : okS 10000 [w0, w1, w2, w3] = true ↔ ((-10000 ≤ w0 ∧ w0 ≤ 10000) ∧ (-10000 ≤ w1 ∧ w1 ≤ 10000) ∧ (-10000 ≤ w2 ∧ w2 ≤ 10000) ∧ (-10000 ≤ w3 ∧ w3 ≤ 10000)) := by simp [okS]
            have e2 : allE 0 10000 [w4, w5] = 0 ↔ ((0 ≤ w4 ∧ w4 ≤ 10000) ∧ (0 ≤ w5 ∧ w5 ≤ 10000)) := by
              simp only [allE, limE]; (repeat' split) <;> omega
            rw [e1, e2] at h5
            unfold ordE at h2
            by_cases h6 : b < a ∨ d < c ∨ f < e
            · rw [if_pos h6] at h2; omega
            · omega
        · rw [if_neg h4] at h1; exact absurd h1 h4
      · rw [if_neg h3] at h; omega
    · rw [if_neg h2] at h; omega
  · rw [if_neg h1] at h; exact absurd h h1
theorem inB_of {w0 w1 w2 w3 w4 w5 : Int} {l : List Bn} {a b c d e f T p q r s t u : Int} (h : boxV w0 w1 w2 w3 w4 w5 l a b c d e f = 0) (h2 : movE T p q r s t u = 0) : InB a b c d e f T p q r s t u := by
  obtain ⟨_, h3, h4, h5⟩ := boxV_zero h
  obtain ⟨k1, k2, k3, k4⟩ := movE_zero h2
  exact ⟨by omega, k1, by omega⟩
theorem ord09 (a b c d e f : Int) : ordE a b c d e f = 0 ∨ ordE a b c d e f = 9 := by unfold ordE; split <;> simp
theorem m_isEmpty {fu : Nat} (hf : 8 ≤ fu) (a b c d e f : Int) : x_box_isEmpty fu a b c d e f = some (decide (ordE a b c d e f ≠ 0)) := by
  unfold x_box_isEmpty
  rw [n_order hf, Option.bind_some]
  rcases ord09 a b c d e f with h | h <;> simp [h]
def movV (w0 w1 w2 w3 w4 w5 : Int) (l : List Bn) (a b c d e f T p q r s t u : Int) : Int := firstE [boxV w0 w1 w2 w3 w4 w5 l a b c d e f, movE T p q r s t u]
theorem m_Carried {fu : Nat} (hf : 1000 ≤ fu) (w0 w1 w2 w3 w4 w5 : Int) (l : List Bn) (hl : l.length < 50) (a b c d e f T p q r s t u : Int) : x_Carried fu w0 w1 w2 w3 w4 w5 l a b c d e f T p q r s t u = some (if movV w0 w1 w2 w3 w4 w5 l a b c d e f T p q r s t u = 0 then resC (cmB (fwd a b c d e f T p q r s t u) w0 w1 w2 w3 w4 w5) else (0, 0, 0, 0, 0, 0, movV w0 w1 w2 w3 w4 w5 l a b c d e f T p q r s t u)) := by
  unfold x_Carried
  rw [n_box fu hf _ _ _ _ _ _ _ hl, Option.bind_some, m_err hf, Option.bind_some, x_first _ _ (by simp; omega) (by simp), Option.bind_some]
  show (if movV w0 w1 w2 w3 w4 w5 l a b c d e f T p q r s t u = 0 then _ else _) = _
  by_cases h : movV w0 w1 w2 w3 w4 w5 l a b c d e f T p q r s t u = 0
  · rw [if_pos h, if_pos h]
    have h1 : boxV w0 w1 w2 w3 w4 w5 l a b c d e f = 0 := by
      unfold movV firstE at h
      by_cases h1 : boxV w0 w1 w2 w3 w4 w5 l a b c d e f = 0
      · exact h1
      · rw [if_neg h1] at h; exact absurd h h1
    have h2 : movE T p q r s t u = 0 := by
      unfold movV firstE at h
      rw [if_pos h1] at h
      unfold firstE at h
      by_cases h2 : movE T p q r s t u = 0
      · exact h2
      · rw [if_neg h2] at h; exact absurd h h2
    have hb := inB_of h1 h2
    unfold x_boxOf
    simp only [Option.bind_some]
    rw [m_carried (by omega) hb, Option.bind_some, n_cmn fu (by omega), Option.bind_some, m_isEmpty (by omega), Option.bind_some]
    unfold x_box_given x_box_x x_box_y x_box_z resC cmB
    simp only [Option.bind_some]
    rcases ord09 (cmn (fwd a b c d e f T p q r s t u).1 (fwd a b c d e f T p q r s t u).2.1 w0 w1).1 (cmn (fwd a b c d e f T p q r s t u).1 (fwd a b c d e f T p q r s t u).2.1 w0 w1).2 (cmn (fwd a b c d e f T p q r s t u).2.2.1 (fwd a b c d e f T p q r s t u).2.2.2.1 w2 w3).1 (cmn (fwd a b c d e f T p q r s t u).2.2.1 (fwd a b c d e f T p q r s t u).2.2.2.1 w2 w3).2 (cmn (fwd a b c d e f T p q r s t u).2.2.2.2.1 (fwd a b c d e f T p q r s t u).2.2.2.2.2 w4 w5).1 (cmn (fwd a b c d e f T p q r s t u).2.2.2.2.1 (fwd a b c d e f T p q r s t u).2.2.2.2.2 w4 w5).2 with g | g <;> simp [g]
  · rw [if_neg h, if_neg h]; rfl
def i64 (x : Int) : Prop := -9223372036854775808 ≤ x ∧ x ≤ 9223372036854775807
theorem m_rev {fu : Nat} (hf : 8 ≤ fu) (T p q r s t u : Int) : x_reversed fu T p q r s t u = some (T, IntKind.wrap .i64 (0 - q), IntKind.wrap .i64 (0 - p), IntKind.wrap .i64 (0 - s), IntKind.wrap .i64 (0 - r), IntKind.wrap .i64 (0 - u), IntKind.wrap .i64 (0 - t)) := by
  obtain ⟨g, rfl⟩ : ∃ g, fu = g + 4 := ⟨fu - 4, by omega⟩
  unfold x_reversed x_boxOf x_box_given x_box_x x_box_y x_box_z
  simp only [Option.bind_some, x_reversed_L1, w01, w12, w23]
  simp
theorem neg_wrap {x : Int} (h : i64 x) : IntKind.wrap .i64 (0 - x) = if x = -9223372036854775808 then x else -x := by
  obtain ⟨h1, h2⟩ := h
  split
  · rename_i e; subst e; decide
  · rw [wrapB (by omega) (by omega)]; omega
theorem movE_rev {T p q r s t u : Int} (hp : i64 p) (hq : i64 q) (hr : i64 r) (hs : i64 s) (ht : i64 t) (hu : i64 u) : movE T (IntKind.wrap .i64 (0 - q)) (IntKind.wrap .i64 (0 - p)) (IntKind.wrap .i64 (0 - s)) (IntKind.wrap .i64 (0 - r)) (IntKind.wrap .i64 (0 - u)) (IntKind.wrap .i64 (0 - t)) = movE T p q r s t u := by
  unfold movE ordE
  simp only [okS6, neg_wrap hp, neg_wrap hq, neg_wrap hr, neg_wrap hs, neg_wrap ht, neg_wrap hu]
  unfold i64 at *
  by_cases c1 : (-100 ≤ p ∧ p ≤ 100) ∧ (-100 ≤ q ∧ q ≤ 100) ∧ (-100 ≤ r ∧ r ≤ 100) ∧ (-100 ≤ s ∧ s ≤ 100) ∧ (-100 ≤ t ∧ t ≤ 100) ∧ (-100 ≤ u ∧ u ≤ 100)
  · rw [if_neg (show ¬ p = -9223372036854775808 by omega), if_neg (show ¬ q = -9223372036854775808 by omega), if_neg (show ¬ r = -9223372036854775808 by omega), if_neg (show ¬ s = -9223372036854775808 by omega), if_neg (show ¬ t = -9223372036854775808 by omega), if_neg (show ¬ u = -9223372036854775808 by omega)]
    by_cases c2 : 0 ≤ T ∧ T ≤ 1000
    · by_cases c3 : q < p ∨ s < r ∨ u < t
      · rw [if_neg (by omega), if_pos (by omega), if_neg (by omega), if_pos c3]
      · rw [if_neg (by omega), if_neg (by omega), if_neg (by omega), if_neg c3]
    · rw [if_pos (.inl c2), if_pos (.inl c2)]
  · rw [if_pos (.inr fun h => c1 (by
      obtain ⟨h1, h2, h3, h4, h5, h6⟩ := h
      refine ⟨?_, ?_, ?_, ?_, ?_, ?_⟩
      · split at h2 <;> omega
      · split at h1 <;> omega
      · split at h4 <;> omega
      · split at h3 <;> omega
      · split at h6 <;> omega
      · split at h5 <;> omega)), if_pos (.inr c1)]
end Go.Proofs.YtaafodbiigdbaaaGreat
