/-
  Cells that a ray crosses: the program's sign and the document's corners.
-/
import Derived.Test.YthffbfkcmbgghaaGreatZIa
set_option linter.all false
namespace Go.Proofs.YthffbfkcmbgghaaGreat
open Go Go.RowKit
def asd (fx fy tx ty x y : Int) : Int := (tx - fx) * (y - fy) - (ty - fy) * (x - fx)
def wid (fx fy tx ty : Int) : Int := max (tx - fx) (fx - tx) + max (ty - fy) (fy - ty)
def inBox (fx fy tx ty x y : Int) : Prop := (min fx tx ≤ x ∧ x ≤ max fx tx) ∧ (min fy ty ≤ y ∧ y ≤ max fy ty)
def crs (fx fy tx ty x y : Int) : Prop := (x = fx ∧ y = fy) ∨ (-(wid fx fy tx ty - 1) ≤ 2 * asd fx fy tx ty x y ∧ 2 * asd fx fy tx ty x y ≤ wid fx fy tx ty - 1)
instance (a b c d x y : Int) : Decidable (crs a b c d x y) := by unfold crs; infer_instance
instance (a b c d x y : Int) : Decidable (inBox a b c d x y) := by unfold inBox; infer_instance
def sid (fx fy tx ty x y : Int) : Int := (2 * tx + 1 - (2 * fx + 1)) * (y - (2 * fy + 1)) - (2 * ty + 1 - (2 * fy + 1)) * (x - (2 * fx + 1))
theorem sid_eq (fx fy tx ty x y i j : Int) : sid fx fy tx ty (2 * x + 2 * i) (2 * y + 2 * j) = 4 * asd fx fy tx ty x y + 2 * ((tx - fx) * (2 * j - 1)) - 2 * ((ty - fy) * (2 * i - 1)) := by
  unfold sid asd; grind
theorem asd_back (fx fy tx ty x y : Int) : asd tx ty fx fy x y = - asd fx fy tx ty x y := by unfold asd; grind
theorem asd_end (fx fy tx ty : Int) : asd fx fy tx ty tx ty = 0 := by unfold asd; grind
theorem asd_begin (fx fy tx ty : Int) : asd fx fy tx ty fx fy = 0 := by unfold asd; grind
theorem asd_next (fx fy tx ty x y : Int) : asd (fx + 1) fy (tx + 1) ty (x + 1) y = asd fx fy tx ty x y := by unfold asd; grind
theorem crs_back (fx fy tx ty x y : Int) (hb : inBox fx fy tx ty x y) : crs tx ty fx fy x y ↔ crs fx fy tx ty x y := by
  unfold crs
  rw [asd_back]
  have hw : wid tx ty fx fy = wid fx fy tx ty := by unfold wid; omega
  rw [hw]
  have e1 := asd_begin fx fy tx ty
  have e2 := asd_end fx fy tx ty
  unfold inBox at hb
  by_cases h : fx = tx ∧ fy = ty
  · obtain ⟨h1, h2⟩ := h
    subst h1; subst h2
    constructor
    · rintro (⟨rfl, rfl⟩ | q)
      · exact .inl ⟨rfl, rfl⟩
      · right; omega
    · rintro (⟨rfl, rfl⟩ | q)
      · exact .inl ⟨rfl, rfl⟩
      · right; omega
  · have h0 : 1 ≤ wid fx fy tx ty := by unfold wid; omega
    constructor
    · rintro (⟨rfl, rfl⟩ | q)
      · right; omega
      · right; omega
    · rintro (⟨rfl, rfl⟩ | q)
      · right; omega
      · right; omega
theorem crs_corners (fx fy tx ty x y : Int) (hb : inBox fx fy tx ty x y) : crs fx fy tx ty x y ↔ (fx = tx ∧ fy = ty) ∨
    (0 < sid fx fy tx ty (2 * x) (2 * y) ∨ 0 < sid fx fy tx ty (2 * x + 2) (2 * y) ∨ 0 < sid fx fy tx ty (2 * x) (2 * y + 2) ∨ 0 < sid fx fy tx ty (2 * x + 2) (2 * y + 2)) ∧
    (sid fx fy tx ty (2 * x) (2 * y) < 0 ∨ sid fx fy tx ty (2 * x + 2) (2 * y) < 0 ∨ sid fx fy tx ty (2 * x) (2 * y + 2) < 0 ∨ sid fx fy tx ty (2 * x + 2) (2 * y + 2) < 0) := by
  have s0 := sid_eq fx fy tx ty x y 0 0
  have s1 := sid_eq fx fy tx ty x y 1 0
  have s2 := sid_eq fx fy tx ty x y 0 1
  have s3 := sid_eq fx fy tx ty x y 1 1
  simp only [Int.mul_zero, Int.add_zero, Int.mul_one, Int.zero_sub] at s0 s1 s2 s3
  rw [show (2 : Int) - 1 = 1 by omega] at s1 s2 s3
  simp only [Int.mul_one, Int.mul_neg] at s0 s1 s2 s3
  rw [s0, s1, s2, s3]
  unfold crs
  have hw : wid fx fy tx ty = max (tx - fx) (fx - tx) + max (ty - fy) (fy - ty) := rfl
  have e1 := asd_begin fx fy tx ty
  unfold inBox at hb
  by_cases h : fx = tx ∧ fy = ty
  · obtain ⟨h1, h2⟩ := h
    subst h1; subst h2
    constructor
    · intro _; exact .inl ⟨rfl, rfl⟩
    · intro _; left; omega
  · have h0 : 1 ≤ wid fx fy tx ty := by omega
    constructor
    · rintro (⟨rfl, rfl⟩ | q)
      · right
        rw [e1]
        omega
      · right
        generalize asd fx fy tx ty x y = s at *
        omega
    · rintro (q | q)
      · exact absurd q h
      · right
        generalize asd fx fy tx ty x y = s at *
        omega
theorem crs_next (fx fy tx ty x y : Int) : crs (fx + 1) fy (tx + 1) ty (x + 1) y ↔ crs fx fy tx ty x y := by
  unfold crs
  rw [asd_next]
  have hw : wid (fx + 1) fy (tx + 1) ty = wid fx fy tx ty := by unfold wid; omega
  rw [hw]
  omega
theorem crs_begin (fx fy tx ty : Int) : crs fx fy tx ty fx fy := .inl ⟨rfl, rfl⟩
theorem crs_end (fx fy tx ty : Int) : crs fx fy tx ty tx ty := by
  have h : inBox fx fy tx ty tx ty := by unfold inBox; omega
  exact (crs_back tx ty fx fy tx ty (by unfold inBox; omega)).2 (crs_begin tx ty fx fy)
end Go.Proofs.YthffbfkcmbgghaaGreat
