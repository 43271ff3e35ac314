/-
  Squares of distances: the program's and the reference's.
-/
import Derived.Test.YtaafodbiigdbaaaGreatZM5b
import Derived.Test.YtaafodbiigdbaaaGreatZM5q
import Derived.Test.YtaafodbiigdbaaaGreatZM5p
set_option linter.all false
namespace Go.Proofs.YtaafodbiigdbaaaGreat
open Go Go.RowKit
theorem r_carried {fu : Nat} (hf : 8 ≤ fu) {a b c d e f T p q r s t u : Int} (h : InB a b c d e f T p q r s t u) (w0 w1 w2 w3 w4 w5 : Int) (l : List Bn) : r5_Carried fu w0 w1 w2 w3 w4 w5 l a b c d e f T p q r s t u = some (cmB (fwd a b c d e f T p q r s t u) w0 w1 w2 w3 w4 w5) := by
  obtain ⟨g, rfl⟩ : ∃ g, fu = g + 4 := ⟨fu - 4, by omega⟩
  obtain ⟨⟨a1, b1, c1, d1, e1, f1⟩, ht, p1, q1, r1, s1, t1, u1⟩ := h
  unfold r5_Carried r5_Sides r5_box r5_Common r5_Sides r5_box fwd cmB
  simp only [Option.bind_some, r5_Carried_L1, w01, w12, w23, wr1 a1 ht p1, wr1 b1 ht q1, wr1 c1 ht r1, wr1 d1 ht s1, wr1 e1 ht t1, wr1 f1 ht u1, r_common]
  simp
theorem r_back {fu : Nat} (hf : 8 ≤ fu) {a b c d e f T p q r s t u : Int} (h : InB a b c d e f T p q r s t u) (w0 w1 w2 w3 w4 w5 : Int) (l : List Bn) : r5_CarriedBack fu w0 w1 w2 w3 w4 w5 l a b c d e f T p q r s t u = some (cmB (fwd a b c d e f T (-q) (-p) (-s) (-r) (-u) (-t)) w0 w1 w2 w3 w4 w5) := by
  obtain ⟨g, rfl⟩ : ∃ g, fu = g + 4 := ⟨fu - 4, by omega⟩
  obtain ⟨⟨a1, b1, c1, d1, e1, f1⟩, ht, p1, q1, r1, s1, t1, u1⟩ := h
  unfold r5_CarriedBack r5_Sides r5_box r5_Common r5_Sides r5_box fwd cmB
  simp only [Option.bind_some, r5_CarriedBack_L1, w01, w12, w23, wr2 a1 ht q1, wr2 b1 ht p1, wr2 c1 ht s1, wr2 d1 ht r1, wr2 e1 ht u1, wr2 f1 ht t1, r_common]
  simp
theorem sqB {d : Int} (h : -20000 ≤ d ∧ d ≤ 20000) : 0 ≤ d * d ∧ d * d ≤ 400000000 := by
  rcases Int.le_total 0 d with c | c
  · exact ⟨Int.mul_nonneg c c, by have := Int.mul_le_mul h.2 h.2 c (by omega); omega⟩
  · have e : d * d = (-d) * (-d) := by rw [Int.neg_mul_neg]
    rw [e]
    exact ⟨Int.mul_nonneg (by omega) (by omega), by have := Int.mul_le_mul (show -d ≤ 20000 by omega) (show -d ≤ 20000 by omega) (by omega) (by omega); omega⟩
def nD (c lo hi : Int) : Int := if lo - c < c - hi then (if c - hi < 0 then 0 else c - hi) else (if lo - c < 0 then 0 else lo - c)
def fD (c lo hi : Int) : Int := if c - lo < hi - c then hi - c else c - lo
structure In3 (c lo hi : Int) : Prop where
  c1 : -10000 ≤ c ∧ c ≤ 10000
  l1 : -10000 ≤ lo ∧ lo ≤ hi ∧ hi ≤ 10000
theorem step_a {c lo hi a b : Int} (h : In3 c lo hi) (ha : 0 ≤ a ∧ a ≤ 4000000000) (hb : 0 ≤ b ∧ b ≤ 4000000000) {ρ : Type} (K : Int → Int → Option ρ) :
    (if (IntKind.wrap .i64 (lo - c)) < (IntKind.wrap .i64 (c - hi)) then (if (IntKind.wrap .i64 (c - hi)) < (0 : Int) then (Option.bind (x_square (0 : Int)) fun r5 => if (IntKind.wrap .i64 (c - lo)) < (IntKind.wrap .i64 (hi - c)) then (Option.bind (x_square (IntKind.wrap .i64 (hi - c))) fun r7 => K (IntKind.wrap .i64 (a + r5)) (IntKind.wrap .i64 (b + r7))) else (Option.bind (x_square (IntKind.wrap .i64 (c - lo))) fun r8 => K (IntKind.wrap .i64 (a + r5)) (IntKind.wrap .i64 (b + r8)))) else (Option.bind (x_square (IntKind.wrap .i64 (c - hi))) fun r9 => if (IntKind.wrap .i64 (c - lo)) < (IntKind.wrap .i64 (hi - c)) then (Option.bind (x_square (IntKind.wrap .i64 (hi - c))) fun r11 => K (IntKind.wrap .i64 (a + r9)) (IntKind.wrap .i64 (b + r11))) else (Option.bind (x_square (IntKind.wrap .i64 (c - lo))) fun r12 => K (IntKind.wrap .i64 (a + r9)) (IntKind.wrap .i64 (b + r12))))) else (if (IntKind.wrap .i64 (lo - c)) < (0 : Int) then (Option.bind (x_square (0 : Int)) fun r14 => if (IntKind.wrap .i64 (c - lo)) < (IntKind.wrap .i64 (hi - c)) then (Option.bind (x_square (IntKind.wrap .i64 (hi - c))) fun r16 => K (IntKind.wrap .i64 (a + r14)) (IntKind.wrap .i64 (b + r16))) else (Option.bind (x_square (IntKind.wrap .i64 (c - lo))) fun r17 => K (IntKind.wrap .i64 (a + r14)) (IntKind.wrap .i64 (b + r17)))) else (Option.bind (x_square (IntKind.wrap .i64 (lo - c))) fun r18 => if (IntKind.wrap .i64 (c - lo)) < (IntKind.wrap .i64 (hi - c)) then (Option.bind (x_square (IntKind.wrap .i64 (hi - c))) fun r20 => K (IntKind.wrap .i64 (a + r18)) (IntKind.wrap .i64 (b + r20))) else (Option.bind (x_square (IntKind.wrap .i64 (c - lo))) fun r21 => K (IntKind.wrap .i64 (a + r18)) (IntKind.wrap .i64 (b + r21))))))
    = K (a + nD c lo hi * nD c lo hi) (b + fD c lo hi * fD c lo hi) := by
  obtain ⟨h1, h2⟩ := h
  have s1 := sqB (d := lo - c) (by omega)
  have s2 := sqB (d := c - hi) (by omega)
  have s3 := sqB (d := c - lo) (by omega)
  have s4 := sqB (d := hi - c) (by omega)
  unfold x_square
  rw [wrapB (x := lo - c) (by omega) (by omega), wrapB (x := c - hi) (by omega) (by omega), wrapB (x := c - lo) (by omega) (by omega), wrapB (x := hi - c) (by omega) (by omega)]
  simp only [Option.bind_some]
  rw [wrapB (x := (lo - c) * (lo - c)) (by omega) (by omega), wrapB (x := (c - hi) * (c - hi)) (by omega) (by omega), wrapB (x := (c - lo) * (c - lo)) (by omega) (by omega), wrapB (x := (hi - c) * (hi - c)) (by omega) (by omega), wrapB (x := (0 : Int) * 0) (by omega) (by omega)]
  rw [wrapB (x := a + (lo - c) * (lo - c)) (by omega) (by omega), wrapB (x := a + (c - hi) * (c - hi)) (by omega) (by omega), wrapB (x := a + (0 : Int) * 0) (by omega) (by omega), wrapB (x := b + (c - lo) * (c - lo)) (by omega) (by omega), wrapB (x := b + (hi - c) * (hi - c)) (by omega) (by omega)]
  unfold nD fD
  by_cases c1 : lo - c < c - hi <;> by_cases c2 : c - hi < 0 <;> by_cases c3 : lo - c < 0 <;> by_cases c4 : c - lo < hi - c <;> simp only [c1, c2, c3, c4, if_true, if_false]
theorem nD_le {c lo hi : Int} (h : In3 c lo hi) : 0 ≤ nD c lo hi * nD c lo hi ∧ nD c lo hi * nD c lo hi ≤ 400000000 := by
  obtain ⟨h1, h2⟩ := h
  refine sqB ?_
  unfold nD
  (repeat' split) <;> omega
theorem fD_le {c lo hi : Int} (h : In3 c lo hi) : 0 ≤ fD c lo hi * fD c lo hi ∧ fD c lo hi * fD c lo hi ≤ 400000000 := by
  obtain ⟨h1, h2⟩ := h
  refine sqB ?_
  unfold fD
  (repeat' split) <;> omega
def sqV (p0 p1 p2 a b c d e f : Int) : Int × Int := (nD p0 a b * nD p0 a b + nD p1 c d * nD p1 c d + nD p2 e f * nD p2 e f, fD p0 a b * fD p0 a b + fD p1 c d * fD p1 c d + fD p2 e f * fD p2 e f)
theorem m_sq {fu : Nat} (hf : 8 ≤ fu) {p0 p1 p2 a b c d e f : Int} (h0 : In3 p0 a b) (h1 : In3 p1 c d) (h2 : In3 p2 e f) : x_place_squaresTo fu p0 p1 p2 a b c d e f = some (sqV p0 p1 p2 a b c d e f) := by
  obtain ⟨g, rfl⟩ : ∃ g, fu = g + 4 := ⟨fu - 4, by omega⟩
  have n0 := nD_le h0
  have n1 := nD_le h1
  have f0 := fD_le h0
  have f1 := fD_le h1
  unfold x_place_squaresTo sqV
  rw [x_place_squaresTo_L1, if_pos (by decide), if_neg (by decide), if_neg (by decide), if_pos rfl, w01]
  rw [step_a h0 (by omega) (by omega) (fun x y => x_place_squaresTo_L1 (g + 4) p0 p1 p2 a b c d e f (g + 3) x y 1)]
  rw [x_place_squaresTo_L1, if_pos (by decide), if_neg (by decide), if_pos rfl, w12]
  rw [step_a h1 (by omega) (by omega) (fun x y => x_place_squaresTo_L1 (g + 4) p0 p1 p2 a b c d e f (g + 2) x y 2)]
  rw [x_place_squaresTo_L1, if_pos (by decide), if_pos rfl, w23]
  rw [step_a h2 (by omega) (by omega) (fun x y => x_place_squaresTo_L1 (g + 4) p0 p1 p2 a b c d e f (g + 1) x y 3)]
  rw [x_place_squaresTo_L1, if_neg (by decide), Option.bind_some, Int.zero_add, Int.zero_add]
/-! ### The reference -/
def nR (c lo hi : Int) : Int := if lo < c then (if c < hi then c else hi) else (if lo < hi then lo else hi)
def fR (c lo hi : Int) : Int := if (if lo - c < 0 then -(lo - c) else lo - c) < (if hi - c < 0 then -(hi - c) else hi - c) then hi else lo
theorem b_size {x : Int} (h : -30000 ≤ x ∧ x ≤ 30000) : b_Size x = some (if x < 0 then -x else x) := by
  unfold b_Size
  rw [wrapB (by omega) (by omega)]
  by_cases c : x < 0
  · rw [if_pos (by omega), if_pos c]; congr 1; omega
  · rw [if_neg (by omega), if_neg c]
theorem step_r {c lo hi : Int} (h : In3 c lo hi) {ρ : Type} (K : Int → Int → Option ρ) :
    (if lo < c then (if c < hi then (Option.bind (b_Size (IntKind.wrap .i64 (hi - c))) fun r5 => Option.bind (b_Size (IntKind.wrap .i64 (lo - c))) fun r6 => if r6 < r5 then (K c hi) else (K c lo)) else (Option.bind (b_Size (IntKind.wrap .i64 (hi - c))) fun r8 => Option.bind (b_Size (IntKind.wrap .i64 (lo - c))) fun r9 => if r9 < r8 then (K hi hi) else (K hi lo))) else (if lo < hi then (Option.bind (b_Size (IntKind.wrap .i64 (hi - c))) fun r12 => Option.bind (b_Size (IntKind.wrap .i64 (lo - c))) fun r13 => if r13 < r12 then (K lo hi) else (K lo lo)) else (Option.bind (b_Size (IntKind.wrap .i64 (hi - c))) fun r15 => Option.bind (b_Size (IntKind.wrap .i64 (lo - c))) fun r16 => if r16 < r15 then (K hi hi) else (K hi lo))))
    = K (nR c lo hi) (fR c lo hi) := by
  obtain ⟨h1, h2⟩ := h
  rw [wrapB (x := lo - c) (by omega) (by omega), wrapB (x := hi - c) (by omega) (by omega), b_size (by omega), b_size (by omega)]
  simp only [Option.bind_some]
  unfold nR fR
  by_cases c1 : lo < c <;> by_cases c2 : c < hi <;> by_cases c3 : lo < hi <;> by_cases c4 : (if lo - c < 0 then -(lo - c) else lo - c) < (if hi - c < 0 then -(hi - c) else hi - c) <;> simp only [c1, c2, c3, c4, if_true, if_false]
theorem r_sq1 {g : Nat} {p0 p1 p2 a b c : Int} (h0 : -20000 ≤ p0 - a ∧ p0 - a ≤ 20000) (h1 : -20000 ≤ p1 - b ∧ p1 - b ≤ 20000) (h2 : -20000 ≤ p2 - c ∧ p2 - c ≤ 20000) : r5_Square (g + 4) p0 p1 p2 a b c = some ((p0 - a) * (p0 - a) + (p1 - b) * (p1 - b) + (p2 - c) * (p2 - c)) := by
  have s0 := sqB h0
  have s1 := sqB h1
  have s2 := sqB h2
  unfold r5_Square r5_Coordinates
  simp only [Option.bind_some, r5_Square_L1, w01, w12, w23]
  rw [wrapB (x := p0 - a) (by omega) (by omega), wrapB (x := p1 - b) (by omega) (by omega), wrapB (x := p2 - c) (by omega) (by omega), wrapB (x := (p0 - a) * (p0 - a)) (by omega) (by omega), wrapB (x := (p1 - b) * (p1 - b)) (by omega) (by omega), wrapB (x := (p2 - c) * (p2 - c)) (by omega) (by omega), wrapB (x := 0 + (p0 - a) * (p0 - a)) (by omega) (by omega), wrapB (x := 0 + (p0 - a) * (p0 - a) + (p1 - b) * (p1 - b)) (by omega) (by omega), wrapB (x := 0 + (p0 - a) * (p0 - a) + (p1 - b) * (p1 - b) + (p2 - c) * (p2 - c)) (by omega) (by omega), Int.zero_add]
  simp
theorem sq_eq {x y : Int} (h : x = y ∨ x = -y) : x * x = y * y := by
  rcases h with rfl | rfl
  · rfl
  · rw [Int.neg_mul_neg]
theorem nR_eq {c lo hi : Int} (h : In3 c lo hi) : (c - nR c lo hi) * (c - nR c lo hi) = nD c lo hi * nD c lo hi := by
  obtain ⟨h1, h2⟩ := h
  refine sq_eq ?_
  unfold nR nD
  by_cases c1 : lo < c <;> by_cases c2 : c < hi <;> by_cases c3 : lo < hi <;> simp only [c1, c2, c3, if_true, if_false] <;> (repeat' split) <;> omega
theorem fR_eq {c lo hi : Int} (h : In3 c lo hi) : (c - fR c lo hi) * (c - fR c lo hi) = fD c lo hi * fD c lo hi := by
  obtain ⟨h1, h2⟩ := h
  refine sq_eq ?_
  unfold fR fD
  by_cases c1 : lo - c < 0 <;> by_cases c2 : hi - c < 0 <;> simp only [c1, c2, if_true, if_false] <;> (repeat' split) <;> omega
theorem nR_in {c lo hi : Int} (h : In3 c lo hi) : -20000 ≤ c - nR c lo hi ∧ c - nR c lo hi ≤ 20000 := by
  obtain ⟨h1, h2⟩ := h
  unfold nR
  (repeat' split) <;> omega
theorem fR_in {c lo hi : Int} (h : In3 c lo hi) : -20000 ≤ c - fR c lo hi ∧ c - fR c lo hi ≤ 20000 := by
  obtain ⟨h1, h2⟩ := h
  unfold fR
  (repeat' split) <;> omega
theorem r_sq {fu : Nat} (hf : 8 ≤ fu) {p0 p1 p2 a b c d e f : Int} (h0 : In3 p0 a b) (h1 : In3 p1 c d) (h2 : In3 p2 e f) : r5_Squares fu p0 p1 p2 a b c d e f = some (sqV p0 p1 p2 a b c d e f) := by
  obtain ⟨g, rfl⟩ : ∃ g, fu = g + 4 := ⟨fu - 4, by omega⟩
  unfold r5_Squares r5_Sides r5_Coordinates sqV r5_place
  simp only [Option.bind_some]
  rw [r5_Squares_L1, if_pos (by decide), if_neg (by decide), if_neg (by decide), if_pos rfl, w01]
  rw [step_r h0 (fun x y => r5_Squares_L1 (g + 4) p0 p1 p2 a b c d e f p0 p1 p2 (g + 3) x 0 0 y 0 0 1)]
  rw [r5_Squares_L1, if_pos (by decide), if_neg (by decide), if_pos rfl, w12]
  rw [step_r h1 (fun x y => r5_Squares_L1 (g + 4) p0 p1 p2 a b c d e f p0 p1 p2 (g + 2) (nR p0 a b) x 0 (fR p0 a b) y 0 2)]
  rw [r5_Squares_L1, if_pos (by decide), if_pos rfl, w23]
  rw [step_r h2 (fun x y => r5_Squares_L1 (g + 4) p0 p1 p2 a b c d e f p0 p1 p2 (g + 1) (nR p0 a b) (nR p1 c d) x (fR p0 a b) (fR p1 c d) y 3)]
  rw [r5_Squares_L1, if_neg (by decide), Option.bind_some]
  simp only
  rw [r_sq1 (nR_in h0) (nR_in h1) (nR_in h2), Option.bind_some, r_sq1 (fR_in h0) (fR_in h1) (fR_in h2), Option.bind_some, nR_eq h0, nR_eq h1, nR_eq h2, fR_eq h0, fR_eq h1, fR_eq h2]
end Go.Proofs.YtaafodbiigdbaaaGreat
