/-
  A change of neighbouring bits of a frame, as the law makes it, and lists of bytes.
-/
import Derived.Test.YtefkmidmjofdcaaZAg
import Derived.Test.YtefkmidmjofdcaaZAd
set_option linter.all false
namespace Go.Proofs.Ytefkmidmjofdcaa
open Go Go.RowKit

theorem w_add {m k : Nat} (hm : m < 1000) (hk : k < 1000) : IntKind.wrap .i64 ((m : Int) + (k : Int)) = ((m + k : Nat) : Int) := by
  rw [wrapB (by omega) (by omega)]; omega
theorem w_div {m : Nat} (hm : m < 1000) : IntKind.wrap .i64 (Int.tdiv (m : Int) 8) = ((m / 8 : Nat) : Int) := by
  have e : Int.tdiv (m : Int) 8 = ((m / 8 : Nat) : Int) := rfl
  rw [e, wrapB (by omega) (by omega)]
theorem w_mod {m : Nat} : IntKind.wrap .i64 (7 - Int.tmod (m : Int) 8) = ((7 - m % 8 : Nat) : Int) := by
  have e : Int.tmod (m : Int) 8 = ((m % 8 : Nat) : Int) := rfl
  have := Nat.mod_lt m (show 0 < 8 by omega)
  rw [e, wrapB (by omega) (by omega)]; omega
theorem w_bit {p k : Nat} (hp : p < 256) (hk : k < 8) : Cm.bitE .and .i64 (Cm.bitE .shr .i64 (p : Int) (k : Int)) 1 = if p.testBit k then 1 else 0 := by
  have e1 : Cm.bitE .shr .i64 (p : Int) (k : Int) = ((p / 2 ^ k : Nat) : Int) := by
    show Int.fdiv (p : Int) (2 ^ (min ((k : Int).toNat) 64)) = _
    rw [Int.toNat_natCast, Nat.min_eq_left (by omega)]
    rw [show (2 : Int) ^ k = ((2 ^ k : Nat) : Int) by rw [Int.natCast_pow]; rfl]
    rw [Int.fdiv_eq_ediv_of_nonneg _ (Int.natCast_nonneg _)]
    rfl
  have h2 : p / 2 ^ k ≤ p := Nat.div_le_self ..
  have e2 : Cm.bitE .and .i64 ((p / 2 ^ k : Nat) : Int) 1 = ((p / 2 ^ k % 2 : Nat) : Int) := by
    show IntKind.wrap .i64 (((BitVec.ofInt 64 ((p / 2 ^ k : Nat) : Int) &&& BitVec.ofInt 64 ((1 : Nat) : Int)).toNat : Nat) : Int) = _
    rw [BitVec.ofInt_natCast, BitVec.ofInt_natCast, BitVec.toNat_and, BitVec.toNat_ofNat, BitVec.toNat_ofNat, Nat.mod_eq_of_lt (show p / 2 ^ k < 2 ^ 64 by omega), Nat.mod_eq_of_lt (show 1 < 2 ^ 64 by omega), Nat.and_one_is_mod]
    have := Nat.mod_lt (p / 2 ^ k) (show 0 < 2 by omega)
    exact wrapB (by omega) (by omega)
  rw [e1, e2, Nat.testBit_eq_decide_div_mod_eq]
  have := Nat.mod_lt (p / 2 ^ k) (show 0 < 2 by omega)
  by_cases h : p / 2 ^ k % 2 = 1
  · rw [h]; rfl
  · rw [show p / 2 ^ k % 2 = 0 by omega]; rfl
theorem w_bit_t {p k : Nat} (hp : p < 256) (hk : k < 8) (hb : p.testBit k = true) : Cm.bitE .and .i64 (Cm.bitE .shr .i64 (p : Int) (k : Int)) 1 = 1 := by
  rw [w_bit hp hk, hb]; rfl
theorem w_bit_f {p k : Nat} (hp : p < 256) (hk : k < 8) (hb : p.testBit k = false) : ¬ Cm.bitE .and .i64 (Cm.bitE .shr .i64 (p : Int) (k : Int)) 1 = 1 := by
  rw [w_bit hp hk, hb]; decide
theorem pow_lt {e : Nat} (he : e ≤ 7) : 2 ^ e < 256 := by
  have : 2 ^ e ≤ 2 ^ 7 := Nat.pow_le_pow_right (by omega) he
  omega
theorem w_xor {F H m e : Nat} (hF : F < 256) (hH : H < 256) (he : 7 - m % 8 = e) : Cm.bitE .xor .i64 ((F ^^^ H : Nat) : Int) (Cm.bitE .shl .i64 1 (IntKind.wrap .i64 (7 - Int.tmod (m : Int) 8))) = ((F ^^^ (H ^^^ 2 ^ e) : Nat) : Int) := by
  have h7 : e ≤ 7 := by omega
  have e1 : Cm.bitE .shl .i64 1 ((e : Nat) : Int) = ((2 ^ e : Nat) : Int) := by
    show IntKind.wrap .i64 (1 * 2 ^ (min ((e : Int).toNat) 64)) = _
    rw [Int.toNat_natCast, Nat.min_eq_left (by omega), Int.one_mul, show (2 : Int) ^ e = ((2 ^ e : Nat) : Int) by rw [Int.natCast_pow]; rfl]
    have := pow_lt h7
    generalize 2 ^ e = x at *
    exact wrapB (by omega) (by omega)
  rw [w_mod, he, e1, bit_xor (by have := xor_lt hF hH; omega) (by have := pow_lt h7; omega), Nat.xor_assoc]
theorem w_nonneg {m : Nat} : (0 : Int) ≤ IntKind.wrap .i64 (7 - Int.tmod (m : Int) 8) := by
  rw [w_mod]; omega
theorem found_0 (fu : Nat) (l : List (Int × Int)) {s p : Nat} (hs : s < 8) (hp : p < 256) {f0 f1 f2 f3 f4 f5 f6 f7 : Nat} (hf0 : f0 < 256) (hf1 : f1 < 256) (hf2 : f2 < 256) (hf3 : f3 < 256) (hf4 : f4 < 256) (hf5 : f5 < 256) (hf6 : f6 < 256) (hf7 : f7 < 256) : ∀ n k H L a, H < 256 → L < 256 → k ≤ 8 → 8 - k < n → l7_BusFound_L1 fu l ((0 + s : Nat) : Int) (p : Int) n ((f0 ^^^ H : Nat) : Int) ((f1 ^^^ L : Nat) : Int) (f2 : Int) (f3 : Int) (f4 : Int) (f5 : Int) (f6 : Int) (f7 : Int) a ((k : Nat) : Int) = some (((f0 ^^^ (hl s p (8 - k) k H L a).1 : Nat) : Int), ((f1 ^^^ (hl s p (8 - k) k H L a).2.1 : Nat) : Int), (f2 : Int), (f3 : Int), (f4 : Int), (f5 : Int), (f6 : Int), (f7 : Int), (hl s p (8 - k) k H L a).2.2)
  | 0, k, H, L, a, _, _, _, h => by omega
  | n + 1, k, H, L, a, hH, hL, hk, h => by
    rw [l7_BusFound_L1]
    rcases Nat.lt_or_ge k 8 with h1 | h1
    · rw [if_pos (show ((k : Nat) : Int) < 8 by omega), w_add (by omega) (by omega), if_pos (show ((0 + s + k : Nat) : Int) < 64 by omega), if_pos (show (0 : Int) ≤ ((k : Nat) : Int) by omega), show 8 - k = (8 - (k + 1)) + 1 by omega, hl]
      cases hb : p.testBit k with
      | false =>
        rw [if_neg (w_bit_f hp h1 hb), wrapS (by omega), cond_false]
        exact found_0 fu l hs hp hf0 hf1 hf2 hf3 hf4 hf5 hf6 hf7 n (k + 1) H L a hH hL (by omega) (by omega)
      | true =>
        rw [if_pos (w_bit_t hp h1 hb), cond_true, w_div (by omega)]
        by_cases h2 : s + k < 8
        · rw [show (0 + s + k) / 8 = 0 by omega, if_neg (by decide), if_neg (by decide), if_neg (by decide), if_neg (by decide), if_neg (by decide), if_neg (by decide), if_neg (by decide), if_pos (by decide), if_pos w_nonneg, w_xor hf0 hH (e := 7 - (s + k)) (by omega), wrapS (by omega), show Nat.blt (s + k) 8 = true from Nat.ble_eq_true_of_le h2, cond_true]
          exact found_0 fu l hs hp hf0 hf1 hf2 hf3 hf4 hf5 hf6 hf7 n (k + 1) _ L true (xor_lt hH (pow_lt (by omega))) hL (by omega) (by omega)
        · rw [show (0 + s + k) / 8 = 1 by omega, if_neg (by decide), if_neg (by decide), if_neg (by decide), if_neg (by decide), if_neg (by decide), if_neg (by decide), if_pos (by decide), if_pos w_nonneg, w_xor hf1 hL (e := 15 - (s + k)) (by omega), wrapS (by omega), show Nat.blt (s + k) 8 = false by rw [← Bool.not_eq_true]; exact fun c => h2 (Nat.le_of_ble_eq_true c), cond_false]
          exact found_0 fu l hs hp hf0 hf1 hf2 hf3 hf4 hf5 hf6 hf7 n (k + 1) H _ true hH (xor_lt hL (pow_lt (by omega))) (by omega) (by omega)
    · rw [if_neg (by omega), show 8 - k = 0 by omega, hl]
theorem found_1 (fu : Nat) (l : List (Int × Int)) {s p : Nat} (hs : s < 8) (hp : p < 256) {f0 f1 f2 f3 f4 f5 f6 f7 : Nat} (hf0 : f0 < 256) (hf1 : f1 < 256) (hf2 : f2 < 256) (hf3 : f3 < 256) (hf4 : f4 < 256) (hf5 : f5 < 256) (hf6 : f6 < 256) (hf7 : f7 < 256) : ∀ n k H L a, H < 256 → L < 256 → k ≤ 8 → 8 - k < n → l7_BusFound_L1 fu l ((8 + s : Nat) : Int) (p : Int) n (f0 : Int) ((f1 ^^^ H : Nat) : Int) ((f2 ^^^ L : Nat) : Int) (f3 : Int) (f4 : Int) (f5 : Int) (f6 : Int) (f7 : Int) a ((k : Nat) : Int) = some ((f0 : Int), ((f1 ^^^ (hl s p (8 - k) k H L a).1 : Nat) : Int), ((f2 ^^^ (hl s p (8 - k) k H L a).2.1 : Nat) : Int), (f3 : Int), (f4 : Int), (f5 : Int), (f6 : Int), (f7 : Int), (hl s p (8 - k) k H L a).2.2)
  | 0, k, H, L, a, _, _, _, h => by omega
  | n + 1, k, H, L, a, hH, hL, hk, h => by
    rw [l7_BusFound_L1]
    rcases Nat.lt_or_ge k 8 with h1 | h1
    · rw [if_pos (show ((k : Nat) : Int) < 8 by omega), w_add (by omega) (by omega), if_pos (show ((8 + s + k : Nat) : Int) < 64 by omega), if_pos (show (0 : Int) ≤ ((k : Nat) : Int) by omega), show 8 - k = (8 - (k + 1)) + 1 by omega, hl]
      cases hb : p.testBit k with
      | false =>
        rw [if_neg (w_bit_f hp h1 hb), wrapS (by omega), cond_false]
        exact found_1 fu l hs hp hf0 hf1 hf2 hf3 hf4 hf5 hf6 hf7 n (k + 1) H L a hH hL (by omega) (by omega)
      | true =>
        rw [if_pos (w_bit_t hp h1 hb), cond_true, w_div (by omega)]
        by_cases h2 : s + k < 8
        · rw [show (8 + s + k) / 8 = 1 by omega, if_neg (by decide), if_neg (by decide), if_neg (by decide), if_neg (by decide), if_neg (by decide), if_neg (by decide), if_pos (by decide), if_pos w_nonneg, w_xor hf1 hH (e := 7 - (s + k)) (by omega), wrapS (by omega), show Nat.blt (s + k) 8 = true from Nat.ble_eq_true_of_le h2, cond_true]
          exact found_1 fu l hs hp hf0 hf1 hf2 hf3 hf4 hf5 hf6 hf7 n (k + 1) _ L true (xor_lt hH (pow_lt (by omega))) hL (by omega) (by omega)
        · rw [show (8 + s + k) / 8 = 2 by omega, if_neg (by decide), if_neg (by decide), if_neg (by decide), if_neg (by decide), if_neg (by decide), if_pos (by decide), if_pos w_nonneg, w_xor hf2 hL (e := 15 - (s + k)) (by omega), wrapS (by omega), show Nat.blt (s + k) 8 = false by rw [← Bool.not_eq_true]; exact fun c => h2 (Nat.le_of_ble_eq_true c), cond_false]
          exact found_1 fu l hs hp hf0 hf1 hf2 hf3 hf4 hf5 hf6 hf7 n (k + 1) H _ true hH (xor_lt hL (pow_lt (by omega))) (by omega) (by omega)
    · rw [if_neg (by omega), show 8 - k = 0 by omega, hl]
theorem found_2 (fu : Nat) (l : List (Int × Int)) {s p : Nat} (hs : s < 8) (hp : p < 256) {f0 f1 f2 f3 f4 f5 f6 f7 : Nat} (hf0 : f0 < 256) (hf1 : f1 < 256) (hf2 : f2 < 256) (hf3 : f3 < 256) (hf4 : f4 < 256) (hf5 : f5 < 256) (hf6 : f6 < 256) (hf7 : f7 < 256) : ∀ n k H L a, H < 256 → L < 256 → k ≤ 8 → 8 - k < n → l7_BusFound_L1 fu l ((16 + s : Nat) : Int) (p : Int) n (f0 : Int) (f1 : Int) ((f2 ^^^ H : Nat) : Int) ((f3 ^^^ L : Nat) : Int) (f4 : Int) (f5 : Int) (f6 : Int) (f7 : Int) a ((k : Nat) : Int) = some ((f0 : Int), (f1 : Int), ((f2 ^^^ (hl s p (8 - k) k H L a).1 : Nat) : Int), ((f3 ^^^ (hl s p (8 - k) k H L a).2.1 : Nat) : Int), (f4 : Int), (f5 : Int), (f6 : Int), (f7 : Int), (hl s p (8 - k) k H L a).2.2)
  | 0, k, H, L, a, _, _, _, h => by omega
  | n + 1, k, H, L, a, hH, hL, hk, h => by
    rw [l7_BusFound_L1]
    rcases Nat.lt_or_ge k 8 with h1 | h1
    · rw [if_pos (show ((k : Nat) : Int) < 8 by omega), w_add (by omega) (by omega), if_pos (show ((16 + s + k : Nat) : Int) < 64 by omega), if_pos (show (0 : Int) ≤ ((k : Nat) : Int) by omega), show 8 - k = (8 - (k + 1)) + 1 by omega, hl]
      cases hb : p.testBit k with
      | false =>
        rw [if_neg (w_bit_f hp h1 hb), wrapS (by omega), cond_false]
        exact found_2 fu l hs hp hf0 hf1 hf2 hf3 hf4 hf5 hf6 hf7 n (k + 1) H L a hH hL (by omega) (by omega)
      | true =>
        rw [if_pos (w_bit_t hp h1 hb), cond_true, w_div (by omega)]
        by_cases h2 : s + k < 8
        · rw [show (16 + s + k) / 8 = 2 by omega, if_neg (by decide), if_neg (by decide), if_neg (by decide), if_neg (by decide), if_neg (by decide), if_pos (by decide), if_pos w_nonneg, w_xor hf2 hH (e := 7 - (s + k)) (by omega), wrapS (by omega), show Nat.blt (s + k) 8 = true from Nat.ble_eq_true_of_le h2, cond_true]
          exact found_2 fu l hs hp hf0 hf1 hf2 hf3 hf4 hf5 hf6 hf7 n (k + 1) _ L true (xor_lt hH (pow_lt (by omega))) hL (by omega) (by omega)
        · rw [show (16 + s + k) / 8 = 3 by omega, if_neg (by decide), if_neg (by decide), if_neg (by decide), if_neg (by decide), if_pos (by decide), if_pos w_nonneg, w_xor hf3 hL (e := 15 - (s + k)) (by omega), wrapS (by omega), show Nat.blt (s + k) 8 = false by rw [← Bool.not_eq_true]; exact fun c => h2 (Nat.le_of_ble_eq_true c), cond_false]
          exact found_2 fu l hs hp hf0 hf1 hf2 hf3 hf4 hf5 hf6 hf7 n (k + 1) H _ true hH (xor_lt hL (pow_lt (by omega))) (by omega) (by omega)
    · rw [if_neg (by omega), show 8 - k = 0 by omega, hl]
theorem found_3 (fu : Nat) (l : List (Int × Int)) {s p : Nat} (hs : s < 8) (hp : p < 256) {f0 f1 f2 f3 f4 f5 f6 f7 : Nat} (hf0 : f0 < 256) (hf1 : f1 < 256) (hf2 : f2 < 256) (hf3 : f3 < 256) (hf4 : f4 < 256) (hf5 : f5 < 256) (hf6 : f6 < 256) (hf7 : f7 < 256) : ∀ n k H L a, H < 256 → L < 256 → k ≤ 8 → 8 - k < n → l7_BusFound_L1 fu l ((24 + s : Nat) : Int) (p : Int) n (f0 : Int) (f1 : Int) (f2 : Int) ((f3 ^^^ H : Nat) : Int) ((f4 ^^^ L : Nat) : Int) (f5 : Int) (f6 : Int) (f7 : Int) a ((k : Nat) : Int) = some ((f0 : Int), (f1 : Int), (f2 : Int), ((f3 ^^^ (hl s p (8 - k) k H L a).1 : Nat) : Int), ((f4 ^^^ (hl s p (8 - k) k H L a).2.1 : Nat) : Int), (f5 : Int), (f6 : Int), (f7 : Int), (hl s p (8 - k) k H L a).2.2)
  | 0, k, H, L, a, _, _, _, h => by omega
  | n + 1, k, H, L, a, hH, hL, hk, h => by
    rw [l7_BusFound_L1]
    rcases Nat.lt_or_ge k 8 with h1 | h1
    · rw [if_pos (show ((k : Nat) : Int) < 8 by omega), w_add (by omega) (by omega), if_pos (show ((24 + s + k : Nat) : Int) < 64 by omega), if_pos (show (0 : Int) ≤ ((k : Nat) : Int) by omega), show 8 - k = (8 - (k + 1)) + 1 by omega, hl]
      cases hb : p.testBit k with
      | false =>
        rw [if_neg (w_bit_f hp h1 hb), wrapS (by omega), cond_false]
        exact found_3 fu l hs hp hf0 hf1 hf2 hf3 hf4 hf5 hf6 hf7 n (k + 1) H L a hH hL (by omega) (by omega)
      | true =>
        rw [if_pos (w_bit_t hp h1 hb), cond_true, w_div (by omega)]
        by_cases h2 : s + k < 8
        · rw [show (24 + s + k) / 8 = 3 by omega, if_neg (by decide), if_neg (by decide), if_neg (by decide), if_neg (by decide), if_pos (by decide), if_pos w_nonneg, w_xor hf3 hH (e := 7 - (s + k)) (by omega), wrapS (by omega), show Nat.blt (s + k) 8 = true from Nat.ble_eq_true_of_le h2, cond_true]
          exact found_3 fu l hs hp hf0 hf1 hf2 hf3 hf4 hf5 hf6 hf7 n (k + 1) _ L true (xor_lt hH (pow_lt (by omega))) hL (by omega) (by omega)
        · rw [show (24 + s + k) / 8 = 4 by omega, if_neg (by decide), if_neg (by decide), if_neg (by decide), if_pos (by decide), if_pos w_nonneg, w_xor hf4 hL (e := 15 - (s + k)) (by omega), wrapS (by omega), show Nat.blt (s + k) 8 = false by rw [← Bool.not_eq_true]; exact fun c => h2 (Nat.le_of_ble_eq_true c), cond_false]
          exact found_3 fu l hs hp hf0 hf1 hf2 hf3 hf4 hf5 hf6 hf7 n (k + 1) H _ true hH (xor_lt hL (pow_lt (by omega))) (by omega) (by omega)
    · rw [if_neg (by omega), show 8 - k = 0 by omega, hl]
theorem found_4 (fu : Nat) (l : List (Int × Int)) {s p : Nat} (hs : s < 8) (hp : p < 256) {f0 f1 f2 f3 f4 f5 f6 f7 : Nat} (hf0 : f0 < 256) (hf1 : f1 < 256) (hf2 : f2 < 256) (hf3 : f3 < 256) (hf4 : f4 < 256) (hf5 : f5 < 256) (hf6 : f6 < 256) (hf7 : f7 < 256) : ∀ n k H L a, H < 256 → L < 256 → k ≤ 8 → 8 - k < n → l7_BusFound_L1 fu l ((32 + s : Nat) : Int) (p : Int) n (f0 : Int) (f1 : Int) (f2 : Int) (f3 : Int) ((f4 ^^^ H : Nat) : Int) ((f5 ^^^ L : Nat) : Int) (f6 : Int) (f7 : Int) a ((k : Nat) : Int) = some ((f0 : Int), (f1 : Int), (f2 : Int), (f3 : Int), ((f4 ^^^ (hl s p (8 - k) k H L a).1 : Nat) : Int), ((f5 ^^^ (hl s p (8 - k) k H L a).2.1 : Nat) : Int), (f6 : Int), (f7 : Int), (hl s p (8 - k) k H L a).2.2)
  | 0, k, H, L, a, _, _, _, h => by omega
  | n + 1, k, H, L, a, hH, hL, hk, h => by
    rw [l7_BusFound_L1]
    rcases Nat.lt_or_ge k 8 with h1 | h1
    · rw [if_pos (show ((k : Nat) : Int) < 8 by omega), w_add (by omega) (by omega), if_pos (show ((32 + s + k : Nat) : Int) < 64 by omega), if_pos (show (0 : Int) ≤ ((k : Nat) : Int) by omega), show 8 - k = (8 - (k + 1)) + 1 by omega, hl]
      cases hb : p.testBit k with
      | false =>
        rw [if_neg (w_bit_f hp h1 hb), wrapS (by omega), cond_false]
        exact found_4 fu l hs hp hf0 hf1 hf2 hf3 hf4 hf5 hf6 hf7 n (k + 1) H L a hH hL (by omega) (by omega)
      | true =>
        rw [if_pos (w_bit_t hp h1 hb), cond_true, w_div (by omega)]
        by_cases h2 : s + k < 8
        · rw [show (32 + s + k) / 8 = 4 by omega, if_neg (by decide), if_neg (by decide), if_neg (by decide), if_pos (by decide), if_pos w_nonneg, w_xor hf4 hH (e := 7 - (s + k)) (by omega), wrapS (by omega), show Nat.blt (s + k) 8 = true from Nat.ble_eq_true_of_le h2, cond_true]
          exact found_4 fu l hs hp hf0 hf1 hf2 hf3 hf4 hf5 hf6 hf7 n (k + 1) _ L true (xor_lt hH (pow_lt (by omega))) hL (by omega) (by omega)
        · rw [show (32 + s + k) / 8 = 5 by omega, if_neg (by decide), if_neg (by decide), if_pos (by decide), if_pos w_nonneg, w_xor hf5 hL (e := 15 - (s + k)) (by omega), wrapS (by omega), show Nat.blt (s + k) 8 = false by rw [← Bool.not_eq_true]; exact fun c => h2 (Nat.le_of_ble_eq_true c), cond_false]
          exact found_4 fu l hs hp hf0 hf1 hf2 hf3 hf4 hf5 hf6 hf7 n (k + 1) H _ true hH (xor_lt hL (pow_lt (by omega))) (by omega) (by omega)
    · rw [if_neg (by omega), show 8 - k = 0 by omega, hl]
theorem found_5 (fu : Nat) (l : List (Int × Int)) {s p : Nat} (hs : s < 8) (hp : p < 256) {f0 f1 f2 f3 f4 f5 f6 f7 : Nat} (hf0 : f0 < 256) (hf1 : f1 < 256) (hf2 : f2 < 256) (hf3 : f3 < 256) (hf4 : f4 < 256) (hf5 : f5 < 256) (hf6 : f6 < 256) (hf7 : f7 < 256) : ∀ n k H L a, H < 256 → L < 256 → k ≤ 8 → 8 - k < n → l7_BusFound_L1 fu l ((40 + s : Nat) : Int) (p : Int) n (f0 : Int) (f1 : Int) (f2 : Int) (f3 : Int) (f4 : Int) ((f5 ^^^ H : Nat) : Int) ((f6 ^^^ L : Nat) : Int) (f7 : Int) a ((k : Nat) : Int) = some ((f0 : Int), (f1 : Int), (f2 : Int), (f3 : Int), (f4 : Int), ((f5 ^^^ (hl s p (8 - k) k H L a).1 : Nat) : Int), ((f6 ^^^ (hl s p (8 - k) k H L a).2.1 : Nat) : Int), (f7 : Int), (hl s p (8 - k) k H L a).2.2)
  | 0, k, H, L, a, _, _, _, h => by omega
  | n + 1, k, H, L, a, hH, hL, hk, h => by
    rw [l7_BusFound_L1]
    rcases Nat.lt_or_ge k 8 with h1 | h1
    · rw [if_pos (show ((k : Nat) : Int) < 8 by omega), w_add (by omega) (by omega), if_pos (show ((40 + s + k : Nat) : Int) < 64 by omega), if_pos (show (0 : Int) ≤ ((k : Nat) : Int) by omega), show 8 - k = (8 - (k + 1)) + 1 by omega, hl]
      cases hb : p.testBit k with
      | false =>
        rw [if_neg (w_bit_f hp h1 hb), wrapS (by omega), cond_false]
        exact found_5 fu l hs hp hf0 hf1 hf2 hf3 hf4 hf5 hf6 hf7 n (k + 1) H L a hH hL (by omega) (by omega)
      | true =>
        rw [if_pos (w_bit_t hp h1 hb), cond_true, w_div (by omega)]
        by_cases h2 : s + k < 8
        · rw [show (40 + s + k) / 8 = 5 by omega, if_neg (by decide), if_neg (by decide), if_pos (by decide), if_pos w_nonneg, w_xor hf5 hH (e := 7 - (s + k)) (by omega), wrapS (by omega), show Nat.blt (s + k) 8 = true from Nat.ble_eq_true_of_le h2, cond_true]
          exact found_5 fu l hs hp hf0 hf1 hf2 hf3 hf4 hf5 hf6 hf7 n (k + 1) _ L true (xor_lt hH (pow_lt (by omega))) hL (by omega) (by omega)
        · rw [show (40 + s + k) / 8 = 6 by omega, if_neg (by decide), if_pos (by decide), if_pos w_nonneg, w_xor hf6 hL (e := 15 - (s + k)) (by omega), wrapS (by omega), show Nat.blt (s + k) 8 = false by rw [← Bool.not_eq_true]; exact fun c => h2 (Nat.le_of_ble_eq_true c), cond_false]
          exact found_5 fu l hs hp hf0 hf1 hf2 hf3 hf4 hf5 hf6 hf7 n (k + 1) H _ true hH (xor_lt hL (pow_lt (by omega))) (by omega) (by omega)
    · rw [if_neg (by omega), show 8 - k = 0 by omega, hl]
theorem found_6 (fu : Nat) (l : List (Int × Int)) {s p : Nat} (hs : s < 8) (hp : p < 256) {f0 f1 f2 f3 f4 f5 f6 f7 : Nat} (hf0 : f0 < 256) (hf1 : f1 < 256) (hf2 : f2 < 256) (hf3 : f3 < 256) (hf4 : f4 < 256) (hf5 : f5 < 256) (hf6 : f6 < 256) (hf7 : f7 < 256) : ∀ n k H L a, H < 256 → L < 256 → k ≤ 8 → 8 - k < n → l7_BusFound_L1 fu l ((48 + s : Nat) : Int) (p : Int) n (f0 : Int) (f1 : Int) (f2 : Int) (f3 : Int) (f4 : Int) (f5 : Int) ((f6 ^^^ H : Nat) : Int) ((f7 ^^^ L : Nat) : Int) a ((k : Nat) : Int) = some ((f0 : Int), (f1 : Int), (f2 : Int), (f3 : Int), (f4 : Int), (f5 : Int), ((f6 ^^^ (hl s p (8 - k) k H L a).1 : Nat) : Int), ((f7 ^^^ (hl s p (8 - k) k H L a).2.1 : Nat) : Int), (hl s p (8 - k) k H L a).2.2)
  | 0, k, H, L, a, _, _, _, h => by omega
  | n + 1, k, H, L, a, hH, hL, hk, h => by
    rw [l7_BusFound_L1]
    rcases Nat.lt_or_ge k 8 with h1 | h1
    · rw [if_pos (show ((k : Nat) : Int) < 8 by omega), w_add (by omega) (by omega), if_pos (show ((48 + s + k : Nat) : Int) < 64 by omega), if_pos (show (0 : Int) ≤ ((k : Nat) : Int) by omega), show 8 - k = (8 - (k + 1)) + 1 by omega, hl]
      cases hb : p.testBit k with
      | false =>
        rw [if_neg (w_bit_f hp h1 hb), wrapS (by omega), cond_false]
        exact found_6 fu l hs hp hf0 hf1 hf2 hf3 hf4 hf5 hf6 hf7 n (k + 1) H L a hH hL (by omega) (by omega)
      | true =>
        rw [if_pos (w_bit_t hp h1 hb), cond_true, w_div (by omega)]
        by_cases h2 : s + k < 8
        · rw [show (48 + s + k) / 8 = 6 by omega, if_neg (by decide), if_pos (by decide), if_pos w_nonneg, w_xor hf6 hH (e := 7 - (s + k)) (by omega), wrapS (by omega), show Nat.blt (s + k) 8 = true from Nat.ble_eq_true_of_le h2, cond_true]
          exact found_6 fu l hs hp hf0 hf1 hf2 hf3 hf4 hf5 hf6 hf7 n (k + 1) _ L true (xor_lt hH (pow_lt (by omega))) hL (by omega) (by omega)
        · rw [show (48 + s + k) / 8 = 7 by omega, if_pos (by decide), if_pos w_nonneg, w_xor hf7 hL (e := 15 - (s + k)) (by omega), wrapS (by omega), show Nat.blt (s + k) 8 = false by rw [← Bool.not_eq_true]; exact fun c => h2 (Nat.le_of_ble_eq_true c), cond_false]
          exact found_6 fu l hs hp hf0 hf1 hf2 hf3 hf4 hf5 hf6 hf7 n (k + 1) H _ true hH (xor_lt hL (pow_lt (by omega))) (by omega) (by omega)
    · rw [if_neg (by omega), show 8 - k = 0 by omega, hl]
theorem found_7 (fu : Nat) (l : List (Int × Int)) {s p : Nat} (hs : s < 8) (hp : p < 256) {f0 f1 f2 f3 f4 f5 f6 f7 : Nat} (hf0 : f0 < 256) (hf1 : f1 < 256) (hf2 : f2 < 256) (hf3 : f3 < 256) (hf4 : f4 < 256) (hf5 : f5 < 256) (hf6 : f6 < 256) (hf7 : f7 < 256) : ∀ n k H a, H < 256 → k ≤ 8 → 8 - k < n → l7_BusFound_L1 fu l ((56 + s : Nat) : Int) (p : Int) n (f0 : Int) (f1 : Int) (f2 : Int) (f3 : Int) (f4 : Int) (f5 : Int) (f6 : Int) ((f7 ^^^ H : Nat) : Int) a ((k : Nat) : Int) = some ((f0 : Int), (f1 : Int), (f2 : Int), (f3 : Int), (f4 : Int), (f5 : Int), (f6 : Int), ((f7 ^^^ (h7 s p (8 - k) k H a).1 : Nat) : Int), (h7 s p (8 - k) k H a).2)
  | 0, k, H, a, _, _, h => by omega
  | n + 1, k, H, a, hH, hk, h => by
    rw [l7_BusFound_L1]
    rcases Nat.lt_or_ge k 8 with h1 | h1
    · rw [if_pos (show ((k : Nat) : Int) < 8 by omega), w_add (by omega) (by omega), show 8 - k = (8 - (k + 1)) + 1 by omega, h7]
      by_cases h2 : s + k < 8
      · rw [if_pos (show ((56 + s + k : Nat) : Int) < 64 by omega), if_pos (show (0 : Int) ≤ ((k : Nat) : Int) by omega), show Nat.blt (s + k) 8 = true from Nat.ble_eq_true_of_le h2, cond_true]
        cases hb : p.testBit k with
        | false =>
          rw [if_neg (w_bit_f hp h1 hb), wrapS (by omega), cond_false]
          exact found_7 fu l hs hp hf0 hf1 hf2 hf3 hf4 hf5 hf6 hf7 n (k + 1) H a hH (by omega) (by omega)
        | true =>
          rw [if_pos (w_bit_t hp h1 hb), cond_true, w_div (by omega), show (56 + s + k) / 8 = 7 by omega, if_pos (by decide), if_pos w_nonneg, w_xor hf7 hH (e := 7 - (s + k)) (by omega), wrapS (by omega)]
          exact found_7 fu l hs hp hf0 hf1 hf2 hf3 hf4 hf5 hf6 hf7 n (k + 1) _ true (xor_lt hH (pow_lt (by omega))) (by omega) (by omega)
      · rw [if_neg (show ¬ ((56 + s + k : Nat) : Int) < 64 by omega), show Nat.blt (s + k) 8 = false by rw [← Bool.not_eq_true]; exact fun c => h2 (Nat.le_of_ble_eq_true c), cond_false]
    · rw [if_neg (by omega), show 8 - k = 0 by omega, h7]

/-! ### Remainders by a number -/
def md (a m : Int) : Int := if Int.tmod a m < 0 then IntKind.wrap .i64 (Int.tmod a m + m) else Int.tmod a m
theorem a_mod {a m : Int} (hm : m ≠ 0) : b_Mod a m = some (md a m) := by
  unfold b_Mod md
  rw [if_neg hm]
  split <;> rfl
theorem md_range {a m : Int} (h0 : 0 < m) (h1 : m < 1000) : 0 ≤ md a m ∧ md a m < m := by
  unfold md
  have a1 := Int.tmod_lt_of_pos a h0
  have a2 := Int.lt_tmod_of_pos a h0
  split
  · rw [wrapB (by omega) (by omega)]; omega
  · omega
def gA (e : Int × Int) : Nat := (md e.1 256).toNat
def gB (e : Int × Int) : Nat := (md e.2 256).toNat
theorem gA_ok (e : Int × Int) : md e.1 256 = (gA e : Int) ∧ gA e < 256 := by
  have := md_range (a := e.1) (show (0 : Int) < 256 by omega) (by omega)
  unfold gA; omega
theorem gB_ok (e : Int × Int) : md e.2 256 = (gB e : Int) ∧ gB e < 256 := by
  have := md_range (a := e.2) (show (0 : Int) < 256 by omega) (by omega)
  unfold gB; omega
theorem found_L2 (fu : Nat) (l : List (Int × Int)) (hl : l.length < 1000) : ∀ n i A B C, A.length < 1000 + i → B.length < 1000 + i → C.length < 1000 + i → i ≤ l.length → l.length - i < n → l7_BusFound_L2 fu l n A B C ((i : Nat) : Int) = some (A ++ (l.drop i).map (fun e => (gA e : Int)), B ++ (l.drop i).map (fun e => (gB e : Int)), C ++ (l.drop i).map (fun e => ((gA e ^^^ gB e : Nat) : Int)))
  | 0, i, A, B, C, _, _, _, _, h => by omega
  | n + 1, i, A, B, C, hA, hB, hC, hi, h => by
    rw [l7_BusFound_L2]
    rcases Nat.lt_or_ge i l.length with h1 | h1
    · obtain ⟨a1, a2, a3⟩ := idx (List.getElem?_eq_getElem h1)
      obtain ⟨x1, x2⟩ := gA_ok l[i]
      obtain ⟨y1, y2⟩ := gB_ok l[i]
      rw [if_pos a1, if_pos a2, a3, Option.bind_some, a_mod (by decide), Option.bind_some, a_mod (by decide), Option.bind_some, if_pos (by omega), if_pos (by omega), if_pos (by omega), wrapS (by omega), x1, y1, bit_xor (by omega) (by omega), found_L2 fu l hl n (i + 1) _ _ _ (by simp; omega) (by simp; omega) (by simp; omega) (by omega) (by omega), List.drop_eq_getElem_cons h1]
      simp only [List.append_assoc, List.map_cons, List.singleton_append]
    · rw [if_neg (by omega), List.drop_of_length_le h1]
      simp
end Go.Proofs.Ytefkmidmjofdcaa
