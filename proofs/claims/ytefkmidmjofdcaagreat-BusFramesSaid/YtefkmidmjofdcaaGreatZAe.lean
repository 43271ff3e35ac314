/-
  Frames of a bus: the reference's frames and messages.
-/
import Derived.Test.YtefkmidmjofdcaaGreatZAb
set_option linter.all false
namespace Go.Proofs.YtefkmidmjofdcaaGreat
open Go Go.RowKit

theorem a_ref1 (fu : Nat) (p0 : List Int) (p2 : Int) : ∀ n k v, k ≤ 8 → 8 - k < n → r7_Remainder_L1 fu p0 p2 n v ((k : Nat) : Int) = some (it (8 - k) v)
  | 0, k, v, _, h => by omega
  | n + 1, k, v, hk, h => by
    rw [r7_Remainder_L1]
    rcases Nat.lt_or_ge k 8 with h1 | h1
    · rw [if_pos (by omega), wrapS (by omega), a_ref1 fu p0 p2 n (k + 1) _ (by omega) (by omega), a_ref1 fu p0 p2 n (k + 1) _ (by omega) (by omega), show 8 - k = (8 - (k + 1)) + 1 by omega, it, stp, Int.mul_comm 2 v]
      split <;> rfl
    · rw [if_neg (by omega), show 8 - k = 0 by omega]; rfl
theorem a_ref2 (fu : Nat) (hf : 100 ≤ fu) (l : List Int) (hl : l.length < 1000) : ∀ n i v, i ≤ l.length → l.length - i < n → r7_Remainder_L2 fu l n v ((i : Nat) : Int) = some (rm (l.drop i) v)
  | 0, i, v, _, h => by omega
  | n + 1, i, v, hi, h => by
    rw [r7_Remainder_L2]
    rcases Nat.lt_or_ge i l.length with h1 | h1
    · obtain ⟨a1, a2, a3⟩ := idx (List.getElem?_eq_getElem h1)
      have e := a_ref1 fu l ((i : Nat) : Int) fu 0 (Cm.bitE .xor .i64 v l[i]) (by omega) (by omega)
      rw [show ((0 : Nat) : Int) = 0 from rfl] at e
      rw [if_pos a1, if_pos a2, a3, Option.bind_some, e, Option.bind_some, wrapS (by omega), a_ref2 fu hf l hl n (i + 1) _ (by omega) (by omega), List.drop_eq_getElem_cons h1, rm]
    · rw [if_neg (by omega), List.drop_of_length_le h1, rm]
theorem a_refRem (fu : Nat) (hf : 1000 ≤ fu) (l : List Int) (hl : l.length < 1000) : r7_Remainder fu l = some (rm l 0) := by
  unfold r7_Remainder
  have e := a_ref2 fu (by omega) l hl fu 0 0 (by omega) (by omega)
  rw [show ((0 : Nat) : Int) = 0 from rfl, List.drop_zero] at e
  rw [e]; rfl
theorem a_ref3 (fu : Nat) (p0 : List Int) (p1 p3 : Int) : ∀ n k v, k ≤ 8 → 8 - k < n → r7_Remainder_2_L1 fu p0 p1 p3 n v ((k : Nat) : Int) = some (p1, it (8 - k) v)
  | 0, k, v, _, h => by omega
  | n + 1, k, v, hk, h => by
    rw [r7_Remainder_2_L1]
    rcases Nat.lt_or_ge k 8 with h1 | h1
    · rw [if_pos (by omega), wrapS (by omega), a_ref3 fu p0 p1 p3 n (k + 1) _ (by omega) (by omega), a_ref3 fu p0 p1 p3 n (k + 1) _ (by omega) (by omega), show 8 - k = (8 - (k + 1)) + 1 by omega, it, stp, Int.mul_comm 2 v]
      split <;> rfl
    · rw [if_neg (by omega), show 8 - k = 0 by omega]; rfl
theorem a_ref4 (fu : Nat) (hf : 100 ≤ fu) (l : List Int) (hl : l.length < 1000) (m : Nat) (hm : m ≤ l.length) : ∀ n i v, i ≤ m → m - i < n → r7_Remainder_2_L2 fu l (m : Int) n v ((i : Nat) : Int) = some (rm ((l.drop i).take (m - i)) v)
  | 0, i, v, _, h => by omega
  | n + 1, i, v, hi, h => by
    rw [r7_Remainder_2_L2]
    rcases Nat.lt_or_ge i m with h1 | h1
    · have h2 : i < l.length := by omega
      obtain ⟨a1, a2, a3⟩ := idx (List.getElem?_eq_getElem h2)
      have e := a_ref3 fu l (m : Int) ((i : Nat) : Int) fu 0 (Cm.bitE .xor .i64 v l[i]) (by omega) (by omega)
      rw [show ((0 : Nat) : Int) = 0 from rfl] at e
      rw [if_pos (by omega), if_pos a2, a3, Option.bind_some, e, Option.bind_some]
      simp only
      rw [wrapS (by omega), a_ref4 fu hf l hl m hm n (i + 1) _ (by omega) (by omega), List.drop_eq_getElem_cons h2, show m - i = (m - (i + 1)) + 1 by omega, List.take_succ_cons, rm]
    · rw [if_neg (by omega), show m - i = 0 by omega, List.take_zero, rm]
theorem a_refTo (fu : Nat) (hf : 1000 ≤ fu) (a b c d e f g h : Int) : r7_Remainder_2 fu ([a, b, c, d, e, f, g, h] : List Int) 7 = some (rm [a, b, c, d, e, f, g] 0) := by
  unfold r7_Remainder_2
  have q := a_ref4 fu (by omega) [a, b, c, d, e, f, g, h] (by simp) 7 (by simp) fu 0 0 (by omega) (by omega)
  rw [show ((0 : Nat) : Int) = 0 from rfl, show ((7 : Nat) : Int) = 7 from rfl] at q
  rw [q]; rfl
theorem a_bytesL (fu : Nat) (l : List Int) (hl : l.length < 1000) : ∀ n i, i ≤ l.length → l.length - i < n → r7_BytesErr_L1 fu l n ((i : Nat) : Int) = some (if (l.drop i).all isB then .inr () else .inl ())
  | 0, i, _, h => by omega
  | n + 1, i, hi, h => by
    rw [r7_BytesErr_L1]
    rcases Nat.lt_or_ge i l.length with h1 | h1
    · obtain ⟨a1, a2, a3⟩ := idx (List.getElem?_eq_getElem h1)
      rw [if_pos a1, if_pos a2, a3, Option.bind_some, a_isByte, Option.bind_some, List.drop_eq_getElem_cons h1, List.all_cons]
      cases isB l[i] with
      | false => rfl
      | true => rw [if_pos rfl, wrapS (by omega), a_bytesL fu l hl n (i + 1) (by omega) (by omega), Bool.true_and]
    · rw [if_neg (by omega), List.drop_of_length_le h1]; rfl
theorem a_bytesErr (fu : Nat) (hf : 1000 ≤ fu) (l : List Int) (hl : l.length < 1000) : r7_BytesErr fu l = some (ermE l) := by
  unfold r7_BytesErr ermE
  by_cases h : (60 : Int) < (l.length : Int)
  · rw [if_pos h, if_pos h]
  · rw [if_neg h, if_neg h]
    have e := a_bytesL fu l hl fu 0 (by omega) (by omega)
    rw [show ((0 : Nat) : Int) = 0 from rfl, List.drop_zero] at e
    rw [e, Option.bind_some]
    unfold byE
    cases l.all isB <;> rfl
theorem a_frameL (fu : Nat) (s n k a b c d : Int) (m : Nat) (hm : 10 ≤ m) : r7_Frame_L1 fu s n k a b c d m 0 0 0 0 0 = some (a, b, c, d) := by
  obtain ⟨m, rfl⟩ : ∃ q, m = q + 5 := ⟨m - 5, by omega⟩
  have w0 : IntKind.wrap .i64 ((0 : Int) + 1) = 1 := by decide +kernel
  have w1 : IntKind.wrap .i64 ((1 : Int) + 1) = 2 := by decide +kernel
  have w2 : IntKind.wrap .i64 ((2 : Int) + 1) = 3 := by decide +kernel
  have w3 : IntKind.wrap .i64 ((3 : Int) + 1) = 4 := by decide +kernel
  rw [r7_Frame_L1, if_pos (by decide), if_neg (by decide), if_neg (by decide), if_neg (by decide), if_pos (by decide), w0]
  rw [r7_Frame_L1, if_pos (by decide), if_neg (by decide), if_neg (by decide), if_pos (by decide), w1]
  rw [r7_Frame_L1, if_pos (by decide), if_neg (by decide), if_pos (by decide), w2]
  rw [r7_Frame_L1, if_pos (by decide), if_pos (by decide), w3]
  rw [r7_Frame_L1, if_neg (by decide)]
theorem a_frame (fu : Nat) (hf : 1000 ≤ fu) (s n k a b c d : Int) : r7_Frame fu s n k a b c d = some (s, n, k, a, b, c, d, rm [s, n, k, a, b, c, d] 0) := by
  unfold r7_Frame
  rw [a_frameL fu _ _ _ _ _ _ _ fu (by omega), Option.bind_some]
  simp only
  rw [a_refTo fu hf]; rfl
theorem a_messageL (fu : Nat) (p0 p1 p2 p3 p4 p5 p6 p7 : Int) (m : Nat) (hm : 12 ≤ m) : r7_Message_L1 fu p0 p1 p2 p3 p4 p5 p6 p7 m 0 = some (if [p0, p1, p2, p3, p4, p5, p6, p7].all isB then .inr () else .inl ()) := by
  obtain ⟨m, rfl⟩ : ∃ q, m = q + 9 := ⟨m - 9, by omega⟩
  have w0 : IntKind.wrap .i64 ((0 : Int) + 1) = 1 := by decide +kernel
  have w1 : IntKind.wrap .i64 ((1 : Int) + 1) = 2 := by decide +kernel
  have w2 : IntKind.wrap .i64 ((2 : Int) + 1) = 3 := by decide +kernel
  have w3 : IntKind.wrap .i64 ((3 : Int) + 1) = 4 := by decide +kernel
  have w4 : IntKind.wrap .i64 ((4 : Int) + 1) = 5 := by decide +kernel
  have w5 : IntKind.wrap .i64 ((5 : Int) + 1) = 6 := by decide +kernel
  have w6 : IntKind.wrap .i64 ((6 : Int) + 1) = 7 := by decide +kernel
  have w7 : IntKind.wrap .i64 ((7 : Int) + 1) = 8 := by decide +kernel
  rw [r7_Message_L1, if_pos (by decide), if_neg (by decide), if_neg (by decide), if_neg (by decide), if_neg (by decide), if_neg (by decide), if_neg (by decide), if_neg (by decide), if_pos (by decide), a_isByte, Option.bind_some, List.all_cons]
  cases isB p0 with
  | false => rfl
  | true =>
    rw [if_pos rfl, w0, r7_Message_L1, if_pos (by decide), if_neg (by decide), if_neg (by decide), if_neg (by decide), if_neg (by decide), if_neg (by decide), if_neg (by decide), if_pos (by decide), a_isByte, Option.bind_some, List.all_cons]
    cases isB p1 with
    | false => rfl
    | true =>
      rw [if_pos rfl, w1, r7_Message_L1, if_pos (by decide), if_neg (by decide), if_neg (by decide), if_neg (by decide), if_neg (by decide), if_neg (by decide), if_pos (by decide), a_isByte, Option.bind_some, List.all_cons]
      cases isB p2 with
      | false => rfl
      | true =>
        rw [if_pos rfl, w2, r7_Message_L1, if_pos (by decide), if_neg (by decide), if_neg (by decide), if_neg (by decide), if_neg (by decide), if_pos (by decide), a_isByte, Option.bind_some, List.all_cons]
        cases isB p3 with
        | false => rfl
        | true =>
          rw [if_pos rfl, w3, r7_Message_L1, if_pos (by decide), if_neg (by decide), if_neg (by decide), if_neg (by decide), if_pos (by decide), a_isByte, Option.bind_some, List.all_cons]
          cases isB p4 with
          | false => rfl
          | true =>
            rw [if_pos rfl, w4, r7_Message_L1, if_pos (by decide), if_neg (by decide), if_neg (by decide), if_pos (by decide), a_isByte, Option.bind_some, List.all_cons]
            cases isB p5 with
            | false => rfl
            | true =>
              rw [if_pos rfl, w5, r7_Message_L1, if_pos (by decide), if_neg (by decide), if_pos (by decide), a_isByte, Option.bind_some, List.all_cons]
              cases isB p6 with
              | false => rfl
              | true =>
                rw [if_pos rfl, w6, r7_Message_L1, if_pos (by decide), if_pos (by decide), a_isByte, Option.bind_some, List.all_cons]
                cases isB p7 with
                | false => rfl
                | true =>
                  rw [if_pos rfl, w7, r7_Message_L1, if_neg (by decide)]; rfl
theorem a_message (fu : Nat) (hf : 1000 ≤ fu) (s n k a b c d h : Int) : r7_Message fu s n k a b c d h = some (dcd [s, n, k, a, b, c, d, h] s n k a b c d h) := by
  unfold r7_Message dcd dcE byE
  rw [a_messageL fu _ _ _ _ _ _ _ _ fu (by omega), Option.bind_some]
  cases h0 : [s, n, k, a, b, c, d, h].all isB with
  | false => rfl
  | true =>
    simp only [if_true]
    rw [a_refTo fu hf, Option.bind_some]
    by_cases h1 : h = rm [s, n, k, a, b, c, d] 0
    · rw [if_pos h1, if_pos h1, a_msgErr fu (by omega), Option.bind_some]
      by_cases h2 : msgE s n k [a, b, c, d] = 0
      · rw [if_pos h2, if_pos h2]
      · rw [if_neg h2, if_neg h2]
    · rw [if_neg h1, if_neg h1]; rfl
end Go.Proofs.YtefkmidmjofdcaaGreat
