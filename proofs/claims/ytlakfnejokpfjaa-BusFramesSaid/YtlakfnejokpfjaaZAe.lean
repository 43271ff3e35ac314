/-
  Frames of a bus: the reference's frames and messages.
-/
import Derived.Test.YtlakfnejokpfjaaZAb
set_option linter.all false
namespace Go.Proofs.Ytlakfnejokpfjaa
open Go Go.RowKit

theorem a_frameL (fu : Nat) (s n k a b c d : Int) (m : Nat) (hm : 10 ≤ m) : r7_Frame_L1 fu s n k a b c d m 0 0 0 0 0 = some (a, b, c, d) := by
  obtain ⟨m, rfl⟩ : ∃ q, m = q + 5 := ⟨m - 5, by omega⟩
  have w0 : IntKind.wrap .i64 ((0 : Int) + 1) = 1 := by decide +kernel
  have w1 : IntKind.wrap .i64 ((1 : Int) + 1) = 2 := by decide +kernel
  have w2 : IntKind.wrap .i64 ((2 : Int) + 1) = 3 := by decide +kernel
  have w3 : IntKind.wrap .i64 ((3 : Int) + 1) = 4 := by decide +kernel
  rw [r7_Frame_L1, if_pos (by decide), if_neg (by decide), if_neg (by decide), if_neg (by decide), if_pos (by decide), w0]
  rw [r7_Frame_L1, if_pos (by decide), if_neg (by decide), if_neg (by decide), if_pos (by decide), w1]
  rw [r7_Frame_L1, if_pos (by decide), if_neg (by decide), if_pos (by decide), w2]
  rw [r7_Frame_L1, if_pos (by decide), if_pos (by decide), w3]
  rw [r7_Frame_L1, if_neg (by decide)]
theorem a_frame (fu : Nat) (hf : 1000 ≤ fu) (s n k a b c d : Int) : r7_Frame fu s n k a b c d = some (s, n, k, a, b, c, d, rm [s, n, k, a, b, c, d] 0) := by
  unfold r7_Frame
  rw [a_frameL fu _ _ _ _ _ _ _ fu (by omega), Option.bind_some]
  simp only
  rw [a_refTo fu hf]; rfl
theorem a_messageL (fu : Nat) (p0 p1 p2 p3 p4 p5 p6 p7 : Int) (m : Nat) (hm : 12 ≤ m) : r7_Message_L1 fu p0 p1 p2 p3 p4 p5 p6 p7 m 0 = some (if [p0, p1, p2, p3, p4, p5, p6, p7].all isB then .inr () else .inl ()) := by
  obtain ⟨m, rfl⟩ : ∃ q, m = q + 9 := ⟨m - 9, by omega⟩
  have w0 : IntKind.wrap .i64 ((0 : Int) + 1) = 1 := by decide +kernel
  have w1 : IntKind.wrap .i64 ((1 : Int) + 1) = 2 := by decide +kernel
  have w2 : IntKind.wrap .i64 ((2 : Int) + 1) = 3 := by decide +kernel
  have w3 : IntKind.wrap .i64 ((3 : Int) + 1) = 4 := by decide +kernel
  have w4 : IntKind.wrap .i64 ((4 : Int) + 1) = 5 := by decide +kernel
  have w5 : IntKind.wrap .i64 ((5 : Int) + 1) = 6 := by decide +kernel
  have w6 : IntKind.wrap .i64 ((6 : Int) + 1) = 7 := by decide +kernel
  have w7 : IntKind.wrap .i64 ((7 : Int) + 1) = 8 := by decide +kernel
  rw [r7_Message_L1, if_pos (by decide), if_neg (by decide), if_neg (by decide), if_neg (by decide), if_neg (by decide), if_neg (by decide), if_neg (by decide), if_neg (by decide), if_pos (by decide), a_isByte, Option.bind_some, List.all_cons]
  cases isB p0 with
  | false => rfl
  | true =>
    rw [if_pos rfl, w0, r7_Message_L1, if_pos (by decide), if_neg (by decide), if_neg (by decide), if_neg (by decide), if_neg (by decide), if_neg (by decide), if_neg (by decide), if_pos (by decide), a_isByte, Option.bind_some, List.all_cons]
    cases isB p1 with
    | false => rfl
    | true =>
      rw [if_pos rfl, w1, r7_Message_L1, if_pos (by decide), if_neg (by decide), if_neg (by decide), if_neg (by decide), if_neg (by decide), if_neg (by decide), if_pos (by decide), a_isByte, Option.bind_some, List.all_cons]
      cases isB p2 with
      | false => rfl
      | true =>
        rw [if_pos rfl, w2, r7_Message_L1, if_pos (by decide), if_neg (by decide), if_neg (by decide), if_neg (by decide), if_neg (by decide), if_pos (by decide), a_isByte, Option.bind_some, List.all_cons]
        cases isB p3 with
        | false => rfl
        | true =>
          rw [if_pos rfl, w3, r7_Message_L1, if_pos (by decide), if_neg (by decide), if_neg (by decide), if_neg (by decide), if_pos (by decide), a_isByte, Option.bind_some, List.all_cons]
          cases isB p4 with
          | false => rfl
          | true =>
            rw [if_pos rfl, w4, r7_Message_L1, if_pos (by decide), if_neg (by decide), if_neg (by decide), if_pos (by decide), a_isByte, Option.bind_some, List.all_cons]
            cases isB p5 with
            | false => rfl
            | true =>
              rw [if_pos rfl, w5, r7_Message_L1, if_pos (by decide), if_neg (by decide), if_pos (by decide), a_isByte, Option.bind_some, List.all_cons]
              cases isB p6 with
              | false => rfl
              | true =>
                rw [if_pos rfl, w6, r7_Message_L1, if_pos (by decide), if_pos (by decide), a_isByte, Option.bind_some, List.all_cons]
                cases isB p7 with
                | false => rfl
                | true =>
                  rw [if_pos rfl, w7, r7_Message_L1, if_neg (by decide)]; rfl
theorem a_message (fu : Nat) (hf : 1000 ≤ fu) (s n k a b c d h : Int) : r7_Message fu s n k a b c d h = some (dcd [s, n, k, a, b, c, d, h] s n k a b c d h) := by
  unfold r7_Message dcd dcE byE
  rw [a_messageL fu _ _ _ _ _ _ _ _ fu (by omega), Option.bind_some]
  cases h0 : [s, n, k, a, b, c, d, h].all isB with
  | false => rfl
  | true =>
    simp only [if_true]
    rw [a_refTo fu hf, Option.bind_some]
    by_cases h1 : h = rm [s, n, k, a, b, c, d] 0
    · rw [if_pos h1, if_pos h1, a_msgErr fu (by omega), Option.bind_some]
      by_cases h2 : msgE s n k [a, b, c, d] = 0
      · rw [if_pos h2, if_pos h2]
      · rw [if_neg h2, if_neg h2]
    · rw [if_neg h1, if_neg h1]; rfl
end Go.Proofs.Ytlakfnejokpfjaa
