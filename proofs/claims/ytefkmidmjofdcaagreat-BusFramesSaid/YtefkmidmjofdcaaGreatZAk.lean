/-
  The law of frames, as a Lean function, is true.
-/
import Derived.Test.YtefkmidmjofdcaaGreatZAe
import Derived.Test.YtefkmidmjofdcaaGreatZAc
set_option linter.all false
namespace Go.Proofs.YtefkmidmjofdcaaGreat
open Go Go.RowKit
set_option maxRecDepth 100000
set_option maxHeartbeats 4000000

theorem frames_rest (fu : Nat) (hf : 1000 ≤ fu) (l : List Int) (hl : l.length ≤ 62) (g0 g1 g2 g3 g4 g5 g6 g7 : Int) (r6 : Int × Int) (h6 : r6 = if ermE l = 0 then (rm l 0, 0) else (0, ermE l)) (r8 : Int × Int × Int × Int × Int × Int × Int × Int) (h8 : r8 = dcd [g0, g1, g2, g3, g4, g5, g6, g7] g0 g1 g2 g3 g4 g5 g6 g7) : (Option.bind (r7_Message fu g0 g1 g2 g3 g4 g5 g6 g7) fun r23 => if r8.2.2.2.2.2.2.2 = r23.2.2.2.2.2.2.2 then (if r8.1 = r23.1 then (if r8.2.1 = r23.2.1 then (if r8.2.2.1 = r23.2.2.1 then (if r8.2.2.2.1 = r23.2.2.2.1 then (if r8.2.2.2.2.1 = r23.2.2.2.2.1 then (if r8.2.2.2.2.2.1 = r23.2.2.2.2.2.1 then (if r8.2.2.2.2.2.2.1 = r23.2.2.2.2.2.2.1 then (Option.bind (r7_BytesErr fu l) fun r32 => if r32 = (0 : Int) then (if r6.2 = (0 : Int) then (Option.bind (r7_Remainder fu l) fun r35 => if r6.1 = r35 then (some true) else (some false)) else (some false)) else (if r6.2 = r32 then (if r6.1 = (0 : Int) then (some true) else (some false)) else (some false))) else (some false)) else (some false)) else (some false)) else (some false)) else (some false)) else (some false)) else (some false)) else (some false)) = some true := by
  rw [a_message fu hf, ← h8, Option.bind_some, if_pos rfl, if_pos rfl, if_pos rfl, if_pos rfl, if_pos rfl, if_pos rfl, if_pos rfl, if_pos rfl, a_bytesErr fu hf l (by omega), Option.bind_some]
  by_cases h0 : ermE l = 0
  · rw [if_pos h0] at h6
    subst h6
    rw [if_pos h0, if_pos rfl, a_refRem fu hf l (by omega), Option.bind_some, if_pos rfl]
  · rw [if_neg h0] at h6
    subst h6
    rw [if_neg h0, if_pos rfl, if_pos rfl]
theorem l7_BusFrames_true (s n k a b c d : Int) (l : List Int) (g0 g1 g2 g3 g4 g5 g6 g7 : Int) : ∃ fu, l7_BusFrames fu s n k a b c d l g0 g1 g2 g3 g4 g5 g6 g7 = some true := by
  refine ⟨2000, ?_⟩
  generalize hfu : 2000 = fu
  have hf : 1500 ≤ fu := by omega
  clear hfu
  unfold l7_BusFrames l7_awake
  rw [Option.bind_some, if_pos rfl]
  by_cases h62 : (62 : Int) < (l.length : Int)
  · rw [if_pos h62]
  · rw [if_neg h62]
    have hl : l.length ≤ 62 := by omega
    have hf1 : 1000 ≤ fu := by omega
    have cl : b_CopyInts l = some l := by unfold b_CopyInts; rw [if_pos (by omega)]
    rw [a_check fu (by omega), Option.bind_some, cl, Option.bind_some, a_remOf fu (by omega) l (by omega), Option.bind_some, a_encoded fu (by omega), Option.bind_some, a_decoded fu (by omega), Option.bind_some, a_msgErr fu (by omega), Option.bind_some, if_pos rfl]
    generalize h6 : (if ermE l = 0 then (rm l 0, (0 : Int)) else (0, ermE l)) = r6
    generalize h8 : dcd [g0, g1, g2, g3, g4, g5, g6, g7] g0 g1 g2 g3 g4 g5 g6 g7 = r8
    have rest := frames_rest fu hf1 l hl g0 g1 g2 g3 g4 g5 g6 g7 r6 h6.symm r8 h8.symm
    by_cases hm : msgE s n k [a, b, c, d] = 0
    · simp only [if_pos hm, hm, a_frame fu hf1, Option.bind_some, if_true]
      exact rest
    · simp only [if_neg hm, if_true]
      exact rest
end Go.Proofs.YtefkmidmjofdcaaGreat
