/-
  The law of loops, as a Lean function, is true: all of it.
-/
import Derived.Test.YtpkjkekdfpdelaaZIe
import Derived.Test.YtpkjkekdfpdelaaZJz
set_option linter.all false
namespace Go.Proofs.Ytpkjkekdfpdelaa
open Go Go.RowKit

theorem l2_WinchLoops_true (T : List Int) (lo hi tu sl e c h : Int) (l : List Int) : ∃ fu, l2_WinchLoops fu T lo hi tu sl e c h l = some true := by
  refine ⟨1000, ?_⟩
  generalize hfu : 1000 = fu
  have hf : 100 ≤ fu := by omega
  clear hfu
  unfold l2_WinchLoops l2_awake
  rw [Option.bind_some, if_pos rfl]
  unfold l2_few
  by_cases hT : (T.length : Int) ≤ 13
  · rw [if_pos hT, Option.bind_some, if_pos rfl]
    by_cases h62 : (62 : Int) < (l.length : Int)
    · rw [if_pos h62]
    · rw [if_neg h62]
      have hT' : T.length ≤ 13 := by omega
      have copy : r2_CopyLoop T lo hi tu sl = some (T, lo, hi, tu, sl) := by unfold r2_CopyLoop b_CopyInts; rw [if_pos (by omega)]; rfl
      have cl : b_CopyInts l = some l := by unfold b_CopyInts; rw [if_pos (by omega)]
      have wL := wLoop_eq fu hf T lo hi tu sl hT'
      have rL := rLoop_eq fu hf T lo hi tu sl hT'
      obtain ⟨m, hm, hm0⟩ := wBound_any T lo hi tu sl hT'
      have wS := wState_eq fu hf T lo hi tu sl e c h m hm hm0
      have rS := rState_eq T lo hi tu sl e c h hT'
      have first : ∀ a b : Int, u_FirstError fu [a, b] = some (if a = 0 then b else a) := fun a b => by
        rw [firstE_eq fu _ (by simp; omega) (by simp)]
        unfold firstE
        by_cases ha : a = 0
        · rw [if_pos ha, if_pos ha]; unfold firstE firstE; by_cases hb : b = 0 <;> simp [hb]
        · rw [if_neg ha, if_neg ha]
      have split0 : ∀ (f : Int → Option Bool), (∀ x, f x = some true) → (if (0 : Int) < (l.length : Int) then (if (0 : Int) < (l.length : Int) then Option.bind (l[0 + ((0 : Int)).toNat]?) f else none) else f 0) = some true := fun f hfx => by
        by_cases h0 : (0 : Int) < (l.length : Int)
        · rw [if_pos h0, if_pos h0]
          have hx : l[0 + ((0 : Int)).toNat]? = some l[0] := List.getElem?_eq_getElem (by omega)
          rw [hx]; exact hfx _
        · rw [if_neg h0]; exact hfx 0
      refine split0 (fun x => _) fun x => ?_
      simp only [copy, cl, Option.bind_some, wL, rL]
      by_cases hE : (loopE T lo hi tu sl).2 = 0
      · have H : Lp T lo hi tu sl (B2 T) := loopE_ok hE
        have hE2 : loopE T lo hi tu sl = (0, 0) := by
          unfold loopE at hE ⊢
          split at hE
          · cases hE
          · rename_i h2
            rw [if_neg h2]
            split at hE
            · cases hE
            · rename_i h11
              rw [if_neg h11]
              split at hE
              · cases hE
              · split at hE
                · rename_i hr
                  rw [if_pos hr]
                  split at hE
                  · rename_i h0; rw [if_pos h0]
                  · cases hE
                · cases hE
        have hmB : m = B2 T := by
          have := wBound_eq T lo hi tu sl hT' _ H.len
          rw [hm] at this; injection this
        subst hmB
        have nx : w_NextIn fu T lo hi tu sl e c h x = some (if okS (B2 T) lo hi e c h then stepE T (B2 T) lo hi tu sl e c h x else (0, 0, 0, 2)) := by
          unfold w_NextIn w_loopError
          rw [wL, Option.bind_some, Option.bind_some, wS, Option.bind_some, first, Option.bind_some, hE2, if_pos rfl]
          by_cases hs : okS (B2 T) lo hi e c h
          · rw [if_pos hs, if_pos rfl, wStep_eq H hs, Option.bind_some, if_pos hs]
          · rw [if_neg hs, if_neg (by omega), if_neg hs]
        rw [nx, hE2, Option.bind_some]
        by_cases h60 : (60 : Int) < (l.length : Int)
        · have ru : w_RunOf fu T lo hi tu sl l = some ([], 8) := by
            unfold w_RunOf w_loopError
            rw [wL, Option.bind_some, Option.bind_some, hE2, if_pos rfl, if_pos h60]
          rw [ru, rS]
          by_cases hs : okS (B2 T) lo hi e c h
          · simp [hs, h60, rStep_eq H hs]
          · simp [hs, h60]
        · obtain ⟨p, p1, p2, p3⟩ := runs_eq H fu hf l (by omega) hE2 hT'
          have p4 := same_eq fu hf p.1 p3
          rw [p1, rS]
          by_cases hs : okS (B2 T) lo hi e c h
          · simp [hs, h60, rStep_eq H hs, p2, p4]
          · simp [hs, h60, p2, p4]
      · have nx : w_NextIn fu T lo hi tu sl e c h x = some (0, 0, 0, (loopE T lo hi tu sl).2) := by
          unfold w_NextIn w_loopError
          rw [wL, Option.bind_some, Option.bind_some, wS, Option.bind_some, first, Option.bind_some, if_neg hE, if_neg hE]
        have ru : w_RunOf fu T lo hi tu sl l = some ([], (loopE T lo hi tu sl).2) := by
          unfold w_RunOf w_loopError
          rw [wL, Option.bind_some, Option.bind_some, if_neg hE]
        rw [nx, ru]
        simp [hE]
  · rw [if_neg hT, Option.bind_some]
    simp
end Go.Proofs.Ytpkjkekdfpdelaa
