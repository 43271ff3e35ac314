/-
  Walks of the statements across chapters: the examples of chapter 1.
-/
import Derived.Test.YtghglgaimhfedaaQK
import Derived.Test.YtghglgaimhfedaaZOc
namespace Go.Proofs.Ytghglgaimhfedaa
open Go.RowKit Go.Shelf

theorem ex_enough : enoughFor exLine exBox = (28, 0) := by kernel_rfl
theorem ex_HE : ∀ v u w, Sl e3 3 w v exLine.ks → Sl e2 2 w u exBox → Calls Try.prog 60 #[.agg #[.int .i64 0, .int .i64 100, v], u] w fun e w' => e = .returned (.tuple #[.int .i64 28, .int .i64 0]) ∧ Below w.heap.size w w' := by
  intro v u w h1 h2
  have := EnoughFor_any v u exLine exBox w h1 h2 (by decide) (by decide)
  rw [ex_enough] at this
  exact this
set_option maxRecDepth 100000 in
set_option maxHeartbeats 400000 in
theorem shown_any (w : World) : Calls Try.prog 83 #[] w fun e w' => e = .returned (.bool true) ∧ Below w.heap.size w w' := by
  have HT := Lib.hid ex_HT
  have HE := Lib.hid ex_HE
  have HF := Lib.hid ex_HF
  have T1 : Hid True := trivial
  go_enter Try.func83, Try.ntmps83
  go_wp2_with (first
    | (go_at_call 84; clear T1; refine (Line_any _).mono ?_; rintro e w1 ⟨v1, rfl, s1, b1⟩)
    | (go_at_call 85; refine (Currents_any _).mono ?_; rintro e w2 ⟨v2, rfl, s2, b2⟩)
    | (go_at_call 28; refine (HT.out _ _ _ (s1.below b2) s2).mono ?_; rintro e w3 ⟨r3, rfl, o3, b3⟩; have H3 := Lib.hid (And.intro (o3.sl e2_len) (below_tr (below_tr b1 b2) b3)); clear o3 b1 b2 b3 s1 s2)
    | (go_at_call 84; refine (Line_any _).mono ?_; rintro e w4 ⟨v4, rfl, s4, b4⟩)
    | (go_at_call 86; refine (Box_any _).mono ?_; rintro e w5 ⟨v5, rfl, s5, b5⟩)
    | (go_at_call 60; refine (HE.out _ _ _ (s4.below b5) s5).mono ?_; rintro e w6 ⟨rfl, b6⟩; have H6 := Lib.hid (below_tr (below_tr b4 b5) b6); clear b4 b5 b6 s4 s5)
    | (go_at_call 37; refine (HF.out _ _ _ ((H3.out.1.below H6.out).alloc _) (slForces w6 _)).mono ?_; rintro e w7 ⟨rfl, b7⟩; have H7 := Lib.hid (below_tr (below_al (below_tr H3.out.2 H6.out) _) b7); clear b7))
  go_ret
  exact ⟨rfl, H7.out⟩
end Go.Proofs.Ytghglgaimhfedaa
