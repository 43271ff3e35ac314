/-
  The statement TopCableUnwound where it says nothing.
-/
import Derived.Test.YtghglgaimhfedaaZTb
import Derived.Test.YtghglgaimhfedaaZTc
import Derived.Test.YtghglgaimhfedaaZMx
import Derived.Test.YtghglgaimhfedaaQO
namespace Go.Proofs.Ytghglgaimhfedaa
open Go.RowKit Go.Shelf

set_option maxRecDepth 100000 in
set_option maxHeartbeats 4000000 in
theorem unwound_out (v u : Value) (path posts : List Pt) (f : Int) (w : World) (hs : Sl e2 2 w v path) (hu : Sl e2 2 w u posts) (hn : ¬ (0 < path.length ∧ path.length ≤ 14 ∧ posts.length ≤ 10 ∧ pathErr path = 0 ∧ postsErr path posts = 0)) :
    Calls Try.prog 13 #[v, u, .int .i64 f] w fun e w' => e = .returned (.bool true) ∧ Below w.heap.size w w' := by
  have HS := Lib.hid hs
  have HU := Lib.hid hu
  obtain ⟨A, c, rfl, hcap⟩ := hs.form
  obtain ⟨A', c', rfl, hcap'⟩ := hu.form
  clear hs hu hcap hcap'
  by_cases h0 : path.length = 0
  · have e0 : ((path.length : Int) == 0) = true := eq0 (by omega)
    clear hn
    go_enter Try.func13, Try.ntmps13
    go_wp2_with (first
      | (go_at_call 83; refine (shown_any _).mono ?_; rintro e w1 ⟨rfl, b1⟩; have HXP : ∃ P : World → Prop, Keeps P ∧ P w1 ∧ ∀ W, P W → Sl e2 2 W (.slice A path.length c) path ∧ Sl e2 2 W (.slice A' posts.length c') posts ∧ Below w.heap.size w W := ⟨_, (keeps_sl _ _ _ _).and ((keeps_sl _ _ _ _).and (keeps_below _)), ⟨HS.out.below b1, HU.out.below b1, b1⟩, fun _ h => h⟩; obtain ⟨P, KP, hP, HPE⟩ := HXP; have K0 := Lib.hid KP; have HPE := Lib.hid HPE; have Q1 := Lib.hid hP; clear b1 KP hP)
      | (go_at_call 76; refine (HPT.out _ (HPE.out _ Q1.out).1).mono ?_; rintro e w2 ⟨rfl, b2⟩; have Q2 := Lib.hid (K0.out _ _ Q1.out b2); clear b2)
      | (go_at_call 79; refine (HPO.out _ (HPE.out _ Q2.out).1 (HPE.out _ Q2.out).2.1).mono ?_; rintro e w3 ⟨rfl, b3⟩; have Q3 := Lib.hid (K0.out _ _ Q2.out b3); clear b3))
    go_ret
    exact ⟨rfl, (HPE.out _ Q1.out).2.2⟩
  · have e0 : ((path.length : Int) == 0) = false := eq1 (by omega)
    have e0' : path ≠ [] := by rintro rfl; simp at h0
    by_cases h1 : path.length ≤ 14
    · have d1 : ¬ (14 : Int) < (path.length : Int) := by omega
      have d1' : decide ((14 : Int) < (path.length : Int)) = false := decide_eq_false d1
      by_cases h2 : posts.length ≤ 10
      · have d2 : ¬ (10 : Int) < (posts.length : Int) := by omega
        have d2' : decide ((10 : Int) < (posts.length : Int)) = false := decide_eq_false d2
        have HPT := Lib.hid (fun w' h => PathErr_any (.slice A path.length c) path w' h (by omega))
        by_cases h3 : pathErr path = 0
        · have h4 : ¬ postsErr path posts = 0 := fun h => hn ⟨by omega, h1, h2, h3, h⟩
          have h4' := ne1 h4
          obtain ⟨_, k1, k2⟩ := pathErr_ok h3
          have HPO := Lib.hid (fun w' h k => PostsErr_any (.slice A path.length c) (.slice A' posts.length c') path posts w' h k k1 (ways_sm k2) (by omega))
          rw [h3] at HPT
          clear hn h0 h1 h2 h3 h4 k1 k2
          generalize postsErr path posts = d at *
          go_enter Try.func13, Try.ntmps13
          go_wp2_with (first
      | (go_at_call 83; refine (shown_any _).mono ?_; rintro e w1 ⟨rfl, b1⟩; have HXP : ∃ P : World → Prop, Keeps P ∧ P w1 ∧ ∀ W, P W → Sl e2 2 W (.slice A path.length c) path ∧ Sl e2 2 W (.slice A' posts.length c') posts ∧ Below w.heap.size w W := ⟨_, (keeps_sl _ _ _ _).and ((keeps_sl _ _ _ _).and (keeps_below _)), ⟨HS.out.below b1, HU.out.below b1, b1⟩, fun _ h => h⟩; obtain ⟨P, KP, hP, HPE⟩ := HXP; have K0 := Lib.hid KP; have HPE := Lib.hid HPE; have Q1 := Lib.hid hP; clear b1 KP hP)
      | (go_at_call 76; refine (HPT.out _ (HPE.out _ Q1.out).1).mono ?_; rintro e w2 ⟨rfl, b2⟩; have Q2 := Lib.hid (K0.out _ _ Q1.out b2); clear b2)
      | (go_at_call 79; refine (HPO.out _ (HPE.out _ Q2.out).1 (HPE.out _ Q2.out).2.1).mono ?_; rintro e w3 ⟨rfl, b3⟩; have Q3 := Lib.hid (K0.out _ _ Q2.out b3); clear b3))
          go_ret
          exact ⟨rfl, (HPE.out _ Q3.out).2.2⟩
        · have h3' := ne1 h3
          clear hn h0 h1 h2 h3
          generalize pathErr path = d at *
          go_enter Try.func13, Try.ntmps13
          go_wp2_with (first
      | (go_at_call 83; refine (shown_any _).mono ?_; rintro e w1 ⟨rfl, b1⟩; have HXP : ∃ P : World → Prop, Keeps P ∧ P w1 ∧ ∀ W, P W → Sl e2 2 W (.slice A path.length c) path ∧ Sl e2 2 W (.slice A' posts.length c') posts ∧ Below w.heap.size w W := ⟨_, (keeps_sl _ _ _ _).and ((keeps_sl _ _ _ _).and (keeps_below _)), ⟨HS.out.below b1, HU.out.below b1, b1⟩, fun _ h => h⟩; obtain ⟨P, KP, hP, HPE⟩ := HXP; have K0 := Lib.hid KP; have HPE := Lib.hid HPE; have Q1 := Lib.hid hP; clear b1 KP hP)
      | (go_at_call 76; refine (HPT.out _ (HPE.out _ Q1.out).1).mono ?_; rintro e w2 ⟨rfl, b2⟩; have Q2 := Lib.hid (K0.out _ _ Q1.out b2); clear b2)
      | (go_at_call 79; refine (HPO.out _ (HPE.out _ Q2.out).1 (HPE.out _ Q2.out).2.1).mono ?_; rintro e w3 ⟨rfl, b3⟩; have Q3 := Lib.hid (K0.out _ _ Q2.out b3); clear b3))
          go_ret
          exact ⟨rfl, (HPE.out _ Q2.out).2.2⟩
      · have d2 : (10 : Int) < (posts.length : Int) := by omega
        have d2' : decide ((10 : Int) < (posts.length : Int)) = true := decide_eq_true d2
        clear hn h0 h1 h2
        go_enter Try.func13, Try.ntmps13
        go_wp2_with (first
      | (go_at_call 83; refine (shown_any _).mono ?_; rintro e w1 ⟨rfl, b1⟩; have HXP : ∃ P : World → Prop, Keeps P ∧ P w1 ∧ ∀ W, P W → Sl e2 2 W (.slice A path.length c) path ∧ Sl e2 2 W (.slice A' posts.length c') posts ∧ Below w.heap.size w W := ⟨_, (keeps_sl _ _ _ _).and ((keeps_sl _ _ _ _).and (keeps_below _)), ⟨HS.out.below b1, HU.out.below b1, b1⟩, fun _ h => h⟩; obtain ⟨P, KP, hP, HPE⟩ := HXP; have K0 := Lib.hid KP; have HPE := Lib.hid HPE; have Q1 := Lib.hid hP; clear b1 KP hP)
      | (go_at_call 76; refine (HPT.out _ (HPE.out _ Q1.out).1).mono ?_; rintro e w2 ⟨rfl, b2⟩; have Q2 := Lib.hid (K0.out _ _ Q1.out b2); clear b2)
      | (go_at_call 79; refine (HPO.out _ (HPE.out _ Q2.out).1 (HPE.out _ Q2.out).2.1).mono ?_; rintro e w3 ⟨rfl, b3⟩; have Q3 := Lib.hid (K0.out _ _ Q2.out b3); clear b3))
        go_ret
        exact ⟨rfl, (HPE.out _ Q1.out).2.2⟩
    · have d1 : (14 : Int) < (path.length : Int) := by omega
      have d1' : decide ((14 : Int) < (path.length : Int)) = true := decide_eq_true d1
      clear hn h0 h1
      go_enter Try.func13, Try.ntmps13
      go_wp2_with (first
      | (go_at_call 83; refine (shown_any _).mono ?_; rintro e w1 ⟨rfl, b1⟩; have HXP : ∃ P : World → Prop, Keeps P ∧ P w1 ∧ ∀ W, P W → Sl e2 2 W (.slice A path.length c) path ∧ Sl e2 2 W (.slice A' posts.length c') posts ∧ Below w.heap.size w W := ⟨_, (keeps_sl _ _ _ _).and ((keeps_sl _ _ _ _).and (keeps_below _)), ⟨HS.out.below b1, HU.out.below b1, b1⟩, fun _ h => h⟩; obtain ⟨P, KP, hP, HPE⟩ := HXP; have K0 := Lib.hid KP; have HPE := Lib.hid HPE; have Q1 := Lib.hid hP; clear b1 KP hP)
      | (go_at_call 76; refine (HPT.out _ (HPE.out _ Q1.out).1).mono ?_; rintro e w2 ⟨rfl, b2⟩; have Q2 := Lib.hid (K0.out _ _ Q1.out b2); clear b2)
      | (go_at_call 79; refine (HPO.out _ (HPE.out _ Q2.out).1 (HPE.out _ Q2.out).2.1).mono ?_; rintro e w3 ⟨rfl, b3⟩; have Q3 := Lib.hid (K0.out _ _ Q2.out b3); clear b3))
      go_ret
      exact ⟨rfl, (HPE.out _ Q1.out).2.2⟩
end Go.Proofs.Ytghglgaimhfedaa
