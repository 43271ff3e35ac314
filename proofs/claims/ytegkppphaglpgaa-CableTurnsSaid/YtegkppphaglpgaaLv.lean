/-
  Walks of chapter 1's examples: what every statement checks first is true.
-/
import Derived.Test.YtegkppphaglpgaaLu
import Derived.Test.YtegkppphaglpgaaWe
import Derived.Test.YtegkppphaglpgaaWd
namespace Go.Proofs.Ytegkppphaglpgaa
open Go.RowKit Go.Shelf

theorem ex_tensions : tensionsOf exLine exCur = ([(12, 120), (2, 100), (2, 100)], 0) := by kernel_rfl
theorem ex_layback : laybackIn exLine exBox = ((-2, 4), 0) := by kernel_rfl
theorem ex_sharpest : sharpestIn exLine exCur = (0, (1600, 252601), 0) := by kernel_rfl
def exPath : List Pt := [(0, 0), (4, 0), (4, 4), (0, 4)]
theorem ex_winding : windingOf exPath (1, 2) = (1, 0) := by kernel_rfl
theorem eq_range (w : World) (a b : Int) : (binOp .eql 66 (.agg #[.int .i64 a, .int .i64 b]) (.agg #[.int .i64 a, .int .i64 b])).run Try.prog w = .ok (.bool true) w := by
  rw [run_eql_struct, run_equalIn_agg w 9999 66 _ _ (by kernel_rfl) (by kernel_rfl)]
  go_simp
theorem eq_frac (w : World) (a b : Int) : (binOp .eql 75 (.agg #[.int .i64 a, .int .i64 b]) (.agg #[.int .i64 a, .int .i64 b])).run Try.prog w = .ok (.bool true) w := by
  rw [run_eql_struct, run_equalIn_agg w 9999 75 _ _ (by kernel_rfl) (by kernel_rfl)]
  go_simp
theorem slN (w : World) (cs : Array Value) (xs : List (Int × Int)) (t : TypeId) (hm : xs.length ≤ 1000000) (hs : cs.size = xs.length * 2) (hc : cs.toList = xs.flatMap e2) :
    Sl e2 2 (w.alloc (.cells cs t)) (.slice (some ⟨w.heap.size, 0, none⟩) xs.length xs.length) xs := (Ow.lit (base := w.heap.size) w cs xs (Nat.le_refl _) hm hs hc).sl e2_len
theorem ex_HT : ∀ v u w, Sl e3 3 w v exLine.ks → Sl e1 1 w u exCur → Calls Try.prog 28 #[.agg #[.int .i64 0, .int .i64 100, v], u] w fun e w' => ∃ r, e = .returned (.tuple #[r, .int .i64 0]) ∧ Ow e2 2 23 w.heap.size w' r [(12, 120), (2, 100), (2, 100)] ∧ Below w.heap.size w w' := by
  intro v u w h1 h2
  have := TensionsOf_any v u exLine exCur w h1 h2 (by decide) (by decide)
  rw [ex_tensions] at this
  exact this
theorem ex_HL : ∀ v u w, Sl e3 3 w v exLine.ks → Sl e2 2 w u exBox → Calls Try.prog 59 #[.agg #[.int .i64 0, .int .i64 100, v], u] w fun e w' => e = .returned (.tuple #[.agg #[.int .i64 (-2), .int .i64 4], .int .i64 0]) ∧ Below w.heap.size w w' := by
  intro v u w h1 h2
  have := LaybackIn_any v u exLine exBox w h1 h2 (by decide) (by decide)
  rw [ex_layback] at this
  exact this
theorem ex_HS : ∀ v u w, Sl e3 3 w v exLine.ks → Sl e1 1 w u exCur → Calls Try.prog 45 #[.agg #[.int .i64 0, .int .i64 100, v], u] w fun e w' => e = .returned (.tuple #[.int .i64 0, .agg #[.int .i64 1600, .int .i64 252601], .int .i64 0]) ∧ Below w.heap.size w w' := by
  intro v u w h1 h2
  have := SharpestIn_any v u exLine exCur w h1 h2 (by decide) (by decide)
  rw [ex_sharpest] at this
  exact this
theorem ex_HW : ∀ v w, Sl e2 2 w v exPath → Calls Try.prog 73 #[v, .agg #[.int .i64 1, .int .i64 2]] w fun e w' => e = .returned (.tuple #[.int .i64 1, .int .i64 0]) ∧ Below w.heap.size w w' := by
  intro v w h1
  have := WindingOf_any v exPath (1, 2) w h1 (by decide)
  rw [ex_winding] at this
  exact this
theorem ex_HF : ∀ u v w, Sl e2 2 w u [(12, 120), (2, 100), (2, 100)] → Sl e2 2 w v [(12, 120), (2, 100), (2, 100)] → Calls Try.prog 37 #[u, v] w fun e w' => e = .returned (.bool true) ∧ Below w.heap.size w w' := by
  intro u v w h1 h2
  have := Forces_any u v [(12, 120), (2, 100), (2, 100)] [(12, 120), (2, 100), (2, 100)] w h1 h2 (by decide) (by decide)
  rw [eqL_refl] at this
  exact this
theorem slPath (w : World) (cs : Array Value) (t u : TypeId) : Sl e2 2 ((w.alloc (.cells cs t)).alloc (.cells #[.int .i64 0, .int .i64 0, .int .i64 4, .int .i64 0, .int .i64 4, .int .i64 4, .int .i64 0, .int .i64 4] u)) (.slice (some ⟨w.heap.size + 1, 0, none⟩) 4 4) exPath := by
  have h := slN (w.alloc (.cells cs t)) #[.int .i64 0, .int .i64 0, .int .i64 4, .int .i64 0, .int .i64 4, .int .i64 4, .int .i64 0, .int .i64 4] exPath u (by decide) rfl rfl
  rw [World.size_alloc] at h
  exact h
theorem slForces (w : World) (u : TypeId) : Sl e2 2 (w.alloc (.cells #[.int .i64 12, .int .i64 120, .int .i64 2, .int .i64 100, .int .i64 2, .int .i64 100] u)) (.slice (some ⟨w.heap.size, 0, none⟩) 3 3) [(12, 120), (2, 100), (2, 100)] :=
  slN w _ [(12, 120), (2, 100), (2, 100)] u (by decide) rfl rfl
set_option maxRecDepth 100000 in
set_option maxHeartbeats 400000 in
theorem awake_any (w : World) : Calls Try.prog 14 #[] w fun e w' => e = .returned (.bool true) ∧ Below w.heap.size w w' := by
  have HT := Lib.hid ex_HT
  have HL := Lib.hid ex_HL
  have HS := Lib.hid ex_HS
  have HW := Lib.hid ex_HW
  have HF := Lib.hid ex_HF
  have T1 : Hid True := trivial
  have T2 : Hid True := trivial
  have T4 : Hid True := trivial
  have q1 := eq_range
  have q2 := eq_frac
  go_enter Try.func14, Try.ntmps14
  go_wp2_with (first
    | (go_at_call 83; clear T1; refine (Line_any _).mono ?_; rintro e w1 ⟨v1, rfl, s1, b1⟩)
    | (go_at_call 84; clear T2; refine (Currents_any _).mono ?_; rintro e w2 ⟨v2, rfl, s2, b2⟩)
    | (go_at_call 28; refine (HT.out _ _ _ (s1.below b2) s2).mono ?_; rintro e w3 ⟨r3, rfl, o3, b3⟩; have H3 := Lib.hid (And.intro (o3.sl e2_len) (below_tr (below_tr b1 b2) b3)); clear o3 b1 b2 b3 s1 s2)
    | (go_at_call 83; clear T4; refine (Line_any _).mono ?_; rintro e w4 ⟨v4, rfl, s4, b4⟩)
    | (go_at_call 85; refine (Box_any _).mono ?_; rintro e w5 ⟨v5, rfl, s5, b5⟩)
    | (go_at_call 59; refine (HL.out _ _ _ (s4.below b5) s5).mono ?_; rintro e w6 ⟨rfl, b6⟩; have H6 := Lib.hid (below_tr (below_tr b4 b5) b6); clear b4 b5 b6 s4 s5)
    | (go_at_call 83; refine (Line_any _).mono ?_; rintro e w7 ⟨v7, rfl, s7, b7⟩)
    | (go_at_call 84; refine (Currents_any _).mono ?_; rintro e w8 ⟨v8, rfl, s8, b8⟩)
    | (go_at_call 45; refine (HS.out _ _ _ (s7.below b8) s8).mono ?_; rintro e w9 ⟨rfl, b9⟩; have H9 := Lib.hid (below_tr (below_tr b7 b8) b9); have HP := Lib.hid (slPath w9 #[.int .i64 1600, .int .i64 252601] 75 61); clear b7 b8 b9 s7 s8)
    | (go_at_call 73; refine (HW.out _ _ HP.out).mono ?_; rintro e w10 ⟨rfl, b10⟩; have H10 := Lib.hid (below_tr (below_al (below_al (below_tr (below_al H6.out _) H9.out) _) _) b10); have R6 := fun j v hv => ((((At.new w6 #[.int .i64 (-2), .int .i64 4] 66 j v hv).below H9.out).al (.cells #[.int .i64 1600, .int .i64 252601] 75)).al (.cells #[.int .i64 0, .int .i64 0, .int .i64 4, .int .i64 0, .int .i64 4, .int .i64 4, .int .i64 0, .int .i64 4] 61)).below b10; have R9 := fun j v hv => ((At.new w9 #[.int .i64 1600, .int .i64 252601] 75 j v hv).al (.cells #[.int .i64 0, .int .i64 0, .int .i64 4, .int .i64 0, .int .i64 4, .int .i64 4, .int .i64 0, .int .i64 4] 61)).below b10; have A6 := Lib.hid (And.intro (R6 0 _ rfl) (R6 1 _ rfl)); have A9 := Lib.hid (And.intro (R9 0 _ rfl) (R9 1 _ rfl)); clear R6 R9 b10)
    | (go_at_call 37; refine (HF.out _ _ _ ((H3.out.1.below H10.out).alloc _) (slForces w10 _)).mono ?_; rintro e w11 ⟨rfl, b11⟩; obtain ⟨c0, _⟩ := (A6.out.1.al _).below b11; obtain ⟨c1, _⟩ := (A6.out.2.al _).below b11; obtain ⟨c2, _⟩ := (A9.out.1.al _).below b11; obtain ⟨c3, _⟩ := (A9.out.2.al _).below b11; have H11 := Lib.hid (below_tr (below_al (below_tr H3.out.2 H10.out) _) b11); clear b11))
  go_ret
  exact ⟨rfl, H11.out⟩
end Go.Proofs.Ytegkppphaglpgaa
