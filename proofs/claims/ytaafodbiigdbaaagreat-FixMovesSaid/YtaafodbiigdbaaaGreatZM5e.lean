/-
  Go functions as Lean functions (written by tools/lift.py).
-/
import Derived.Test.YtaafodbiigdbaaaGreatZEd
import Derived.Test.YtaafodbiigdbaaaGreatZEg
import Derived.Test.YtaafodbiigdbaaaGreatZN5a
import Derived.Test.YtaafodbiigdbaaaGreatZN5e
set_option linter.all false
namespace Go.Proofs.YtaafodbiigdbaaaGreat
open Go Go.RowKit Cm
set_option maxRecDepth 100000
set_option maxHeartbeats 4000000
abbrev ttM5e_1 : Pat := ⟨[(1, .ptr 0 0), (3, .ptr 1 0), (4, (ys 13))], [some (.cells [(ys 0), (ys 1), (ys 2), (ys 3), (ys 4), (ys 5), (ys 6)] 71 false), some (.cells [(ys 7), (ys 8), (ys 9), (ys 10), (ys 11), (ys 12)] 92 false)], [some (0, 0), some (1, 0)]⟩
abbrev ttM5e_3 : Pat := ⟨[(1, .ptr 0 0)], [some (.cells [(ys 0), (ys 1), (ys 2), (ys 3), (ys 4), (ys 5), (ys 6)] 71 false)], [some (0, 0)]⟩
abbrev ttM5e_4 : Pat := ⟨[(0, .agg [(ys 0), (ys 1), (ys 2), (ys 3), (ys 4), (ys 5), (ys 6)])], [], []⟩
abbrev qqM5e_1 : List Eqn := [(ns 13 13), (ns 0 0), (ns 1 1), (ns 2 2), (ns 3 3), (ns 4 4), (ns 5 5), (ns 6 6), (ns 7 7), (ns 8 8), (ns 9 9), (ns 10 10), (ns 11 11), (ns 12 12)]
abbrev qqM5e_2 : List Eqn := [.num (.add .i64 (.v 13) (.c 1)) (.v 13), (ns 0 0), (ns 1 1), (ns 2 2), (ns 3 3), (ns 4 4), (ns 5 5), (ns 6 6), (ns 7 7), (ns 8 8), (ns 9 9), (ns 10 10), (ns 11 11), (ns 12 12)]
abbrev qqM5e_4 : List Eqn := [(ns 0 0), (ns 1 1), (ns 2 2), (ns 3 3), (ns 4 4), (ns 5 5), (ns 6 6)]
@[reducible] def m5e_k1 : KE := ⟨107, 6, [], [(ys 0)], [], [.num (.sub .i64 (.v 8) (.v 11)) (.v 0)], 0, (ys 0), [], (ys 19), [], []⟩
@[reducible] def m5e_k2 : KE := ⟨107, 6, [], [(ys 0)], [], [.num (.sub .i64 (.v 7) (.v 11)) (.v 0)], 0, (ys 0), [], (ys 20), [], []⟩
@[reducible] def m5e_k3 : KE := ⟨107, 6, [], [(ys 0)], [], [.num (.sub .i64 (.v 6) (.v 10)) (.v 0)], 0, (ys 0), [], (ys 19), [], []⟩
@[reducible] def m5e_k4 : KE := ⟨107, 6, [], [(ys 0)], [], [.num (.sub .i64 (.v 5) (.v 10)) (.v 0)], 0, (ys 0), [], (ys 20), [], []⟩
@[reducible] def m5e_k5 : KE := ⟨107, 6, [], [(ys 0)], [], [.num (.sub .i64 (.v 4) (.v 9)) (.v 0)], 0, (ys 0), [], (ys 19), [], []⟩
@[reducible] def m5e_k6 : KE := ⟨107, 6, [], [(ys 0)], [], [.num (.sub .i64 (.v 3) (.v 9)) (.v 0)], 0, (ys 0), [], (ys 20), [], []⟩
@[reducible] def m5e_k7 : KE := ⟨18, 2, [], [(ys 0), (ys 1), (ys 2)], [], [(ns 11 0), .num (.c (-100)) (.v 1), .num (.c 100) (.v 2)], 0, .bs (.v 0), [], .bs (.v 14), [], []⟩
@[reducible] def m5e_k8 : KE := ⟨18, 2, [], [(ys 0), (ys 1), (ys 2)], [], [(ns 12 0), .num (.c (-100)) (.v 1), .num (.c 100) (.v 2)], 0, .bs (.v 0), [], .bs (.v 15), [], []⟩
@[reducible] def m5e_k9 : KE := ⟨18, 2, [], [(ys 0), (ys 1), (ys 2)], [], [(ns 9 0), .num (.c (-100)) (.v 1), .num (.c 100) (.v 2)], 0, .bs (.v 0), [], .bs (.v 14), [], []⟩
@[reducible] def m5e_k10 : KE := ⟨18, 2, [], [(ys 0), (ys 1), (ys 2)], [], [(ns 10 0), .num (.c (-100)) (.v 1), .num (.c 100) (.v 2)], 0, .bs (.v 0), [], .bs (.v 15), [], []⟩
@[reducible] def m5e_k11 : KE := ⟨18, 2, [], [(ys 0), (ys 1), (ys 2)], [], [(ns 7 0), .num (.c (-100)) (.v 1), .num (.c 100) (.v 2)], 0, .bs (.v 0), [], .bs (.v 14), [], []⟩
@[reducible] def m5e_k12 : KE := ⟨18, 2, [], [(ys 0), (ys 1), (ys 2)], [], [(ns 8 0), .num (.c (-100)) (.v 1), .num (.c 100) (.v 2)], 0, .bs (.v 0), [], .bs (.v 15), [], []⟩
@[reducible] def m5e_k13 : KE := ⟨18, 1, [], [(ys 0), (ys 1), (ys 2)], [], [(ns 0 0), .num (.c 0) (.v 1), .num (.c 1000) (.v 2)], 0, .bs (.v 0), [], .bs (.v 7), [], []⟩
@[reducible] def m5e_k14 : KE := ⟨89, 1, [], [.agg [(ys 0), (ys 1), (ys 2), (ys 3), (ys 4), (ys 5)]], [], [(ns 1 0), (ns 2 1), (ns 3 2), (ns 4 3), (ns 5 4), (ns 6 5)], 0, .bs (.v 0), [], .bs (.v 7), [], []⟩
@[reducible] def m5e_k15 : KE := ⟨44, 5, [], [.agg [(ys 0), (ys 1), (ys 2), (ys 3), (ys 4), (ys 5)]], [], [(ns 7 0), (ns 8 1), (ns 9 2), (ns 10 3), (ns 11 4), (ns 12 5)], 0, .agg [(ys 0), (ys 1), (ys 2), (ys 3), (ys 4), (ys 5)], [], .agg [(ys 20), (ys 21), (ys 22), (ys 23), (ys 24), (ys 25)], [], []⟩
@[reducible] def m5e_k16 : KE := ⟨44, 5, [], [.agg [(ys 0), (ys 1), (ys 2), (ys 3), (ys 4), (ys 5)]], [], [(ns 14 0), (ns 15 1), (ns 16 2), (ns 17 3), (ns 18 4), (ns 19 5)], 0, .agg [(ys 0), (ys 1), (ys 2), (ys 3), (ys 4), (ys 5)], [], .agg [(ys 26), (ys 27), (ys 28), (ys 29), (ys 30), (ys 31)], [], []⟩
@[reducible] def m5e_k17 : KE := ⟨110, 4, [], [.agg [(ys 0), (ys 1), (ys 2), (ys 3), (ys 4), (ys 5)]], [], [(ns 7 0), (ns 8 1), (ns 9 2), (ns 10 3), (ns 11 4), (ns 12 5)], 0, .agg [(ys 0), (ys 1), (ys 2), (ys 3), (ys 4), (ys 5)], [], .agg [(ys 13), (ys 14), (ys 15), (ys 16), (ys 17), (ys 18)], [], []⟩
@[reducible] def m5e_k18 : KE := ⟨95, 4, [], [.agg [(ys 0), (ys 1), (ys 2), (ys 3), (ys 4), (ys 5)], .agg [(ys 6), (ys 7), (ys 8), (ys 9), (ys 10), (ys 11)]], [], [(ns 13 0), (ns 14 1), (ns 15 2), (ns 16 3), (ns 17 4), (ns 18 5), (ns 1 6), (ns 2 7), (ns 3 8), (ns 4 9), (ns 5 10), (ns 6 11)], 0, .agg [(ys 0), (ys 1), (ys 2), (ys 3), (ys 4), (ys 5)], [], .agg [(ys 19), (ys 20), (ys 21), (ys 22), (ys 23), (ys 24)], [], []⟩
def r5_MoveErr_L1 (fu : Nat) (p0 : Int) (p1 : Int) (p2 : Int) (p3 : Int) (p4 : Int) (p5 : Int) (p6 : Int) (p7 : Int) (p8 : Int) (p9 : Int) (p10 : Int) (p11 : Int) (p12 : Int) : Nat → Int → Option ((Unit) ⊕ (Unit))
  | 0, _ => none
  | n + 1, v13 => if v13 < (3 : Int) then (if v13 = (2 : Int) then (Option.bind (b_Within p11 (-100 : Int) (100 : Int)) fun r3 => if r3 = true then (Option.bind (b_Within p12 (-100 : Int) (100 : Int)) fun r5 => if r5 = true then (r5_MoveErr_L1 fu p0 p1 p2 p3 p4 p5 p6 p7 p8 p9 p10 p11 p12 n (IntKind.wrap .i64 (v13 + (1 : Int)))) else (some (.inl ()))) else (some (.inl ()))) else (if v13 = (1 : Int) then (Option.bind (b_Within p9 (-100 : Int) (100 : Int)) fun r8 => if r8 = true then (Option.bind (b_Within p10 (-100 : Int) (100 : Int)) fun r10 => if r10 = true then (r5_MoveErr_L1 fu p0 p1 p2 p3 p4 p5 p6 p7 p8 p9 p10 p11 p12 n (IntKind.wrap .i64 (v13 + (1 : Int)))) else (some (.inl ()))) else (some (.inl ()))) else (if v13 = (0 : Int) then (Option.bind (b_Within p7 (-100 : Int) (100 : Int)) fun r13 => if r13 = true then (Option.bind (b_Within p8 (-100 : Int) (100 : Int)) fun r15 => if r15 = true then (r5_MoveErr_L1 fu p0 p1 p2 p3 p4 p5 p6 p7 p8 p9 p10 p11 p12 n (IntKind.wrap .i64 (v13 + (1 : Int)))) else (some (.inl ()))) else (some (.inl ()))) else none))) else (some (.inr ()))
theorem r5_MoveErr_L1_ok (fu : Nat) (p0 : Int) (p1 : Int) (p2 : Int) (p3 : Int) (p4 : Int) (p5 : Int) (p6 : Int) (p7 : Int) (p8 : Int) (p9 : Int) (p10 : Int) (p11 : Int) (p12 : Int) : ∀ (n : Nat) (v13 : Int) (o : (Unit) ⊕ (Unit)), r5_MoveErr_L1 fu p0 p1 p2 p3 p4 p5 p6 p7 p8 p9 p10 p11 p12 n v13 = some o → ∀ (φ0 : Phi) (w0 : World) (F : Fence) (k : Nat) (R : Exit → Act → World → Prop) (a : Act) (w : World), FW F → F.round = none → AtS (vals [p0, p1, p2, p3, p4, p5, p6, p7, p8, p9, p10, p11, p12, v13] []) [(1, .ptr 0 0), (3, .ptr 1 0), (4, (ys 13))] [some (.cells [(ys 0), (ys 1), (ys 2), (ys 3), (ys 4), (ys 5), (ys 6)] 71 false), some (.cells [(ys 7), (ys 8), (ys 9), (ys 10), (ys 11), (ys 12)] 92 false)] 33 0 0 φ0 w0 a w → (∀ (y : Unit), o = .inl y → ∀ a' w', AtS (vals [] []) [(2, .int .i64 2)] [] 33 0 0 φ0 w0 a' w' → R Exit.ret a' w') → (∀ (y : Unit), o = .inr y → ∀ a' w', AtS (vals [p0, p1, p2, p3, p4, p5, p6] []) [(1, .ptr 0 0)] [some (.cells [(ys 0), (ys 1), (ys 2), (ys 3), (ys 4), (ys 5), (ys 6)] 71 false)] 33 0 0 φ0 w0 a' w' → R (Exit.exit 0) a' w') → Code.roundsIn F k Tryz.prog (subAt (bodyOf Tryz.prog 38) [1, 1, 1, 0, 1, 0, 0]) R n a w
  | 0, _, _, h => by cases h
  | n + 1, v13, o, h => by
    intro φ0 w0 F k R a w hF hr hat hx0 hx1
    rw [r5_MoveErr_L1] at h
    refine rounds_in (p := [1, 1, 1, 0, 1, 0, 0]) ?_
    by_cases h1 : v13 < (3 : Int)
    · rw [if_pos h1] at h
      by_cases h2 : v13 = (2 : Int)
      · rw [if_pos h2] at h
        obtain ⟨r3, hr3, h⟩ := Option.bind_eq_some_iff.1 h
        have Kr3 : KO Tryz.prog [p0, p1, p2, p3, p4, p5, p6, p7, p8, p9, p10, p11, p12, v13, bI r3] [] m5e_k7 := fun N M => ⟨_, _, [(ns 0 14)], ⟨b_Within_ok p11 (-100 : Int) (100 : Int) r3 hr3, ⟨(r p11), (show (-100 : Int) = (-100 : Int) from rfl), (r (100 : Int)), trivial⟩, by kernel_rfl, ⟨rfl, trivial⟩⟩⟩
        by_cases h4 : r3 = true
        · rw [if_pos h4] at h
          obtain ⟨r5, hr5, h⟩ := Option.bind_eq_some_iff.1 h
          have Kr5 : KO Tryz.prog [p0, p1, p2, p3, p4, p5, p6, p7, p8, p9, p10, p11, p12, v13, bI r3, bI r5] [] m5e_k8 := fun N M => ⟨_, _, [(ns 0 15)], ⟨b_Within_ok p12 (-100 : Int) (100 : Int) r5 hr5, ⟨(r p12), (show (-100 : Int) = (-100 : Int) from rfl), (r (100 : Int)), trivial⟩, by kernel_rfl, ⟨rfl, trivial⟩⟩⟩
          by_cases h6 : r5 = true
          · rw [if_pos h6] at h
            refine to_done mixed ⟨[(.lss, (.v 13), (.c 3), true), (.eql, (.v 13), (.c 2), true), (.neq, (.v 14), (.c 0), true), (.neq, (.v 15), (.c 0), true)], [], [], [m5e_k7, m5e_k8], [], []⟩ (V := (vals [p0, p1, p2, p3, p4, p5, p6, p7, p8, p9, p10, p11, p12, v13, bI r3, bI r5] [])) (n := 3000) (f := 3000) (V' := (vals [p0, p1, p2, p3, p4, p5, p6, p7, p8, p9, p10, p11, p12, (IntKind.wrap .i64 (v13 + (1 : Int)))] [])) ⟨⟨lss_t h1, eql_t h2, bi_t h4, bi_t h6, trivial⟩, trivial, trivial, trivial, trivial⟩ ⟨Kr3 _ _, Kr5 _ _, trivial⟩ (T := ttM5e_1) (ce := .normal) (qs := qqM5e_2) hF hr (by kernel_rfl) ⟨(r (IntKind.wrap .i64 (v13 + (1 : Int)))), (r p0), (r p1), (r p2), (r p3), (r p4), (r p5), (r p6), (r p7), (r p8), (r p9), (r p10), (r p11), (r p12), trivial⟩ (at_re (V' := (vals [p0, p1, p2, p3, p4, p5, p6, p7, p8, p9, p10, p11, p12, v13, bI r3, bI r5] [])) (T := ttM5e_1) (qs := qqM5e_1) hat (by kernel_rfl) ⟨rfl, rfl, rfl, rfl, rfl, rfl, rfl, rfl, rfl, rfl, rfl, rfl, rfl, rfl, trivial⟩) fun a' w' hat' => ?_
            exact r5_MoveErr_L1_ok fu p0 p1 p2 p3 p4 p5 p6 p7 p8 p9 p10 p11 p12 n (IntKind.wrap .i64 (v13 + (1 : Int))) o h _ _ _ _ _ _ _ hF hr hat' hx0 hx1
          · rw [if_neg h6] at h
            injection h with h; subst h
            exact to_done mixed ⟨[(.lss, (.v 13), (.c 3), true), (.eql, (.v 13), (.c 2), true), (.neq, (.v 14), (.c 0), true), (.neq, (.v 15), (.c 0), false)], [], [], [m5e_k7, m5e_k8], [], []⟩ (V := (vals [p0, p1, p2, p3, p4, p5, p6, p7, p8, p9, p10, p11, p12, v13, bI r3, bI r5] [])) (n := 3000) (f := 3000) (V' := (vals [] [])) ⟨⟨lss_t h1, eql_t h2, bi_t h4, bi_f h6, trivial⟩, trivial, trivial, trivial, trivial⟩ ⟨Kr3 _ _, Kr5 _ _, trivial⟩ (T := ⟨[(2, .int .i64 2)], [], []⟩) (ce := .ret) (qs := []) hF hr (by kernel_rfl) trivial (at_re (V' := (vals [p0, p1, p2, p3, p4, p5, p6, p7, p8, p9, p10, p11, p12, v13, bI r3, bI r5] [])) (T := ttM5e_1) (qs := qqM5e_1) hat (by kernel_rfl) ⟨rfl, rfl, rfl, rfl, rfl, rfl, rfl, rfl, rfl, rfl, rfl, rfl, rfl, rfl, trivial⟩) fun a' w' hat' => hx0 () rfl a' w' hat'
        · rw [if_neg h4] at h
          injection h with h; subst h
          exact to_done mixed ⟨[(.lss, (.v 13), (.c 3), true), (.eql, (.v 13), (.c 2), true), (.neq, (.v 14), (.c 0), false)], [], [], [m5e_k7], [], []⟩ (V := (vals [p0, p1, p2, p3, p4, p5, p6, p7, p8, p9, p10, p11, p12, v13, bI r3] [])) (n := 3000) (f := 3000) (V' := (vals [] [])) ⟨⟨lss_t h1, eql_t h2, bi_f h4, trivial⟩, trivial, trivial, trivial, trivial⟩ ⟨Kr3 _ _, trivial⟩ (T := ⟨[(2, .int .i64 2)], [], []⟩) (ce := .ret) (qs := []) hF hr (by kernel_rfl) trivial (at_re (V' := (vals [p0, p1, p2, p3, p4, p5, p6, p7, p8, p9, p10, p11, p12, v13, bI r3] [])) (T := ttM5e_1) (qs := qqM5e_1) hat (by kernel_rfl) ⟨rfl, rfl, rfl, rfl, rfl, rfl, rfl, rfl, rfl, rfl, rfl, rfl, rfl, rfl, trivial⟩) fun a' w' hat' => hx0 () rfl a' w' hat'
      · rw [if_neg h2] at h
        by_cases h7 : v13 = (1 : Int)
        · rw [if_pos h7] at h
          obtain ⟨r8, hr8, h⟩ := Option.bind_eq_some_iff.1 h
          have Kr8 : KO Tryz.prog [p0, p1, p2, p3, p4, p5, p6, p7, p8, p9, p10, p11, p12, v13, bI r8] [] m5e_k9 := fun N M => ⟨_, _, [(ns 0 14)], ⟨b_Within_ok p9 (-100 : Int) (100 : Int) r8 hr8, ⟨(r p9), (show (-100 : Int) = (-100 : Int) from rfl), (r (100 : Int)), trivial⟩, by kernel_rfl, ⟨rfl, trivial⟩⟩⟩
          by_cases h9 : r8 = true
          · rw [if_pos h9] at h
            obtain ⟨r10, hr10, h⟩ := Option.bind_eq_some_iff.1 h
            have Kr10 : KO Tryz.prog [p0, p1, p2, p3, p4, p5, p6, p7, p8, p9, p10, p11, p12, v13, bI r8, bI r10] [] m5e_k10 := fun N M => ⟨_, _, [(ns 0 15)], ⟨b_Within_ok p10 (-100 : Int) (100 : Int) r10 hr10, ⟨(r p10), (show (-100 : Int) = (-100 : Int) from rfl), (r (100 : Int)), trivial⟩, by kernel_rfl, ⟨rfl, trivial⟩⟩⟩
            by_cases h11 : r10 = true
            · rw [if_pos h11] at h
              refine to_done mixed ⟨[(.lss, (.v 13), (.c 3), true), (.eql, (.v 13), (.c 2), false), (.eql, (.v 13), (.c 1), true), (.neq, (.v 14), (.c 0), true), (.neq, (.v 15), (.c 0), true)], [], [], [m5e_k9, m5e_k10], [], []⟩ (V := (vals [p0, p1, p2, p3, p4, p5, p6, p7, p8, p9, p10, p11, p12, v13, bI r8, bI r10] [])) (n := 3000) (f := 3000) (V' := (vals [p0, p1, p2, p3, p4, p5, p6, p7, p8, p9, p10, p11, p12, (IntKind.wrap .i64 (v13 + (1 : Int)))] [])) ⟨⟨lss_t h1, eql_f h2, eql_t h7, bi_t h9, bi_t h11, trivial⟩, trivial, trivial, trivial, trivial⟩ ⟨Kr8 _ _, Kr10 _ _, trivial⟩ (T := ttM5e_1) (ce := .normal) (qs := qqM5e_2) hF hr (by kernel_rfl) ⟨(r (IntKind.wrap .i64 (v13 + (1 : Int)))), (r p0), (r p1), (r p2), (r p3), (r p4), (r p5), (r p6), (r p7), (r p8), (r p9), (r p10), (r p11), (r p12), trivial⟩ (at_re (V' := (vals [p0, p1, p2, p3, p4, p5, p6, p7, p8, p9, p10, p11, p12, v13, bI r8, bI r10] [])) (T := ttM5e_1) (qs := qqM5e_1) hat (by kernel_rfl) ⟨rfl, rfl, rfl, rfl, rfl, rfl, rfl, rfl, rfl, rfl, rfl, rfl, rfl, rfl, trivial⟩) fun a' w' hat' => ?_
              exact r5_MoveErr_L1_ok fu p0 p1 p2 p3 p4 p5 p6 p7 p8 p9 p10 p11 p12 n (IntKind.wrap .i64 (v13 + (1 : Int))) o h _ _ _ _ _ _ _ hF hr hat' hx0 hx1
            · rw [if_neg h11] at h
              injection h with h; subst h
              exact to_done mixed ⟨[(.lss, (.v 13), (.c 3), true), (.eql, (.v 13), (.c 2), false), (.eql, (.v 13), (.c 1), true), (.neq, (.v 14), (.c 0), true), (.neq, (.v 15), (.c 0), false)], [], [], [m5e_k9, m5e_k10], [], []⟩ (V := (vals [p0, p1, p2, p3, p4, p5, p6, p7, p8, p9, p10, p11, p12, v13, bI r8, bI r10] [])) (n := 3000) (f := 3000) (V' := (vals [] [])) ⟨⟨lss_t h1, eql_f h2, eql_t h7, bi_t h9, bi_f h11, trivial⟩, trivial, trivial, trivial, trivial⟩ ⟨Kr8 _ _, Kr10 _ _, trivial⟩ (T := ⟨[(2, .int .i64 2)], [], []⟩) (ce := .ret) (qs := []) hF hr (by kernel_rfl) trivial (at_re (V' := (vals [p0, p1, p2, p3, p4, p5, p6, p7, p8, p9, p10, p11, p12, v13, bI r8, bI r10] [])) (T := ttM5e_1) (qs := qqM5e_1) hat (by kernel_rfl) ⟨rfl, rfl, rfl, rfl, rfl, rfl, rfl, rfl, rfl, rfl, rfl, rfl, rfl, rfl, trivial⟩) fun a' w' hat' => hx0 () rfl a' w' hat'
          · rw [if_neg h9] at h
            injection h with h; subst h
            exact to_done mixed ⟨[(.lss, (.v 13), (.c 3), true), (.eql, (.v 13), (.c 2), false), (.eql, (.v 13), (.c 1), true), (.neq, (.v 14), (.c 0), false)], [], [], [m5e_k9], [], []⟩ (V := (vals [p0, p1, p2, p3, p4, p5, p6, p7, p8, p9, p10, p11, p12, v13, bI r8] [])) (n := 3000) (f := 3000) (V' := (vals [] [])) ⟨⟨lss_t h1, eql_f h2, eql_t h7, bi_f h9, trivial⟩, trivial, trivial, trivial, trivial⟩ ⟨Kr8 _ _, trivial⟩ (T := ⟨[(2, .int .i64 2)], [], []⟩) (ce := .ret) (qs := []) hF hr (by kernel_rfl) trivial (at_re (V' := (vals [p0, p1, p2, p3, p4, p5, p6, p7, p8, p9, p10, p11, p12, v13, bI r8] [])) (T := ttM5e_1) (qs := qqM5e_1) hat (by kernel_rfl) ⟨rfl, rfl, rfl, rfl, rfl, rfl, rfl, rfl, rfl, rfl, rfl, rfl, rfl, rfl, trivial⟩) fun a' w' hat' => hx0 () rfl a' w' hat'
        · rw [if_neg h7] at h
          by_cases h12 : v13 = (0 : Int)
          · rw [if_pos h12] at h
            obtain ⟨r13, hr13, h⟩ := Option.bind_eq_some_iff.1 h
            have Kr13 : KO Tryz.prog [p0, p1, p2, p3, p4, p5, p6, p7, p8, p9, p10, p11, p12, v13, bI r13] [] m5e_k11 := fun N M => ⟨_, _, [(ns 0 14)], ⟨b_Within_ok p7 (-100 : Int) (100 : Int) r13 hr13, ⟨(r p7), (show (-100 : Int) = (-100 : Int) from rfl), (r (100 : Int)), trivial⟩, by kernel_rfl, ⟨rfl, trivial⟩⟩⟩
            by_cases h14 : r13 = true
            · rw [if_pos h14] at h
              obtain ⟨r15, hr15, h⟩ := Option.bind_eq_some_iff.1 h
              have Kr15 : KO Tryz.prog [p0, p1, p2, p3, p4, p5, p6, p7, p8, p9, p10, p11, p12, v13, bI r13, bI r15] [] m5e_k12 := fun N M => ⟨_, _, [(ns 0 15)], ⟨b_Within_ok p8 (-100 : Int) (100 : Int) r15 hr15, ⟨(r p8), (show (-100 : Int) = (-100 : Int) from rfl), (r (100 : Int)), trivial⟩, by kernel_rfl, ⟨rfl, trivial⟩⟩⟩
              by_cases h16 : r15 = true
              · rw [if_pos h16] at h
                refine to_done mixed ⟨[(.lss, (.v 13), (.c 3), true), (.eql, (.v 13), (.c 2), false), (.eql, (.v 13), (.c 1), false), (.eql, (.v 13), (.c 0), true), (.neq, (.v 14), (.c 0), true), (.neq, (.v 15), (.c 0), true)], [], [], [m5e_k11, m5e_k12], [], []⟩ (V := (vals [p0, p1, p2, p3, p4, p5, p6, p7, p8, p9, p10, p11, p12, v13, bI r13, bI r15] [])) (n := 3000) (f := 3000) (V' := (vals [p0, p1, p2, p3, p4, p5, p6, p7, p8, p9, p10, p11, p12, (IntKind.wrap .i64 (v13 + (1 : Int)))] [])) ⟨⟨lss_t h1, eql_f h2, eql_f h7, eql_t h12, bi_t h14, bi_t h16, trivial⟩, trivial, trivial, trivial, trivial⟩ ⟨Kr13 _ _, Kr15 _ _, trivial⟩ (T := ttM5e_1) (ce := .normal) (qs := qqM5e_2) hF hr (by kernel_rfl) ⟨(r (IntKind.wrap .i64 (v13 + (1 : Int)))), (r p0), (r p1), (r p2), (r p3), (r p4), (r p5), (r p6), (r p7), (r p8), (r p9), (r p10), (r p11), (r p12), trivial⟩ (at_re (V' := (vals [p0, p1, p2, p3, p4, p5, p6, p7, p8, p9, p10, p11, p12, v13, bI r13, bI r15] [])) (T := ttM5e_1) (qs := qqM5e_1) hat (by kernel_rfl) ⟨rfl, rfl, rfl, rfl, rfl, rfl, rfl, rfl, rfl, rfl, rfl, rfl, rfl, rfl, trivial⟩) fun a' w' hat' => ?_
                exact r5_MoveErr_L1_ok fu p0 p1 p2 p3 p4 p5 p6 p7 p8 p9 p10 p11 p12 n (IntKind.wrap .i64 (v13 + (1 : Int))) o h _ _ _ _ _ _ _ hF hr hat' hx0 hx1
              · rw [if_neg h16] at h
                injection h with h; subst h
                exact to_done mixed ⟨[(.lss, (.v 13), (.c 3), true), (.eql, (.v 13), (.c 2), false), (.eql, (.v 13), (.c 1), false), (.eql, (.v 13), (.c 0), true), (.neq, (.v 14), (.c 0), true), (.neq, (.v 15), (.c 0), false)], [], [], [m5e_k11, m5e_k12], [], []⟩ (V := (vals [p0, p1, p2, p3, p4, p5, p6, p7, p8, p9, p10, p11, p12, v13, bI r13, bI r15] [])) (n := 3000) (f := 3000) (V' := (vals [] [])) ⟨⟨lss_t h1, eql_f h2, eql_f h7, eql_t h12, bi_t h14, bi_f h16, trivial⟩, trivial, trivial, trivial, trivial⟩ ⟨Kr13 _ _, Kr15 _ _, trivial⟩ (T := ⟨[(2, .int .i64 2)], [], []⟩) (ce := .ret) (qs := []) hF hr (by kernel_rfl) trivial (at_re (V' := (vals [p0, p1, p2, p3, p4, p5, p6, p7, p8, p9, p10, p11, p12, v13, bI r13, bI r15] [])) (T := ttM5e_1) (qs := qqM5e_1) hat (by kernel_rfl) ⟨rfl, rfl, rfl, rfl, rfl, rfl, rfl, rfl, rfl, rfl, rfl, rfl, rfl, rfl, trivial⟩) fun a' w' hat' => hx0 () rfl a' w' hat'
            · rw [if_neg h14] at h
              injection h with h; subst h
              exact to_done mixed ⟨[(.lss, (.v 13), (.c 3), true), (.eql, (.v 13), (.c 2), false), (.eql, (.v 13), (.c 1), false), (.eql, (.v 13), (.c 0), true), (.neq, (.v 14), (.c 0), false)], [], [], [m5e_k11], [], []⟩ (V := (vals [p0, p1, p2, p3, p4, p5, p6, p7, p8, p9, p10, p11, p12, v13, bI r13] [])) (n := 3000) (f := 3000) (V' := (vals [] [])) ⟨⟨lss_t h1, eql_f h2, eql_f h7, eql_t h12, bi_f h14, trivial⟩, trivial, trivial, trivial, trivial⟩ ⟨Kr13 _ _, trivial⟩ (T := ⟨[(2, .int .i64 2)], [], []⟩) (ce := .ret) (qs := []) hF hr (by kernel_rfl) trivial (at_re (V' := (vals [p0, p1, p2, p3, p4, p5, p6, p7, p8, p9, p10, p11, p12, v13, bI r13] [])) (T := ttM5e_1) (qs := qqM5e_1) hat (by kernel_rfl) ⟨rfl, rfl, rfl, rfl, rfl, rfl, rfl, rfl, rfl, rfl, rfl, rfl, rfl, rfl, trivial⟩) fun a' w' hat' => hx0 () rfl a' w' hat'
          · rw [if_neg h12] at h
            cases h
    · rw [if_neg h1] at h
      injection h with h; subst h
      exact to_done mixed ⟨[(.lss, (.v 13), (.c 3), false)], [], [], [], [], []⟩ (V := (vals [p0, p1, p2, p3, p4, p5, p6, p7, p8, p9, p10, p11, p12, v13] [])) (n := 3000) (f := 3000) (V' := (vals [p0, p1, p2, p3, p4, p5, p6] [])) ⟨⟨lss_f h1, trivial⟩, trivial, trivial, trivial, trivial⟩ trivial (T := ttM5e_3) (ce := (.exit 0)) (qs := qqM5e_4) hF hr (by kernel_rfl) ⟨(r p0), (r p1), (r p2), (r p3), (r p4), (r p5), (r p6), trivial⟩ hat fun a' w' hat' => hx1 () rfl a' w' hat'
def r5_MoveErr (fu : Nat) (a0_0 : Int) (a0_1 : Int) (a0_2 : Int) (a0_3 : Int) (a0_4 : Int) (a0_5 : Int) (a0_6 : Int) : Option (Int) := Option.bind (b_Within a0_0 (0 : Int) (1000 : Int)) fun r1 => if r1 = true then (Option.bind (r5_Sides a0_1 a0_2 a0_3 a0_4 a0_5 a0_6) fun r3 => Option.bind (r5_MoveErr_L1 fu a0_0 a0_1 a0_2 a0_3 a0_4 a0_5 a0_6 r3.1 r3.2.1 r3.2.2.1 r3.2.2.2.1 r3.2.2.2.2.1 r3.2.2.2.2.2 fu (0 : Int)) fun o4 => (match o4 with | .inl y5 => (some (2 : Int)) | .inr y6 => (Option.bind (r5_IsEmpty a0_1 a0_2 a0_3 a0_4 a0_5 a0_6) fun r7 => if r7 = true then (some (9 : Int)) else (some (0 : Int))))) else (some (2 : Int))
theorem r5_MoveErr_ok (fu : Nat) (a0_0 : Int) (a0_1 : Int) (a0_2 : Int) (a0_3 : Int) (a0_4 : Int) (a0_5 : Int) (a0_6 : Int) (y : Int) (h : r5_MoveErr fu a0_0 a0_1 a0_2 a0_3 a0_4 a0_5 a0_6 = some y) : CallOk Tryz.prog 38 (vals [a0_0, a0_1, a0_2, a0_3, a0_4, a0_5, a0_6] []) [.agg [(ys 0), (ys 1), (ys 2), (ys 3), (ys 4), (ys 5), (ys 6)]] [] 0 (vals [y] []) ((ys 0)) [] := by
  refine fun_of (nt := 33) (by kernel_rfl) (by kernel_rfl) fun φ0 w0 a w hat => ?_
  have hF := wide_fw
  have hr : Fence.wide.round = none := rfl
  unfold r5_MoveErr at h
  obtain ⟨r1, hr1, h⟩ := Option.bind_eq_some_iff.1 h
  have Kr1 : KO Tryz.prog [a0_0, a0_1, a0_2, a0_3, a0_4, a0_5, a0_6, bI r1] [] m5e_k13 := fun N M => ⟨_, _, [(ns 0 7)], ⟨b_Within_ok a0_0 (0 : Int) (1000 : Int) r1 hr1, ⟨(r a0_0), (r (0 : Int)), (r (1000 : Int)), trivial⟩, by kernel_rfl, ⟨rfl, trivial⟩⟩⟩
  by_cases h2 : r1 = true
  · rw [if_pos h2] at h
    obtain ⟨r3, hr3, h⟩ := Option.bind_eq_some_iff.1 h
    have Kr3 : KO Tryz.prog [a0_0, a0_1, a0_2, a0_3, a0_4, a0_5, a0_6, bI r1, r3.1, r3.2.1, r3.2.2.1, r3.2.2.2.1, r3.2.2.2.2.1, r3.2.2.2.2.2] [] ⟨44, 1, [], [.agg [(ys 0), (ys 1), (ys 2), (ys 3), (ys 4), (ys 5)]], [], [(ns 1 0), (ns 2 1), (ns 3 2), (ns 4 3), (ns 5 4), (ns 6 5)], 0, .agg [(ys 0), (ys 1), (ys 2), (ys 3), (ys 4), (ys 5)], [], .agg [(ys 8), (ys 9), (ys 10), (ys 11), (ys 12), (ys 13)], [], []⟩ := fun N M => ⟨_, _, [(ns 0 8), (ns 1 9), (ns 2 10), (ns 3 11), (ns 4 12), (ns 5 13)], ⟨r5_Sides_ok a0_1 a0_2 a0_3 a0_4 a0_5 a0_6 r3 hr3, ⟨(r a0_1), (r a0_2), (r a0_3), (r a0_4), (r a0_5), (r a0_6), trivial⟩, by kernel_rfl, ⟨rfl, rfl, rfl, rfl, rfl, rfl, trivial⟩⟩⟩
    obtain ⟨o4, ho4, h⟩ := Option.bind_eq_some_iff.1 h
    refine to_loop mixed ⟨[(.neq, (.v 7), (.c 0), true)], [], [], [m5e_k13, ⟨44, 1, [], [.agg [(ys 0), (ys 1), (ys 2), (ys 3), (ys 4), (ys 5)]], [], [(ns 1 0), (ns 2 1), (ns 3 2), (ns 4 3), (ns 5 4), (ns 6 5)], 0, .agg [(ys 0), (ys 1), (ys 2), (ys 3), (ys 4), (ys 5)], [], .agg [(ys 8), (ys 9), (ys 10), (ys 11), (ys 12), (ys 13)], [], []⟩], [], []⟩ (V := (vals [a0_0, a0_1, a0_2, a0_3, a0_4, a0_5, a0_6, bI r1, r3.1, r3.2.1, r3.2.2.1, r3.2.2.2.1, r3.2.2.2.2.1, r3.2.2.2.2.2] [])) (n := 3000) (f := 3000) (V' := (vals [a0_0, a0_1, a0_2, a0_3, a0_4, a0_5, a0_6, r3.1, r3.2.1, r3.2.2.1, r3.2.2.2.1, r3.2.2.2.2.1, r3.2.2.2.2.2, (0 : Int)] [])) ⟨⟨bi_t h2, trivial⟩, trivial, trivial, trivial, trivial⟩ ⟨Kr1 _ _, Kr3 _ _, trivial⟩ (T := ttM5e_1) (B := subAt (bodyOf Tryz.prog 38) [1, 1, 1, 0, 1, 0, 0]) (K' := [.bk 0, .sq (subAt (bodyOf Tryz.prog 38) [1, 1, 1, 1]) [1, 1, 1, 1]]) (qs := [.num (.c 0) (.v 13), (ns 0 0), (ns 1 1), (ns 2 2), (ns 3 3), (ns 4 4), (ns 5 5), (ns 6 6), (ns 8 7), (ns 9 8), (ns 10 9), (ns 11 10), (ns 12 11), (ns 13 12)]) hF hr (by kernel_rfl) ⟨(r (0 : Int)), (r a0_0), (r a0_1), (r a0_2), (r a0_3), (r a0_4), (r a0_5), (r a0_6), (r r3.1), (r r3.2.1), (r r3.2.2.1), (r r3.2.2.2.1), (r r3.2.2.2.2.1), (r r3.2.2.2.2.2), trivial⟩ (at_re (V' := (vals [a0_0, a0_1, a0_2, a0_3, a0_4, a0_5, a0_6, bI r1, r3.1, r3.2.1, r3.2.2.1, r3.2.2.2.1, r3.2.2.2.2.1, r3.2.2.2.2.2] [])) (T := ttM5e_4) (qs := qqM5e_4) hat (by kernel_rfl) ⟨rfl, rfl, rfl, rfl, rfl, rfl, rfl, trivial⟩) fun aa1 ww1 hat1 => loop_in (r5_MoveErr_L1_ok fu a0_0 a0_1 a0_2 a0_3 a0_4 a0_5 a0_6 r3.1 r3.2.1 r3.2.2.1 r3.2.2.2.1 r3.2.2.2.2.1 r3.2.2.2.2.2 fu (0 : Int) o4 ho4 _ _ _ _ _ _ _ hF hr hat1 ?_ ?_)
    · intro y5 hy aa2 ww2 hat
      subst hy
      dsimp only at h
      show (Wk.out .ret).goal _ _ _ [.bk 0, .sq (subAt (bodyOf Tryz.prog 38) [1, 1, 1, 1]) [1, 1, 1, 1]] _ aa2 ww2
      injection h with h; subst h
      exact to_fin mixed ⟨[], [], [], [], [], []⟩ (V := (vals [] [])) (n := 3000) (f := 3000) ⟨trivial, trivial, trivial, trivial, trivial⟩ trivial (R := ⟨(ys 0), [], []⟩) (qs := [.num (.c 2) (.v 0)]) hF hr (by kernel_rfl) ⟨(r (2 : Int)), trivial⟩ hat
    · intro y6 hy aa2 ww2 hat
      subst hy
      dsimp only at h
      show (Wk.out (.exit 0)).goal _ _ _ [.bk 0, .sq (subAt (bodyOf Tryz.prog 38) [1, 1, 1, 1]) [1, 1, 1, 1]] _ aa2 ww2
      obtain ⟨r7, hr7, h⟩ := Option.bind_eq_some_iff.1 h
      have Kr7 : KO Tryz.prog [a0_0, a0_1, a0_2, a0_3, a0_4, a0_5, a0_6, bI r7] [] m5e_k14 := fun N M => ⟨_, _, [(ns 0 7)], ⟨r5_IsEmpty_ok a0_1 a0_2 a0_3 a0_4 a0_5 a0_6 r7 hr7, ⟨(r a0_1), (r a0_2), (r a0_3), (r a0_4), (r a0_5), (r a0_6), trivial⟩, by kernel_rfl, ⟨rfl, trivial⟩⟩⟩
      by_cases h8 : r7 = true
      · rw [if_pos h8] at h
        injection h with h; subst h
        exact to_fin mixed ⟨[(.neq, (.v 7), (.c 0), true)], [], [], [m5e_k14], [], []⟩ (V := (vals [a0_0, a0_1, a0_2, a0_3, a0_4, a0_5, a0_6, bI r7] [])) (n := 3000) (f := 3000) ⟨⟨bi_t h8, trivial⟩, trivial, trivial, trivial, trivial⟩ ⟨Kr7 _ _, trivial⟩ (R := ⟨(ys 0), [], []⟩) (qs := [.num (.c 9) (.v 0)]) hF hr (by kernel_rfl) ⟨(r (9 : Int)), trivial⟩ (at_re (V' := (vals [a0_0, a0_1, a0_2, a0_3, a0_4, a0_5, a0_6, bI r7] [])) (T := ttM5e_3) (qs := qqM5e_4) hat (by kernel_rfl) ⟨rfl, rfl, rfl, rfl, rfl, rfl, rfl, trivial⟩)
      · rw [if_neg h8] at h
        injection h with h; subst h
        exact to_fin mixed ⟨[(.neq, (.v 7), (.c 0), false)], [], [], [m5e_k14], [], []⟩ (V := (vals [a0_0, a0_1, a0_2, a0_3, a0_4, a0_5, a0_6, bI r7] [])) (n := 3000) (f := 3000) ⟨⟨bi_f h8, trivial⟩, trivial, trivial, trivial, trivial⟩ ⟨Kr7 _ _, trivial⟩ (R := ⟨(ys 0), [], []⟩) (qs := [.num (.c 0) (.v 0)]) hF hr (by kernel_rfl) ⟨(r (0 : Int)), trivial⟩ (at_re (V' := (vals [a0_0, a0_1, a0_2, a0_3, a0_4, a0_5, a0_6, bI r7] [])) (T := ttM5e_3) (qs := qqM5e_4) hat (by kernel_rfl) ⟨rfl, rfl, rfl, rfl, rfl, rfl, rfl, trivial⟩)
  · rw [if_neg h2] at h
    injection h with h; subst h
    exact to_fin mixed ⟨[(.neq, (.v 7), (.c 0), false)], [], [], [m5e_k13], [], []⟩ (V := (vals [a0_0, a0_1, a0_2, a0_3, a0_4, a0_5, a0_6, bI r1] [])) (n := 3000) (f := 3000) ⟨⟨bi_f h2, trivial⟩, trivial, trivial, trivial, trivial⟩ ⟨Kr1 _ _, trivial⟩ (R := ⟨(ys 0), [], []⟩) (qs := [.num (.c 2) (.v 0)]) hF hr (by kernel_rfl) ⟨(r (2 : Int)), trivial⟩ (at_re (V' := (vals [a0_0, a0_1, a0_2, a0_3, a0_4, a0_5, a0_6, bI r1] [])) (T := ttM5e_4) (qs := qqM5e_4) hat (by kernel_rfl) ⟨rfl, rfl, rfl, rfl, rfl, rfl, rfl, trivial⟩)
end Go.Proofs.YtaafodbiigdbaaaGreat
