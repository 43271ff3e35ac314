/-
  Go functions as Lean functions (written by tools/lift.py).
-/
import Derived.Test.YtaafodbiigdbaaaGreatZEd
import Derived.Test.YtaafodbiigdbaaaGreatZEg
set_option linter.all false
namespace Go.Proofs.YtaafodbiigdbaaaGreat
open Go Go.RowKit Cm
set_option maxRecDepth 100000
set_option maxHeartbeats 4000000
abbrev ttN5a_1 : Pat := ⟨[(2, .ptr 0 0), (3, .ptr 1 0), (4, .ptr 2 0), (6, (ys 12))], [some (.cells [(ys 0), (ys 1), (ys 2), (ys 3), (ys 4), (ys 5)] 163 false), some (.cells [(ys 6), (ys 7), (ys 8), (ys 9), (ys 10), (ys 11)] 163 false), some (.cells [.int .i64 0, .int .i64 0, .int .i64 0, .int .i64 0, .int .i64 0, .int .i64 0] 163 false)], [some (0, 0), some (1, 0), some (2, 0)]⟩
abbrev ttN5a_2 : Pat := ⟨[(0, .agg [(ys 0), (ys 1), (ys 2), (ys 3), (ys 4), (ys 5)]), (1, .agg [(ys 6), (ys 7), (ys 8), (ys 9), (ys 10), (ys 11)])], [], []⟩
abbrev ttN5a_3 : Pat := ⟨[(1, .fn 161 [] [.ptr 1 0, .ptr 2 0]), (9, .gs 0 0 (.v 0) 1 false), (10, (ys 3)), (11, (ys 4))], [some (.rows 0 [] 3 true), some (.cells [(ys 1)] 3 false), some (.cells [(ys 2)] 3 false)], [some (0, 0), some (1, 0), some (2, 0)]⟩
abbrev ttN5a_4 : Pat := ⟨[(0, .agg [(ys 0), (ys 1), (ys 2), (ys 3), (ys 4), (ys 5), .gs 0 0 (.v 6) 4 false]), (1, .agg [(ys 7), (ys 8), (ys 9), (ys 10), (ys 11), (ys 12)])], [some (.rows 0 [] 82 true)], [some (0, 0)]⟩
abbrev ttN5a_5 : Pat := ⟨[(1, .fn 85 [] [.ptr 1 0]), (9, .gs 0 0 (.v 0) 4 false), (10, (ys 3)), (11, (ys 4))], [some (.rows 0 [] 82 true), some (.cells [.fn 156 [] [.ptr 2 0, .ptr 3 0]] 153 false), some (.cells [.gs 4 0 (.v 1) 1 true] 243 false), some (.cells [(ys 2)] 28 false), some (.rows 1 [] 9 false)], [some (0, 0), some (1, 0), some (2, 0), some (3, 0), some (4, 0)]⟩
abbrev ttN5a_6 : Pat := ⟨[(0, .ss (.v 0)), (1, .ptr 0 0), (2, .ptr 2 0)], [some (.cells [.gs 1 0 (.v 1) 1 true] 243 false), some (.rows 0 [] 9 false), some (.cells [(ys 2)] 28 false)], [some (0, 0), some (1, 0), some (2, 0)]⟩
abbrev ttN5a_7 : Pat := ⟨[(0, (ys 1)), (7, .gs 0 0 (.v 0) 1 false), (8, (ys 2)), (9, (ys 3))], [some (.rows 0 [] 3 true)], [some (0, 0)]⟩
abbrev ttN5a_8 : Pat := ⟨[(0, .agg [(ys 0), (ys 1), (ys 2), (ys 3), (ys 4), (ys 5), .gs 0 0 (.v 6) 4 false])], [some (.rows 0 [] 82 true)], [some (0, 0)]⟩
abbrev ttN5a_9 : Pat := ⟨[(1, .fn 88 [] []), (9, .gs 0 0 (.v 0) 2 false), (10, (ys 1)), (11, (ys 2))], [some (.rows 0 [] 47 true)], [some (0, 0)]⟩
abbrev ttN5a_10 : Pat := ⟨[(0, .gs 0 0 (.v 0) 1 false), (1, .ss (.v 1)), (7, (ys 2)), (8, (ys 3))], [some (.rows 0 [] 9 true)], [some (0, 0)]⟩
abbrev ttN5a_11 : Pat := ⟨[(5, .gs 0 0 (.v 0) 1 false), (6, (ys 1)), (7, (ys 2))], [some (.rows 0 [] 28 true)], [some (0, 0)]⟩
abbrev ttN5a_13 : Pat := ⟨[(0, .agg [(ys 0), (ys 1), (ys 2), (ys 3), (ys 4), (ys 5)])], [], []⟩
abbrev qqN5a_1 : List Eqn := [(ns 0 0), (ns 1 1), (ns 2 2), (ns 3 3), (ns 4 4), (ns 5 5), (ns 6 6), (ns 7 7), (ns 8 8), (ns 9 9), (ns 10 10), (ns 11 11)]
abbrev qqN5a_2 : List Eqn := [(ns 0 0), (ns 1 1), (ns 2 2), (ns 3 3), (ns 4 4), (ns 5 5), (ns 6 6), (ns 7 7), (ns 8 8), (ns 9 9), (ns 10 10), (ns 11 11), (ns 12 12), .lst 0 (some 0) []]
abbrev qqN5a_3 : List Eqn := [(ns 12 12), (ns 0 0), (ns 1 1), (ns 2 2), (ns 3 3), (ns 4 4), (ns 5 5), (ns 6 6), (ns 7 7), (ns 8 8), (ns 9 9), (ns 10 10), (ns 11 11)]
abbrev qqN5a_4 : List Eqn := [(ns 0 0), (ns 1 1), (ns 2 2), (ns 3 3), (ns 4 4), (ns 5 5), (ns 6 6), .lst 0 (some 0) []]
abbrev qqN5a_5 : List Eqn := [(ns 0 0), (ns 3 3), (ns 4 4), .lst 0 (some 0) [], (ns 1 1), (ns 2 2), .lst 1 (some 1) []]
abbrev rrN5a_1 : Res := ⟨.tup [(ys 0), (ys 1)], [none, some (.cells [.fn 156 [] [.ptr 2 0, .ptr 3 0]] 153 false), some (.cells [.gs 4 0 (.v 2) 1 true] 243 false), some (.cells [(ys 3)] 28 false), some (.rows 0 [] 9 false)], [some (0, 0), some (1, 0), some (2, 0), some (3, 0), some (4, 0)]⟩
abbrev rrN5a_2 : Res := ⟨.tup [(ys 0), (ys 1)], [none, some (.cells [.fn 156 [] [.ptr 2 0, .ptr 3 0]] 153 false), some (.cells [.gs 4 0 (.v 2) 1 true] 243 false), some (.cells [(ys 3)] 28 false), some (.rows 0 [] 9 false)], [some (0, 0), some (1, 0), some (2, 0), some (3, 0), none]⟩
abbrev rrN5a_3 : Res := ⟨(ys 0), [some (.cells [.gs 3 0 (.v 1) 1 true] 243 false), none, some (.cells [(ys 2)] 28 false), some (.rows 0 [] 9 false)], [some (0, 0), some (1, 0), some (2, 0), some (1, 0)]⟩
abbrev rrN5a_4 : Res := ⟨.tup [(ys 0), (ys 1)], [none, some (.cells [(ys 2)] 3 false), some (.cells [(ys 3)] 3 false)], [some (0, 0), some (1, 0), some (2, 0)]⟩
abbrev rrN5a_6 : Res := ⟨.agg [(ys 0), (ys 1), (ys 2), (ys 3), (ys 4), (ys 5)], [], []⟩
abbrev vvN5a_37_1 (a0_0 : Int) (a0_1 : Int) (a0_2 : Int) (a0_3 : Int) (a0_4 : Int) (a0_5 : Int) (a0_6 : List (Int × Int × Int × Int)) (a1_0 : Int) (a1_1 : Int) (a1_2 : Int) (a1_3 : Int) (a1_4 : Int) (a1_5 : Int) (r1 : Int) (r2 : Int × Int × Int × Int × Int × Int) (r3 : Int) (r4 : Int) (r6 : Int × Int × Int × Int × Int × Int) (r7 : Int × Int × Int × Int × Int × Int) (r8 : Bool) : Val := (vals [a0_0, a0_1, a0_2, a0_3, a0_4, a0_5, (a0_6.length : Int), a1_0, a1_1, a1_2, a1_3, a1_4, a1_5, r1, r2.1, r2.2.1, r2.2.2.1, r2.2.2.2.1, r2.2.2.2.2.1, r2.2.2.2.2.2, r3, r4, r6.1, r6.2.1, r6.2.2.1, r6.2.2.2.1, r6.2.2.2.2.1, r6.2.2.2.2.2, r7.1, r7.2.1, r7.2.2.1, r7.2.2.2.1, r7.2.2.2.2.1, r7.2.2.2.2.2, bI r8] [(a0_6.flatMap enSIII)])
@[reducible] def n5a_k1 : KE := ⟨160, 1, [], [(ys 0), (ys 1)], [], [(ns 4 0), (ns 1 1)], 0, .bs (.v 0), [], .bs (.v 5), [], []⟩
@[reducible] def n5a_k2 : KE := ⟨161, 3, [some (1, 0), some (2, 0)], [(ys 0), .ptr 0 0, .ptr 1 0], [some (.cells [(ys 1)] 3 false), some (.cells [(ys 2)] 3 false)], [(ns 5 0), (ns 1 1), (ns 2 2)], 0, (ys 0), [some (.cells [(ys 1)] 3 false), some (.cells [(ys 2)] 3 false)], (ys 6), [], [(1, some (.cells [(ys 1)] 3 false)), (2, some (.cells [(ys 2)] 3 false))]⟩
@[reducible] def n5a_k3 : KE := ⟨88, 2, [], [.agg [(ys 0), (ys 1)]], [], [(ns 3 0), (ns 4 1)], 0, (ys 0), [], (ys 5), [], []⟩
@[reducible] def n5a_k4 : KE := ⟨227, 0, [], [.sym .u8 (.v 0)], [], [.num (.sat (.v 0) (.v 2)) (.v 0)], 0, .bs (.v 0), [], .bs (.v 3), [], []⟩
@[reducible] def n5a_k5 : KE := ⟨228, 0, [], [.sym .u8 (.v 0)], [], [.num (.sat (.v 0) (.v 2)) (.v 0)], 0, .bs (.v 0), [], .bs (.v 4), [], []⟩
@[reducible] def n5a_k6 : KE := ⟨227, 0, [], [.sym .u8 (.v 0)], [], [.num (.sat (.v 0) (.c 0)) (.v 0)], 0, .bs (.v 0), [], .bs (.v 1), [], []⟩
@[reducible] def n5a_k7 : KE := ⟨196, 0, [], [.ss (.v 0)], [], [(ns 0 0)], 0, .bs (.v 0), [], .bs (.v 1), [], []⟩
@[reducible] def n5a_k8 : KE := ⟨197, 1, [some (0, 0)], [.gs 0 0 (.v 0) 1 false, .ss (.v 1)], [some (.rows 0 [] 9 true)], [(ns 0 0), (ns 1 1), .lst 0 (some 0) []], 1, (ys 0), [none], (ys 2), [], []⟩
@[reducible] def n5a_k11 : KE := ⟨157, 3, [], [.ss (.v 0)], [], [(ns 0 0)], 0, (ys 0), [], (ys 3), [], []⟩
@[reducible] def n5a_k12 : KE := ⟨158, 3, [some (1, 0)], [.gs 0 0 (.v 0) 1 false, .ss (.v 1)], [some (.rows 0 [] 9 true)], [(ns 1 0), (ns 0 1), .lst 0 (some 0) []], 1, .bs (.v 0), [none], .bs (.v 4), [], []⟩
@[reducible] def n5a_k13 : KE := ⟨85, 6, [some (1, 0), some (2, 0), some (4, 0), some (3, 0)], [.agg [.ss (.v 0), (ys 1), (ys 2), (ys 3)], .ptr 0 0], [some (.cells [.fn 156 [] [.ptr 1 0, .ptr 3 0]] 153 false), some (.cells [.gs 2 0 (.v 4) 1 true] 243 false), some (.rows 0 [] 9 false), some (.cells [(ys 5)] 28 false)], [(ns 5 0), (ns 6 1), (ns 7 2), (ns 8 3), (ns 1 4), .lst 0 (some 1) [], (ns 2 5)], 0, (ys 0), [some (.cells [.fn 156 [] [.ptr 1 0, .ptr 3 0]] 153 false), some (.cells [.gs 4 0 (.v 1) 1 true] 243 false), none, some (.cells [(ys 2)] 28 false), some (.rows 0 [] 9 false)], (ys 10), [some (.rows 2 [] 9 false)], [(1, some (.cells [.fn 156 [] [.ptr 2 0, .ptr 3 0]] 153 false)), (2, some (.cells [.gs 6 0 (.v 9) 1 true] 243 false)), (4, none), (3, some (.cells [(ys 2)] 28 false))]⟩
@[reducible] def n5a_k14 : KE := ⟨82, 2, [], [.agg [(ys 0), (ys 1), (ys 2), (ys 3), (ys 4), (ys 5)]], [], [(ns 0 0), (ns 1 1), (ns 2 2), (ns 3 3), (ns 4 4), (ns 5 5)], 0, (ys 0), [], (ys 7), [], []⟩
@[reducible] def n5a_k15 : KE := ⟨100, 2, [], [.agg [(ys 0), (ys 1), (ys 2), (ys 3), (ys 4), (ys 5)], .agg [(ys 6), (ys 7), (ys 8), (ys 9), (ys 10), (ys 11)]], [], [(ns 0 0), (ns 1 1), (ns 2 2), (ns 3 3), (ns 4 4), (ns 5 5), (ns 6 6), (ns 7 7), (ns 8 8), (ns 9 9), (ns 10 10), (ns 11 11)], 0, .agg [(ys 0), (ys 1), (ys 2), (ys 3), (ys 4), (ys 5)], [], .agg [(ys 12), (ys 13), (ys 14), (ys 15), (ys 16), (ys 17)], [], []⟩
@[reducible] def n5a_k16 : KE := ⟨91, 3, [some (0, 0)], [.agg [(ys 0), (ys 1), (ys 2), (ys 3), (ys 4), (ys 5), .gs 0 0 (.v 6) 4 false]], [some (.rows 0 [] 82 true)], [(ns 0 0), (ns 1 1), (ns 2 2), (ns 3 3), (ns 4 4), (ns 5 5), (ns 6 6), .lst 0 (some 0) []], 1, (ys 0), [none], (ys 13), [], []⟩
@[reducible] def n5a_k17 : KE := ⟨92, 3, [], [.agg [(ys 0), (ys 1), (ys 2), (ys 3), (ys 4), (ys 5)]], [], [(ns 7 0), (ns 8 1), (ns 9 2), (ns 10 3), (ns 11 4), (ns 12 5)], 0, .agg [(ys 0), (ys 1), (ys 2), (ys 3), (ys 4), (ys 5)], [], .agg [(ys 14), (ys 15), (ys 16), (ys 17), (ys 18), (ys 19)], [], []⟩
@[reducible] def n5a_k18 : KE := ⟨93, 3, [], [.agg [(ys 0), (ys 1), (ys 2), (ys 3), (ys 4), (ys 5)]], [], [(ns 14 0), (ns 15 1), (ns 16 2), (ns 17 3), (ns 18 4), (ns 19 5)], 0, (ys 0), [], (ys 20), [], []⟩
@[reducible] def n5a_k19 : KE := ⟨66, 4, [some (3, 0)], [.gs 0 0 (.v 0) 1 false], [some (.rows 0 [] 28 true)], [.num (.c 2) (.v 0), .lst 0 none [(ys 13), (ys 20)]], 1, (ys 0), [none], (ys 21), [], []⟩
@[reducible] def n5a_k20 : KE := ⟨92, 4, [], [.agg [(ys 0), (ys 1), (ys 2), (ys 3), (ys 4), (ys 5)]], [], [(ns 7 0), (ns 8 1), (ns 9 2), (ns 10 3), (ns 11 4), (ns 12 5)], 0, .agg [(ys 0), (ys 1), (ys 2), (ys 3), (ys 4), (ys 5)], [], .agg [(ys 22), (ys 23), (ys 24), (ys 25), (ys 26), (ys 27)], [], []⟩
@[reducible] def n5a_k21 : KE := ⟨92, 4, [], [.agg [(ys 0), (ys 1), (ys 2), (ys 3), (ys 4), (ys 5)]], [], [(ns 0 0), (ns 1 1), (ns 2 2), (ns 3 3), (ns 4 4), (ns 5 5)], 0, .agg [(ys 0), (ys 1), (ys 2), (ys 3), (ys 4), (ys 5)], [], .agg [(ys 28), (ys 29), (ys 30), (ys 31), (ys 32), (ys 33)], [], []⟩
@[reducible] def n5a_k22 : KE := ⟨94, 4, [], [.agg [(ys 0), (ys 1), (ys 2), (ys 3), (ys 4), (ys 5)], .agg [(ys 6), (ys 7), (ys 8), (ys 9), (ys 10), (ys 11)]], [], [(ns 22 0), (ns 23 1), (ns 24 2), (ns 25 3), (ns 26 4), (ns 27 5), (ns 28 6), (ns 29 7), (ns 30 8), (ns 31 9), (ns 32 10), (ns 33 11)], 0, .bs (.v 0), [], .bs (.v 34), [], []⟩
def u_Within (a0 : Int) (a1 : Int) : Option (Bool) := if (IntKind.wrap .i64 ((0 : Int) - a1)) ≤ a0 then (if a0 ≤ a1 then (some true) else (some false)) else (some false)
theorem u_Within_ok (a0 : Int) (a1 : Int) (y : Bool) (h : u_Within a0 a1 = some y) : CallOk Tryz.prog 160 (vals [a0, a1] []) [(ys 0), (ys 1)] [] 0 (vals [bI y] []) (.bs (.v 0)) [] := by
  refine fun_of (nt := 14) (by kernel_rfl) (by kernel_rfl) fun φ0 w0 a w hat => ?_
  have hF := wide_fw
  have hr : Fence.wide.round = none := rfl
  unfold u_Within at h
  by_cases h1 : (IntKind.wrap .i64 ((0 : Int) - a1)) ≤ a0
  · rw [if_pos h1] at h
    by_cases h2 : a0 ≤ a1
    · rw [if_pos h2] at h
      injection h with h; subst h
      exact to_fin mixed ⟨[(.leq, (.sub .i64 (.c 0) (.v 1)), (.v 0), true), (.leq, (.v 0), (.v 1), true)], [], [], [], [], []⟩ (V := (vals [a0, a1] [])) (n := 3000) (f := 3000) ⟨⟨leq_t h1, leq_t h2, trivial⟩, trivial, trivial, trivial, trivial⟩ trivial (R := ⟨.bs (.v 0), [], []⟩) (qs := [.num (.c 1) (.v 0)]) hF hr (by kernel_rfl) ⟨rfl, trivial⟩ hat
    · rw [if_neg h2] at h
      injection h with h; subst h
      exact to_fin mixed ⟨[(.leq, (.sub .i64 (.c 0) (.v 1)), (.v 0), true), (.leq, (.v 0), (.v 1), false)], [], [], [], [], []⟩ (V := (vals [a0, a1] [])) (n := 3000) (f := 3000) ⟨⟨leq_t h1, leq_f h2, trivial⟩, trivial, trivial, trivial, trivial⟩ trivial (R := ⟨.bs (.v 0), [], []⟩) (qs := [.num (.c 0) (.v 0)]) hF hr (by kernel_rfl) ⟨rfl, trivial⟩ hat
  · rw [if_neg h1] at h
    injection h with h; subst h
    exact to_fin mixed ⟨[(.leq, (.sub .i64 (.c 0) (.v 1)), (.v 0), false)], [], [], [], [], []⟩ (V := (vals [a0, a1] [])) (n := 3000) (f := 3000) ⟨⟨leq_f h1, trivial⟩, trivial, trivial, trivial, trivial⟩ trivial (R := ⟨.bs (.v 0), [], []⟩) (qs := [.num (.c 0) (.v 0)]) hF hr (by kernel_rfl) ⟨rfl, trivial⟩ hat
def u_SizeError_L1 (fu : Nat) (p0 : List (Int)) (p1 : Int) (p2 : Int) : Nat → Int → Option ((Unit) ⊕ (Unit))
  | 0, _ => none
  | n + 1, v3 => if v3 < p2 then (if (0 : Int) ≤ v3 then (if v3 < (p0.length : Int) then (Option.bind ((p0)[0 + (v3).toNat]?) fun e4 => Option.bind (u_Within e4 p1) fun r5 => if r5 = true then (u_SizeError_L1 fu p0 p1 p2 n (IntKind.wrap .i64 (v3 + (1 : Int)))) else (some (.inl ()))) else none) else none) else (some (.inr ()))
theorem u_SizeError_L1_ok (fu : Nat) (p0 : List (Int)) (p1 : Int) (p2 : Int) : ∀ (n : Nat) (v3 : Int) (o : (Unit) ⊕ (Unit)), u_SizeError_L1 fu p0 p1 p2 n v3 = some o → ∀ (φ0 : Phi) (w0 : World) (F : Fence) (k : Nat) (R : Exit → Act → World → Prop) (a : Act) (w : World), FW F → F.round = none → AtS (vals [(p0.length : Int), p1, p2, v3] [(p0.flatMap enI)]) [(0, (ys 1)), (7, .gs 0 0 (.v 0) 1 false), (8, (ys 2)), (9, (ys 3))] [some (.rows 0 [] 3 true)] 18 1 1 φ0 w0 a w → (∀ (y : Unit), o = .inl y → ∀ a' w', AtS (vals [(p0.length : Int)] [(p0.flatMap enI)]) [(4, .int .i64 2)] [some (.rows 0 [] 3 true)] 18 1 1 φ0 w0 a' w' → R Exit.ret a' w') → (∀ (y : Unit), o = .inr y → ∀ a' w', AtS (vals [(p0.length : Int)] [(p0.flatMap enI)]) [] [some (.rows 0 [] 3 true)] 18 1 1 φ0 w0 a' w' → R (Exit.exit 0) a' w') → Code.roundsIn F k Tryz.prog (subAt (bodyOf Tryz.prog 86) [1, 0, 1, 0, 0]) R n a w
  | 0, _, _, h => by cases h
  | n + 1, v3, o, h => by
    intro φ0 w0 F k R a w hF hr hat hx0 hx1
    rw [u_SizeError_L1] at h
    refine rounds_in (p := [1, 0, 1, 0, 0]) ?_
    by_cases h1 : v3 < p2
    · rw [if_pos h1] at h
      by_cases h2 : (0 : Int) ≤ v3
      · rw [if_pos h2] at h
        by_cases h3 : v3 < (p0.length : Int)
        · rw [if_pos h3] at h
          obtain ⟨e4, he4, h⟩ := Option.bind_eq_some_iff.1 h
          obtain ⟨r5, hr5, h⟩ := Option.bind_eq_some_iff.1 h
          have Kr5 : KO Tryz.prog [(p0.length : Int), p1, p2, v3, e4, bI r5] [(p0.flatMap enI)] n5a_k1 := fun N M => ⟨_, _, [(ns 0 5)], ⟨u_Within_ok e4 p1 r5 hr5, ⟨(r e4), (r p1), trivial⟩, by kernel_rfl, ⟨rfl, trivial⟩⟩⟩
          by_cases h6 : r5 = true
          · rw [if_pos h6] at h
            refine to_done mixed ⟨[(.lss, (.v 3), (.v 2), true), (.leq, (.c 0), (.v 3), true), (.lss, (.v 3), (.v 0), true), (.neq, (.v 5), (.c 0), true)], [(0, 0, (.v 3), [(ys 4)])], [(0, 1, (.v 0))], [n5a_k1], [], []⟩ (V := (vals [(p0.length : Int), p1, p2, v3, e4, bI r5] [(p0.flatMap enI)])) (n := 3000) (f := 3000) (V' := (vals [(p0.length : Int), p1, p2, (IntKind.wrap .i64 (v3 + (1 : Int)))] [(p0.flatMap enI)])) ⟨⟨lss_t h1, leq_t h2, lss_t h3, bi_t h6, trivial⟩, ⟨⟨h2, _, rfl, flat_row enI_len he4⟩, trivial⟩, ⟨flat_length enI_len _, trivial⟩, trivial, trivial⟩ ⟨Kr5 _ _, trivial⟩ (T := ttN5a_7) (ce := .normal) (qs := [(ns 1 1), (ns 0 0), (ns 2 2), .num (.add .i64 (.v 3) (.c 1)) (.v 3), .lst 0 (some 0) []]) hF hr (by kernel_rfl) ⟨(r p1), (r (p0.length : Int)), (r p2), (r (IntKind.wrap .i64 (v3 + (1 : Int)))), ⟨[], rfl, lnil _⟩, trivial⟩ (at_re (V' := (vals [(p0.length : Int), p1, p2, v3, e4, bI r5] [(p0.flatMap enI)])) (T := ttN5a_7) (qs := [(ns 1 1), (ns 0 0), (ns 2 2), (ns 3 3), .lst 0 (some 0) []]) hat (by kernel_rfl) ⟨rfl, rfl, rfl, rfl, ⟨[], rfl, lnil _⟩, trivial⟩) fun a' w' hat' => ?_
            exact u_SizeError_L1_ok fu p0 p1 p2 n (IntKind.wrap .i64 (v3 + (1 : Int))) o h _ _ _ _ _ _ _ hF hr hat' hx0 hx1
          · rw [if_neg h6] at h
            injection h with h; subst h
            exact to_done mixed ⟨[(.lss, (.v 3), (.v 2), true), (.leq, (.c 0), (.v 3), true), (.lss, (.v 3), (.v 0), true), (.neq, (.v 5), (.c 0), false)], [(0, 0, (.v 3), [(ys 4)])], [(0, 1, (.v 0))], [n5a_k1], [], []⟩ (V := (vals [(p0.length : Int), p1, p2, v3, e4, bI r5] [(p0.flatMap enI)])) (n := 3000) (f := 3000) (V' := (vals [(p0.length : Int)] [(p0.flatMap enI)])) ⟨⟨lss_t h1, leq_t h2, lss_t h3, bi_f h6, trivial⟩, ⟨⟨h2, _, rfl, flat_row enI_len he4⟩, trivial⟩, ⟨flat_length enI_len _, trivial⟩, trivial, trivial⟩ ⟨Kr5 _ _, trivial⟩ (T := ⟨[(4, .int .i64 2)], [some (.rows 0 [] 3 true)], [some (0, 0)]⟩) (ce := .ret) (qs := [.lst 0 (some 0) []]) hF hr (by kernel_rfl) ⟨⟨[], rfl, lnil _⟩, trivial⟩ (at_re (V' := (vals [(p0.length : Int), p1, p2, v3, e4, bI r5] [(p0.flatMap enI)])) (T := ttN5a_7) (qs := [(ns 1 1), (ns 0 0), (ns 2 2), (ns 3 3), .lst 0 (some 0) []]) hat (by kernel_rfl) ⟨rfl, rfl, rfl, rfl, ⟨[], rfl, lnil _⟩, trivial⟩) fun a' w' hat' => hx0 () rfl a' w' hat'
        · rw [if_neg h3] at h
          cases h
      · rw [if_neg h2] at h
        cases h
    · rw [if_neg h1] at h
      injection h with h; subst h
      exact to_done mixed ⟨[(.lss, (.v 3), (.v 2), false)], [], [(0, 1, (.v 0))], [], [], []⟩ (V := (vals [(p0.length : Int), p1, p2, v3] [(p0.flatMap enI)])) (n := 3000) (f := 3000) (V' := (vals [(p0.length : Int)] [(p0.flatMap enI)])) ⟨⟨lss_f h1, trivial⟩, trivial, ⟨flat_length enI_len _, trivial⟩, trivial, trivial⟩ trivial (T := ⟨[], [some (.rows 0 [] 3 true)], [some (0, 0)]⟩) (ce := (.exit 0)) (qs := [.lst 0 (some 0) []]) hF hr (by kernel_rfl) ⟨⟨[], rfl, lnil _⟩, trivial⟩ hat fun a' w' hat' => hx1 () rfl a' w' hat'
def u_SizeError (fu : Nat) (a0 : Int) (a1 : List (Int)) : Option (Int) := Option.bind (u_SizeError_L1 fu a1 a0 (a1.length : Int) fu (0 : Int)) fun o1 => (match o1 with | .inl y2 => (some (2 : Int)) | .inr y3 => (some (0 : Int)))
theorem u_SizeError_ok (fu : Nat) (a0 : Int) (a1 : List (Int)) (y : Int) (h : u_SizeError fu a0 a1 = some y) : CallOk Tryz.prog 86 (vals [a0, (a1.length : Int)] [(a1.flatMap enI)]) [(ys 0), .gs 0 0 (.v 1) 1 false] [some (.rows 0 [] 3 true)] 1 (vals [y] []) ((ys 0)) [none] := by
  refine fun_of (nt := 18) (by kernel_rfl) (by kernel_rfl) fun φ0 w0 a w hat => ?_
  have hF := wide_fw
  have hr : Fence.wide.round = none := rfl
  unfold u_SizeError at h
  obtain ⟨o1, ho1, h⟩ := Option.bind_eq_some_iff.1 h
  refine to_loop mixed ⟨[], [], [(0, 1, (.v 1))], [], [], []⟩ (V := (vals [a0, (a1.length : Int)] [(a1.flatMap enI)])) (n := 3000) (f := 3000) (V' := (vals [(a1.length : Int), a0, (a1.length : Int), (0 : Int)] [(a1.flatMap enI)])) ⟨trivial, trivial, ⟨flat_length enI_len _, trivial⟩, trivial, trivial⟩ trivial (T := ttN5a_7) (B := subAt (bodyOf Tryz.prog 86) [1, 0, 1, 0, 0]) (K' := [.bk 0, .sq (subAt (bodyOf Tryz.prog 86) [1, 1]) [1, 1]]) (qs := [(ns 0 1), (ns 1 0), (ns 1 2), .num (.c 0) (.v 3), .lst 0 (some 0) []]) hF hr (by kernel_rfl) ⟨(r a0), (r (a1.length : Int)), (r (a1.length : Int)), (r (0 : Int)), ⟨[], rfl, lnil _⟩, trivial⟩ hat fun aa1 ww1 hat1 => loop_in (u_SizeError_L1_ok fu a1 a0 (a1.length : Int) fu (0 : Int) o1 ho1 _ _ _ _ _ _ _ hF hr hat1 ?_ ?_)
  · intro y2 hy aa2 ww2 hat
    subst hy
    dsimp only at h
    show (Wk.out .ret).goal _ _ _ [.bk 0, .sq (subAt (bodyOf Tryz.prog 86) [1, 1]) [1, 1]] _ aa2 ww2
    injection h with h; subst h
    exact to_fin mixed ⟨[], [], [(0, 1, (.v 0))], [], [], []⟩ (V := (vals [(a1.length : Int)] [(a1.flatMap enI)])) (n := 3000) (f := 3000) ⟨trivial, trivial, ⟨flat_length enI_len _, trivial⟩, trivial, trivial⟩ trivial (R := ⟨(ys 0), [none], [some (0, 0)]⟩) (qs := [.num (.c 2) (.v 0)]) hF hr (by kernel_rfl) ⟨(r (2 : Int)), trivial⟩ hat
  · intro y3 hy aa2 ww2 hat
    subst hy
    dsimp only at h
    show (Wk.out (.exit 0)).goal _ _ _ [.bk 0, .sq (subAt (bodyOf Tryz.prog 86) [1, 1]) [1, 1]] _ aa2 ww2
    injection h with h; subst h
    exact to_fin mixed ⟨[], [], [(0, 1, (.v 0))], [], [], []⟩ (V := (vals [(a1.length : Int)] [(a1.flatMap enI)])) (n := 3000) (f := 3000) ⟨trivial, trivial, ⟨flat_length enI_len _, trivial⟩, trivial, trivial⟩ trivial (R := ⟨(ys 0), [none], [some (0, 0)]⟩) (qs := [.num (.c 0) (.v 0)]) hF hr (by kernel_rfl) ⟨(r (0 : Int)), trivial⟩ hat
def u_LimitError (a0 : Int) (a1 : Int) (a2 : Int) : Option (Int) := if a0 < a1 then (some (2 : Int)) else (if a2 < a0 then (some (2 : Int)) else (some (0 : Int)))
theorem u_LimitError_ok (a0 : Int) (a1 : Int) (a2 : Int) (y : Int) (h : u_LimitError a0 a1 a2 = some y) : CallOk Tryz.prog 68 (vals [a0, a1, a2] []) [(ys 0), (ys 1), (ys 2)] [] 0 (vals [y] []) ((ys 0)) [] := by
  refine fun_of (nt := 15) (by kernel_rfl) (by kernel_rfl) fun φ0 w0 a w hat => ?_
  have hF := wide_fw
  have hr : Fence.wide.round = none := rfl
  unfold u_LimitError at h
  by_cases h1 : a0 < a1
  · rw [if_pos h1] at h
    injection h with h; subst h
    exact to_fin mixed ⟨[(.lss, (.v 0), (.v 1), true)], [], [], [], [], []⟩ (V := (vals [a0, a1, a2] [])) (n := 3000) (f := 3000) ⟨⟨lss_t h1, trivial⟩, trivial, trivial, trivial, trivial⟩ trivial (R := ⟨(ys 0), [], []⟩) (qs := [.num (.c 2) (.v 0)]) hF hr (by kernel_rfl) ⟨(r (2 : Int)), trivial⟩ hat
  · rw [if_neg h1] at h
    by_cases h2 : a2 < a0
    · rw [if_pos h2] at h
      injection h with h; subst h
      exact to_fin mixed ⟨[(.lss, (.v 0), (.v 1), false), (.gtr, (.v 0), (.v 2), true)], [], [], [], [], []⟩ (V := (vals [a0, a1, a2] [])) (n := 3000) (f := 3000) ⟨⟨lss_f h1, gtr_t h2, trivial⟩, trivial, trivial, trivial, trivial⟩ trivial (R := ⟨(ys 0), [], []⟩) (qs := [.num (.c 2) (.v 0)]) hF hr (by kernel_rfl) ⟨(r (2 : Int)), trivial⟩ hat
    · rw [if_neg h2] at h
      injection h with h; subst h
      exact to_fin mixed ⟨[(.lss, (.v 0), (.v 1), false), (.gtr, (.v 0), (.v 2), false)], [], [], [], [], []⟩ (V := (vals [a0, a1, a2] [])) (n := 3000) (f := 3000) ⟨⟨lss_f h1, gtr_f h2, trivial⟩, trivial, trivial, trivial, trivial⟩ trivial (R := ⟨(ys 0), [], []⟩) (qs := [.num (.c 0) (.v 0)]) hF hr (by kernel_rfl) ⟨(r (0 : Int)), trivial⟩ hat
def u_LimitsError_1 (a0 : Int) (a1_0 : Int) (a2_0 : Int) : Option (Int) := Option.bind (u_LimitError a0 a1_0 a2_0) fun r1 => some r1
theorem u_LimitsError_1_ok (a0 : Int) (a1_0 : Int) (a2_0 : Int) (y : Int) (h : u_LimitsError_1 a0 a1_0 a2_0 = some y) : CallOk Tryz.prog 161 (vals [a0, a1_0, a2_0] []) [(ys 0), .ptr 0 0, .ptr 1 0] [some (.cells [(ys 1)] 3 false), some (.cells [(ys 2)] 3 false)] 0 (vals [y, a1_0, a2_0] []) ((ys 0)) [some (.cells [(ys 1)] 3 false), some (.cells [(ys 2)] 3 false)] := by
  refine fun_of (nt := 9) (by kernel_rfl) (by kernel_rfl) fun φ0 w0 a w hat => ?_
  have hF := wide_fw
  have hr : Fence.wide.round = none := rfl
  unfold u_LimitsError_1 at h
  obtain ⟨r1, hr1, h⟩ := Option.bind_eq_some_iff.1 h
  have Kr1 : KO Tryz.prog [a0, a1_0, a2_0, r1] [] ⟨68, 2, [], [(ys 0), (ys 1), (ys 2)], [], [(ns 0 0), (ns 1 1), (ns 2 2)], 0, (ys 0), [], (ys 3), [], []⟩ := fun N M => ⟨_, _, [(ns 0 3)], ⟨u_LimitError_ok a0 a1_0 a2_0 r1 hr1, ⟨(r a0), (r a1_0), (r a2_0), trivial⟩, by kernel_rfl, ⟨rfl, trivial⟩⟩⟩
  injection h with h; subst h
  exact to_fin mixed ⟨[], [], [], [⟨68, 2, [], [(ys 0), (ys 1), (ys 2)], [], [(ns 0 0), (ns 1 1), (ns 2 2)], 0, (ys 0), [], (ys 3), [], []⟩], [], []⟩ (V := (vals [a0, a1_0, a2_0, r1] [])) (n := 3000) (f := 3000) ⟨trivial, trivial, trivial, trivial, trivial⟩ ⟨Kr1 _ _, trivial⟩ (R := ⟨(ys 0), [some (.cells [(ys 1)] 3 false), some (.cells [(ys 2)] 3 false)], [some (0, 0), some (1, 0)]⟩) (qs := [(ns 3 0), (ns 1 1), (ns 2 2)]) hF hr (by kernel_rfl) ⟨(r r1), (r a1_0), (r a2_0), trivial⟩ (at_re (V' := (vals [a0, a1_0, a2_0, r1] [])) (T := ⟨[(0, (ys 0)), (1, .ptr 0 0), (2, .ptr 1 0)], [some (.cells [(ys 1)] 3 false), some (.cells [(ys 2)] 3 false)], [some (0, 0), some (1, 0)]⟩) (qs := [(ns 0 0), (ns 1 1), (ns 2 2)]) hat (by kernel_rfl) ⟨rfl, rfl, rfl, trivial⟩)
def u_FirstBad_int_LimitsError_1_L1 (fu : Nat) (p0 : List (Int)) (p1 : Int) (p2 : Int) (p3 : Int) : Nat → Int → Option ((Int × Int) ⊕ (Unit))
  | 0, _ => none
  | n + 1, v4 => if v4 < p3 then (if (0 : Int) ≤ v4 then (if v4 < (p0.length : Int) then (Option.bind ((p0)[0 + (v4).toNat]?) fun e4 => Option.bind (u_LimitsError_1 e4 p1 p2) fun r5 => if r5 = (0 : Int) then (u_FirstBad_int_LimitsError_1_L1 fu p0 p1 p2 p3 n (IntKind.wrap .i64 (v4 + (1 : Int)))) else (some (.inl (v4, r5)))) else none) else none) else (some (.inr ()))
theorem u_FirstBad_int_LimitsError_1_L1_ok (fu : Nat) (p0 : List (Int)) (p1 : Int) (p2 : Int) (p3 : Int) : ∀ (n : Nat) (v4 : Int) (o : (Int × Int) ⊕ (Unit)), u_FirstBad_int_LimitsError_1_L1 fu p0 p1 p2 p3 n v4 = some o → ∀ (φ0 : Phi) (w0 : World) (F : Fence) (k : Nat) (R : Exit → Act → World → Prop) (a : Act) (w : World), FW F → F.round = none → AtS (vals [(p0.length : Int), p1, p2, p3, v4] [(p0.flatMap enI)]) [(1, .fn 161 [] [.ptr 1 0, .ptr 2 0]), (9, .gs 0 0 (.v 0) 1 false), (10, (ys 3)), (11, (ys 4))] [some (.rows 0 [] 3 true), some (.cells [(ys 1)] 3 false), some (.cells [(ys 2)] 3 false)] 24 3 1 φ0 w0 a w → (∀ (y : Int × Int), o = .inl y → ∀ a' w', AtS (vals [(p0.length : Int), p1, p2, y.1, y.2] [(p0.flatMap enI)]) [(4, (ys 3)), (5, (ys 4))] [some (.rows 0 [] 3 true), some (.cells [(ys 1)] 3 false), some (.cells [(ys 2)] 3 false)] 24 3 1 φ0 w0 a' w' → R Exit.ret a' w') → (∀ (y : Unit), o = .inr y → ∀ a' w', AtS (vals [(p0.length : Int), p1, p2] [(p0.flatMap enI)]) [] [some (.rows 0 [] 3 true), some (.cells [(ys 1)] 3 false), some (.cells [(ys 2)] 3 false)] 24 3 1 φ0 w0 a' w' → R (Exit.exit 0) a' w') → Code.roundsIn F k Tryz.prog (subAt (bodyOf Tryz.prog 137) [1, 0, 1, 0, 0]) R n a w
  | 0, _, _, h => by cases h
  | n + 1, v4, o, h => by
    intro φ0 w0 F k R a w hF hr hat hx0 hx1
    rw [u_FirstBad_int_LimitsError_1_L1] at h
    refine rounds_in (p := [1, 0, 1, 0, 0]) ?_
    by_cases h1 : v4 < p3
    · rw [if_pos h1] at h
      by_cases h2 : (0 : Int) ≤ v4
      · rw [if_pos h2] at h
        by_cases h3 : v4 < (p0.length : Int)
        · rw [if_pos h3] at h
          obtain ⟨e4, he4, h⟩ := Option.bind_eq_some_iff.1 h
          obtain ⟨r5, hr5, h⟩ := Option.bind_eq_some_iff.1 h
          have Kr5 : KO Tryz.prog [(p0.length : Int), p1, p2, p3, v4, e4, r5] [(p0.flatMap enI)] n5a_k2 := fun N M => ⟨_, _, [(ns 0 6), (ns 1 1), (ns 2 2)], ⟨u_LimitsError_1_ok e4 p1 p2 r5 hr5, ⟨(r e4), (r p1), (r p2), trivial⟩, by kernel_rfl, ⟨rfl, rfl, rfl, trivial⟩⟩⟩
          by_cases h6 : r5 = (0 : Int)
          · rw [if_pos h6] at h
            refine to_done mixed ⟨[(.lss, (.v 4), (.v 3), true), (.leq, (.c 0), (.v 4), true), (.lss, (.v 4), (.v 0), true), (.neq, (.v 6), (.c 0), false)], [(0, 0, (.v 4), [(ys 5)])], [(0, 1, (.v 0))], [n5a_k2], [], []⟩ (V := (vals [(p0.length : Int), p1, p2, p3, v4, e4, r5] [(p0.flatMap enI)])) (n := 3000) (f := 3000) (V' := (vals [(p0.length : Int), p1, p2, p3, (IntKind.wrap .i64 (v4 + (1 : Int)))] [(p0.flatMap enI)])) ⟨⟨lss_t h1, leq_t h2, lss_t h3, neq_f h6, trivial⟩, ⟨⟨h2, _, rfl, flat_row enI_len he4⟩, trivial⟩, ⟨flat_length enI_len _, trivial⟩, trivial, trivial⟩ ⟨Kr5 _ _, trivial⟩ (T := ttN5a_3) (ce := .normal) (qs := [(ns 0 0), (ns 3 3), .num (.add .i64 (.v 4) (.c 1)) (.v 4), .lst 0 (some 0) [], (ns 1 1), (ns 2 2)]) hF hr (by kernel_rfl) ⟨(r (p0.length : Int)), (r p3), (r (IntKind.wrap .i64 (v4 + (1 : Int)))), ⟨[], rfl, lnil _⟩, (r p1), (r p2), trivial⟩ (at_re (V' := (vals [(p0.length : Int), p1, p2, p3, v4, e4, r5] [(p0.flatMap enI)])) (T := ttN5a_3) (qs := [(ns 0 0), (ns 3 3), (ns 4 4), .lst 0 (some 0) [], (ns 1 1), (ns 2 2)]) hat (by kernel_rfl) ⟨rfl, rfl, rfl, ⟨[], rfl, lnil _⟩, rfl, rfl, trivial⟩) fun a' w' hat' => ?_
            exact u_FirstBad_int_LimitsError_1_L1_ok fu p0 p1 p2 p3 n (IntKind.wrap .i64 (v4 + (1 : Int))) o h _ _ _ _ _ _ _ hF hr hat' hx0 hx1
          · rw [if_neg h6] at h
            injection h with h; subst h
            exact to_done mixed ⟨[(.lss, (.v 4), (.v 3), true), (.leq, (.c 0), (.v 4), true), (.lss, (.v 4), (.v 0), true), (.neq, (.v 6), (.c 0), true)], [(0, 0, (.v 4), [(ys 5)])], [(0, 1, (.v 0))], [n5a_k2], [], []⟩ (V := (vals [(p0.length : Int), p1, p2, p3, v4, e4, r5] [(p0.flatMap enI)])) (n := 3000) (f := 3000) (V' := (vals [(p0.length : Int), p1, p2, v4, r5] [(p0.flatMap enI)])) ⟨⟨lss_t h1, leq_t h2, lss_t h3, neq_t h6, trivial⟩, ⟨⟨h2, _, rfl, flat_row enI_len he4⟩, trivial⟩, ⟨flat_length enI_len _, trivial⟩, trivial, trivial⟩ ⟨Kr5 _ _, trivial⟩ (T := ⟨[(4, (ys 3)), (5, (ys 4))], [some (.rows 0 [] 3 true), some (.cells [(ys 1)] 3 false), some (.cells [(ys 2)] 3 false)], [some (0, 0), some (1, 0), some (2, 0)]⟩) (ce := .ret) (qs := [(ns 4 3), (ns 6 4), .lst 0 (some 0) [], (ns 1 1), (ns 2 2)]) hF hr (by kernel_rfl) ⟨(r v4), (r r5), ⟨[], rfl, lnil _⟩, (r p1), (r p2), trivial⟩ (at_re (V' := (vals [(p0.length : Int), p1, p2, p3, v4, e4, r5] [(p0.flatMap enI)])) (T := ttN5a_3) (qs := [(ns 0 0), (ns 3 3), (ns 4 4), .lst 0 (some 0) [], (ns 1 1), (ns 2 2)]) hat (by kernel_rfl) ⟨rfl, rfl, rfl, ⟨[], rfl, lnil _⟩, rfl, rfl, trivial⟩) fun a' w' hat' => hx0 (v4, r5) rfl a' w' hat'
        · rw [if_neg h3] at h
          cases h
      · rw [if_neg h2] at h
        cases h
    · rw [if_neg h1] at h
      injection h with h; subst h
      exact to_done mixed ⟨[(.lss, (.v 4), (.v 3), false)], [], [(0, 1, (.v 0))], [], [], []⟩ (V := (vals [(p0.length : Int), p1, p2, p3, v4] [(p0.flatMap enI)])) (n := 3000) (f := 3000) (V' := (vals [(p0.length : Int), p1, p2] [(p0.flatMap enI)])) ⟨⟨lss_f h1, trivial⟩, trivial, ⟨flat_length enI_len _, trivial⟩, trivial, trivial⟩ trivial (T := ⟨[], [some (.rows 0 [] 3 true), some (.cells [(ys 1)] 3 false), some (.cells [(ys 2)] 3 false)], [some (0, 0), some (1, 0), some (2, 0)]⟩) (ce := (.exit 0)) (qs := [.lst 0 (some 0) [], (ns 1 1), (ns 2 2)]) hF hr (by kernel_rfl) ⟨⟨[], rfl, lnil _⟩, (r p1), (r p2), trivial⟩ hat fun a' w' hat' => hx1 () rfl a' w' hat'
def u_FirstBad_int_LimitsError_1 (fu : Nat) (a0 : List (Int)) (a1_c0_0 : Int) (a1_c1_0 : Int) : Option (Int × Int) := Option.bind (u_FirstBad_int_LimitsError_1_L1 fu a0 a1_c0_0 a1_c1_0 (a0.length : Int) fu (0 : Int)) fun o1 => (match o1 with | .inl y2 => (some (y2.1, y2.2)) | .inr y3 => (some ((0 : Int), (0 : Int))))
theorem u_FirstBad_int_LimitsError_1_ok (fu : Nat) (a0 : List (Int)) (a1_c0_0 : Int) (a1_c1_0 : Int) (y : Int × Int) (h : u_FirstBad_int_LimitsError_1 fu a0 a1_c0_0 a1_c1_0 = some y) : CallOk Tryz.prog 137 (vals [(a0.length : Int), a1_c0_0, a1_c1_0] [(a0.flatMap enI)]) [.gs 0 0 (.v 0) 1 false, .fn 161 [] [.ptr 1 0, .ptr 2 0]] [some (.rows 0 [] 3 true), some (.cells [(ys 1)] 3 false), some (.cells [(ys 2)] 3 false)] 1 (vals [y.1, y.2, a1_c0_0, a1_c1_0] []) (.tup [(ys 0), (ys 1)]) [none, some (.cells [(ys 2)] 3 false), some (.cells [(ys 3)] 3 false)] := by
  refine fun_of (nt := 24) (by kernel_rfl) (by kernel_rfl) fun φ0 w0 a w hat => ?_
  have hF := wide_fw
  have hr : Fence.wide.round = none := rfl
  unfold u_FirstBad_int_LimitsError_1 at h
  obtain ⟨o1, ho1, h⟩ := Option.bind_eq_some_iff.1 h
  refine to_loop mixed ⟨[], [], [(0, 1, (.v 0))], [], [], []⟩ (V := (vals [(a0.length : Int), a1_c0_0, a1_c1_0] [(a0.flatMap enI)])) (n := 3000) (f := 3000) (V' := (vals [(a0.length : Int), a1_c0_0, a1_c1_0, (a0.length : Int), (0 : Int)] [(a0.flatMap enI)])) ⟨trivial, trivial, ⟨flat_length enI_len _, trivial⟩, trivial, trivial⟩ trivial (T := ttN5a_3) (B := subAt (bodyOf Tryz.prog 137) [1, 0, 1, 0, 0]) (K' := [.bk 0, .sq (subAt (bodyOf Tryz.prog 137) [1, 1]) [1, 1]]) (qs := [(ns 0 0), (ns 0 3), .num (.c 0) (.v 4), .lst 0 (some 0) [], (ns 1 1), (ns 2 2)]) hF hr (by kernel_rfl) ⟨(r (a0.length : Int)), (r (a0.length : Int)), (r (0 : Int)), ⟨[], rfl, lnil _⟩, (r a1_c0_0), (r a1_c1_0), trivial⟩ hat fun aa1 ww1 hat1 => loop_in (u_FirstBad_int_LimitsError_1_L1_ok fu a0 a1_c0_0 a1_c1_0 (a0.length : Int) fu (0 : Int) o1 ho1 _ _ _ _ _ _ _ hF hr hat1 ?_ ?_)
  · intro y2 hy aa2 ww2 hat
    subst hy
    dsimp only at h
    show (Wk.out .ret).goal _ _ _ [.bk 0, .sq (subAt (bodyOf Tryz.prog 137) [1, 1]) [1, 1]] _ aa2 ww2
    injection h with h; subst h
    exact to_fin mixed ⟨[], [], [(0, 1, (.v 0))], [], [], []⟩ (V := (vals [(a0.length : Int), a1_c0_0, a1_c1_0, y2.1, y2.2] [(a0.flatMap enI)])) (n := 3000) (f := 3000) ⟨trivial, trivial, ⟨flat_length enI_len _, trivial⟩, trivial, trivial⟩ trivial (R := rrN5a_4) (qs := [(ns 3 0), (ns 4 1), (ns 1 2), (ns 2 3)]) hF hr (by kernel_rfl) ⟨(r y2.1), (r y2.2), (r a1_c0_0), (r a1_c1_0), trivial⟩ hat
  · intro y3 hy aa2 ww2 hat
    subst hy
    dsimp only at h
    show (Wk.out (.exit 0)).goal _ _ _ [.bk 0, .sq (subAt (bodyOf Tryz.prog 137) [1, 1]) [1, 1]] _ aa2 ww2
    injection h with h; subst h
    exact to_fin mixed ⟨[], [], [(0, 1, (.v 0))], [], [], []⟩ (V := (vals [(a0.length : Int), a1_c0_0, a1_c1_0] [(a0.flatMap enI)])) (n := 3000) (f := 3000) ⟨trivial, trivial, ⟨flat_length enI_len _, trivial⟩, trivial, trivial⟩ trivial (R := rrN5a_4) (qs := [.num (.c 0) (.v 0), .num (.c 0) (.v 1), (ns 1 2), (ns 2 3)]) hF hr (by kernel_rfl) ⟨(r (0 : Int)), (r (0 : Int)), (r a1_c0_0), (r a1_c1_0), trivial⟩ hat
def u_LimitsError (fu : Nat) (a0 : Int) (a1 : Int) (a2 : List (Int)) : Option (Int) := Option.bind (u_FirstBad_int_LimitsError_1 fu a2 a0 a1) fun r1 => some r1.2
theorem u_LimitsError_ok (fu : Nat) (a0 : Int) (a1 : Int) (a2 : List (Int)) (y : Int) (h : u_LimitsError fu a0 a1 a2 = some y) : CallOk Tryz.prog 87 (vals [a0, a1, (a2.length : Int)] [(a2.flatMap enI)]) [(ys 0), (ys 1), .gs 0 0 (.v 2) 1 false] [some (.rows 0 [] 3 true)] 1 (vals [y] []) ((ys 0)) [none] := by
  refine fun_of (nt := 16) (by kernel_rfl) (by kernel_rfl) fun φ0 w0 a w hat => ?_
  have hF := wide_fw
  have hr : Fence.wide.round = none := rfl
  unfold u_LimitsError at h
  obtain ⟨r1, hr1, h⟩ := Option.bind_eq_some_iff.1 h
  have Kr1 : KO Tryz.prog [a0, a1, (a2.length : Int), r1.1, r1.2] [(a2.flatMap enI)] ⟨137, 3, [some (0, 0), some (1, 0), some (2, 0)], [.gs 0 0 (.v 0) 1 false, .fn 161 [] [.ptr 1 0, .ptr 2 0]], [some (.rows 0 [] 3 true), some (.cells [(ys 1)] 3 false), some (.cells [(ys 2)] 3 false)], [(ns 2 0), .lst 0 (some 0) [], (ns 0 1), (ns 1 2)], 1, .tup [(ys 0), (ys 1)], [none, some (.cells [(ys 2)] 3 false), some (.cells [(ys 3)] 3 false)], .tup [(ys 3), (ys 4)], [], [(1, some (.cells [(ys 0)] 3 false)), (2, some (.cells [(ys 1)] 3 false))]⟩ := fun N M => ⟨_, _, [(ns 0 3), (ns 1 4), (ns 2 0), (ns 3 1)], ⟨u_FirstBad_int_LimitsError_1_ok fu a2 a0 a1 r1 hr1, ⟨(r (a2.length : Int)), ⟨[], rfl, lnil _⟩, (r a0), (r a1), trivial⟩, by kernel_rfl, ⟨rfl, rfl, rfl, rfl, trivial⟩⟩⟩
  injection h with h; subst h
  exact to_fin mixed ⟨[], [], [(0, 1, (.v 2))], [⟨137, 3, [some (0, 0), some (1, 0), some (2, 0)], [.gs 0 0 (.v 0) 1 false, .fn 161 [] [.ptr 1 0, .ptr 2 0]], [some (.rows 0 [] 3 true), some (.cells [(ys 1)] 3 false), some (.cells [(ys 2)] 3 false)], [(ns 2 0), .lst 0 (some 0) [], (ns 0 1), (ns 1 2)], 1, .tup [(ys 0), (ys 1)], [none, some (.cells [(ys 2)] 3 false), some (.cells [(ys 3)] 3 false)], .tup [(ys 3), (ys 4)], [], [(1, some (.cells [(ys 0)] 3 false)), (2, some (.cells [(ys 1)] 3 false))]⟩], [], []⟩ (V := (vals [a0, a1, (a2.length : Int), r1.1, r1.2] [(a2.flatMap enI)])) (n := 3000) (f := 3000) ⟨trivial, trivial, ⟨flat_length enI_len _, trivial⟩, trivial, trivial⟩ ⟨Kr1 _ _, trivial⟩ (R := ⟨(ys 0), [none], [some (0, 0)]⟩) (qs := [(ns 4 0)]) hF hr (by kernel_rfl) ⟨(r r1.2), trivial⟩ (at_re (V' := (vals [a0, a1, (a2.length : Int), r1.1, r1.2] [(a2.flatMap enI)])) (T := ⟨[(0, (ys 0)), (1, (ys 1)), (2, .gs 0 0 (.v 2) 1 false)], [some (.rows 0 [] 3 true)], [some (0, 0)]⟩) (qs := [(ns 0 0), (ns 1 1), (ns 2 2), .lst 0 (some 0) []]) hat (by kernel_rfl) ⟨rfl, rfl, rfl, ⟨[], rfl, lnil _⟩, trivial⟩)
def x_boxOf (a0_0 : Int) (a0_1 : Int) (a0_2 : Int) (a0_3 : Int) (a0_4 : Int) (a0_5 : Int) : Option (Int × Int × Int × Int × Int × Int) := some (a0_0, a0_1, a0_2, a0_3, a0_4, a0_5)
theorem x_boxOf_ok (a0_0 : Int) (a0_1 : Int) (a0_2 : Int) (a0_3 : Int) (a0_4 : Int) (a0_5 : Int) (y : Int × Int × Int × Int × Int × Int) (h : x_boxOf a0_0 a0_1 a0_2 a0_3 a0_4 a0_5 = some y) : CallOk Tryz.prog 92 (vals [a0_0, a0_1, a0_2, a0_3, a0_4, a0_5] []) [.agg [(ys 0), (ys 1), (ys 2), (ys 3), (ys 4), (ys 5)]] [] 0 (vals [y.1, y.2.1, y.2.2.1, y.2.2.2.1, y.2.2.2.2.1, y.2.2.2.2.2] []) (.agg [(ys 0), (ys 1), (ys 2), (ys 3), (ys 4), (ys 5)]) [] := by
  refine fun_of (nt := 10) (by kernel_rfl) (by kernel_rfl) fun φ0 w0 a w hat => ?_
  have hF := wide_fw
  have hr : Fence.wide.round = none := rfl
  unfold x_boxOf at h
  injection h with h; subst h
  exact to_fin mixed ⟨[], [], [], [], [], []⟩ (V := (vals [a0_0, a0_1, a0_2, a0_3, a0_4, a0_5] [])) (n := 3000) (f := 3000) ⟨trivial, trivial, trivial, trivial, trivial⟩ trivial (R := rrN5a_6) (qs := [(ns 0 0), (ns 1 1), (ns 2 2), (ns 3 3), (ns 4 4), (ns 5 5)]) hF hr (by kernel_rfl) ⟨(r a0_0), (r a0_1), (r a0_2), (r a0_3), (r a0_4), (r a0_5), trivial⟩ hat
def u_OrderError (a0_0 : Int) (a0_1 : Int) : Option (Int) := if a0_1 < a0_0 then (some (9 : Int)) else (some (0 : Int))
theorem u_OrderError_ok (a0_0 : Int) (a0_1 : Int) (y : Int) (h : u_OrderError a0_0 a0_1 = some y) : CallOk Tryz.prog 88 (vals [a0_0, a0_1] []) [.agg [(ys 0), (ys 1)]] [] 0 (vals [y] []) ((ys 0)) [] := by
  refine fun_of (nt := 8) (by kernel_rfl) (by kernel_rfl) fun φ0 w0 a w hat => ?_
  have hF := wide_fw
  have hr : Fence.wide.round = none := rfl
  unfold u_OrderError at h
  by_cases h1 : a0_1 < a0_0
  · rw [if_pos h1] at h
    injection h with h; subst h
    exact to_fin mixed ⟨[(.gtr, (.v 0), (.v 1), true)], [], [], [], [], []⟩ (V := (vals [a0_0, a0_1] [])) (n := 3000) (f := 3000) ⟨⟨gtr_t h1, trivial⟩, trivial, trivial, trivial, trivial⟩ trivial (R := ⟨(ys 0), [], []⟩) (qs := [.num (.c 9) (.v 0)]) hF hr (by kernel_rfl) ⟨(r (9 : Int)), trivial⟩ hat
  · rw [if_neg h1] at h
    injection h with h; subst h
    exact to_fin mixed ⟨[(.gtr, (.v 0), (.v 1), false)], [], [], [], [], []⟩ (V := (vals [a0_0, a0_1] [])) (n := 3000) (f := 3000) ⟨⟨gtr_f h1, trivial⟩, trivial, trivial, trivial, trivial⟩ trivial (R := ⟨(ys 0), [], []⟩) (qs := [.num (.c 0) (.v 0)]) hF hr (by kernel_rfl) ⟨(r (0 : Int)), trivial⟩ hat
def u_FirstBad_Range_OrderError_L1 (fu : Nat) (p0 : List (Int × Int)) (p1 : Int) : Nat → Int → Option ((Int × Int) ⊕ (Unit))
  | 0, _ => none
  | n + 1, v2 => if v2 < p1 then (if (0 : Int) ≤ v2 then (if v2 < (p0.length : Int) then (Option.bind ((p0)[0 + (v2).toNat]?) fun e4 => Option.bind (u_OrderError e4.1 e4.2) fun r5 => if r5 = (0 : Int) then (u_FirstBad_Range_OrderError_L1 fu p0 p1 n (IntKind.wrap .i64 (v2 + (1 : Int)))) else (some (.inl (v2, r5)))) else none) else none) else (some (.inr ()))
theorem u_FirstBad_Range_OrderError_L1_ok (fu : Nat) (p0 : List (Int × Int)) (p1 : Int) : ∀ (n : Nat) (v2 : Int) (o : (Int × Int) ⊕ (Unit)), u_FirstBad_Range_OrderError_L1 fu p0 p1 n v2 = some o → ∀ (φ0 : Phi) (w0 : World) (F : Fence) (k : Nat) (R : Exit → Act → World → Prop) (a : Act) (w : World), FW F → F.round = none → AtS (vals [(p0.length : Int), p1, v2] [(p0.flatMap enII)]) [(1, .fn 88 [] []), (9, .gs 0 0 (.v 0) 2 false), (10, (ys 1)), (11, (ys 2))] [some (.rows 0 [] 47 true)] 24 1 1 φ0 w0 a w → (∀ (y : Int × Int), o = .inl y → ∀ a' w', AtS (vals [(p0.length : Int), y.1, y.2] [(p0.flatMap enII)]) [(4, (ys 1)), (5, (ys 2))] [some (.rows 0 [] 47 true)] 24 1 1 φ0 w0 a' w' → R Exit.ret a' w') → (∀ (y : Unit), o = .inr y → ∀ a' w', AtS (vals [(p0.length : Int)] [(p0.flatMap enII)]) [] [some (.rows 0 [] 47 true)] 24 1 1 φ0 w0 a' w' → R (Exit.exit 0) a' w') → Code.roundsIn F k Tryz.prog (subAt (bodyOf Tryz.prog 162) [1, 0, 1, 0, 0]) R n a w
  | 0, _, _, h => by cases h
  | n + 1, v2, o, h => by
    intro φ0 w0 F k R a w hF hr hat hx0 hx1
    rw [u_FirstBad_Range_OrderError_L1] at h
    refine rounds_in (p := [1, 0, 1, 0, 0]) ?_
    by_cases h1 : v2 < p1
    · rw [if_pos h1] at h
      by_cases h2 : (0 : Int) ≤ v2
      · rw [if_pos h2] at h
        by_cases h3 : v2 < (p0.length : Int)
        · rw [if_pos h3] at h
          obtain ⟨e4, he4, h⟩ := Option.bind_eq_some_iff.1 h
          obtain ⟨r5, hr5, h⟩ := Option.bind_eq_some_iff.1 h
          have Kr5 : KO Tryz.prog [(p0.length : Int), p1, v2, e4.1, e4.2, r5] [(p0.flatMap enII)] n5a_k3 := fun N M => ⟨_, _, [(ns 0 5)], ⟨u_OrderError_ok e4.1 e4.2 r5 hr5, ⟨(r e4.1), (r e4.2), trivial⟩, by kernel_rfl, ⟨rfl, trivial⟩⟩⟩
          by_cases h6 : r5 = (0 : Int)
          · rw [if_pos h6] at h
            refine to_done mixed ⟨[(.lss, (.v 2), (.v 1), true), (.leq, (.c 0), (.v 2), true), (.lss, (.v 2), (.v 0), true), (.neq, (.v 5), (.c 0), false)], [(0, 0, (.v 2), [(ys 3), (ys 4)])], [(0, 2, (.v 0))], [n5a_k3], [], []⟩ (V := (vals [(p0.length : Int), p1, v2, e4.1, e4.2, r5] [(p0.flatMap enII)])) (n := 3000) (f := 3000) (V' := (vals [(p0.length : Int), p1, (IntKind.wrap .i64 (v2 + (1 : Int)))] [(p0.flatMap enII)])) ⟨⟨lss_t h1, leq_t h2, lss_t h3, neq_f h6, trivial⟩, ⟨⟨h2, _, rfl, flat_row enII_len he4⟩, trivial⟩, ⟨flat_length enII_len _, trivial⟩, trivial, trivial⟩ ⟨Kr5 _ _, trivial⟩ (T := ttN5a_9) (ce := .normal) (qs := [(ns 0 0), (ns 1 1), .num (.add .i64 (.v 2) (.c 1)) (.v 2), .lst 0 (some 0) []]) hF hr (by kernel_rfl) ⟨(r (p0.length : Int)), (r p1), (r (IntKind.wrap .i64 (v2 + (1 : Int)))), ⟨[], rfl, lnil _⟩, trivial⟩ (at_re (V' := (vals [(p0.length : Int), p1, v2, e4.1, e4.2, r5] [(p0.flatMap enII)])) (T := ttN5a_9) (qs := [(ns 0 0), (ns 1 1), (ns 2 2), .lst 0 (some 0) []]) hat (by kernel_rfl) ⟨rfl, rfl, rfl, ⟨[], rfl, lnil _⟩, trivial⟩) fun a' w' hat' => ?_
            exact u_FirstBad_Range_OrderError_L1_ok fu p0 p1 n (IntKind.wrap .i64 (v2 + (1 : Int))) o h _ _ _ _ _ _ _ hF hr hat' hx0 hx1
          · rw [if_neg h6] at h
            injection h with h; subst h
            exact to_done mixed ⟨[(.lss, (.v 2), (.v 1), true), (.leq, (.c 0), (.v 2), true), (.lss, (.v 2), (.v 0), true), (.neq, (.v 5), (.c 0), true)], [(0, 0, (.v 2), [(ys 3), (ys 4)])], [(0, 2, (.v 0))], [n5a_k3], [], []⟩ (V := (vals [(p0.length : Int), p1, v2, e4.1, e4.2, r5] [(p0.flatMap enII)])) (n := 3000) (f := 3000) (V' := (vals [(p0.length : Int), v2, r5] [(p0.flatMap enII)])) ⟨⟨lss_t h1, leq_t h2, lss_t h3, neq_t h6, trivial⟩, ⟨⟨h2, _, rfl, flat_row enII_len he4⟩, trivial⟩, ⟨flat_length enII_len _, trivial⟩, trivial, trivial⟩ ⟨Kr5 _ _, trivial⟩ (T := ⟨[(4, (ys 1)), (5, (ys 2))], [some (.rows 0 [] 47 true)], [some (0, 0)]⟩) (ce := .ret) (qs := [(ns 2 1), (ns 5 2), .lst 0 (some 0) []]) hF hr (by kernel_rfl) ⟨(r v2), (r r5), ⟨[], rfl, lnil _⟩, trivial⟩ (at_re (V' := (vals [(p0.length : Int), p1, v2, e4.1, e4.2, r5] [(p0.flatMap enII)])) (T := ttN5a_9) (qs := [(ns 0 0), (ns 1 1), (ns 2 2), .lst 0 (some 0) []]) hat (by kernel_rfl) ⟨rfl, rfl, rfl, ⟨[], rfl, lnil _⟩, trivial⟩) fun a' w' hat' => hx0 (v2, r5) rfl a' w' hat'
        · rw [if_neg h3] at h
          cases h
      · rw [if_neg h2] at h
        cases h
    · rw [if_neg h1] at h
      injection h with h; subst h
      exact to_done mixed ⟨[(.lss, (.v 2), (.v 1), false)], [], [(0, 2, (.v 0))], [], [], []⟩ (V := (vals [(p0.length : Int), p1, v2] [(p0.flatMap enII)])) (n := 3000) (f := 3000) (V' := (vals [(p0.length : Int)] [(p0.flatMap enII)])) ⟨⟨lss_f h1, trivial⟩, trivial, ⟨flat_length enII_len _, trivial⟩, trivial, trivial⟩ trivial (T := ⟨[], [some (.rows 0 [] 47 true)], [some (0, 0)]⟩) (ce := (.exit 0)) (qs := [.lst 0 (some 0) []]) hF hr (by kernel_rfl) ⟨⟨[], rfl, lnil _⟩, trivial⟩ hat fun a' w' hat' => hx1 () rfl a' w' hat'
def u_FirstBad_Range_OrderError (fu : Nat) (a0 : List (Int × Int)) : Option (Int × Int) := Option.bind (u_FirstBad_Range_OrderError_L1 fu a0 (a0.length : Int) fu (0 : Int)) fun o1 => (match o1 with | .inl y2 => (some (y2.1, y2.2)) | .inr y3 => (some ((0 : Int), (0 : Int))))
theorem u_FirstBad_Range_OrderError_ok (fu : Nat) (a0 : List (Int × Int)) (y : Int × Int) (h : u_FirstBad_Range_OrderError fu a0 = some y) : CallOk Tryz.prog 162 (vals [(a0.length : Int)] [(a0.flatMap enII)]) [.gs 0 0 (.v 0) 2 false, .fn 88 [] []] [some (.rows 0 [] 47 true)] 1 (vals [y.1, y.2] []) (.tup [(ys 0), (ys 1)]) [none] := by
  refine fun_of (nt := 24) (by kernel_rfl) (by kernel_rfl) fun φ0 w0 a w hat => ?_
  have hF := wide_fw
  have hr : Fence.wide.round = none := rfl
  unfold u_FirstBad_Range_OrderError at h
  obtain ⟨o1, ho1, h⟩ := Option.bind_eq_some_iff.1 h
  refine to_loop mixed ⟨[], [], [(0, 2, (.v 0))], [], [], []⟩ (V := (vals [(a0.length : Int)] [(a0.flatMap enII)])) (n := 3000) (f := 3000) (V' := (vals [(a0.length : Int), (a0.length : Int), (0 : Int)] [(a0.flatMap enII)])) ⟨trivial, trivial, ⟨flat_length enII_len _, trivial⟩, trivial, trivial⟩ trivial (T := ttN5a_9) (B := subAt (bodyOf Tryz.prog 162) [1, 0, 1, 0, 0]) (K' := [.bk 0, .sq (subAt (bodyOf Tryz.prog 162) [1, 1]) [1, 1]]) (qs := [(ns 0 0), (ns 0 1), .num (.c 0) (.v 2), .lst 0 (some 0) []]) hF hr (by kernel_rfl) ⟨(r (a0.length : Int)), (r (a0.length : Int)), (r (0 : Int)), ⟨[], rfl, lnil _⟩, trivial⟩ hat fun aa1 ww1 hat1 => loop_in (u_FirstBad_Range_OrderError_L1_ok fu a0 (a0.length : Int) fu (0 : Int) o1 ho1 _ _ _ _ _ _ _ hF hr hat1 ?_ ?_)
  · intro y2 hy aa2 ww2 hat
    subst hy
    dsimp only at h
    show (Wk.out .ret).goal _ _ _ [.bk 0, .sq (subAt (bodyOf Tryz.prog 162) [1, 1]) [1, 1]] _ aa2 ww2
    injection h with h; subst h
    exact to_fin mixed ⟨[], [], [(0, 2, (.v 0))], [], [], []⟩ (V := (vals [(a0.length : Int), y2.1, y2.2] [(a0.flatMap enII)])) (n := 3000) (f := 3000) ⟨trivial, trivial, ⟨flat_length enII_len _, trivial⟩, trivial, trivial⟩ trivial (R := ⟨.tup [(ys 0), (ys 1)], [none], [some (0, 0)]⟩) (qs := [(ns 1 0), (ns 2 1)]) hF hr (by kernel_rfl) ⟨(r y2.1), (r y2.2), trivial⟩ hat
  · intro y3 hy aa2 ww2 hat
    subst hy
    dsimp only at h
    show (Wk.out (.exit 0)).goal _ _ _ [.bk 0, .sq (subAt (bodyOf Tryz.prog 162) [1, 1]) [1, 1]] _ aa2 ww2
    injection h with h; subst h
    exact to_fin mixed ⟨[], [], [(0, 2, (.v 0))], [], [], []⟩ (V := (vals [(a0.length : Int)] [(a0.flatMap enII)])) (n := 3000) (f := 3000) ⟨trivial, trivial, ⟨flat_length enII_len _, trivial⟩, trivial, trivial⟩ trivial (R := ⟨.tup [(ys 0), (ys 1)], [none], [some (0, 0)]⟩) (qs := [.num (.c 0) (.v 0), .num (.c 0) (.v 1)]) hF hr (by kernel_rfl) ⟨(r (0 : Int)), (r (0 : Int)), trivial⟩ hat
def x_box_orderError (fu : Nat) (a0_0 : Int) (a0_1 : Int) (a0_2 : Int) (a0_3 : Int) (a0_4 : Int) (a0_5 : Int) : Option (Int) := Option.bind (u_FirstBad_Range_OrderError fu ([(a0_0, a0_1), (a0_2, a0_3), (a0_4, a0_5)] : List (Int × Int))) fun r1 => some r1.2
theorem x_box_orderError_ok (fu : Nat) (a0_0 : Int) (a0_1 : Int) (a0_2 : Int) (a0_3 : Int) (a0_4 : Int) (a0_5 : Int) (y : Int) (h : x_box_orderError fu a0_0 a0_1 a0_2 a0_3 a0_4 a0_5 = some y) : CallOk Tryz.prog 93 (vals [a0_0, a0_1, a0_2, a0_3, a0_4, a0_5] []) [.agg [(ys 0), (ys 1), (ys 2), (ys 3), (ys 4), (ys 5)]] [] 0 (vals [y] []) ((ys 0)) [] := by
  refine fun_of (nt := 11) (by kernel_rfl) (by kernel_rfl) fun φ0 w0 a w hat => ?_
  have hF := wide_fw
  have hr : Fence.wide.round = none := rfl
  unfold x_box_orderError at h
  obtain ⟨r1, hr1, h⟩ := Option.bind_eq_some_iff.1 h
  have Kr1 : KO Tryz.prog [a0_0, a0_1, a0_2, a0_3, a0_4, a0_5, r1.1, r1.2] [] ⟨162, 1, [some (0, 0)], [.gs 0 0 (.v 0) 2 false, .fn 88 [] []], [some (.rows 0 [] 47 true)], [.num (.c 3) (.v 0), .lst 0 none [(ys 0), (ys 1), (ys 2), (ys 3), (ys 4), (ys 5)]], 1, .tup [(ys 0), (ys 1)], [none], .tup [(ys 6), (ys 7)], [], []⟩ := fun N M => ⟨_, _, [(ns 0 6), (ns 1 7)], ⟨u_FirstBad_Range_OrderError_ok fu ([(a0_0, a0_1), (a0_2, a0_3), (a0_4, a0_5)] : List (Int × Int)) r1 hr1, ⟨rfl, rfl, trivial⟩, by kernel_rfl, ⟨rfl, rfl, trivial⟩⟩⟩
  injection h with h; subst h
  exact to_fin mixed ⟨[], [], [], [⟨162, 1, [some (0, 0)], [.gs 0 0 (.v 0) 2 false, .fn 88 [] []], [some (.rows 0 [] 47 true)], [.num (.c 3) (.v 0), .lst 0 none [(ys 0), (ys 1), (ys 2), (ys 3), (ys 4), (ys 5)]], 1, .tup [(ys 0), (ys 1)], [none], .tup [(ys 6), (ys 7)], [], []⟩], [], []⟩ (V := (vals [a0_0, a0_1, a0_2, a0_3, a0_4, a0_5, r1.1, r1.2] [])) (n := 3000) (f := 3000) ⟨trivial, trivial, trivial, trivial, trivial⟩ ⟨Kr1 _ _, trivial⟩ (R := ⟨(ys 0), [], []⟩) (qs := [(ns 7 0)]) hF hr (by kernel_rfl) ⟨(r r1.2), trivial⟩ (at_re (V' := (vals [a0_0, a0_1, a0_2, a0_3, a0_4, a0_5, r1.1, r1.2] [])) (T := ttN5a_13) (qs := [(ns 0 0), (ns 1 1), (ns 2 2), (ns 3 3), (ns 4 4), (ns 5 5)]) hat (by kernel_rfl) ⟨rfl, rfl, rfl, rfl, rfl, rfl, trivial⟩)
def u_FirstError_L1 (fu : Nat) (p0 : List (Int)) (p1 : Int) : Nat → Int → Option ((Int) ⊕ (Unit))
  | 0, _ => none
  | n + 1, v2 => if v2 < p1 then (if (0 : Int) ≤ v2 then (if v2 < (p0.length : Int) then (Option.bind ((p0)[0 + (v2).toNat]?) fun e4 => if e4 = (0 : Int) then (u_FirstError_L1 fu p0 p1 n (IntKind.wrap .i64 (v2 + (1 : Int)))) else (some (.inl e4))) else none) else none) else (some (.inr ()))
theorem u_FirstError_L1_ok (fu : Nat) (p0 : List (Int)) (p1 : Int) : ∀ (n : Nat) (v2 : Int) (o : (Int) ⊕ (Unit)), u_FirstError_L1 fu p0 p1 n v2 = some o → ∀ (φ0 : Phi) (w0 : World) (F : Fence) (k : Nat) (R : Exit → Act → World → Prop) (a : Act) (w : World), FW F → F.round = none → AtS (vals [(p0.length : Int), p1, v2] [(p0.flatMap enI)]) [(5, .gs 0 0 (.v 0) 1 false), (6, (ys 1)), (7, (ys 2))] [some (.rows 0 [] 28 true)] 15 1 1 φ0 w0 a w → (∀ (y : Int), o = .inl y → ∀ a' w', AtS (vals [(p0.length : Int), y] [(p0.flatMap enI)]) [(2, (ys 1))] [some (.rows 0 [] 28 true)] 15 1 1 φ0 w0 a' w' → R Exit.ret a' w') → (∀ (y : Unit), o = .inr y → ∀ a' w', AtS (vals [(p0.length : Int)] [(p0.flatMap enI)]) [] [some (.rows 0 [] 28 true)] 15 1 1 φ0 w0 a' w' → R (Exit.exit 0) a' w') → Code.roundsIn F k Tryz.prog (subAt (bodyOf Tryz.prog 66) [1, 0, 1, 0, 0]) R n a w
  | 0, _, _, h => by cases h
  | n + 1, v2, o, h => by
    intro φ0 w0 F k R a w hF hr hat hx0 hx1
    rw [u_FirstError_L1] at h
    refine rounds_in (p := [1, 0, 1, 0, 0]) ?_
    by_cases h1 : v2 < p1
    · rw [if_pos h1] at h
      by_cases h2 : (0 : Int) ≤ v2
      · rw [if_pos h2] at h
        by_cases h3 : v2 < (p0.length : Int)
        · rw [if_pos h3] at h
          obtain ⟨e4, he4, h⟩ := Option.bind_eq_some_iff.1 h
          by_cases h5 : e4 = (0 : Int)
          · rw [if_pos h5] at h
            refine to_done mixed ⟨[(.lss, (.v 2), (.v 1), true), (.leq, (.c 0), (.v 2), true), (.lss, (.v 2), (.v 0), true), (.neq, (.v 3), (.c 0), false)], [(0, 0, (.v 2), [(ys 3)])], [(0, 1, (.v 0))], [], [], []⟩ (V := (vals [(p0.length : Int), p1, v2, e4] [(p0.flatMap enI)])) (n := 3000) (f := 3000) (V' := (vals [(p0.length : Int), p1, (IntKind.wrap .i64 (v2 + (1 : Int)))] [(p0.flatMap enI)])) ⟨⟨lss_t h1, leq_t h2, lss_t h3, neq_f h5, trivial⟩, ⟨⟨h2, _, rfl, flat_row enI_len he4⟩, trivial⟩, ⟨flat_length enI_len _, trivial⟩, trivial, trivial⟩ trivial (T := ttN5a_11) (ce := .normal) (qs := [(ns 0 0), (ns 1 1), .num (.add .i64 (.v 2) (.c 1)) (.v 2), .lst 0 (some 0) []]) hF hr (by kernel_rfl) ⟨(r (p0.length : Int)), (r p1), (r (IntKind.wrap .i64 (v2 + (1 : Int)))), ⟨[], rfl, lnil _⟩, trivial⟩ (at_re (V' := (vals [(p0.length : Int), p1, v2, e4] [(p0.flatMap enI)])) (T := ttN5a_11) (qs := [(ns 0 0), (ns 1 1), (ns 2 2), .lst 0 (some 0) []]) hat (by kernel_rfl) ⟨rfl, rfl, rfl, ⟨[], rfl, lnil _⟩, trivial⟩) fun a' w' hat' => ?_
            exact u_FirstError_L1_ok fu p0 p1 n (IntKind.wrap .i64 (v2 + (1 : Int))) o h _ _ _ _ _ _ _ hF hr hat' hx0 hx1
          · rw [if_neg h5] at h
            injection h with h; subst h
            exact to_done mixed ⟨[(.lss, (.v 2), (.v 1), true), (.leq, (.c 0), (.v 2), true), (.lss, (.v 2), (.v 0), true), (.neq, (.v 3), (.c 0), true)], [(0, 0, (.v 2), [(ys 3)])], [(0, 1, (.v 0))], [], [], []⟩ (V := (vals [(p0.length : Int), p1, v2, e4] [(p0.flatMap enI)])) (n := 3000) (f := 3000) (V' := (vals [(p0.length : Int), e4] [(p0.flatMap enI)])) ⟨⟨lss_t h1, leq_t h2, lss_t h3, neq_t h5, trivial⟩, ⟨⟨h2, _, rfl, flat_row enI_len he4⟩, trivial⟩, ⟨flat_length enI_len _, trivial⟩, trivial, trivial⟩ trivial (T := ⟨[(2, (ys 1))], [some (.rows 0 [] 28 true)], [some (0, 0)]⟩) (ce := .ret) (qs := [(ns 3 1), .lst 0 (some 0) []]) hF hr (by kernel_rfl) ⟨(r e4), ⟨[], rfl, lnil _⟩, trivial⟩ (at_re (V' := (vals [(p0.length : Int), p1, v2, e4] [(p0.flatMap enI)])) (T := ttN5a_11) (qs := [(ns 0 0), (ns 1 1), (ns 2 2), .lst 0 (some 0) []]) hat (by kernel_rfl) ⟨rfl, rfl, rfl, ⟨[], rfl, lnil _⟩, trivial⟩) fun a' w' hat' => hx0 e4 rfl a' w' hat'
        · rw [if_neg h3] at h
          cases h
      · rw [if_neg h2] at h
        cases h
    · rw [if_neg h1] at h
      injection h with h; subst h
      exact to_done mixed ⟨[(.lss, (.v 2), (.v 1), false)], [], [(0, 1, (.v 0))], [], [], []⟩ (V := (vals [(p0.length : Int), p1, v2] [(p0.flatMap enI)])) (n := 3000) (f := 3000) (V' := (vals [(p0.length : Int)] [(p0.flatMap enI)])) ⟨⟨lss_f h1, trivial⟩, trivial, ⟨flat_length enI_len _, trivial⟩, trivial, trivial⟩ trivial (T := ⟨[], [some (.rows 0 [] 28 true)], [some (0, 0)]⟩) (ce := (.exit 0)) (qs := [.lst 0 (some 0) []]) hF hr (by kernel_rfl) ⟨⟨[], rfl, lnil _⟩, trivial⟩ hat fun a' w' hat' => hx1 () rfl a' w' hat'
def u_FirstError (fu : Nat) (a0 : List (Int)) : Option (Int) := Option.bind (u_FirstError_L1 fu a0 (a0.length : Int) fu (0 : Int)) fun o1 => (match o1 with | .inl y2 => (some y2) | .inr y3 => (some (0 : Int)))
theorem u_FirstError_ok (fu : Nat) (a0 : List (Int)) (y : Int) (h : u_FirstError fu a0 = some y) : CallOk Tryz.prog 66 (vals [(a0.length : Int)] [(a0.flatMap enI)]) [.gs 0 0 (.v 0) 1 false] [some (.rows 0 [] 28 true)] 1 (vals [y] []) ((ys 0)) [none] := by
  refine fun_of (nt := 15) (by kernel_rfl) (by kernel_rfl) fun φ0 w0 a w hat => ?_
  have hF := wide_fw
  have hr : Fence.wide.round = none := rfl
  unfold u_FirstError at h
  obtain ⟨o1, ho1, h⟩ := Option.bind_eq_some_iff.1 h
  refine to_loop mixed ⟨[], [], [(0, 1, (.v 0))], [], [], []⟩ (V := (vals [(a0.length : Int)] [(a0.flatMap enI)])) (n := 3000) (f := 3000) (V' := (vals [(a0.length : Int), (a0.length : Int), (0 : Int)] [(a0.flatMap enI)])) ⟨trivial, trivial, ⟨flat_length enI_len _, trivial⟩, trivial, trivial⟩ trivial (T := ttN5a_11) (B := subAt (bodyOf Tryz.prog 66) [1, 0, 1, 0, 0]) (K' := [.bk 0, .sq (subAt (bodyOf Tryz.prog 66) [1, 1]) [1, 1]]) (qs := [(ns 0 0), (ns 0 1), .num (.c 0) (.v 2), .lst 0 (some 0) []]) hF hr (by kernel_rfl) ⟨(r (a0.length : Int)), (r (a0.length : Int)), (r (0 : Int)), ⟨[], rfl, lnil _⟩, trivial⟩ hat fun aa1 ww1 hat1 => loop_in (u_FirstError_L1_ok fu a0 (a0.length : Int) fu (0 : Int) o1 ho1 _ _ _ _ _ _ _ hF hr hat1 ?_ ?_)
  · intro y2 hy aa2 ww2 hat
    subst hy
    dsimp only at h
    show (Wk.out .ret).goal _ _ _ [.bk 0, .sq (subAt (bodyOf Tryz.prog 66) [1, 1]) [1, 1]] _ aa2 ww2
    injection h with h; subst h
    exact to_fin mixed ⟨[], [], [(0, 1, (.v 0))], [], [], []⟩ (V := (vals [(a0.length : Int), y2] [(a0.flatMap enI)])) (n := 3000) (f := 3000) ⟨trivial, trivial, ⟨flat_length enI_len _, trivial⟩, trivial, trivial⟩ trivial (R := ⟨(ys 0), [none], [some (0, 0)]⟩) (qs := [(ns 1 0)]) hF hr (by kernel_rfl) ⟨(r y2), trivial⟩ hat
  · intro y3 hy aa2 ww2 hat
    subst hy
    dsimp only at h
    show (Wk.out (.exit 0)).goal _ _ _ [.bk 0, .sq (subAt (bodyOf Tryz.prog 66) [1, 1]) [1, 1]] _ aa2 ww2
    injection h with h; subst h
    exact to_fin mixed ⟨[], [], [(0, 1, (.v 0))], [], [], []⟩ (V := (vals [(a0.length : Int)] [(a0.flatMap enI)])) (n := 3000) (f := 3000) ⟨trivial, trivial, ⟨flat_length enI_len _, trivial⟩, trivial, trivial⟩ trivial (R := ⟨(ys 0), [none], [some (0, 0)]⟩) (qs := [.num (.c 0) (.v 0)]) hF hr (by kernel_rfl) ⟨(r (0 : Int)), trivial⟩ hat
def x_worldError (fu : Nat) (a0_0 : Int) (a0_1 : Int) (a0_2 : Int) (a0_3 : Int) (a0_4 : Int) (a0_5 : Int) : Option (Int) := Option.bind (u_SizeError fu (10000 : Int) ([a0_0, a0_1, a0_2, a0_3] : List (Int))) fun r1 => Option.bind (u_LimitsError fu (0 : Int) (10000 : Int) ([a0_4, a0_5] : List (Int))) fun r2 => Option.bind (x_boxOf a0_0 a0_1 a0_2 a0_3 a0_4 a0_5) fun r3 => Option.bind (x_box_orderError fu r3.1 r3.2.1 r3.2.2.1 r3.2.2.2.1 r3.2.2.2.2.1 r3.2.2.2.2.2) fun r4 => Option.bind (u_FirstError fu ([r1, r2, r4] : List (Int))) fun r5 => some r5
theorem x_worldError_ok (fu : Nat) (a0_0 : Int) (a0_1 : Int) (a0_2 : Int) (a0_3 : Int) (a0_4 : Int) (a0_5 : Int) (y : Int) (h : x_worldError fu a0_0 a0_1 a0_2 a0_3 a0_4 a0_5 = some y) : CallOk Tryz.prog 82 (vals [a0_0, a0_1, a0_2, a0_3, a0_4, a0_5] []) [.agg [(ys 0), (ys 1), (ys 2), (ys 3), (ys 4), (ys 5)]] [] 0 (vals [y] []) ((ys 0)) [] := by
  refine fun_of (nt := 30) (by kernel_rfl) (by kernel_rfl) fun φ0 w0 a w hat => ?_
  have hF := wide_fw
  have hr : Fence.wide.round = none := rfl
  unfold x_worldError at h
  obtain ⟨r1, hr1, h⟩ := Option.bind_eq_some_iff.1 h
  have Kr1 : KO Tryz.prog [a0_0, a0_1, a0_2, a0_3, a0_4, a0_5, r1] [] ⟨86, 2, [some (1, 0)], [(ys 0), .gs 0 0 (.v 1) 1 false], [some (.rows 0 [] 3 true)], [.num (.c 10000) (.v 0), .num (.c 4) (.v 1), .lst 0 none [(ys 0), (ys 1), (ys 2), (ys 3)]], 1, (ys 0), [none], (ys 6), [], []⟩ := fun N M => ⟨_, _, [(ns 0 6)], ⟨u_SizeError_ok fu (10000 : Int) ([a0_0, a0_1, a0_2, a0_3] : List (Int)) r1 hr1, ⟨(r (10000 : Int)), rfl, rfl, trivial⟩, by kernel_rfl, ⟨rfl, trivial⟩⟩⟩
  obtain ⟨r2, hr2, h⟩ := Option.bind_eq_some_iff.1 h
  have Kr2 : KO Tryz.prog [a0_0, a0_1, a0_2, a0_3, a0_4, a0_5, r1, r2] [] ⟨87, 3, [some (2, 0)], [(ys 0), (ys 1), .gs 0 0 (.v 2) 1 false], [some (.rows 0 [] 3 true)], [.num (.c 0) (.v 0), .num (.c 10000) (.v 1), .num (.c 2) (.v 2), .lst 0 none [(ys 4), (ys 5)]], 1, (ys 0), [none], (ys 7), [], []⟩ := fun N M => ⟨_, _, [(ns 0 7)], ⟨u_LimitsError_ok fu (0 : Int) (10000 : Int) ([a0_4, a0_5] : List (Int)) r2 hr2, ⟨(r (0 : Int)), (r (10000 : Int)), rfl, rfl, trivial⟩, by kernel_rfl, ⟨rfl, trivial⟩⟩⟩
  obtain ⟨r3, hr3, h⟩ := Option.bind_eq_some_iff.1 h
  have Kr3 : KO Tryz.prog [a0_0, a0_1, a0_2, a0_3, a0_4, a0_5, r1, r2, r3.1, r3.2.1, r3.2.2.1, r3.2.2.2.1, r3.2.2.2.2.1, r3.2.2.2.2.2] [] ⟨92, 3, [], [.agg [(ys 0), (ys 1), (ys 2), (ys 3), (ys 4), (ys 5)]], [], [(ns 0 0), (ns 1 1), (ns 2 2), (ns 3 3), (ns 4 4), (ns 5 5)], 0, .agg [(ys 0), (ys 1), (ys 2), (ys 3), (ys 4), (ys 5)], [], .agg [(ys 8), (ys 9), (ys 10), (ys 11), (ys 12), (ys 13)], [], []⟩ := fun N M => ⟨_, _, [(ns 0 8), (ns 1 9), (ns 2 10), (ns 3 11), (ns 4 12), (ns 5 13)], ⟨x_boxOf_ok a0_0 a0_1 a0_2 a0_3 a0_4 a0_5 r3 hr3, ⟨(r a0_0), (r a0_1), (r a0_2), (r a0_3), (r a0_4), (r a0_5), trivial⟩, by kernel_rfl, ⟨rfl, rfl, rfl, rfl, rfl, rfl, trivial⟩⟩⟩
  obtain ⟨r4, hr4, h⟩ := Option.bind_eq_some_iff.1 h
  have Kr4 : KO Tryz.prog [a0_0, a0_1, a0_2, a0_3, a0_4, a0_5, r1, r2, r3.1, r3.2.1, r3.2.2.1, r3.2.2.2.1, r3.2.2.2.2.1, r3.2.2.2.2.2, r4] [] ⟨93, 3, [], [.agg [(ys 0), (ys 1), (ys 2), (ys 3), (ys 4), (ys 5)]], [], [(ns 8 0), (ns 9 1), (ns 10 2), (ns 11 3), (ns 12 4), (ns 13 5)], 0, (ys 0), [], (ys 14), [], []⟩ := fun N M => ⟨_, _, [(ns 0 14)], ⟨x_box_orderError_ok fu r3.1 r3.2.1 r3.2.2.1 r3.2.2.2.1 r3.2.2.2.2.1 r3.2.2.2.2.2 r4 hr4, ⟨(r r3.1), (r r3.2.1), (r r3.2.2.1), (r r3.2.2.2.1), (r r3.2.2.2.2.1), (r r3.2.2.2.2.2), trivial⟩, by kernel_rfl, ⟨rfl, trivial⟩⟩⟩
  obtain ⟨r5, hr5, h⟩ := Option.bind_eq_some_iff.1 h
  have Kr5 : KO Tryz.prog [a0_0, a0_1, a0_2, a0_3, a0_4, a0_5, r1, r2, r3.1, r3.2.1, r3.2.2.1, r3.2.2.2.1, r3.2.2.2.2.1, r3.2.2.2.2.2, r4, r5] [] ⟨66, 4, [some (3, 0)], [.gs 0 0 (.v 0) 1 false], [some (.rows 0 [] 28 true)], [.num (.c 3) (.v 0), .lst 0 none [(ys 6), (ys 7), (ys 14)]], 1, (ys 0), [none], (ys 15), [], []⟩ := fun N M => ⟨_, _, [(ns 0 15)], ⟨u_FirstError_ok fu ([r1, r2, r4] : List (Int)) r5 hr5, ⟨rfl, rfl, trivial⟩, by kernel_rfl, ⟨rfl, trivial⟩⟩⟩
  injection h with h; subst h
  exact to_fin mixed ⟨[], [], [], [⟨86, 2, [some (1, 0)], [(ys 0), .gs 0 0 (.v 1) 1 false], [some (.rows 0 [] 3 true)], [.num (.c 10000) (.v 0), .num (.c 4) (.v 1), .lst 0 none [(ys 0), (ys 1), (ys 2), (ys 3)]], 1, (ys 0), [none], (ys 6), [], []⟩, ⟨87, 3, [some (2, 0)], [(ys 0), (ys 1), .gs 0 0 (.v 2) 1 false], [some (.rows 0 [] 3 true)], [.num (.c 0) (.v 0), .num (.c 10000) (.v 1), .num (.c 2) (.v 2), .lst 0 none [(ys 4), (ys 5)]], 1, (ys 0), [none], (ys 7), [], []⟩, ⟨92, 3, [], [.agg [(ys 0), (ys 1), (ys 2), (ys 3), (ys 4), (ys 5)]], [], [(ns 0 0), (ns 1 1), (ns 2 2), (ns 3 3), (ns 4 4), (ns 5 5)], 0, .agg [(ys 0), (ys 1), (ys 2), (ys 3), (ys 4), (ys 5)], [], .agg [(ys 8), (ys 9), (ys 10), (ys 11), (ys 12), (ys 13)], [], []⟩, ⟨93, 3, [], [.agg [(ys 0), (ys 1), (ys 2), (ys 3), (ys 4), (ys 5)]], [], [(ns 8 0), (ns 9 1), (ns 10 2), (ns 11 3), (ns 12 4), (ns 13 5)], 0, (ys 0), [], (ys 14), [], []⟩, ⟨66, 4, [some (3, 0)], [.gs 0 0 (.v 0) 1 false], [some (.rows 0 [] 28 true)], [.num (.c 3) (.v 0), .lst 0 none [(ys 6), (ys 7), (ys 14)]], 1, (ys 0), [none], (ys 15), [], []⟩], [], []⟩ (V := (vals [a0_0, a0_1, a0_2, a0_3, a0_4, a0_5, r1, r2, r3.1, r3.2.1, r3.2.2.1, r3.2.2.2.1, r3.2.2.2.2.1, r3.2.2.2.2.2, r4, r5] [])) (n := 3000) (f := 3000) ⟨trivial, trivial, trivial, trivial, trivial⟩ ⟨Kr1 _ _, Kr2 _ _, Kr3 _ _, Kr4 _ _, Kr5 _ _, trivial⟩ (R := ⟨(ys 0), [], []⟩) (qs := [(ns 15 0)]) hF hr (by kernel_rfl) ⟨(r r5), trivial⟩ (at_re (V' := (vals [a0_0, a0_1, a0_2, a0_3, a0_4, a0_5, r1, r2, r3.1, r3.2.1, r3.2.2.1, r3.2.2.2.1, r3.2.2.2.2.1, r3.2.2.2.2.2, r4, r5] [])) (T := ttN5a_13) (qs := [(ns 0 0), (ns 1 1), (ns 2 2), (ns 3 3), (ns 4 4), (ns 5 5)]) hat (by kernel_rfl) ⟨rfl, rfl, rfl, rfl, rfl, rfl, trivial⟩)
def u_isLetter (a0 : Int) : Option (Bool) := if (97 : Int) ≤ a0 then (if a0 ≤ (122 : Int) then (some true) else (if (65 : Int) ≤ a0 then (if a0 ≤ (90 : Int) then (some true) else (some false)) else (some false))) else (if (65 : Int) ≤ a0 then (if a0 ≤ (90 : Int) then (some true) else (some false)) else (some false))
theorem u_isLetter_ok (a0 : Int) (y : Bool) (h : u_isLetter a0 = some y) : CallOk Tryz.prog 227 (vals [a0] []) [.sym .u8 (.v 0)] [] 0 (vals [bI y] []) (.bs (.v 0)) [] := by
  refine fun_of (nt := 17) (by kernel_rfl) (by kernel_rfl) fun φ0 w0 a w hat => ?_
  have hF := wide_fw
  have hr : Fence.wide.round = none := rfl
  unfold u_isLetter at h
  by_cases h1 : (97 : Int) ≤ a0
  · rw [if_pos h1] at h
    by_cases h2 : a0 ≤ (122 : Int)
    · rw [if_pos h2] at h
      injection h with h; subst h
      exact to_fin mixed ⟨[(.leq, (.c 97), (.v 0), true), (.leq, (.v 0), (.c 122), true)], [], [], [], [], []⟩ (V := (vals [a0] [])) (n := 3000) (f := 3000) ⟨⟨leq_t h1, leq_t h2, trivial⟩, trivial, trivial, trivial, trivial⟩ trivial (R := ⟨.bs (.v 0), [], []⟩) (qs := [.num (.c 1) (.v 0)]) hF hr (by kernel_rfl) ⟨rfl, trivial⟩ hat
    · rw [if_neg h2] at h
      by_cases h3 : (65 : Int) ≤ a0
      · rw [if_pos h3] at h
        by_cases h4 : a0 ≤ (90 : Int)
        · rw [if_pos h4] at h
          injection h with h; subst h
          exact to_fin mixed ⟨[(.leq, (.c 97), (.v 0), true), (.leq, (.v 0), (.c 122), false), (.leq, (.c 65), (.v 0), true), (.leq, (.v 0), (.c 90), true)], [], [], [], [], []⟩ (V := (vals [a0] [])) (n := 3000) (f := 3000) ⟨⟨leq_t h1, leq_f h2, leq_t h3, leq_t h4, trivial⟩, trivial, trivial, trivial, trivial⟩ trivial (R := ⟨.bs (.v 0), [], []⟩) (qs := [.num (.c 1) (.v 0)]) hF hr (by kernel_rfl) ⟨rfl, trivial⟩ hat
        · rw [if_neg h4] at h
          injection h with h; subst h
          exact to_fin mixed ⟨[(.leq, (.c 97), (.v 0), true), (.leq, (.v 0), (.c 122), false), (.leq, (.c 65), (.v 0), true), (.leq, (.v 0), (.c 90), false)], [], [], [], [], []⟩ (V := (vals [a0] [])) (n := 3000) (f := 3000) ⟨⟨leq_t h1, leq_f h2, leq_t h3, leq_f h4, trivial⟩, trivial, trivial, trivial, trivial⟩ trivial (R := ⟨.bs (.v 0), [], []⟩) (qs := [.num (.c 0) (.v 0)]) hF hr (by kernel_rfl) ⟨rfl, trivial⟩ hat
      · rw [if_neg h3] at h
        injection h with h; subst h
        exact to_fin mixed ⟨[(.leq, (.c 97), (.v 0), true), (.leq, (.v 0), (.c 122), false), (.leq, (.c 65), (.v 0), false)], [], [], [], [], []⟩ (V := (vals [a0] [])) (n := 3000) (f := 3000) ⟨⟨leq_t h1, leq_f h2, leq_f h3, trivial⟩, trivial, trivial, trivial, trivial⟩ trivial (R := ⟨.bs (.v 0), [], []⟩) (qs := [.num (.c 0) (.v 0)]) hF hr (by kernel_rfl) ⟨rfl, trivial⟩ hat
  · rw [if_neg h1] at h
    by_cases h5 : (65 : Int) ≤ a0
    · rw [if_pos h5] at h
      by_cases h6 : a0 ≤ (90 : Int)
      · rw [if_pos h6] at h
        injection h with h; subst h
        exact to_fin mixed ⟨[(.leq, (.c 97), (.v 0), false), (.leq, (.c 65), (.v 0), true), (.leq, (.v 0), (.c 90), true)], [], [], [], [], []⟩ (V := (vals [a0] [])) (n := 3000) (f := 3000) ⟨⟨leq_f h1, leq_t h5, leq_t h6, trivial⟩, trivial, trivial, trivial, trivial⟩ trivial (R := ⟨.bs (.v 0), [], []⟩) (qs := [.num (.c 1) (.v 0)]) hF hr (by kernel_rfl) ⟨rfl, trivial⟩ hat
      · rw [if_neg h6] at h
        injection h with h; subst h
        exact to_fin mixed ⟨[(.leq, (.c 97), (.v 0), false), (.leq, (.c 65), (.v 0), true), (.leq, (.v 0), (.c 90), false)], [], [], [], [], []⟩ (V := (vals [a0] [])) (n := 3000) (f := 3000) ⟨⟨leq_f h1, leq_t h5, leq_f h6, trivial⟩, trivial, trivial, trivial, trivial⟩ trivial (R := ⟨.bs (.v 0), [], []⟩) (qs := [.num (.c 0) (.v 0)]) hF hr (by kernel_rfl) ⟨rfl, trivial⟩ hat
    · rw [if_neg h5] at h
      injection h with h; subst h
      exact to_fin mixed ⟨[(.leq, (.c 97), (.v 0), false), (.leq, (.c 65), (.v 0), false)], [], [], [], [], []⟩ (V := (vals [a0] [])) (n := 3000) (f := 3000) ⟨⟨leq_f h1, leq_f h5, trivial⟩, trivial, trivial, trivial, trivial⟩ trivial (R := ⟨.bs (.v 0), [], []⟩) (qs := [.num (.c 0) (.v 0)]) hF hr (by kernel_rfl) ⟨rfl, trivial⟩ hat
def u_isDigit (a0 : Int) : Option (Bool) := if (48 : Int) ≤ a0 then (if a0 ≤ (57 : Int) then (some true) else (some false)) else (some false)
theorem u_isDigit_ok (a0 : Int) (y : Bool) (h : u_isDigit a0 = some y) : CallOk Tryz.prog 228 (vals [a0] []) [.sym .u8 (.v 0)] [] 0 (vals [bI y] []) (.bs (.v 0)) [] := by
  refine fun_of (nt := 9) (by kernel_rfl) (by kernel_rfl) fun φ0 w0 a w hat => ?_
  have hF := wide_fw
  have hr : Fence.wide.round = none := rfl
  unfold u_isDigit at h
  by_cases h1 : (48 : Int) ≤ a0
  · rw [if_pos h1] at h
    by_cases h2 : a0 ≤ (57 : Int)
    · rw [if_pos h2] at h
      injection h with h; subst h
      exact to_fin mixed ⟨[(.leq, (.c 48), (.v 0), true), (.leq, (.v 0), (.c 57), true)], [], [], [], [], []⟩ (V := (vals [a0] [])) (n := 3000) (f := 3000) ⟨⟨leq_t h1, leq_t h2, trivial⟩, trivial, trivial, trivial, trivial⟩ trivial (R := ⟨.bs (.v 0), [], []⟩) (qs := [.num (.c 1) (.v 0)]) hF hr (by kernel_rfl) ⟨rfl, trivial⟩ hat
    · rw [if_neg h2] at h
      injection h with h; subst h
      exact to_fin mixed ⟨[(.leq, (.c 48), (.v 0), true), (.leq, (.v 0), (.c 57), false)], [], [], [], [], []⟩ (V := (vals [a0] [])) (n := 3000) (f := 3000) ⟨⟨leq_t h1, leq_f h2, trivial⟩, trivial, trivial, trivial, trivial⟩ trivial (R := ⟨.bs (.v 0), [], []⟩) (qs := [.num (.c 0) (.v 0)]) hF hr (by kernel_rfl) ⟨rfl, trivial⟩ hat
  · rw [if_neg h1] at h
    injection h with h; subst h
    exact to_fin mixed ⟨[(.leq, (.c 48), (.v 0), false)], [], [], [], [], []⟩ (V := (vals [a0] [])) (n := 3000) (f := 3000) ⟨⟨leq_f h1, trivial⟩, trivial, trivial, trivial, trivial⟩ trivial (R := ⟨.bs (.v 0), [], []⟩) (qs := [.num (.c 0) (.v 0)]) hF hr (by kernel_rfl) ⟨rfl, trivial⟩ hat
def u_isName_L1 (fu : Nat) (p0 : Int) (p1 : Int) : Nat → Int → Option ((Unit) ⊕ (Unit))
  | 0, _ => none
  | n + 1, v2 => if v2 < p1 then (if (0 : Int) ≤ v2 then (if v2 < (sln p0) then (Option.bind (u_isLetter (sat p0 v2)) fun r4 => if r4 = true then (u_isName_L1 fu p0 p1 n (IntKind.wrap .i64 (v2 + (1 : Int)))) else (Option.bind (u_isDigit (sat p0 v2)) fun r6 => if r6 = true then (u_isName_L1 fu p0 p1 n (IntKind.wrap .i64 (v2 + (1 : Int)))) else (if (sat p0 v2) = (45 : Int) then (u_isName_L1 fu p0 p1 n (IntKind.wrap .i64 (v2 + (1 : Int)))) else (some (.inl ()))))) else none) else none) else (some (.inr ()))
theorem u_isName_L1_ok (fu : Nat) (p0 : Int) (p1 : Int) : ∀ (n : Nat) (v2 : Int) (o : (Unit) ⊕ (Unit)), u_isName_L1 fu p0 p1 n v2 = some o → ∀ (φ0 : Phi) (w0 : World) (F : Fence) (k : Nat) (R : Exit → Act → World → Prop) (a : Act) (w : World), FW F → F.round = none → AtS (vals [p0, p1, v2] []) [(0, .ss (.v 0)), (19, (ys 1)), (20, (ys 2))] [] 39 0 0 φ0 w0 a w → (∀ (y : Unit), o = .inl y → ∀ a' w', AtS (vals [] []) [(2, .bool false)] [] 39 0 0 φ0 w0 a' w' → R Exit.ret a' w') → (∀ (y : Unit), o = .inr y → ∀ a' w', AtS (vals [] []) [] [] 39 0 0 φ0 w0 a' w' → R (Exit.exit 0) a' w') → Code.roundsIn F k Tryz.prog (subAt (bodyOf Tryz.prog 196) [1, 1, 0, 1, 0, 0]) R n a w
  | 0, _, _, h => by cases h
  | n + 1, v2, o, h => by
    intro φ0 w0 F k R a w hF hr hat hx0 hx1
    rw [u_isName_L1] at h
    refine rounds_in (p := [1, 1, 0, 1, 0, 0]) ?_
    by_cases h1 : v2 < p1
    · rw [if_pos h1] at h
      by_cases h2 : (0 : Int) ≤ v2
      · rw [if_pos h2] at h
        by_cases h3 : v2 < (sln p0)
        · rw [if_pos h3] at h
          obtain ⟨r4, hr4, h⟩ := Option.bind_eq_some_iff.1 h
          have Kr4 : KO Tryz.prog [p0, p1, v2, bI r4] [] n5a_k4 := fun N M => ⟨_, _, [(ns 0 3)], ⟨u_isLetter_ok (sat p0 v2) r4 hr4, ⟨(r (sat p0 v2)), trivial⟩, by kernel_rfl, ⟨rfl, trivial⟩⟩⟩
          by_cases h5 : r4 = true
          · rw [if_pos h5] at h
            refine to_done mixed ⟨[(.lss, (.v 2), (.v 1), true), (.leq, (.c 0), (.v 2), true), (.lss, (.v 2), (.sln (.v 0)), true), (.neq, (.v 3), (.c 0), true)], [], [], [n5a_k4], [], []⟩ (V := (vals [p0, p1, v2, bI r4] [])) (n := 3000) (f := 3000) (V' := (vals [p0, p1, (IntKind.wrap .i64 (v2 + (1 : Int)))] [])) ⟨⟨lss_t h1, leq_t h2, lss_t h3, bi_t h5, trivial⟩, trivial, trivial, trivial, trivial⟩ ⟨Kr4 _ _, trivial⟩ (T := ⟨[(0, .ss (.v 0)), (19, (ys 1)), (20, (ys 2))], [], []⟩) (ce := .normal) (qs := [(ns 0 0), (ns 1 1), .num (.add .i64 (.v 2) (.c 1)) (.v 2)]) hF hr (by kernel_rfl) ⟨(r p0), (r p1), (r (IntKind.wrap .i64 (v2 + (1 : Int)))), trivial⟩ (at_re (V' := (vals [p0, p1, v2, bI r4] [])) (T := ⟨[(0, .ss (.v 0)), (19, (ys 1)), (20, (ys 2))], [], []⟩) (qs := [(ns 0 0), (ns 1 1), (ns 2 2)]) hat (by kernel_rfl) ⟨rfl, rfl, rfl, trivial⟩) fun a' w' hat' => ?_
            exact u_isName_L1_ok fu p0 p1 n (IntKind.wrap .i64 (v2 + (1 : Int))) o h _ _ _ _ _ _ _ hF hr hat' hx0 hx1
          · rw [if_neg h5] at h
            obtain ⟨r6, hr6, h⟩ := Option.bind_eq_some_iff.1 h
            have Kr6 : KO Tryz.prog [p0, p1, v2, bI r4, bI r6] [] n5a_k5 := fun N M => ⟨_, _, [(ns 0 4)], ⟨u_isDigit_ok (sat p0 v2) r6 hr6, ⟨(r (sat p0 v2)), trivial⟩, by kernel_rfl, ⟨rfl, trivial⟩⟩⟩
            by_cases h7 : r6 = true
            · rw [if_pos h7] at h
              refine to_done mixed ⟨[(.lss, (.v 2), (.v 1), true), (.leq, (.c 0), (.v 2), true), (.lss, (.v 2), (.sln (.v 0)), true), (.neq, (.v 3), (.c 0), false), (.neq, (.v 4), (.c 0), true)], [], [], [n5a_k4, n5a_k5], [], []⟩ (V := (vals [p0, p1, v2, bI r4, bI r6] [])) (n := 3000) (f := 3000) (V' := (vals [p0, p1, (IntKind.wrap .i64 (v2 + (1 : Int)))] [])) ⟨⟨lss_t h1, leq_t h2, lss_t h3, bi_f h5, bi_t h7, trivial⟩, trivial, trivial, trivial, trivial⟩ ⟨Kr4 _ _, Kr6 _ _, trivial⟩ (T := ⟨[(0, .ss (.v 0)), (19, (ys 1)), (20, (ys 2))], [], []⟩) (ce := .normal) (qs := [(ns 0 0), (ns 1 1), .num (.add .i64 (.v 2) (.c 1)) (.v 2)]) hF hr (by kernel_rfl) ⟨(r p0), (r p1), (r (IntKind.wrap .i64 (v2 + (1 : Int)))), trivial⟩ (at_re (V' := (vals [p0, p1, v2, bI r4, bI r6] [])) (T := ⟨[(0, .ss (.v 0)), (19, (ys 1)), (20, (ys 2))], [], []⟩) (qs := [(ns 0 0), (ns 1 1), (ns 2 2)]) hat (by kernel_rfl) ⟨rfl, rfl, rfl, trivial⟩) fun a' w' hat' => ?_
              exact u_isName_L1_ok fu p0 p1 n (IntKind.wrap .i64 (v2 + (1 : Int))) o h _ _ _ _ _ _ _ hF hr hat' hx0 hx1
            · rw [if_neg h7] at h
              by_cases h8 : (sat p0 v2) = (45 : Int)
              · rw [if_pos h8] at h
                refine to_done mixed ⟨[(.lss, (.v 2), (.v 1), true), (.leq, (.c 0), (.v 2), true), (.lss, (.v 2), (.sln (.v 0)), true), (.neq, (.v 3), (.c 0), false), (.neq, (.v 4), (.c 0), false), (.neq, (.sat (.v 0) (.v 2)), (.c 45), false)], [], [], [n5a_k4, n5a_k5], [], []⟩ (V := (vals [p0, p1, v2, bI r4, bI r6] [])) (n := 3000) (f := 3000) (V' := (vals [p0, p1, (IntKind.wrap .i64 (v2 + (1 : Int)))] [])) ⟨⟨lss_t h1, leq_t h2, lss_t h3, bi_f h5, bi_f h7, neq_f h8, trivial⟩, trivial, trivial, trivial, trivial⟩ ⟨Kr4 _ _, Kr6 _ _, trivial⟩ (T := ⟨[(0, .ss (.v 0)), (19, (ys 1)), (20, (ys 2))], [], []⟩) (ce := .normal) (qs := [(ns 0 0), (ns 1 1), .num (.add .i64 (.v 2) (.c 1)) (.v 2)]) hF hr (by kernel_rfl) ⟨(r p0), (r p1), (r (IntKind.wrap .i64 (v2 + (1 : Int)))), trivial⟩ (at_re (V' := (vals [p0, p1, v2, bI r4, bI r6] [])) (T := ⟨[(0, .ss (.v 0)), (19, (ys 1)), (20, (ys 2))], [], []⟩) (qs := [(ns 0 0), (ns 1 1), (ns 2 2)]) hat (by kernel_rfl) ⟨rfl, rfl, rfl, trivial⟩) fun a' w' hat' => ?_
                exact u_isName_L1_ok fu p0 p1 n (IntKind.wrap .i64 (v2 + (1 : Int))) o h _ _ _ _ _ _ _ hF hr hat' hx0 hx1
              · rw [if_neg h8] at h
                injection h with h; subst h
                exact to_done mixed ⟨[(.lss, (.v 2), (.v 1), true), (.leq, (.c 0), (.v 2), true), (.lss, (.v 2), (.sln (.v 0)), true), (.neq, (.v 3), (.c 0), false), (.neq, (.v 4), (.c 0), false), (.neq, (.sat (.v 0) (.v 2)), (.c 45), true)], [], [], [n5a_k4, n5a_k5], [], []⟩ (V := (vals [p0, p1, v2, bI r4, bI r6] [])) (n := 3000) (f := 3000) (V' := (vals [] [])) ⟨⟨lss_t h1, leq_t h2, lss_t h3, bi_f h5, bi_f h7, neq_t h8, trivial⟩, trivial, trivial, trivial, trivial⟩ ⟨Kr4 _ _, Kr6 _ _, trivial⟩ (T := ⟨[(2, .bool false)], [], []⟩) (ce := .ret) (qs := []) hF hr (by kernel_rfl) trivial (at_re (V' := (vals [p0, p1, v2, bI r4, bI r6] [])) (T := ⟨[(0, .ss (.v 0)), (19, (ys 1)), (20, (ys 2))], [], []⟩) (qs := [(ns 0 0), (ns 1 1), (ns 2 2)]) hat (by kernel_rfl) ⟨rfl, rfl, rfl, trivial⟩) fun a' w' hat' => hx0 () rfl a' w' hat'
        · rw [if_neg h3] at h
          cases h
      · rw [if_neg h2] at h
        cases h
    · rw [if_neg h1] at h
      injection h with h; subst h
      exact to_done mixed ⟨[(.lss, (.v 2), (.v 1), false)], [], [], [], [], []⟩ (V := (vals [p0, p1, v2] [])) (n := 3000) (f := 3000) (V' := (vals [] [])) ⟨⟨lss_f h1, trivial⟩, trivial, trivial, trivial, trivial⟩ trivial (T := ⟨[], [], []⟩) (ce := (.exit 0)) (qs := []) hF hr (by kernel_rfl) trivial hat fun a' w' hat' => hx1 () rfl a' w' hat'
def u_isName (fu : Nat) (a0 : Int) : Option (Bool) := if a0 = (0 : Int) then (some false) else (if (12 : Int) < (sln a0) then (some false) else (if (0 : Int) < (sln a0) then (Option.bind (u_isLetter (sat a0 (0 : Int))) fun r4 => if r4 = true then (Option.bind (u_isName_L1 fu a0 (sln a0) fu (0 : Int)) fun o6 => (match o6 with | .inl y7 => (some false) | .inr y8 => (some true))) else (some false)) else none))
theorem u_isName_ok (fu : Nat) (a0 : Int) (y : Bool) (h : u_isName fu a0 = some y) : CallOk Tryz.prog 196 (vals [a0] []) [.ss (.v 0)] [] 0 (vals [bI y] []) (.bs (.v 0)) [] := by
  refine fun_of (nt := 39) (by kernel_rfl) (by kernel_rfl) fun φ0 w0 a w hat => ?_
  have hF := wide_fw
  have hr : Fence.wide.round = none := rfl
  unfold u_isName at h
  by_cases h1 : a0 = (0 : Int)
  · rw [if_pos h1] at h
    injection h with h; subst h
    exact to_fin mixed ⟨[(.eql, (.v 0), (.c 0), true)], [], [], [], [], []⟩ (V := (vals [a0] [])) (n := 3000) (f := 3000) ⟨⟨eql_t h1, trivial⟩, trivial, trivial, trivial, trivial⟩ trivial (R := ⟨.bs (.v 0), [], []⟩) (qs := [.num (.c 0) (.v 0)]) hF hr (by kernel_rfl) ⟨rfl, trivial⟩ hat
  · rw [if_neg h1] at h
    by_cases h2 : (12 : Int) < (sln a0)
    · rw [if_pos h2] at h
      injection h with h; subst h
      exact to_fin mixed ⟨[(.eql, (.v 0), (.c 0), false), (.gtr, (.sln (.v 0)), (.c 12), true)], [], [], [], [], []⟩ (V := (vals [a0] [])) (n := 3000) (f := 3000) ⟨⟨eql_f h1, gtr_t h2, trivial⟩, trivial, trivial, trivial, trivial⟩ trivial (R := ⟨.bs (.v 0), [], []⟩) (qs := [.num (.c 0) (.v 0)]) hF hr (by kernel_rfl) ⟨rfl, trivial⟩ hat
    · rw [if_neg h2] at h
      by_cases h3 : (0 : Int) < (sln a0)
      · rw [if_pos h3] at h
        obtain ⟨r4, hr4, h⟩ := Option.bind_eq_some_iff.1 h
        have Kr4 : KO Tryz.prog [a0, bI r4] [] n5a_k6 := fun N M => ⟨_, _, [(ns 0 1)], ⟨u_isLetter_ok (sat a0 (0 : Int)) r4 hr4, ⟨(r (sat a0 (0 : Int))), trivial⟩, by kernel_rfl, ⟨rfl, trivial⟩⟩⟩
        by_cases h5 : r4 = true
        · rw [if_pos h5] at h
          obtain ⟨o6, ho6, h⟩ := Option.bind_eq_some_iff.1 h
          refine to_loop mixed ⟨[(.eql, (.v 0), (.c 0), false), (.gtr, (.sln (.v 0)), (.c 12), false), (.lss, (.c 0), (.sln (.v 0)), true), (.neq, (.v 1), (.c 0), true)], [], [], [n5a_k6], [], []⟩ (V := (vals [a0, bI r4] [])) (n := 3000) (f := 3000) (V' := (vals [a0, (sln a0), (0 : Int)] [])) ⟨⟨eql_f h1, gtr_f h2, lss_t h3, bi_t h5, trivial⟩, trivial, trivial, trivial, trivial⟩ ⟨Kr4 _ _, trivial⟩ (T := ⟨[(0, .ss (.v 0)), (19, (ys 1)), (20, (ys 2))], [], []⟩) (B := subAt (bodyOf Tryz.prog 196) [1, 1, 0, 1, 0, 0]) (K' := [.bk 0, .sq (subAt (bodyOf Tryz.prog 196) [1, 1, 1]) [1, 1, 1]]) (qs := [(ns 0 0), .num (.sln (.v 0)) (.v 1), .num (.c 0) (.v 2)]) hF hr (by kernel_rfl) ⟨(r a0), (r (sln a0)), (r (0 : Int)), trivial⟩ (at_re (V' := (vals [a0, bI r4] [])) (T := ⟨[(0, .ss (.v 0))], [], []⟩) (qs := [(ns 0 0)]) hat (by kernel_rfl) ⟨rfl, trivial⟩) fun aa1 ww1 hat1 => loop_in (u_isName_L1_ok fu a0 (sln a0) fu (0 : Int) o6 ho6 _ _ _ _ _ _ _ hF hr hat1 ?_ ?_)
          · intro y7 hy aa2 ww2 hat
            subst hy
            dsimp only at h
            show (Wk.out .ret).goal _ _ _ [.bk 0, .sq (subAt (bodyOf Tryz.prog 196) [1, 1, 1]) [1, 1, 1]] _ aa2 ww2
            injection h with h; subst h
            exact to_fin mixed ⟨[], [], [], [], [], []⟩ (V := (vals [] [])) (n := 3000) (f := 3000) ⟨trivial, trivial, trivial, trivial, trivial⟩ trivial (R := ⟨.bs (.v 0), [], []⟩) (qs := [.num (.c 0) (.v 0)]) hF hr (by kernel_rfl) ⟨rfl, trivial⟩ hat
          · intro y8 hy aa2 ww2 hat
            subst hy
            dsimp only at h
            show (Wk.out (.exit 0)).goal _ _ _ [.bk 0, .sq (subAt (bodyOf Tryz.prog 196) [1, 1, 1]) [1, 1, 1]] _ aa2 ww2
            injection h with h; subst h
            exact to_fin mixed ⟨[], [], [], [], [], []⟩ (V := (vals [] [])) (n := 3000) (f := 3000) ⟨trivial, trivial, trivial, trivial, trivial⟩ trivial (R := ⟨.bs (.v 0), [], []⟩) (qs := [.num (.c 1) (.v 0)]) hF hr (by kernel_rfl) ⟨rfl, trivial⟩ hat
        · rw [if_neg h5] at h
          injection h with h; subst h
          exact to_fin mixed ⟨[(.eql, (.v 0), (.c 0), false), (.gtr, (.sln (.v 0)), (.c 12), false), (.lss, (.c 0), (.sln (.v 0)), true), (.neq, (.v 1), (.c 0), false)], [], [], [n5a_k6], [], []⟩ (V := (vals [a0, bI r4] [])) (n := 3000) (f := 3000) ⟨⟨eql_f h1, gtr_f h2, lss_t h3, bi_f h5, trivial⟩, trivial, trivial, trivial, trivial⟩ ⟨Kr4 _ _, trivial⟩ (R := ⟨.bs (.v 0), [], []⟩) (qs := [.num (.c 0) (.v 0)]) hF hr (by kernel_rfl) ⟨rfl, trivial⟩ (at_re (V' := (vals [a0, bI r4] [])) (T := ⟨[(0, .ss (.v 0))], [], []⟩) (qs := [(ns 0 0)]) hat (by kernel_rfl) ⟨rfl, trivial⟩)
      · rw [if_neg h3] at h
        cases h
def u_NameError (fu : Nat) (a0 : Int) : Option (Int) := Option.bind (u_isName fu a0) fun r1 => if r1 = true then (some (0 : Int)) else (some (4 : Int))
theorem u_NameError_ok (fu : Nat) (a0 : Int) (y : Int) (h : u_NameError fu a0 = some y) : CallOk Tryz.prog 157 (vals [a0] []) [.ss (.v 0)] [] 0 (vals [y] []) ((ys 0)) [] := by
  refine fun_of (nt := 6) (by kernel_rfl) (by kernel_rfl) fun φ0 w0 a w hat => ?_
  have hF := wide_fw
  have hr : Fence.wide.round = none := rfl
  unfold u_NameError at h
  obtain ⟨r1, hr1, h⟩ := Option.bind_eq_some_iff.1 h
  have Kr1 : KO Tryz.prog [a0, bI r1] [] n5a_k7 := fun N M => ⟨_, _, [(ns 0 1)], ⟨u_isName_ok fu a0 r1 hr1, ⟨(r a0), trivial⟩, by kernel_rfl, ⟨rfl, trivial⟩⟩⟩
  by_cases h2 : r1 = true
  · rw [if_pos h2] at h
    injection h with h; subst h
    exact to_fin mixed ⟨[(.neq, (.v 1), (.c 0), true)], [], [], [n5a_k7], [], []⟩ (V := (vals [a0, bI r1] [])) (n := 3000) (f := 3000) ⟨⟨bi_t h2, trivial⟩, trivial, trivial, trivial, trivial⟩ ⟨Kr1 _ _, trivial⟩ (R := ⟨(ys 0), [], []⟩) (qs := [.num (.c 0) (.v 0)]) hF hr (by kernel_rfl) ⟨(r (0 : Int)), trivial⟩ (at_re (V' := (vals [a0, bI r1] [])) (T := ⟨[(0, .ss (.v 0))], [], []⟩) (qs := [(ns 0 0)]) hat (by kernel_rfl) ⟨rfl, trivial⟩)
  · rw [if_neg h2] at h
    injection h with h; subst h
    exact to_fin mixed ⟨[(.neq, (.v 1), (.c 0), false)], [], [], [n5a_k7], [], []⟩ (V := (vals [a0, bI r1] [])) (n := 3000) (f := 3000) ⟨⟨bi_f h2, trivial⟩, trivial, trivial, trivial, trivial⟩ ⟨Kr1 _ _, trivial⟩ (R := ⟨(ys 0), [], []⟩) (qs := [.num (.c 4) (.v 0)]) hF hr (by kernel_rfl) ⟨(r (4 : Int)), trivial⟩ (at_re (V' := (vals [a0, bI r1] [])) (T := ⟨[(0, .ss (.v 0))], [], []⟩) (qs := [(ns 0 0)]) hat (by kernel_rfl) ⟨rfl, trivial⟩)
def slices_Index_string_string_L1 (fu : Nat) (p0 : List (Int)) (p1 : Int) (p2 : Int) : Nat → Int → Option ((Int) ⊕ (Unit))
  | 0, _ => none
  | n + 1, v3 => if v3 < p2 then (if (0 : Int) ≤ v3 then (if v3 < (p0.length : Int) then (Option.bind ((p0)[0 + (v3).toNat]?) fun e4 => if p1 = e4 then (some (.inl v3)) else (slices_Index_string_string_L1 fu p0 p1 p2 n (IntKind.wrap .i64 (v3 + (1 : Int))))) else none) else none) else (some (.inr ()))
theorem slices_Index_string_string_L1_ok (fu : Nat) (p0 : List (Int)) (p1 : Int) (p2 : Int) : ∀ (n : Nat) (v3 : Int) (o : (Int) ⊕ (Unit)), slices_Index_string_string_L1 fu p0 p1 p2 n v3 = some o → ∀ (φ0 : Phi) (w0 : World) (F : Fence) (k : Nat) (R : Exit → Act → World → Prop) (a : Act) (w : World), FW F → F.round = none → AtS (vals [(p0.length : Int), p1, p2, v3] [(p0.flatMap enS)]) [(0, .gs 0 0 (.v 0) 1 false), (1, .ss (.v 1)), (7, (ys 2)), (8, (ys 3))] [some (.rows 0 [] 9 true)] 19 1 1 φ0 w0 a w → (∀ (y : Int), o = .inl y → ∀ a' w', AtS (vals [(p0.length : Int), y] [(p0.flatMap enS)]) [(4, (ys 1))] [some (.rows 0 [] 9 true)] 19 1 1 φ0 w0 a' w' → R Exit.ret a' w') → (∀ (y : Unit), o = .inr y → ∀ a' w', AtS (vals [(p0.length : Int)] [(p0.flatMap enS)]) [] [some (.rows 0 [] 9 true)] 19 1 1 φ0 w0 a' w' → R (Exit.exit 0) a' w') → Code.roundsIn F k Tryz.prog (subAt (bodyOf Tryz.prog 197) [1, 0, 1, 0, 0]) R n a w
  | 0, _, _, h => by cases h
  | n + 1, v3, o, h => by
    intro φ0 w0 F k R a w hF hr hat hx0 hx1
    rw [slices_Index_string_string_L1] at h
    refine rounds_in (p := [1, 0, 1, 0, 0]) ?_
    by_cases h1 : v3 < p2
    · rw [if_pos h1] at h
      by_cases h2 : (0 : Int) ≤ v3
      · rw [if_pos h2] at h
        by_cases h3 : v3 < (p0.length : Int)
        · rw [if_pos h3] at h
          obtain ⟨e4, he4, h⟩ := Option.bind_eq_some_iff.1 h
          by_cases h5 : p1 = e4
          · rw [if_pos h5] at h
            injection h with h; subst h
            exact to_done mixed ⟨[(.lss, (.v 3), (.v 2), true), (.leq, (.c 0), (.v 3), true), (.lss, (.v 3), (.v 0), true), (.eql, (.v 1), (.v 4), true)], [(0, 0, (.v 3), [.ss (.v 4)])], [(0, 1, (.v 0))], [], [], []⟩ (V := (vals [(p0.length : Int), p1, p2, v3, e4] [(p0.flatMap enS)])) (n := 3000) (f := 3000) (V' := (vals [(p0.length : Int), v3] [(p0.flatMap enS)])) ⟨⟨lss_t h1, leq_t h2, lss_t h3, eql_t h5, trivial⟩, ⟨⟨h2, _, rfl, flat_row enS_len he4⟩, trivial⟩, ⟨flat_length enS_len _, trivial⟩, trivial, trivial⟩ trivial (T := ⟨[(4, (ys 1))], [some (.rows 0 [] 9 true)], [some (0, 0)]⟩) (ce := .ret) (qs := [(ns 3 1), .lst 0 (some 0) []]) hF hr (by kernel_rfl) ⟨(r v3), ⟨[], rfl, lnil _⟩, trivial⟩ (at_re (V' := (vals [(p0.length : Int), p1, p2, v3, e4] [(p0.flatMap enS)])) (T := ttN5a_10) (qs := [(ns 0 0), (ns 1 1), (ns 2 2), (ns 3 3), .lst 0 (some 0) []]) hat (by kernel_rfl) ⟨rfl, rfl, rfl, rfl, ⟨[], rfl, lnil _⟩, trivial⟩) fun a' w' hat' => hx0 v3 rfl a' w' hat'
          · rw [if_neg h5] at h
            refine to_done mixed ⟨[(.lss, (.v 3), (.v 2), true), (.leq, (.c 0), (.v 3), true), (.lss, (.v 3), (.v 0), true), (.eql, (.v 1), (.v 4), false)], [(0, 0, (.v 3), [.ss (.v 4)])], [(0, 1, (.v 0))], [], [], []⟩ (V := (vals [(p0.length : Int), p1, p2, v3, e4] [(p0.flatMap enS)])) (n := 3000) (f := 3000) (V' := (vals [(p0.length : Int), p1, p2, (IntKind.wrap .i64 (v3 + (1 : Int)))] [(p0.flatMap enS)])) ⟨⟨lss_t h1, leq_t h2, lss_t h3, eql_f h5, trivial⟩, ⟨⟨h2, _, rfl, flat_row enS_len he4⟩, trivial⟩, ⟨flat_length enS_len _, trivial⟩, trivial, trivial⟩ trivial (T := ttN5a_10) (ce := .normal) (qs := [(ns 0 0), (ns 1 1), (ns 2 2), .num (.add .i64 (.v 3) (.c 1)) (.v 3), .lst 0 (some 0) []]) hF hr (by kernel_rfl) ⟨(r (p0.length : Int)), (r p1), (r p2), (r (IntKind.wrap .i64 (v3 + (1 : Int)))), ⟨[], rfl, lnil _⟩, trivial⟩ (at_re (V' := (vals [(p0.length : Int), p1, p2, v3, e4] [(p0.flatMap enS)])) (T := ttN5a_10) (qs := [(ns 0 0), (ns 1 1), (ns 2 2), (ns 3 3), .lst 0 (some 0) []]) hat (by kernel_rfl) ⟨rfl, rfl, rfl, rfl, ⟨[], rfl, lnil _⟩, trivial⟩) fun a' w' hat' => ?_
            exact slices_Index_string_string_L1_ok fu p0 p1 p2 n (IntKind.wrap .i64 (v3 + (1 : Int))) o h _ _ _ _ _ _ _ hF hr hat' hx0 hx1
        · rw [if_neg h3] at h
          cases h
      · rw [if_neg h2] at h
        cases h
    · rw [if_neg h1] at h
      injection h with h; subst h
      exact to_done mixed ⟨[(.lss, (.v 3), (.v 2), false)], [], [(0, 1, (.v 0))], [], [], []⟩ (V := (vals [(p0.length : Int), p1, p2, v3] [(p0.flatMap enS)])) (n := 3000) (f := 3000) (V' := (vals [(p0.length : Int)] [(p0.flatMap enS)])) ⟨⟨lss_f h1, trivial⟩, trivial, ⟨flat_length enS_len _, trivial⟩, trivial, trivial⟩ trivial (T := ⟨[], [some (.rows 0 [] 9 true)], [some (0, 0)]⟩) (ce := (.exit 0)) (qs := [.lst 0 (some 0) []]) hF hr (by kernel_rfl) ⟨⟨[], rfl, lnil _⟩, trivial⟩ hat fun a' w' hat' => hx1 () rfl a' w' hat'
def slices_Index_string_string (fu : Nat) (a0 : List (Int)) (a1 : Int) : Option (Int) := Option.bind (slices_Index_string_string_L1 fu a0 a1 (a0.length : Int) fu (0 : Int)) fun o1 => (match o1 with | .inl y2 => (some y2) | .inr y3 => (some (-1 : Int)))
theorem slices_Index_string_string_ok (fu : Nat) (a0 : List (Int)) (a1 : Int) (y : Int) (h : slices_Index_string_string fu a0 a1 = some y) : CallOk Tryz.prog 197 (vals [(a0.length : Int), a1] [(a0.flatMap enS)]) [.gs 0 0 (.v 0) 1 false, .ss (.v 1)] [some (.rows 0 [] 9 true)] 1 (vals [y] []) ((ys 0)) [none] := by
  refine fun_of (nt := 19) (by kernel_rfl) (by kernel_rfl) fun φ0 w0 a w hat => ?_
  have hF := wide_fw
  have hr : Fence.wide.round = none := rfl
  unfold slices_Index_string_string at h
  obtain ⟨o1, ho1, h⟩ := Option.bind_eq_some_iff.1 h
  refine to_loop mixed ⟨[], [], [(0, 1, (.v 0))], [], [], []⟩ (V := (vals [(a0.length : Int), a1] [(a0.flatMap enS)])) (n := 3000) (f := 3000) (V' := (vals [(a0.length : Int), a1, (a0.length : Int), (0 : Int)] [(a0.flatMap enS)])) ⟨trivial, trivial, ⟨flat_length enS_len _, trivial⟩, trivial, trivial⟩ trivial (T := ttN5a_10) (B := subAt (bodyOf Tryz.prog 197) [1, 0, 1, 0, 0]) (K' := [.bk 0, .sq (subAt (bodyOf Tryz.prog 197) [1, 1]) [1, 1]]) (qs := [(ns 0 0), (ns 1 1), (ns 0 2), .num (.c 0) (.v 3), .lst 0 (some 0) []]) hF hr (by kernel_rfl) ⟨(r (a0.length : Int)), (r a1), (r (a0.length : Int)), (r (0 : Int)), ⟨[], rfl, lnil _⟩, trivial⟩ hat fun aa1 ww1 hat1 => loop_in (slices_Index_string_string_L1_ok fu a0 a1 (a0.length : Int) fu (0 : Int) o1 ho1 _ _ _ _ _ _ _ hF hr hat1 ?_ ?_)
  · intro y2 hy aa2 ww2 hat
    subst hy
    dsimp only at h
    show (Wk.out .ret).goal _ _ _ [.bk 0, .sq (subAt (bodyOf Tryz.prog 197) [1, 1]) [1, 1]] _ aa2 ww2
    injection h with h; subst h
    exact to_fin mixed ⟨[], [], [(0, 1, (.v 0))], [], [], []⟩ (V := (vals [(a0.length : Int), y2] [(a0.flatMap enS)])) (n := 3000) (f := 3000) ⟨trivial, trivial, ⟨flat_length enS_len _, trivial⟩, trivial, trivial⟩ trivial (R := ⟨(ys 0), [none], [some (0, 0)]⟩) (qs := [(ns 1 0)]) hF hr (by kernel_rfl) ⟨(r y2), trivial⟩ hat
  · intro y3 hy aa2 ww2 hat
    subst hy
    dsimp only at h
    show (Wk.out (.exit 0)).goal _ _ _ [.bk 0, .sq (subAt (bodyOf Tryz.prog 197) [1, 1]) [1, 1]] _ aa2 ww2
    injection h with h; subst h
    exact to_fin mixed ⟨[], [], [(0, 1, (.v 0))], [], [], []⟩ (V := (vals [(a0.length : Int)] [(a0.flatMap enS)])) (n := 3000) (f := 3000) ⟨trivial, trivial, ⟨flat_length enS_len _, trivial⟩, trivial, trivial⟩ trivial (R := ⟨(ys 0), [none], [some (0, 0)]⟩) (qs := [.num (.c (-1)) (.v 0)]) hF hr (by kernel_rfl) ⟨(show (-1 : Int) = (-1 : Int) from rfl), trivial⟩ hat
def slices_Contains_string_string (fu : Nat) (a0 : List (Int)) (a1 : Int) : Option (Bool) := Option.bind (slices_Index_string_string fu a0 a1) fun r1 => if (0 : Int) ≤ r1 then (some true) else (some false)
theorem slices_Contains_string_string_ok (fu : Nat) (a0 : List (Int)) (a1 : Int) (y : Bool) (h : slices_Contains_string_string fu a0 a1 = some y) : CallOk Tryz.prog 158 (vals [(a0.length : Int), a1] [(a0.flatMap enS)]) [.gs 0 0 (.v 0) 1 false, .ss (.v 1)] [some (.rows 0 [] 9 true)] 1 (vals [bI y] []) (.bs (.v 0)) [none] := by
  refine fun_of (nt := 9) (by kernel_rfl) (by kernel_rfl) fun φ0 w0 a w hat => ?_
  have hF := wide_fw
  have hr : Fence.wide.round = none := rfl
  unfold slices_Contains_string_string at h
  obtain ⟨r1, hr1, h⟩ := Option.bind_eq_some_iff.1 h
  have Kr1 : KO Tryz.prog [(a0.length : Int), a1, r1] [(a0.flatMap enS)] n5a_k8 := fun N M => ⟨_, _, [(ns 0 2)], ⟨slices_Index_string_string_ok fu a0 a1 r1 hr1, ⟨(r (a0.length : Int)), (r a1), ⟨[], rfl, lnil _⟩, trivial⟩, by kernel_rfl, ⟨rfl, trivial⟩⟩⟩
  by_cases h2 : (0 : Int) ≤ r1
  · rw [if_pos h2] at h
    injection h with h; subst h
    exact to_fin mixed ⟨[(.geq, (.v 2), (.c 0), true)], [], [(0, 1, (.v 0))], [n5a_k8], [], []⟩ (V := (vals [(a0.length : Int), a1, r1] [(a0.flatMap enS)])) (n := 3000) (f := 3000) ⟨⟨geq_t h2, trivial⟩, trivial, ⟨flat_length enS_len _, trivial⟩, trivial, trivial⟩ ⟨Kr1 _ _, trivial⟩ (R := ⟨.bs (.v 0), [none], [some (0, 0)]⟩) (qs := [.num (.c 1) (.v 0)]) hF hr (by kernel_rfl) ⟨rfl, trivial⟩ (at_re (V' := (vals [(a0.length : Int), a1, r1] [(a0.flatMap enS)])) (T := ⟨[(0, .gs 0 0 (.v 0) 1 false), (1, .ss (.v 1))], [some (.rows 0 [] 9 true)], [some (0, 0)]⟩) (qs := [(ns 0 0), (ns 1 1), .lst 0 (some 0) []]) hat (by kernel_rfl) ⟨rfl, rfl, ⟨[], rfl, lnil _⟩, trivial⟩)
  · rw [if_neg h2] at h
    injection h with h; subst h
    exact to_fin mixed ⟨[(.geq, (.v 2), (.c 0), false)], [], [(0, 1, (.v 0))], [n5a_k8], [], []⟩ (V := (vals [(a0.length : Int), a1, r1] [(a0.flatMap enS)])) (n := 3000) (f := 3000) ⟨⟨geq_f h2, trivial⟩, trivial, ⟨flat_length enS_len _, trivial⟩, trivial, trivial⟩ ⟨Kr1 _ _, trivial⟩ (R := ⟨.bs (.v 0), [none], [some (0, 0)]⟩) (qs := [.num (.c 0) (.v 0)]) hF hr (by kernel_rfl) ⟨rfl, trivial⟩ (at_re (V' := (vals [(a0.length : Int), a1, r1] [(a0.flatMap enS)])) (T := ⟨[(0, .gs 0 0 (.v 0) 1 false), (1, .ss (.v 1))], [some (.rows 0 [] 9 true)], [some (0, 0)]⟩) (qs := [(ns 0 0), (ns 1 1), .lst 0 (some 0) []]) hat (by kernel_rfl) ⟨rfl, rfl, ⟨[], rfl, lnil _⟩, trivial⟩)
def u_NameErrors_1_2 (fu : Nat) (a0 : Int) (a1_0 : List (Int)) (a2_0 : Int) : Option (Int × List (Int)) := Option.bind (u_NameError fu a0) fun r1 => if r1 = (0 : Int) then (Option.bind (slices_Contains_string_string fu a1_0 a0) fun r3 => if r3 = true then (some (a2_0, a1_0)) else (if (a1_0.length : Int) < (65536 : Int) then (some ((0 : Int), (a1_0 ++ [a0]))) else none)) else (some (r1, a1_0))
theorem u_NameErrors_1_2_ok (fu : Nat) (a0 : Int) (a1_0 : List (Int)) (a2_0 : Int) (y : Int × List (Int)) (h : u_NameErrors_1_2 fu a0 a1_0 a2_0 = some y) : CallOk Tryz.prog 156 (vals [a0, (a1_0.length : Int), a2_0] [(a1_0.flatMap enS)]) [.ss (.v 0), .ptr 0 0, .ptr 2 0] [some (.cells [.gs 1 0 (.v 1) 1 true] 243 false), some (.rows 0 [] 9 false), some (.cells [(ys 2)] 28 false)] 0 (vals [y.1, (y.2.length : Int), a2_0] [(y.2.flatMap enS)]) ((ys 0)) [some (.cells [.gs 3 0 (.v 1) 1 true] 243 false), none, some (.cells [(ys 2)] 28 false), some (.rows 0 [] 9 false)] := by
  refine fun_of (nt := 19) (by kernel_rfl) (by kernel_rfl) fun φ0 w0 a w hat => ?_
  have hF := wide_fw
  have hr : Fence.wide.round = none := rfl
  unfold u_NameErrors_1_2 at h
  obtain ⟨r1, hr1, h⟩ := Option.bind_eq_some_iff.1 h
  have Kr1 : KO Tryz.prog [a0, (a1_0.length : Int), a2_0, r1] [(a1_0.flatMap enS)] n5a_k11 := fun N M => ⟨_, _, [(ns 0 3)], ⟨u_NameError_ok fu a0 r1 hr1, ⟨(r a0), trivial⟩, by kernel_rfl, ⟨rfl, trivial⟩⟩⟩
  by_cases h2 : r1 = (0 : Int)
  · rw [if_pos h2] at h
    obtain ⟨r3, hr3, h⟩ := Option.bind_eq_some_iff.1 h
    have Kr3 : KO Tryz.prog [a0, (a1_0.length : Int), a2_0, r1, bI r3] [(a1_0.flatMap enS)] n5a_k12 := fun N M => ⟨_, _, [(ns 0 4)], ⟨slices_Contains_string_string_ok fu a1_0 a0 r3 hr3, ⟨(r (a1_0.length : Int)), (r a0), ⟨[], rfl, lnil _⟩, trivial⟩, by kernel_rfl, ⟨rfl, trivial⟩⟩⟩
    by_cases h4 : r3 = true
    · rw [if_pos h4] at h
      injection h with h; subst h
      exact to_fin mixed ⟨[(.neq, (.v 3), (.c 0), false), (.neq, (.v 4), (.c 0), true)], [], [(0, 1, (.v 1))], [n5a_k11, n5a_k12], [], []⟩ (V := (vals [a0, (a1_0.length : Int), a2_0, r1, bI r3] [(a1_0.flatMap enS)])) (n := 3000) (f := 3000) ⟨⟨neq_f h2, bi_t h4, trivial⟩, trivial, ⟨flat_length enS_len _, trivial⟩, trivial, trivial⟩ ⟨Kr1 _ _, Kr3 _ _, trivial⟩ (R := rrN5a_3) (qs := [(ns 2 0), (ns 1 1), (ns 2 2), .lst 0 (some 0) []]) hF hr (by kernel_rfl) ⟨(r a2_0), (r (a1_0.length : Int)), (r a2_0), ⟨[], rfl, lnil _⟩, trivial⟩ (at_re (V' := (vals [a0, (a1_0.length : Int), a2_0, r1, bI r3] [(a1_0.flatMap enS)])) (T := ttN5a_6) (qs := [(ns 0 0), (ns 1 1), .lst 0 (some 0) [], (ns 2 2)]) hat (by kernel_rfl) ⟨rfl, rfl, ⟨[], rfl, lnil _⟩, rfl, trivial⟩)
    · rw [if_neg h4] at h
      by_cases h5 : (a1_0.length : Int) < (65536 : Int)
      · rw [if_pos h5] at h
        injection h with h; subst h
        exact to_fin mixed ⟨[(.neq, (.v 3), (.c 0), false), (.neq, (.v 4), (.c 0), false), (.lss, (.v 1), (.c 65536), true)], [], [(0, 1, (.v 1))], [n5a_k11, n5a_k12], [], []⟩ (V := (vals [a0, (a1_0.length : Int), a2_0, r1, bI r3] [(a1_0.flatMap enS)])) (n := 3000) (f := 3000) ⟨⟨neq_f h2, bi_f h4, lss_t h5, trivial⟩, trivial, ⟨flat_length enS_len _, trivial⟩, trivial, trivial⟩ ⟨Kr1 _ _, Kr3 _ _, trivial⟩ (R := ⟨(ys 0), [some (.cells [.gs 3 0 (.v 1) 1 true] 243 false), none, some (.cells [(ys 2)] 28 false), some (.rows 0 [] 9 false)], [some (0, 0), some (1, 0), some (2, 0), some (4, 0)]⟩) (qs := [.num (.c 0) (.v 0), .num (.add .i64 (.v 1) (.c 1)) (.v 1), (ns 2 2), .lst 0 (some 0) [.ss (.v 0)]]) hF hr (by kernel_rfl) ⟨(r (0 : Int)), (show (IntKind.wrap .i64 ((a1_0.length : Int) + (1 : Int))) = ((a1_0 ++ [a0]).length : Int) by first | rfl | (simp only [List.length_append, List.length_cons, List.length_nil]; rw [IntKind.wrap_i64]; omega)), (r a2_0), ⟨_, rfl, List.flatMap_append⟩, trivial⟩ (at_re (V' := (vals [a0, (a1_0.length : Int), a2_0, r1, bI r3] [(a1_0.flatMap enS)])) (T := ttN5a_6) (qs := [(ns 0 0), (ns 1 1), .lst 0 (some 0) [], (ns 2 2)]) hat (by kernel_rfl) ⟨rfl, rfl, ⟨[], rfl, lnil _⟩, rfl, trivial⟩)
      · rw [if_neg h5] at h
        cases h
  · rw [if_neg h2] at h
    injection h with h; subst h
    exact to_fin mixed ⟨[(.neq, (.v 3), (.c 0), true)], [], [(0, 1, (.v 1))], [n5a_k11], [], []⟩ (V := (vals [a0, (a1_0.length : Int), a2_0, r1] [(a1_0.flatMap enS)])) (n := 3000) (f := 3000) ⟨⟨neq_t h2, trivial⟩, trivial, ⟨flat_length enS_len _, trivial⟩, trivial, trivial⟩ ⟨Kr1 _ _, trivial⟩ (R := rrN5a_3) (qs := [(ns 3 0), (ns 1 1), (ns 2 2), .lst 0 (some 0) []]) hF hr (by kernel_rfl) ⟨(r r1), (r (a1_0.length : Int)), (r a2_0), ⟨[], rfl, lnil _⟩, trivial⟩ (at_re (V' := (vals [a0, (a1_0.length : Int), a2_0, r1] [(a1_0.flatMap enS)])) (T := ttN5a_6) (qs := [(ns 0 0), (ns 1 1), .lst 0 (some 0) [], (ns 2 2)]) hat (by kernel_rfl) ⟨rfl, rfl, ⟨[], rfl, lnil _⟩, rfl, trivial⟩)
def x_CheckNet_1_2 (fu : Nat) (a0_0 : Int) (a0_1 : Int) (a0_2 : Int) (a0_3 : Int) (a1_0_c0_0 : List (Int)) (a1_0_c1_0 : Int) : Option (Int × List (Int)) := Option.bind (u_NameErrors_1_2 fu a0_0 a1_0_c0_0 a1_0_c1_0) fun r1 => Option.bind (u_SizeError fu (10000 : Int) ([a0_1, a0_2, a0_3] : List (Int))) fun r2 => Option.bind (u_FirstError fu ([r1.1, r2] : List (Int))) fun r3 => some (r3, r1.2)
theorem x_CheckNet_1_2_ok (fu : Nat) (a0_0 : Int) (a0_1 : Int) (a0_2 : Int) (a0_3 : Int) (a1_0_c0_0 : List (Int)) (a1_0_c1_0 : Int) (y : Int × List (Int)) (h : x_CheckNet_1_2 fu a0_0 a0_1 a0_2 a0_3 a1_0_c0_0 a1_0_c1_0 = some y) : CallOk Tryz.prog 85 (vals [a0_0, a0_1, a0_2, a0_3, (a1_0_c0_0.length : Int), a1_0_c1_0] [(a1_0_c0_0.flatMap enS)]) [.agg [.ss (.v 0), (ys 1), (ys 2), (ys 3)], .ptr 0 0] [some (.cells [.fn 156 [] [.ptr 1 0, .ptr 3 0]] 153 false), some (.cells [.gs 2 0 (.v 4) 1 true] 243 false), some (.rows 0 [] 9 false), some (.cells [(ys 5)] 28 false)] 0 (vals [y.1, (y.2.length : Int), a1_0_c1_0] [(y.2.flatMap enS)]) ((ys 0)) [some (.cells [.fn 156 [] [.ptr 1 0, .ptr 3 0]] 153 false), some (.cells [.gs 4 0 (.v 1) 1 true] 243 false), none, some (.cells [(ys 2)] 28 false), some (.rows 0 [] 9 false)] := by
  refine fun_of (nt := 21) (by kernel_rfl) (by kernel_rfl) fun φ0 w0 a w hat => ?_
  have hF := wide_fw
  have hr : Fence.wide.round = none := rfl
  unfold x_CheckNet_1_2 at h
  obtain ⟨r1, hr1, h⟩ := Option.bind_eq_some_iff.1 h
  have Kr1 : KO Tryz.prog [a0_0, a0_1, a0_2, a0_3, (a1_0_c0_0.length : Int), a1_0_c1_0, (r1.2.length : Int), r1.1] [(a1_0_c0_0.flatMap enS), (r1.2.flatMap enS)] ⟨156, 5, [some (1, 0), some (2, 0), some (3, 0)], [.ss (.v 0), .ptr 0 0, .ptr 2 0], [some (.cells [.gs 1 0 (.v 1) 1 true] 243 false), some (.rows 0 [] 9 false), some (.cells [(ys 2)] 28 false)], [(ns 0 0), (ns 4 1), .lst 0 (some 0) [], (ns 5 2)], 0, (ys 0), [some (.cells [.gs 3 0 (.v 1) 1 true] 243 false), none, some (.cells [(ys 2)] 28 false), some (.rows 0 [] 9 false)], (ys 7), [some (.rows 1 [] 9 false)], [(1, some (.cells [.gs 5 0 (.v 6) 1 true] 243 false)), (2, none), (3, some (.cells [(ys 5)] 28 false))]⟩ := fun N M => ⟨_, _, [(ns 0 7), .lst 1 (some 0) [], (ns 1 6), (ns 2 5)], ⟨u_NameErrors_1_2_ok fu a0_0 a1_0_c0_0 a1_0_c1_0 r1 hr1, ⟨(r a0_0), (r (a1_0_c0_0.length : Int)), ⟨[], rfl, lnil _⟩, (r a1_0_c1_0), trivial⟩, by kernel_rfl, ⟨rfl, ⟨[], rfl, lnil _⟩, rfl, rfl, trivial⟩⟩⟩
  obtain ⟨r2, hr2, h⟩ := Option.bind_eq_some_iff.1 h
  have Kr2 : KO Tryz.prog [a0_0, a0_1, a0_2, a0_3, (a1_0_c0_0.length : Int), a1_0_c1_0, (r1.2.length : Int), r1.1, r2] [(a1_0_c0_0.flatMap enS), (r1.2.flatMap enS)] ⟨86, 7, [some (6, 0)], [(ys 0), .gs 0 0 (.v 1) 1 false], [some (.rows 0 [] 3 true)], [.num (.c 10000) (.v 0), .num (.c 3) (.v 1), .lst 0 none [(ys 1), (ys 2), (ys 3)]], 1, (ys 0), [none], (ys 8), [], []⟩ := fun N M => ⟨_, _, [(ns 0 8)], ⟨u_SizeError_ok fu (10000 : Int) ([a0_1, a0_2, a0_3] : List (Int)) r2 hr2, ⟨(r (10000 : Int)), rfl, rfl, trivial⟩, by kernel_rfl, ⟨rfl, trivial⟩⟩⟩
  obtain ⟨r3, hr3, h⟩ := Option.bind_eq_some_iff.1 h
  have Kr3 : KO Tryz.prog [a0_0, a0_1, a0_2, a0_3, (a1_0_c0_0.length : Int), a1_0_c1_0, (r1.2.length : Int), r1.1, r2, r3] [(a1_0_c0_0.flatMap enS), (r1.2.flatMap enS)] ⟨66, 8, [some (7, 0)], [.gs 0 0 (.v 0) 1 false], [some (.rows 0 [] 28 true)], [.num (.c 2) (.v 0), .lst 0 none [(ys 7), (ys 8)]], 1, (ys 0), [none], (ys 9), [], []⟩ := fun N M => ⟨_, _, [(ns 0 9)], ⟨u_FirstError_ok fu ([r1.1, r2] : List (Int)) r3 hr3, ⟨rfl, rfl, trivial⟩, by kernel_rfl, ⟨rfl, trivial⟩⟩⟩
  injection h with h; subst h
  exact to_fin mixed ⟨[], [], [(0, 1, (.v 4)), (1, 1, (.v 6))], [⟨156, 5, [some (1, 0), some (2, 0), some (3, 0)], [.ss (.v 0), .ptr 0 0, .ptr 2 0], [some (.cells [.gs 1 0 (.v 1) 1 true] 243 false), some (.rows 0 [] 9 false), some (.cells [(ys 2)] 28 false)], [(ns 0 0), (ns 4 1), .lst 0 (some 0) [], (ns 5 2)], 0, (ys 0), [some (.cells [.gs 3 0 (.v 1) 1 true] 243 false), none, some (.cells [(ys 2)] 28 false), some (.rows 0 [] 9 false)], (ys 7), [some (.rows 1 [] 9 false)], [(1, some (.cells [.gs 5 0 (.v 6) 1 true] 243 false)), (2, none), (3, some (.cells [(ys 5)] 28 false))]⟩, ⟨86, 7, [some (6, 0)], [(ys 0), .gs 0 0 (.v 1) 1 false], [some (.rows 0 [] 3 true)], [.num (.c 10000) (.v 0), .num (.c 3) (.v 1), .lst 0 none [(ys 1), (ys 2), (ys 3)]], 1, (ys 0), [none], (ys 8), [], []⟩, ⟨66, 8, [some (7, 0)], [.gs 0 0 (.v 0) 1 false], [some (.rows 0 [] 28 true)], [.num (.c 2) (.v 0), .lst 0 none [(ys 7), (ys 8)]], 1, (ys 0), [none], (ys 9), [], []⟩], [], []⟩ (V := (vals [a0_0, a0_1, a0_2, a0_3, (a1_0_c0_0.length : Int), a1_0_c1_0, (r1.2.length : Int), r1.1, r2, r3] [(a1_0_c0_0.flatMap enS), (r1.2.flatMap enS)])) (n := 3000) (f := 3000) ⟨trivial, trivial, ⟨flat_length enS_len _, flat_length enS_len _, trivial⟩, trivial, trivial⟩ ⟨Kr1 _ _, Kr2 _ _, Kr3 _ _, trivial⟩ (R := ⟨(ys 0), [some (.cells [.fn 156 [] [.ptr 1 0, .ptr 3 0]] 153 false), some (.cells [.gs 4 0 (.v 1) 1 true] 243 false), none, some (.cells [(ys 2)] 28 false), some (.rows 0 [] 9 false)], [some (0, 0), some (1, 0), some (2, 0), some (3, 0), some (5, 0)]⟩) (qs := [(ns 9 0), (ns 6 1), (ns 5 2), .lst 0 (some 1) []]) hF hr (by kernel_rfl) ⟨(r r3), (r (r1.2.length : Int)), (r a1_0_c1_0), ⟨[], rfl, lnil _⟩, trivial⟩ (at_re (V' := (vals [a0_0, a0_1, a0_2, a0_3, (a1_0_c0_0.length : Int), a1_0_c1_0, (r1.2.length : Int), r1.1, r2, r3] [(a1_0_c0_0.flatMap enS), (r1.2.flatMap enS)])) (T := ⟨[(0, .agg [.ss (.v 0), (ys 1), (ys 2), (ys 3)]), (1, .ptr 0 0)], [some (.cells [.fn 156 [] [.ptr 1 0, .ptr 3 0]] 153 false), some (.cells [.gs 2 0 (.v 4) 1 true] 243 false), some (.rows 0 [] 9 false), some (.cells [(ys 5)] 28 false)], [some (0, 0), some (1, 0), some (2, 0), some (3, 0)]⟩) (qs := [(ns 0 0), (ns 1 1), (ns 2 2), (ns 3 3), (ns 4 4), .lst 0 (some 0) [], (ns 5 5)]) hat (by kernel_rfl) ⟨rfl, rfl, rfl, rfl, rfl, ⟨[], rfl, lnil _⟩, rfl, trivial⟩)
def u_FirstBad_FixBeacon_CheckNet_1_L1 (fu : Nat) (p0 : List (Int × Int × Int × Int)) (p2 : Int) (p3 : Int) : Nat → List (Int) → Int → Option ((List (Int) × Int × Int) ⊕ (List (Int)))
  | 0, _, _ => none
  | n + 1, v1, v4 => if v4 < p3 then (if (0 : Int) ≤ v4 then (if v4 < (p0.length : Int) then (Option.bind ((p0)[0 + (v4).toNat]?) fun e4 => Option.bind (x_CheckNet_1_2 fu e4.1 e4.2.1 e4.2.2.1 e4.2.2.2 v1 p2) fun r5 => if r5.1 = (0 : Int) then (u_FirstBad_FixBeacon_CheckNet_1_L1 fu p0 p2 p3 n r5.2 (IntKind.wrap .i64 (v4 + (1 : Int)))) else (some (.inl (r5.2, v4, r5.1)))) else none) else none) else (some (.inr v1))
theorem u_FirstBad_FixBeacon_CheckNet_1_L1_ok (fu : Nat) (p0 : List (Int × Int × Int × Int)) (p2 : Int) (p3 : Int) : ∀ (n : Nat) (v1 : List (Int)) (v4 : Int) (o : (List (Int) × Int × Int) ⊕ (List (Int))), u_FirstBad_FixBeacon_CheckNet_1_L1 fu p0 p2 p3 n v1 v4 = some o → ∀ (φ0 : Phi) (w0 : World) (F : Fence) (k : Nat) (R : Exit → Act → World → Prop) (a : Act) (w : World), FW F → F.round = none → AtS (vals [(p0.length : Int), (v1.length : Int), p2, p3, v4] [(p0.flatMap enSIII), (v1.flatMap enS)]) [(1, .fn 85 [] [.ptr 1 0]), (9, .gs 0 0 (.v 0) 4 false), (10, (ys 3)), (11, (ys 4))] [some (.rows 0 [] 82 true), some (.cells [.fn 156 [] [.ptr 2 0, .ptr 3 0]] 153 false), some (.cells [.gs 4 0 (.v 1) 1 true] 243 false), some (.cells [(ys 2)] 28 false), some (.rows 1 [] 9 false)] 24 4 1 φ0 w0 a w → (∀ (y : List (Int) × Int × Int), o = .inl y → ∀ a' w', AtS (vals [(p0.length : Int), (y.1.length : Int), p2, y.2.1, y.2.2] [(p0.flatMap enSIII), (y.1.flatMap enS)]) [(4, (ys 3)), (5, (ys 4))] [some (.rows 0 [] 82 true), some (.cells [.fn 156 [] [.ptr 2 0, .ptr 3 0]] 153 false), some (.cells [.gs 4 0 (.v 1) 1 true] 243 false), some (.cells [(ys 2)] 28 false), some (.rows 1 [] 9 false)] 24 4 1 φ0 w0 a' w' → R Exit.ret a' w') → (∀ (y : List (Int)), o = .inr y → ∀ a' w', AtS (vals [(p0.length : Int), (y.length : Int), p2] [(p0.flatMap enSIII), (y.flatMap enS)]) [] [some (.rows 0 [] 82 true), some (.cells [.fn 156 [] [.ptr 2 0, .ptr 3 0]] 153 false), some (.cells [.gs 4 0 (.v 1) 1 true] 243 false), some (.cells [(ys 2)] 28 false), some (.rows 1 [] 9 false)] 24 4 1 φ0 w0 a' w' → R (Exit.exit 0) a' w') → Code.roundsIn F k Tryz.prog (subAt (bodyOf Tryz.prog 159) [1, 0, 1, 0, 0]) R n a w
  | 0, _, _, _, h => by cases h
  | n + 1, v1, v4, o, h => by
    intro φ0 w0 F k R a w hF hr hat hx0 hx1
    rw [u_FirstBad_FixBeacon_CheckNet_1_L1] at h
    refine rounds_in (p := [1, 0, 1, 0, 0]) ?_
    by_cases h1 : v4 < p3
    · rw [if_pos h1] at h
      by_cases h2 : (0 : Int) ≤ v4
      · rw [if_pos h2] at h
        by_cases h3 : v4 < (p0.length : Int)
        · rw [if_pos h3] at h
          obtain ⟨e4, he4, h⟩ := Option.bind_eq_some_iff.1 h
          obtain ⟨r5, hr5, h⟩ := Option.bind_eq_some_iff.1 h
          have Kr5 : KO Tryz.prog [(p0.length : Int), (v1.length : Int), p2, p3, v4, e4.1, e4.2.1, e4.2.2.1, e4.2.2.2, (r5.2.length : Int), r5.1] [(p0.flatMap enSIII), (v1.flatMap enS), (r5.2.flatMap enS)] n5a_k13 := fun N M => ⟨_, _, [(ns 0 10), .lst 2 (some 0) [], (ns 1 9), (ns 2 2)], ⟨x_CheckNet_1_2_ok fu e4.1 e4.2.1 e4.2.2.1 e4.2.2.2 v1 p2 r5 hr5, ⟨(r e4.1), (r e4.2.1), (r e4.2.2.1), (r e4.2.2.2), (r (v1.length : Int)), ⟨[], rfl, lnil _⟩, (r p2), trivial⟩, by kernel_rfl, ⟨rfl, ⟨[], rfl, lnil _⟩, rfl, rfl, trivial⟩⟩⟩
          by_cases h6 : r5.1 = (0 : Int)
          · rw [if_pos h6] at h
            refine to_done mixed ⟨[(.lss, (.v 4), (.v 3), true), (.leq, (.c 0), (.v 4), true), (.lss, (.v 4), (.v 0), true), (.neq, (.v 10), (.c 0), false)], [(0, 0, (.v 4), [.ss (.v 5), (ys 6), (ys 7), (ys 8)])], [(0, 4, (.v 0)), (1, 1, (.v 1)), (2, 1, (.v 9))], [n5a_k13], [], []⟩ (V := (vals [(p0.length : Int), (v1.length : Int), p2, p3, v4, e4.1, e4.2.1, e4.2.2.1, e4.2.2.2, (r5.2.length : Int), r5.1] [(p0.flatMap enSIII), (v1.flatMap enS), (r5.2.flatMap enS)])) (n := 3000) (f := 3000) (V' := (vals [(p0.length : Int), (r5.2.length : Int), p2, p3, (IntKind.wrap .i64 (v4 + (1 : Int)))] [(p0.flatMap enSIII), (r5.2.flatMap enS)])) ⟨⟨lss_t h1, leq_t h2, lss_t h3, neq_f h6, trivial⟩, ⟨⟨h2, _, rfl, flat_row enSIII_len he4⟩, trivial⟩, ⟨flat_length enSIII_len _, flat_length enS_len _, flat_length enS_len _, trivial⟩, trivial, trivial⟩ ⟨Kr5 _ _, trivial⟩ (T := ⟨[(1, .fn 85 [] [.ptr 1 0]), (9, .gs 0 0 (.v 0) 4 false), (10, (ys 3)), (11, (ys 4))], [some (.rows 0 [] 82 true), some (.cells [.fn 156 [] [.ptr 2 0, .ptr 3 0]] 153 false), some (.cells [.gs 4 0 (.v 1) 1 true] 243 false), some (.cells [(ys 2)] 28 false), some (.rows 1 [] 9 false)], [some (0, 0), some (1, 0), some (2, 0), some (3, 0), some (6, 0)]⟩) (ce := .normal) (qs := [(ns 0 0), (ns 3 3), .num (.add .i64 (.v 4) (.c 1)) (.v 4), .lst 0 (some 0) [], (ns 9 1), (ns 2 2), .lst 1 (some 2) []]) hF hr (by kernel_rfl) ⟨(r (p0.length : Int)), (r p3), (r (IntKind.wrap .i64 (v4 + (1 : Int)))), ⟨[], rfl, lnil _⟩, (r (r5.2.length : Int)), (r p2), ⟨[], rfl, lnil _⟩, trivial⟩ (at_re (V' := (vals [(p0.length : Int), (v1.length : Int), p2, p3, v4, e4.1, e4.2.1, e4.2.2.1, e4.2.2.2, (r5.2.length : Int), r5.1] [(p0.flatMap enSIII), (v1.flatMap enS), (r5.2.flatMap enS)])) (T := ttN5a_5) (qs := qqN5a_5) hat (by kernel_rfl) ⟨rfl, rfl, rfl, ⟨[], rfl, lnil _⟩, rfl, rfl, ⟨[], rfl, lnil _⟩, trivial⟩) fun a' w' hat' => ?_
            exact u_FirstBad_FixBeacon_CheckNet_1_L1_ok fu p0 p2 p3 n r5.2 (IntKind.wrap .i64 (v4 + (1 : Int))) o h _ _ _ _ _ _ _ hF hr hat' hx0 hx1
          · rw [if_neg h6] at h
            injection h with h; subst h
            exact to_done mixed ⟨[(.lss, (.v 4), (.v 3), true), (.leq, (.c 0), (.v 4), true), (.lss, (.v 4), (.v 0), true), (.neq, (.v 10), (.c 0), true)], [(0, 0, (.v 4), [.ss (.v 5), (ys 6), (ys 7), (ys 8)])], [(0, 4, (.v 0)), (1, 1, (.v 1)), (2, 1, (.v 9))], [n5a_k13], [], []⟩ (V := (vals [(p0.length : Int), (v1.length : Int), p2, p3, v4, e4.1, e4.2.1, e4.2.2.1, e4.2.2.2, (r5.2.length : Int), r5.1] [(p0.flatMap enSIII), (v1.flatMap enS), (r5.2.flatMap enS)])) (n := 3000) (f := 3000) (V' := (vals [(p0.length : Int), (r5.2.length : Int), p2, v4, r5.1] [(p0.flatMap enSIII), (r5.2.flatMap enS)])) ⟨⟨lss_t h1, leq_t h2, lss_t h3, neq_t h6, trivial⟩, ⟨⟨h2, _, rfl, flat_row enSIII_len he4⟩, trivial⟩, ⟨flat_length enSIII_len _, flat_length enS_len _, flat_length enS_len _, trivial⟩, trivial, trivial⟩ ⟨Kr5 _ _, trivial⟩ (T := ⟨[(4, (ys 3)), (5, (ys 4))], [some (.rows 0 [] 82 true), some (.cells [.fn 156 [] [.ptr 2 0, .ptr 3 0]] 153 false), some (.cells [.gs 4 0 (.v 1) 1 true] 243 false), some (.cells [(ys 2)] 28 false), some (.rows 1 [] 9 false)], [some (0, 0), some (1, 0), some (2, 0), some (3, 0), some (6, 0)]⟩) (ce := .ret) (qs := [(ns 4 3), (ns 10 4), .lst 0 (some 0) [], (ns 9 1), (ns 2 2), .lst 1 (some 2) []]) hF hr (by kernel_rfl) ⟨(r v4), (r r5.1), ⟨[], rfl, lnil _⟩, (r (r5.2.length : Int)), (r p2), ⟨[], rfl, lnil _⟩, trivial⟩ (at_re (V' := (vals [(p0.length : Int), (v1.length : Int), p2, p3, v4, e4.1, e4.2.1, e4.2.2.1, e4.2.2.2, (r5.2.length : Int), r5.1] [(p0.flatMap enSIII), (v1.flatMap enS), (r5.2.flatMap enS)])) (T := ttN5a_5) (qs := qqN5a_5) hat (by kernel_rfl) ⟨rfl, rfl, rfl, ⟨[], rfl, lnil _⟩, rfl, rfl, ⟨[], rfl, lnil _⟩, trivial⟩) fun a' w' hat' => hx0 (r5.2, v4, r5.1) rfl a' w' hat'
        · rw [if_neg h3] at h
          cases h
      · rw [if_neg h2] at h
        cases h
    · rw [if_neg h1] at h
      injection h with h; subst h
      exact to_done mixed ⟨[(.lss, (.v 4), (.v 3), false)], [], [(0, 4, (.v 0)), (1, 1, (.v 1))], [], [], []⟩ (V := (vals [(p0.length : Int), (v1.length : Int), p2, p3, v4] [(p0.flatMap enSIII), (v1.flatMap enS)])) (n := 3000) (f := 3000) (V' := (vals [(p0.length : Int), (v1.length : Int), p2] [(p0.flatMap enSIII), (v1.flatMap enS)])) ⟨⟨lss_f h1, trivial⟩, trivial, ⟨flat_length enSIII_len _, flat_length enS_len _, trivial⟩, trivial, trivial⟩ trivial (T := ⟨[], [some (.rows 0 [] 82 true), some (.cells [.fn 156 [] [.ptr 2 0, .ptr 3 0]] 153 false), some (.cells [.gs 4 0 (.v 1) 1 true] 243 false), some (.cells [(ys 2)] 28 false), some (.rows 1 [] 9 false)], [some (0, 0), some (1, 0), some (2, 0), some (3, 0), some (4, 0)]⟩) (ce := (.exit 0)) (qs := [.lst 0 (some 0) [], (ns 1 1), (ns 2 2), .lst 1 (some 1) []]) hF hr (by kernel_rfl) ⟨⟨[], rfl, lnil _⟩, (r (v1.length : Int)), (r p2), ⟨[], rfl, lnil _⟩, trivial⟩ hat fun a' w' hat' => hx1 v1 rfl a' w' hat'
def u_FirstBad_FixBeacon_CheckNet_1 (fu : Nat) (a0 : List (Int × Int × Int × Int)) (a1_c0_0_c1_0 : Int) : Option (Int × Int × List (Int)) := Option.bind (u_FirstBad_FixBeacon_CheckNet_1_L1 fu a0 a1_c0_0_c1_0 (a0.length : Int) fu ([] : List (Int)) (0 : Int)) fun o1 => (match o1 with | .inl y2 => (some (y2.2.1, y2.2.2, y2.1)) | .inr y3 => (some ((0 : Int), (0 : Int), y3)))
theorem u_FirstBad_FixBeacon_CheckNet_1_ok (fu : Nat) (a0 : List (Int × Int × Int × Int)) (a1_c0_0_c1_0 : Int) (y : Int × Int × List (Int)) (h : u_FirstBad_FixBeacon_CheckNet_1 fu a0 a1_c0_0_c1_0 = some y) : CallOk Tryz.prog 159 (vals [(a0.length : Int), a1_c0_0_c1_0] [(a0.flatMap enSIII)]) [.gs 0 0 (.v 0) 4 false, .fn 85 [] [.ptr 1 0]] [some (.rows 0 [] 82 true), some (.cells [.fn 156 [] [.ptr 2 0, .ptr 3 0]] 153 false), some (.cells [.nils] 243 false), some (.cells [(ys 1)] 28 false)] 1 (vals [y.1, y.2.1, (y.2.2.length : Int), a1_c0_0_c1_0] [(y.2.2.flatMap enS)]) (.tup [(ys 0), (ys 1)]) [none, some (.cells [.fn 156 [] [.ptr 2 0, .ptr 3 0]] 153 false), some (.cells [.gs 4 0 (.v 2) 1 true] 243 false), some (.cells [(ys 3)] 28 false), some (.rows 0 [] 9 false)] := by
  refine fun_of (nt := 24) (by kernel_rfl) (by kernel_rfl) fun φ0 w0 a w hat => ?_
  have hF := wide_fw
  have hr : Fence.wide.round = none := rfl
  unfold u_FirstBad_FixBeacon_CheckNet_1 at h
  obtain ⟨o1, ho1, h⟩ := Option.bind_eq_some_iff.1 h
  refine to_loop mixed ⟨[], [], [(0, 4, (.v 0))], [], [], []⟩ (V := (vals [(a0.length : Int), a1_c0_0_c1_0] [(a0.flatMap enSIII)])) (n := 3000) (f := 3000) (V' := (vals [(a0.length : Int), (([] : List (Int)).length : Int), a1_c0_0_c1_0, (a0.length : Int), (0 : Int)] [(a0.flatMap enSIII), (([] : List (Int)).flatMap enS)])) ⟨trivial, trivial, ⟨flat_length enSIII_len _, trivial⟩, trivial, trivial⟩ trivial (T := ⟨[(1, .fn 85 [] [.ptr 1 0]), (9, .gs 0 0 (.v 0) 4 false), (10, (ys 3)), (11, (ys 4))], [some (.rows 0 [] 82 true), some (.cells [.fn 156 [] [.ptr 2 0, .ptr 3 0]] 153 false), some (.cells [.gs 4 0 (.v 1) 1 true] 243 false), some (.cells [(ys 2)] 28 false), some (.rows 1 [] 9 false)], [some (0, 0), some (1, 0), some (2, 0), some (3, 0), none]⟩) (B := subAt (bodyOf Tryz.prog 159) [1, 0, 1, 0, 0]) (K' := [.bk 0, .sq (subAt (bodyOf Tryz.prog 159) [1, 1]) [1, 1]]) (qs := [(ns 0 0), (ns 0 3), .num (.c 0) (.v 4), .lst 0 (some 0) [], .num (.c 0) (.v 1), (ns 1 2)]) hF hr (by kernel_rfl) ⟨(r (a0.length : Int)), (r (a0.length : Int)), (r (0 : Int)), ⟨[], rfl, lnil _⟩, rfl, (r a1_c0_0_c1_0), trivial⟩ hat fun aa1 ww1 hat1 => loop_in (u_FirstBad_FixBeacon_CheckNet_1_L1_ok fu a0 a1_c0_0_c1_0 (a0.length : Int) fu ([] : List (Int)) (0 : Int) o1 ho1 _ _ _ _ _ _ _ hF hr hat1 ?_ ?_)
  · intro y2 hy aa2 ww2 hat
    subst hy
    dsimp only at h
    show (Wk.out .ret).goal _ _ _ [.bk 0, .sq (subAt (bodyOf Tryz.prog 159) [1, 1]) [1, 1]] _ aa2 ww2
    injection h with h; subst h
    exact to_fin mixed ⟨[], [], [(0, 4, (.v 0)), (1, 1, (.v 1))], [], [], []⟩ (V := (vals [(a0.length : Int), (y2.1.length : Int), a1_c0_0_c1_0, y2.2.1, y2.2.2] [(a0.flatMap enSIII), (y2.1.flatMap enS)])) (n := 3000) (f := 3000) ⟨trivial, trivial, ⟨flat_length enSIII_len _, flat_length enS_len _, trivial⟩, trivial, trivial⟩ trivial (R := rrN5a_1) (qs := [(ns 3 0), (ns 4 1), (ns 1 2), (ns 2 3), .lst 0 (some 1) []]) hF hr (by kernel_rfl) ⟨(r y2.2.1), (r y2.2.2), (r (y2.1.length : Int)), (r a1_c0_0_c1_0), ⟨[], rfl, lnil _⟩, trivial⟩ hat
  · intro y3 hy aa2 ww2 hat
    subst hy
    dsimp only at h
    show (Wk.out (.exit 0)).goal _ _ _ [.bk 0, .sq (subAt (bodyOf Tryz.prog 159) [1, 1]) [1, 1]] _ aa2 ww2
    injection h with h; subst h
    exact to_fin mixed ⟨[], [], [(0, 4, (.v 0)), (1, 1, (.v 1))], [], [], []⟩ (V := (vals [(a0.length : Int), (y3.length : Int), a1_c0_0_c1_0] [(a0.flatMap enSIII), (y3.flatMap enS)])) (n := 3000) (f := 3000) ⟨trivial, trivial, ⟨flat_length enSIII_len _, flat_length enS_len _, trivial⟩, trivial, trivial⟩ trivial (R := rrN5a_1) (qs := [.num (.c 0) (.v 0), .num (.c 0) (.v 1), (ns 1 2), (ns 2 3), .lst 0 (some 1) []]) hF hr (by kernel_rfl) ⟨(r (0 : Int)), (r (0 : Int)), (r (y3.length : Int)), (r a1_c0_0_c1_0), ⟨[], rfl, lnil _⟩, trivial⟩ hat
def u_CheckList_FixBeacon_CheckNet_1 (fu : Nat) (a0 : List (Int × Int × Int × Int)) (a1 : Int) (a2 : Int) (a3_c0_0_c1_0 : Int) : Option (Int × Int × List (Int)) := if (a0.length : Int) < a1 then (some ((0 : Int), (10 : Int), ([] : List (Int)))) else (if a2 < (a0.length : Int) then (some ((0 : Int), (8 : Int), ([] : List (Int)))) else (Option.bind (u_FirstBad_FixBeacon_CheckNet_1 fu a0 a3_c0_0_c1_0) fun r3 => some (r3.1, r3.2.1, r3.2.2)))
theorem u_CheckList_FixBeacon_CheckNet_1_ok (fu : Nat) (a0 : List (Int × Int × Int × Int)) (a1 : Int) (a2 : Int) (a3_c0_0_c1_0 : Int) (y : Int × Int × List (Int)) (h : u_CheckList_FixBeacon_CheckNet_1 fu a0 a1 a2 a3_c0_0_c1_0 = some y) : CallOk Tryz.prog 84 (vals [(a0.length : Int), a1, a2, a3_c0_0_c1_0] [(a0.flatMap enSIII)]) [.gs 0 0 (.v 0) 4 false, (ys 1), (ys 2), .fn 85 [] [.ptr 1 0]] [some (.rows 0 [] 82 true), some (.cells [.fn 156 [] [.ptr 2 0, .ptr 3 0]] 153 false), some (.cells [.nils] 243 false), some (.cells [(ys 3)] 28 false)] 1 (vals [y.1, y.2.1, (y.2.2.length : Int), a3_c0_0_c1_0] [(y.2.2.flatMap enS)]) (.tup [(ys 0), (ys 1)]) [none, some (.cells [.fn 156 [] [.ptr 2 0, .ptr 3 0]] 153 false), some (.cells [.gs 4 0 (.v 2) 1 true] 243 false), some (.cells [(ys 3)] 28 false), some (.rows 0 [] 9 false)] := by
  refine fun_of (nt := 23) (by kernel_rfl) (by kernel_rfl) fun φ0 w0 a w hat => ?_
  have hF := wide_fw
  have hr : Fence.wide.round = none := rfl
  unfold u_CheckList_FixBeacon_CheckNet_1 at h
  by_cases h1 : (a0.length : Int) < a1
  · rw [if_pos h1] at h
    injection h with h; subst h
    exact to_fin mixed ⟨[(.lss, (.v 0), (.v 1), true)], [], [(0, 4, (.v 0))], [], [], []⟩ (V := (vals [(a0.length : Int), a1, a2, a3_c0_0_c1_0] [(a0.flatMap enSIII)])) (n := 3000) (f := 3000) ⟨⟨lss_t h1, trivial⟩, trivial, ⟨flat_length enSIII_len _, trivial⟩, trivial, trivial⟩ trivial (R := rrN5a_2) (qs := [.num (.c 0) (.v 0), .num (.c 10) (.v 1), .num (.c 0) (.v 2), (ns 3 3)]) hF hr (by kernel_rfl) ⟨(r (0 : Int)), (r (10 : Int)), rfl, (r a3_c0_0_c1_0), trivial⟩ hat
  · rw [if_neg h1] at h
    by_cases h2 : a2 < (a0.length : Int)
    · rw [if_pos h2] at h
      injection h with h; subst h
      exact to_fin mixed ⟨[(.lss, (.v 0), (.v 1), false), (.gtr, (.v 0), (.v 2), true)], [], [(0, 4, (.v 0))], [], [], []⟩ (V := (vals [(a0.length : Int), a1, a2, a3_c0_0_c1_0] [(a0.flatMap enSIII)])) (n := 3000) (f := 3000) ⟨⟨lss_f h1, gtr_t h2, trivial⟩, trivial, ⟨flat_length enSIII_len _, trivial⟩, trivial, trivial⟩ trivial (R := rrN5a_2) (qs := [.num (.c 0) (.v 0), .num (.c 8) (.v 1), .num (.c 0) (.v 2), (ns 3 3)]) hF hr (by kernel_rfl) ⟨(r (0 : Int)), (r (8 : Int)), rfl, (r a3_c0_0_c1_0), trivial⟩ hat
    · rw [if_neg h2] at h
      obtain ⟨r3, hr3, h⟩ := Option.bind_eq_some_iff.1 h
      have Kr3 : KO Tryz.prog [(a0.length : Int), a1, a2, a3_c0_0_c1_0, (r3.2.2.length : Int), r3.1, r3.2.1] [(a0.flatMap enSIII), (r3.2.2.flatMap enS)] ⟨159, 4, [some (0, 0), some (1, 0), some (2, 0), some (3, 0)], [.gs 0 0 (.v 0) 4 false, .fn 85 [] [.ptr 1 0]], [some (.rows 0 [] 82 true), some (.cells [.fn 156 [] [.ptr 2 0, .ptr 3 0]] 153 false), some (.cells [.nils] 243 false), some (.cells [(ys 1)] 28 false)], [(ns 0 0), .lst 0 (some 0) [], (ns 3 1)], 1, .tup [(ys 0), (ys 1)], [none, some (.cells [.fn 156 [] [.ptr 2 0, .ptr 3 0]] 153 false), some (.cells [.gs 4 0 (.v 2) 1 true] 243 false), some (.cells [(ys 3)] 28 false), some (.rows 0 [] 9 false)], .tup [(ys 5), (ys 6)], [some (.rows 1 [] 9 false)], [(1, some (.cells [.fn 156 [] [.ptr 2 0, .ptr 3 0]] 153 false)), (2, some (.cells [.gs 4 0 (.v 4) 1 true] 243 false)), (3, some (.cells [(ys 3)] 28 false))]⟩ := fun N M => ⟨_, _, [(ns 0 5), (ns 1 6), .lst 1 (some 0) [], (ns 2 4), (ns 3 3)], ⟨u_FirstBad_FixBeacon_CheckNet_1_ok fu a0 a3_c0_0_c1_0 r3 hr3, ⟨(r (a0.length : Int)), ⟨[], rfl, lnil _⟩, (r a3_c0_0_c1_0), trivial⟩, by kernel_rfl, ⟨rfl, rfl, ⟨[], rfl, lnil _⟩, rfl, rfl, trivial⟩⟩⟩
      injection h with h; subst h
      exact to_fin mixed ⟨[(.lss, (.v 0), (.v 1), false), (.gtr, (.v 0), (.v 2), false)], [], [(0, 4, (.v 0)), (1, 1, (.v 4))], [⟨159, 4, [some (0, 0), some (1, 0), some (2, 0), some (3, 0)], [.gs 0 0 (.v 0) 4 false, .fn 85 [] [.ptr 1 0]], [some (.rows 0 [] 82 true), some (.cells [.fn 156 [] [.ptr 2 0, .ptr 3 0]] 153 false), some (.cells [.nils] 243 false), some (.cells [(ys 1)] 28 false)], [(ns 0 0), .lst 0 (some 0) [], (ns 3 1)], 1, .tup [(ys 0), (ys 1)], [none, some (.cells [.fn 156 [] [.ptr 2 0, .ptr 3 0]] 153 false), some (.cells [.gs 4 0 (.v 2) 1 true] 243 false), some (.cells [(ys 3)] 28 false), some (.rows 0 [] 9 false)], .tup [(ys 5), (ys 6)], [some (.rows 1 [] 9 false)], [(1, some (.cells [.fn 156 [] [.ptr 2 0, .ptr 3 0]] 153 false)), (2, some (.cells [.gs 4 0 (.v 4) 1 true] 243 false)), (3, some (.cells [(ys 3)] 28 false))]⟩], [], []⟩ (V := (vals [(a0.length : Int), a1, a2, a3_c0_0_c1_0, (r3.2.2.length : Int), r3.1, r3.2.1] [(a0.flatMap enSIII), (r3.2.2.flatMap enS)])) (n := 3000) (f := 3000) ⟨⟨lss_f h1, gtr_f h2, trivial⟩, trivial, ⟨flat_length enSIII_len _, flat_length enS_len _, trivial⟩, trivial, trivial⟩ ⟨Kr3 _ _, trivial⟩ (R := rrN5a_1) (qs := [(ns 5 0), (ns 6 1), (ns 4 2), (ns 3 3), .lst 0 (some 1) []]) hF hr (by kernel_rfl) ⟨(r r3.1), (r r3.2.1), (r (r3.2.2.length : Int)), (r a3_c0_0_c1_0), ⟨[], rfl, lnil _⟩, trivial⟩ (at_re (V' := (vals [(a0.length : Int), a1, a2, a3_c0_0_c1_0, (r3.2.2.length : Int), r3.1, r3.2.1] [(a0.flatMap enSIII), (r3.2.2.flatMap enS)])) (T := ⟨[(0, .gs 0 0 (.v 0) 4 false), (1, (ys 1)), (2, (ys 2)), (3, .fn 85 [] [.ptr 1 0])], [some (.rows 0 [] 82 true), some (.cells [.fn 156 [] [.ptr 2 0, .ptr 3 0]] 153 false), some (.cells [.nils] 243 false), some (.cells [(ys 3)] 28 false)], [some (0, 0), some (1, 0), some (2, 0), some (3, 0)]⟩) (qs := [(ns 0 0), (ns 1 1), (ns 2 2), .lst 0 (some 0) [], (ns 3 3)]) hat (by kernel_rfl) ⟨rfl, rfl, rfl, ⟨[], rfl, lnil _⟩, rfl, trivial⟩)
def x_CheckNet (fu : Nat) (a0_0 : Int) (a0_1 : Int) (a0_2 : Int) (a0_3 : Int) (a0_4 : Int) (a0_5 : Int) (a0_6 : List (Int × Int × Int × Int)) : Option (Int × Int) := Option.bind (x_worldError fu a0_0 a0_1 a0_2 a0_3 a0_4 a0_5) fun r1 => if r1 = (0 : Int) then (Option.bind (u_CheckList_FixBeacon_CheckNet_1 fu a0_6 (0 : Int) (6 : Int) (5 : Int)) fun r3 => some (r3.1, r3.2.1)) else (some ((0 : Int), r1))
theorem x_CheckNet_ok (fu : Nat) (a0_0 : Int) (a0_1 : Int) (a0_2 : Int) (a0_3 : Int) (a0_4 : Int) (a0_5 : Int) (a0_6 : List (Int × Int × Int × Int)) (y : Int × Int) (h : x_CheckNet fu a0_0 a0_1 a0_2 a0_3 a0_4 a0_5 a0_6 = some y) : CallOk Tryz.prog 25 (vals [a0_0, a0_1, a0_2, a0_3, a0_4, a0_5, (a0_6.length : Int)] [(a0_6.flatMap enSIII)]) [.agg [(ys 0), (ys 1), (ys 2), (ys 3), (ys 4), (ys 5), .gs 0 0 (.v 6) 4 false]] [some (.rows 0 [] 82 true)] 1 (vals [y.1, y.2] []) (.tup [(ys 0), (ys 1)]) [none] := by
  refine fun_of (nt := 19) (by kernel_rfl) (by kernel_rfl) fun φ0 w0 a w hat => ?_
  have hF := wide_fw
  have hr : Fence.wide.round = none := rfl
  unfold x_CheckNet at h
  obtain ⟨r1, hr1, h⟩ := Option.bind_eq_some_iff.1 h
  have Kr1 : KO Tryz.prog [a0_0, a0_1, a0_2, a0_3, a0_4, a0_5, (a0_6.length : Int), r1] [(a0_6.flatMap enSIII)] n5a_k14 := fun N M => ⟨_, _, [(ns 0 7)], ⟨x_worldError_ok fu a0_0 a0_1 a0_2 a0_3 a0_4 a0_5 r1 hr1, ⟨(r a0_0), (r a0_1), (r a0_2), (r a0_3), (r a0_4), (r a0_5), trivial⟩, by kernel_rfl, ⟨rfl, trivial⟩⟩⟩
  by_cases h2 : r1 = (0 : Int)
  · rw [if_pos h2] at h
    obtain ⟨r3, hr3, h⟩ := Option.bind_eq_some_iff.1 h
    have Kr3 : KO Tryz.prog [a0_0, a0_1, a0_2, a0_3, a0_4, a0_5, (a0_6.length : Int), r1, (r3.2.2.length : Int), r3.1, r3.2.1] [(a0_6.flatMap enSIII), (r3.2.2.flatMap enS)] ⟨84, 5, [some (0, 0), some (4, 0), some (3, 0), some (2, 0)], [.gs 0 0 (.v 0) 4 false, (ys 1), (ys 2), .fn 85 [] [.ptr 1 0]], [some (.rows 0 [] 82 true), some (.cells [.fn 156 [] [.ptr 2 0, .ptr 3 0]] 153 false), some (.cells [.nils] 243 false), some (.cells [(ys 3)] 28 false)], [(ns 6 0), .num (.c 0) (.v 1), .num (.c 6) (.v 2), .lst 0 (some 0) [], .num (.c 5) (.v 3)], 1, .tup [(ys 0), (ys 1)], [none, some (.cells [.fn 156 [] [.ptr 2 0, .ptr 3 0]] 153 false), some (.cells [.gs 4 0 (.v 2) 1 true] 243 false), some (.cells [(ys 3)] 28 false), some (.rows 0 [] 9 false)], .tup [(ys 9), (ys 10)], [some (.rows 1 [] 9 false)], [(4, some (.cells [.fn 156 [] [.ptr 3 0, .ptr 2 0]] 153 false)), (3, some (.cells [.gs 5 0 (.v 8) 1 true] 243 false)), (2, some (.cells [.int .i64 5] 28 false))]⟩ := fun N M => ⟨_, _, [(ns 0 9), (ns 1 10), .lst 1 (some 0) [], (ns 2 8), .num (.v 3) (.c 5)], ⟨u_CheckList_FixBeacon_CheckNet_1_ok fu a0_6 (0 : Int) (6 : Int) (5 : Int) r3 hr3, ⟨(r (a0_6.length : Int)), (r (0 : Int)), (r (6 : Int)), ⟨[], rfl, lnil _⟩, (r (5 : Int)), trivial⟩, by kernel_rfl, ⟨rfl, rfl, ⟨[], rfl, lnil _⟩, rfl, rfl, trivial⟩⟩⟩
    injection h with h; subst h
    exact to_fin mixed ⟨[(.neq, (.v 7), (.c 0), false)], [], [(0, 4, (.v 6)), (1, 1, (.v 8))], [n5a_k14, ⟨84, 5, [some (0, 0), some (4, 0), some (3, 0), some (2, 0)], [.gs 0 0 (.v 0) 4 false, (ys 1), (ys 2), .fn 85 [] [.ptr 1 0]], [some (.rows 0 [] 82 true), some (.cells [.fn 156 [] [.ptr 2 0, .ptr 3 0]] 153 false), some (.cells [.nils] 243 false), some (.cells [(ys 3)] 28 false)], [(ns 6 0), .num (.c 0) (.v 1), .num (.c 6) (.v 2), .lst 0 (some 0) [], .num (.c 5) (.v 3)], 1, .tup [(ys 0), (ys 1)], [none, some (.cells [.fn 156 [] [.ptr 2 0, .ptr 3 0]] 153 false), some (.cells [.gs 4 0 (.v 2) 1 true] 243 false), some (.cells [(ys 3)] 28 false), some (.rows 0 [] 9 false)], .tup [(ys 9), (ys 10)], [some (.rows 1 [] 9 false)], [(4, some (.cells [.fn 156 [] [.ptr 3 0, .ptr 2 0]] 153 false)), (3, some (.cells [.gs 5 0 (.v 8) 1 true] 243 false)), (2, some (.cells [.int .i64 5] 28 false))]⟩], [], []⟩ (V := (vals [a0_0, a0_1, a0_2, a0_3, a0_4, a0_5, (a0_6.length : Int), r1, (r3.2.2.length : Int), r3.1, r3.2.1] [(a0_6.flatMap enSIII), (r3.2.2.flatMap enS)])) (n := 3000) (f := 3000) ⟨⟨neq_f h2, trivial⟩, trivial, ⟨flat_length enSIII_len _, flat_length enS_len _, trivial⟩, trivial, trivial⟩ ⟨Kr1 _ _, Kr3 _ _, trivial⟩ (R := ⟨.tup [(ys 0), (ys 1)], [none], [some (0, 0)]⟩) (qs := [(ns 9 0), (ns 10 1)]) hF hr (by kernel_rfl) ⟨(r r3.1), (r r3.2.1), trivial⟩ (at_re (V' := (vals [a0_0, a0_1, a0_2, a0_3, a0_4, a0_5, (a0_6.length : Int), r1, (r3.2.2.length : Int), r3.1, r3.2.1] [(a0_6.flatMap enSIII), (r3.2.2.flatMap enS)])) (T := ttN5a_8) (qs := qqN5a_4) hat (by kernel_rfl) ⟨rfl, rfl, rfl, rfl, rfl, rfl, rfl, ⟨[], rfl, lnil _⟩, trivial⟩)
  · rw [if_neg h2] at h
    injection h with h; subst h
    exact to_fin mixed ⟨[(.neq, (.v 7), (.c 0), true)], [], [(0, 4, (.v 6))], [n5a_k14], [], []⟩ (V := (vals [a0_0, a0_1, a0_2, a0_3, a0_4, a0_5, (a0_6.length : Int), r1] [(a0_6.flatMap enSIII)])) (n := 3000) (f := 3000) ⟨⟨neq_t h2, trivial⟩, trivial, ⟨flat_length enSIII_len _, trivial⟩, trivial, trivial⟩ ⟨Kr1 _ _, trivial⟩ (R := ⟨.tup [(ys 0), (ys 1)], [none], [some (0, 0)]⟩) (qs := [.num (.c 0) (.v 0), (ns 7 1)]) hF hr (by kernel_rfl) ⟨(r (0 : Int)), (r r1), trivial⟩ (at_re (V' := (vals [a0_0, a0_1, a0_2, a0_3, a0_4, a0_5, (a0_6.length : Int), r1] [(a0_6.flatMap enSIII)])) (T := ttN5a_8) (qs := qqN5a_4) hat (by kernel_rfl) ⟨rfl, rfl, rfl, rfl, rfl, rfl, rfl, ⟨[], rfl, lnil _⟩, trivial⟩)
def x_netError (fu : Nat) (a0_0 : Int) (a0_1 : Int) (a0_2 : Int) (a0_3 : Int) (a0_4 : Int) (a0_5 : Int) (a0_6 : List (Int × Int × Int × Int)) : Option (Int) := Option.bind (x_CheckNet fu a0_0 a0_1 a0_2 a0_3 a0_4 a0_5 a0_6) fun r1 => some r1.2
theorem x_netError_ok (fu : Nat) (a0_0 : Int) (a0_1 : Int) (a0_2 : Int) (a0_3 : Int) (a0_4 : Int) (a0_5 : Int) (a0_6 : List (Int × Int × Int × Int)) (y : Int) (h : x_netError fu a0_0 a0_1 a0_2 a0_3 a0_4 a0_5 a0_6 = some y) : CallOk Tryz.prog 91 (vals [a0_0, a0_1, a0_2, a0_3, a0_4, a0_5, (a0_6.length : Int)] [(a0_6.flatMap enSIII)]) [.agg [(ys 0), (ys 1), (ys 2), (ys 3), (ys 4), (ys 5), .gs 0 0 (.v 6) 4 false]] [some (.rows 0 [] 82 true)] 1 (vals [y] []) ((ys 0)) [none] := by
  refine fun_of (nt := 11) (by kernel_rfl) (by kernel_rfl) fun φ0 w0 a w hat => ?_
  have hF := wide_fw
  have hr : Fence.wide.round = none := rfl
  unfold x_netError at h
  obtain ⟨r1, hr1, h⟩ := Option.bind_eq_some_iff.1 h
  have Kr1 : KO Tryz.prog [a0_0, a0_1, a0_2, a0_3, a0_4, a0_5, (a0_6.length : Int), r1.1, r1.2] [(a0_6.flatMap enSIII)] ⟨25, 2, [some (0, 0)], [.agg [(ys 0), (ys 1), (ys 2), (ys 3), (ys 4), (ys 5), .gs 0 0 (.v 6) 4 false]], [some (.rows 0 [] 82 true)], [(ns 0 0), (ns 1 1), (ns 2 2), (ns 3 3), (ns 4 4), (ns 5 5), (ns 6 6), .lst 0 (some 0) []], 1, .tup [(ys 0), (ys 1)], [none], .tup [(ys 7), (ys 8)], [], []⟩ := fun N M => ⟨_, _, [(ns 0 7), (ns 1 8)], ⟨x_CheckNet_ok fu a0_0 a0_1 a0_2 a0_3 a0_4 a0_5 a0_6 r1 hr1, ⟨(r a0_0), (r a0_1), (r a0_2), (r a0_3), (r a0_4), (r a0_5), (r (a0_6.length : Int)), ⟨[], rfl, lnil _⟩, trivial⟩, by kernel_rfl, ⟨rfl, rfl, trivial⟩⟩⟩
  injection h with h; subst h
  exact to_fin mixed ⟨[], [], [(0, 4, (.v 6))], [⟨25, 2, [some (0, 0)], [.agg [(ys 0), (ys 1), (ys 2), (ys 3), (ys 4), (ys 5), .gs 0 0 (.v 6) 4 false]], [some (.rows 0 [] 82 true)], [(ns 0 0), (ns 1 1), (ns 2 2), (ns 3 3), (ns 4 4), (ns 5 5), (ns 6 6), .lst 0 (some 0) []], 1, .tup [(ys 0), (ys 1)], [none], .tup [(ys 7), (ys 8)], [], []⟩], [], []⟩ (V := (vals [a0_0, a0_1, a0_2, a0_3, a0_4, a0_5, (a0_6.length : Int), r1.1, r1.2] [(a0_6.flatMap enSIII)])) (n := 3000) (f := 3000) ⟨trivial, trivial, ⟨flat_length enSIII_len _, trivial⟩, trivial, trivial⟩ ⟨Kr1 _ _, trivial⟩ (R := ⟨(ys 0), [none], [some (0, 0)]⟩) (qs := [(ns 8 0)]) hF hr (by kernel_rfl) ⟨(r r1.2), trivial⟩ (at_re (V' := (vals [a0_0, a0_1, a0_2, a0_3, a0_4, a0_5, (a0_6.length : Int), r1.1, r1.2] [(a0_6.flatMap enSIII)])) (T := ttN5a_8) (qs := qqN5a_4) hat (by kernel_rfl) ⟨rfl, rfl, rfl, rfl, rfl, rfl, rfl, ⟨[], rfl, lnil _⟩, trivial⟩)
def u_Common (a0_0 : Int) (a0_1 : Int) (a1_0 : Int) (a1_1 : Int) : Option (Int × Int) := if a0_0 < a1_0 then (if a1_1 < a0_1 then (some (a1_0, a1_1)) else (some (a1_0, a0_1))) else (if a1_1 < a0_1 then (some (a0_0, a1_1)) else (some (a0_0, a0_1)))
theorem u_Common_ok (a0_0 : Int) (a0_1 : Int) (a1_0 : Int) (a1_1 : Int) (y : Int × Int) (h : u_Common a0_0 a0_1 a1_0 a1_1 = some y) : CallOk Tryz.prog 165 (vals [a0_0, a0_1, a1_0, a1_1] []) [.agg [(ys 0), (ys 1)], .agg [(ys 2), (ys 3)]] [] 0 (vals [y.1, y.2] []) (.agg [(ys 0), (ys 1)]) [] := by
  refine fun_of (nt := 16) (by kernel_rfl) (by kernel_rfl) fun φ0 w0 a w hat => ?_
  have hF := wide_fw
  have hr : Fence.wide.round = none := rfl
  unfold u_Common at h
  by_cases h1 : a0_0 < a1_0
  · rw [if_pos h1] at h
    by_cases h2 : a1_1 < a0_1
    · rw [if_pos h2] at h
      injection h with h; subst h
      exact to_fin mixed ⟨[(.lss, (.v 0), (.v 2), true), (.lss, (.v 3), (.v 1), true)], [], [], [], [], []⟩ (V := (vals [a0_0, a0_1, a1_0, a1_1] [])) (n := 3000) (f := 3000) ⟨⟨lss_t h1, lss_t h2, trivial⟩, trivial, trivial, trivial, trivial⟩ trivial (R := ⟨.agg [(ys 0), (ys 1)], [], []⟩) (qs := [(ns 2 0), (ns 3 1)]) hF hr (by kernel_rfl) ⟨(r a1_0), (r a1_1), trivial⟩ hat
    · rw [if_neg h2] at h
      injection h with h; subst h
      exact to_fin mixed ⟨[(.lss, (.v 0), (.v 2), true), (.lss, (.v 3), (.v 1), false)], [], [], [], [], []⟩ (V := (vals [a0_0, a0_1, a1_0, a1_1] [])) (n := 3000) (f := 3000) ⟨⟨lss_t h1, lss_f h2, trivial⟩, trivial, trivial, trivial, trivial⟩ trivial (R := ⟨.agg [(ys 0), (ys 1)], [], []⟩) (qs := [(ns 2 0), (ns 1 1)]) hF hr (by kernel_rfl) ⟨(r a1_0), (r a0_1), trivial⟩ hat
  · rw [if_neg h1] at h
    by_cases h3 : a1_1 < a0_1
    · rw [if_pos h3] at h
      injection h with h; subst h
      exact to_fin mixed ⟨[(.lss, (.v 0), (.v 2), false), (.lss, (.v 3), (.v 1), true)], [], [], [], [], []⟩ (V := (vals [a0_0, a0_1, a1_0, a1_1] [])) (n := 3000) (f := 3000) ⟨⟨lss_f h1, lss_t h3, trivial⟩, trivial, trivial, trivial, trivial⟩ trivial (R := ⟨.agg [(ys 0), (ys 1)], [], []⟩) (qs := [(ns 0 0), (ns 3 1)]) hF hr (by kernel_rfl) ⟨(r a0_0), (r a1_1), trivial⟩ hat
    · rw [if_neg h3] at h
      injection h with h; subst h
      exact to_fin mixed ⟨[(.lss, (.v 0), (.v 2), false), (.lss, (.v 3), (.v 1), false)], [], [], [], [], []⟩ (V := (vals [a0_0, a0_1, a1_0, a1_1] [])) (n := 3000) (f := 3000) ⟨⟨lss_f h1, lss_f h3, trivial⟩, trivial, trivial, trivial, trivial⟩ trivial (R := ⟨.agg [(ys 0), (ys 1)], [], []⟩) (qs := [(ns 0 0), (ns 1 1)]) hF hr (by kernel_rfl) ⟨(r a0_0), (r a0_1), trivial⟩ hat
def x_box_common_L1 (fu : Nat) (p6 : Int) (p7 : Int) (p8 : Int) (p9 : Int) (p10 : Int) (p11 : Int) : Nat → Int → Int → Int → Int → Int → Int → Int → Option ((Int × Int × Int × Int × Int × Int))
  | 0, _, _, _, _, _, _, _ => none
  | n + 1, v0, v1, v2, v3, v4, v5, v12 => if v12 < (3 : Int) then (if v12 = (2 : Int) then (Option.bind (u_Common v4 v5 p10 p11) fun r3 => x_box_common_L1 fu p6 p7 p8 p9 p10 p11 n v0 v1 v2 v3 r3.1 r3.2 (IntKind.wrap .i64 (v12 + (1 : Int)))) else (if v12 = (1 : Int) then (Option.bind (u_Common v2 v3 p8 p9) fun r5 => x_box_common_L1 fu p6 p7 p8 p9 p10 p11 n v0 v1 r5.1 r5.2 v4 v5 (IntKind.wrap .i64 (v12 + (1 : Int)))) else (if v12 = (0 : Int) then (Option.bind (u_Common v0 v1 p6 p7) fun r7 => x_box_common_L1 fu p6 p7 p8 p9 p10 p11 n r7.1 r7.2 v2 v3 v4 v5 (IntKind.wrap .i64 (v12 + (1 : Int)))) else none))) else (some (v0, v1, v2, v3, v4, v5))
theorem x_box_common_L1_ok (fu : Nat) (p6 : Int) (p7 : Int) (p8 : Int) (p9 : Int) (p10 : Int) (p11 : Int) : ∀ (n : Nat) (v0 : Int) (v1 : Int) (v2 : Int) (v3 : Int) (v4 : Int) (v5 : Int) (v12 : Int) (o : (Int × Int × Int × Int × Int × Int)), x_box_common_L1 fu p6 p7 p8 p9 p10 p11 n v0 v1 v2 v3 v4 v5 v12 = some o → ∀ (φ0 : Phi) (w0 : World) (F : Fence) (k : Nat) (R : Exit → Act → World → Prop) (a : Act) (w : World), FW F → F.round = none → AtS (vals [v0, v1, v2, v3, v4, v5, p6, p7, p8, p9, p10, p11, v12] []) [(2, .ptr 0 0), (3, .ptr 1 0), (4, .ptr 2 0), (6, (ys 12))] [some (.cells [(ys 0), (ys 1), (ys 2), (ys 3), (ys 4), (ys 5)] 163 false), some (.cells [(ys 6), (ys 7), (ys 8), (ys 9), (ys 10), (ys 11)] 163 false), some (.cells [.int .i64 0, .int .i64 0, .int .i64 0, .int .i64 0, .int .i64 0, .int .i64 0] 163 false)] 20 0 0 φ0 w0 a w → (∀ (y : Int × Int × Int × Int × Int × Int), o = y → ∀ a' w', AtS (vals [y.1, y.2.1, y.2.2.1, y.2.2.2.1, y.2.2.2.2.1, y.2.2.2.2.2] []) [(2, .ptr 0 0), (4, .ptr 1 0)] [some (.cells [(ys 0), (ys 1), (ys 2), (ys 3), (ys 4), (ys 5)] 163 false), some (.cells [.int .i64 0, .int .i64 0, .int .i64 0, .int .i64 0, .int .i64 0, .int .i64 0] 163 false)] 20 0 0 φ0 w0 a' w' → R (Exit.exit 0) a' w') → Code.roundsIn F k Tryz.prog (subAt (bodyOf Tryz.prog 100) [1, 0, 1, 0, 0]) R n a w
  | 0, _, _, _, _, _, _, _, _, h => by cases h
  | n + 1, v0, v1, v2, v3, v4, v5, v12, o, h => by
    intro φ0 w0 F k R a w hF hr hat hx0
    rw [x_box_common_L1] at h
    refine rounds_in (p := [1, 0, 1, 0, 0]) ?_
    by_cases h1 : v12 < (3 : Int)
    · rw [if_pos h1] at h
      by_cases h2 : v12 = (2 : Int)
      · rw [if_pos h2] at h
        obtain ⟨r3, hr3, h⟩ := Option.bind_eq_some_iff.1 h
        have Kr3 : KO Tryz.prog [v0, v1, v2, v3, v4, v5, p6, p7, p8, p9, p10, p11, v12, r3.1, r3.2] [] ⟨165, 3, [], [.agg [(ys 0), (ys 1)], .agg [(ys 2), (ys 3)]], [], [(ns 4 0), (ns 5 1), (ns 10 2), (ns 11 3)], 0, .agg [(ys 0), (ys 1)], [], .agg [(ys 13), (ys 14)], [], []⟩ := fun N M => ⟨_, _, [(ns 0 13), (ns 1 14)], ⟨u_Common_ok v4 v5 p10 p11 r3 hr3, ⟨(r v4), (r v5), (r p10), (r p11), trivial⟩, by kernel_rfl, ⟨rfl, rfl, trivial⟩⟩⟩
        refine to_done mixed ⟨[(.lss, (.v 12), (.c 3), true), (.eql, (.v 12), (.c 2), true)], [], [], [⟨165, 3, [], [.agg [(ys 0), (ys 1)], .agg [(ys 2), (ys 3)]], [], [(ns 4 0), (ns 5 1), (ns 10 2), (ns 11 3)], 0, .agg [(ys 0), (ys 1)], [], .agg [(ys 13), (ys 14)], [], []⟩], [], []⟩ (V := (vals [v0, v1, v2, v3, v4, v5, p6, p7, p8, p9, p10, p11, v12, r3.1, r3.2] [])) (n := 3000) (f := 3000) (V' := (vals [v0, v1, v2, v3, r3.1, r3.2, p6, p7, p8, p9, p10, p11, (IntKind.wrap .i64 (v12 + (1 : Int)))] [])) ⟨⟨lss_t h1, eql_t h2, trivial⟩, trivial, trivial, trivial, trivial⟩ ⟨Kr3 _ _, trivial⟩ (T := ttN5a_1) (ce := .normal) (qs := [.num (.add .i64 (.v 12) (.c 1)) (.v 12), (ns 0 0), (ns 1 1), (ns 2 2), (ns 3 3), (ns 13 4), (ns 14 5), (ns 6 6), (ns 7 7), (ns 8 8), (ns 9 9), (ns 10 10), (ns 11 11)]) hF hr (by kernel_rfl) ⟨(r (IntKind.wrap .i64 (v12 + (1 : Int)))), (r v0), (r v1), (r v2), (r v3), (r r3.1), (r r3.2), (r p6), (r p7), (r p8), (r p9), (r p10), (r p11), trivial⟩ (at_re (V' := (vals [v0, v1, v2, v3, v4, v5, p6, p7, p8, p9, p10, p11, v12, r3.1, r3.2] [])) (T := ttN5a_1) (qs := qqN5a_3) hat (by kernel_rfl) ⟨rfl, rfl, rfl, rfl, rfl, rfl, rfl, rfl, rfl, rfl, rfl, rfl, rfl, trivial⟩) fun a' w' hat' => ?_
        exact x_box_common_L1_ok fu p6 p7 p8 p9 p10 p11 n v0 v1 v2 v3 r3.1 r3.2 (IntKind.wrap .i64 (v12 + (1 : Int))) o h _ _ _ _ _ _ _ hF hr hat' hx0
      · rw [if_neg h2] at h
        by_cases h4 : v12 = (1 : Int)
        · rw [if_pos h4] at h
          obtain ⟨r5, hr5, h⟩ := Option.bind_eq_some_iff.1 h
          have Kr5 : KO Tryz.prog [v0, v1, v2, v3, v4, v5, p6, p7, p8, p9, p10, p11, v12, r5.1, r5.2] [] ⟨165, 3, [], [.agg [(ys 0), (ys 1)], .agg [(ys 2), (ys 3)]], [], [(ns 2 0), (ns 3 1), (ns 8 2), (ns 9 3)], 0, .agg [(ys 0), (ys 1)], [], .agg [(ys 13), (ys 14)], [], []⟩ := fun N M => ⟨_, _, [(ns 0 13), (ns 1 14)], ⟨u_Common_ok v2 v3 p8 p9 r5 hr5, ⟨(r v2), (r v3), (r p8), (r p9), trivial⟩, by kernel_rfl, ⟨rfl, rfl, trivial⟩⟩⟩
          refine to_done mixed ⟨[(.lss, (.v 12), (.c 3), true), (.eql, (.v 12), (.c 2), false), (.eql, (.v 12), (.c 1), true)], [], [], [⟨165, 3, [], [.agg [(ys 0), (ys 1)], .agg [(ys 2), (ys 3)]], [], [(ns 2 0), (ns 3 1), (ns 8 2), (ns 9 3)], 0, .agg [(ys 0), (ys 1)], [], .agg [(ys 13), (ys 14)], [], []⟩], [], []⟩ (V := (vals [v0, v1, v2, v3, v4, v5, p6, p7, p8, p9, p10, p11, v12, r5.1, r5.2] [])) (n := 3000) (f := 3000) (V' := (vals [v0, v1, r5.1, r5.2, v4, v5, p6, p7, p8, p9, p10, p11, (IntKind.wrap .i64 (v12 + (1 : Int)))] [])) ⟨⟨lss_t h1, eql_f h2, eql_t h4, trivial⟩, trivial, trivial, trivial, trivial⟩ ⟨Kr5 _ _, trivial⟩ (T := ttN5a_1) (ce := .normal) (qs := [.num (.add .i64 (.v 12) (.c 1)) (.v 12), (ns 0 0), (ns 1 1), (ns 13 2), (ns 14 3), (ns 4 4), (ns 5 5), (ns 6 6), (ns 7 7), (ns 8 8), (ns 9 9), (ns 10 10), (ns 11 11)]) hF hr (by kernel_rfl) ⟨(r (IntKind.wrap .i64 (v12 + (1 : Int)))), (r v0), (r v1), (r r5.1), (r r5.2), (r v4), (r v5), (r p6), (r p7), (r p8), (r p9), (r p10), (r p11), trivial⟩ (at_re (V' := (vals [v0, v1, v2, v3, v4, v5, p6, p7, p8, p9, p10, p11, v12, r5.1, r5.2] [])) (T := ttN5a_1) (qs := qqN5a_3) hat (by kernel_rfl) ⟨rfl, rfl, rfl, rfl, rfl, rfl, rfl, rfl, rfl, rfl, rfl, rfl, rfl, trivial⟩) fun a' w' hat' => ?_
          exact x_box_common_L1_ok fu p6 p7 p8 p9 p10 p11 n v0 v1 r5.1 r5.2 v4 v5 (IntKind.wrap .i64 (v12 + (1 : Int))) o h _ _ _ _ _ _ _ hF hr hat' hx0
        · rw [if_neg h4] at h
          by_cases h6 : v12 = (0 : Int)
          · rw [if_pos h6] at h
            obtain ⟨r7, hr7, h⟩ := Option.bind_eq_some_iff.1 h
            have Kr7 : KO Tryz.prog [v0, v1, v2, v3, v4, v5, p6, p7, p8, p9, p10, p11, v12, r7.1, r7.2] [] ⟨165, 3, [], [.agg [(ys 0), (ys 1)], .agg [(ys 2), (ys 3)]], [], [(ns 0 0), (ns 1 1), (ns 6 2), (ns 7 3)], 0, .agg [(ys 0), (ys 1)], [], .agg [(ys 13), (ys 14)], [], []⟩ := fun N M => ⟨_, _, [(ns 0 13), (ns 1 14)], ⟨u_Common_ok v0 v1 p6 p7 r7 hr7, ⟨(r v0), (r v1), (r p6), (r p7), trivial⟩, by kernel_rfl, ⟨rfl, rfl, trivial⟩⟩⟩
            refine to_done mixed ⟨[(.lss, (.v 12), (.c 3), true), (.eql, (.v 12), (.c 2), false), (.eql, (.v 12), (.c 1), false), (.eql, (.v 12), (.c 0), true)], [], [], [⟨165, 3, [], [.agg [(ys 0), (ys 1)], .agg [(ys 2), (ys 3)]], [], [(ns 0 0), (ns 1 1), (ns 6 2), (ns 7 3)], 0, .agg [(ys 0), (ys 1)], [], .agg [(ys 13), (ys 14)], [], []⟩], [], []⟩ (V := (vals [v0, v1, v2, v3, v4, v5, p6, p7, p8, p9, p10, p11, v12, r7.1, r7.2] [])) (n := 3000) (f := 3000) (V' := (vals [r7.1, r7.2, v2, v3, v4, v5, p6, p7, p8, p9, p10, p11, (IntKind.wrap .i64 (v12 + (1 : Int)))] [])) ⟨⟨lss_t h1, eql_f h2, eql_f h4, eql_t h6, trivial⟩, trivial, trivial, trivial, trivial⟩ ⟨Kr7 _ _, trivial⟩ (T := ttN5a_1) (ce := .normal) (qs := [.num (.add .i64 (.v 12) (.c 1)) (.v 12), (ns 13 0), (ns 14 1), (ns 2 2), (ns 3 3), (ns 4 4), (ns 5 5), (ns 6 6), (ns 7 7), (ns 8 8), (ns 9 9), (ns 10 10), (ns 11 11)]) hF hr (by kernel_rfl) ⟨(r (IntKind.wrap .i64 (v12 + (1 : Int)))), (r r7.1), (r r7.2), (r v2), (r v3), (r v4), (r v5), (r p6), (r p7), (r p8), (r p9), (r p10), (r p11), trivial⟩ (at_re (V' := (vals [v0, v1, v2, v3, v4, v5, p6, p7, p8, p9, p10, p11, v12, r7.1, r7.2] [])) (T := ttN5a_1) (qs := qqN5a_3) hat (by kernel_rfl) ⟨rfl, rfl, rfl, rfl, rfl, rfl, rfl, rfl, rfl, rfl, rfl, rfl, rfl, trivial⟩) fun a' w' hat' => ?_
            exact x_box_common_L1_ok fu p6 p7 p8 p9 p10 p11 n r7.1 r7.2 v2 v3 v4 v5 (IntKind.wrap .i64 (v12 + (1 : Int))) o h _ _ _ _ _ _ _ hF hr hat' hx0
          · rw [if_neg h6] at h
            cases h
    · rw [if_neg h1] at h
      injection h with h; subst h
      exact to_done mixed ⟨[(.lss, (.v 12), (.c 3), false)], [], [], [], [], []⟩ (V := (vals [v0, v1, v2, v3, v4, v5, p6, p7, p8, p9, p10, p11, v12] [])) (n := 3000) (f := 3000) (V' := (vals [v0, v1, v2, v3, v4, v5] [])) ⟨⟨lss_f h1, trivial⟩, trivial, trivial, trivial, trivial⟩ trivial (T := ⟨[(2, .ptr 0 0), (4, .ptr 1 0)], [some (.cells [(ys 0), (ys 1), (ys 2), (ys 3), (ys 4), (ys 5)] 163 false), some (.cells [.int .i64 0, .int .i64 0, .int .i64 0, .int .i64 0, .int .i64 0, .int .i64 0] 163 false)], [some (0, 0), some (2, 0)]⟩) (ce := (.exit 0)) (qs := [(ns 0 0), (ns 1 1), (ns 2 2), (ns 3 3), (ns 4 4), (ns 5 5)]) hF hr (by kernel_rfl) ⟨(r v0), (r v1), (r v2), (r v3), (r v4), (r v5), trivial⟩ hat fun a' w' hat' => hx0 (v0, v1, v2, v3, v4, v5) rfl a' w' hat'
def x_box_common (fu : Nat) (a0_0 : Int) (a0_1 : Int) (a0_2 : Int) (a0_3 : Int) (a0_4 : Int) (a0_5 : Int) (a1_0 : Int) (a1_1 : Int) (a1_2 : Int) (a1_3 : Int) (a1_4 : Int) (a1_5 : Int) : Option (Int × Int × Int × Int × Int × Int) := Option.bind (x_box_common_L1 fu a1_0 a1_1 a1_2 a1_3 a1_4 a1_5 fu a0_0 a0_1 a0_2 a0_3 a0_4 a0_5 (0 : Int)) fun o1 => some (o1.1, o1.2.1, o1.2.2.1, o1.2.2.2.1, o1.2.2.2.2.1, o1.2.2.2.2.2)
theorem x_box_common_ok (fu : Nat) (a0_0 : Int) (a0_1 : Int) (a0_2 : Int) (a0_3 : Int) (a0_4 : Int) (a0_5 : Int) (a1_0 : Int) (a1_1 : Int) (a1_2 : Int) (a1_3 : Int) (a1_4 : Int) (a1_5 : Int) (y : Int × Int × Int × Int × Int × Int) (h : x_box_common fu a0_0 a0_1 a0_2 a0_3 a0_4 a0_5 a1_0 a1_1 a1_2 a1_3 a1_4 a1_5 = some y) : CallOk Tryz.prog 100 (vals [a0_0, a0_1, a0_2, a0_3, a0_4, a0_5, a1_0, a1_1, a1_2, a1_3, a1_4, a1_5] []) [.agg [(ys 0), (ys 1), (ys 2), (ys 3), (ys 4), (ys 5)], .agg [(ys 6), (ys 7), (ys 8), (ys 9), (ys 10), (ys 11)]] [] 0 (vals [y.1, y.2.1, y.2.2.1, y.2.2.2.1, y.2.2.2.2.1, y.2.2.2.2.2] []) (.agg [(ys 0), (ys 1), (ys 2), (ys 3), (ys 4), (ys 5)]) [] := by
  refine fun_of (nt := 20) (by kernel_rfl) (by kernel_rfl) fun φ0 w0 a w hat => ?_
  have hF := wide_fw
  have hr : Fence.wide.round = none := rfl
  unfold x_box_common at h
  obtain ⟨o1, ho1, h⟩ := Option.bind_eq_some_iff.1 h
  refine to_loop mixed ⟨[], [], [], [], [], []⟩ (V := (vals [a0_0, a0_1, a0_2, a0_3, a0_4, a0_5, a1_0, a1_1, a1_2, a1_3, a1_4, a1_5] [])) (n := 3000) (f := 3000) (V' := (vals [a0_0, a0_1, a0_2, a0_3, a0_4, a0_5, a1_0, a1_1, a1_2, a1_3, a1_4, a1_5, (0 : Int)] [])) ⟨trivial, trivial, trivial, trivial, trivial⟩ trivial (T := ttN5a_1) (B := subAt (bodyOf Tryz.prog 100) [1, 0, 1, 0, 0]) (K' := [.bk 0, .sq (subAt (bodyOf Tryz.prog 100) [1, 1]) [1, 1]]) (qs := [.num (.c 0) (.v 12), (ns 0 0), (ns 1 1), (ns 2 2), (ns 3 3), (ns 4 4), (ns 5 5), (ns 6 6), (ns 7 7), (ns 8 8), (ns 9 9), (ns 10 10), (ns 11 11)]) hF hr (by kernel_rfl) ⟨(r (0 : Int)), (r a0_0), (r a0_1), (r a0_2), (r a0_3), (r a0_4), (r a0_5), (r a1_0), (r a1_1), (r a1_2), (r a1_3), (r a1_4), (r a1_5), trivial⟩ hat fun aa1 ww1 hat1 => loop_in (x_box_common_L1_ok fu a1_0 a1_1 a1_2 a1_3 a1_4 a1_5 fu a0_0 a0_1 a0_2 a0_3 a0_4 a0_5 (0 : Int) o1 ho1 _ _ _ _ _ _ _ hF hr hat1 ?_)
  · intro yy hy aa2 ww2 hat
    subst hy
    show (Wk.out (.exit 0)).goal _ _ _ [.bk 0, .sq (subAt (bodyOf Tryz.prog 100) [1, 1]) [1, 1]] _ aa2 ww2
    injection h with h; subst h
    exact to_fin mixed ⟨[], [], [], [], [], []⟩ (V := (vals [o1.1, o1.2.1, o1.2.2.1, o1.2.2.2.1, o1.2.2.2.2.1, o1.2.2.2.2.2] [])) (n := 3000) (f := 3000) ⟨trivial, trivial, trivial, trivial, trivial⟩ trivial (R := rrN5a_6) (qs := [(ns 0 0), (ns 1 1), (ns 2 2), (ns 3 3), (ns 4 4), (ns 5 5)]) hF hr (by kernel_rfl) ⟨(r o1.1), (r o1.2.1), (r o1.2.2.1), (r o1.2.2.2.1), (r o1.2.2.2.2.1), (r o1.2.2.2.2.2), trivial⟩ hat
def x_box_liesIn (fu : Nat) (a0_0 : Int) (a0_1 : Int) (a0_2 : Int) (a0_3 : Int) (a0_4 : Int) (a0_5 : Int) (a1_0 : Int) (a1_1 : Int) (a1_2 : Int) (a1_3 : Int) (a1_4 : Int) (a1_5 : Int) : Option (Bool) := Option.bind (x_box_common fu a0_0 a0_1 a0_2 a0_3 a0_4 a0_5 a1_0 a1_1 a1_2 a1_3 a1_4 a1_5) fun r1 => if r1.1 = a0_0 then (if r1.2.1 = a0_1 then (if r1.2.2.1 = a0_2 then (if r1.2.2.2.1 = a0_3 then (if r1.2.2.2.2.1 = a0_4 then (if r1.2.2.2.2.2 = a0_5 then (some true) else (some false)) else (some false)) else (some false)) else (some false)) else (some false)) else (some false)
theorem x_box_liesIn_ok (fu : Nat) (a0_0 : Int) (a0_1 : Int) (a0_2 : Int) (a0_3 : Int) (a0_4 : Int) (a0_5 : Int) (a1_0 : Int) (a1_1 : Int) (a1_2 : Int) (a1_3 : Int) (a1_4 : Int) (a1_5 : Int) (y : Bool) (h : x_box_liesIn fu a0_0 a0_1 a0_2 a0_3 a0_4 a0_5 a1_0 a1_1 a1_2 a1_3 a1_4 a1_5 = some y) : CallOk Tryz.prog 94 (vals [a0_0, a0_1, a0_2, a0_3, a0_4, a0_5, a1_0, a1_1, a1_2, a1_3, a1_4, a1_5] []) [.agg [(ys 0), (ys 1), (ys 2), (ys 3), (ys 4), (ys 5)], .agg [(ys 6), (ys 7), (ys 8), (ys 9), (ys 10), (ys 11)]] [] 0 (vals [bI y] []) (.bs (.v 0)) [] := by
  refine fun_of (nt := 10) (by kernel_rfl) (by kernel_rfl) fun φ0 w0 a w hat => ?_
  have hF := wide_fw
  have hr : Fence.wide.round = none := rfl
  have hta1 := fun (r1 : Int × Int × Int × Int × Int × Int) => at_re (V' := (vals [a0_0, a0_1, a0_2, a0_3, a0_4, a0_5, a1_0, a1_1, a1_2, a1_3, a1_4, a1_5, r1.1, r1.2.1, r1.2.2.1, r1.2.2.2.1, r1.2.2.2.2.1, r1.2.2.2.2.2] [])) (T := ttN5a_2) (qs := qqN5a_1) hat (by kernel_rfl) ⟨rfl, rfl, rfl, rfl, rfl, rfl, rfl, rfl, rfl, rfl, rfl, rfl, trivial⟩
  unfold x_box_liesIn at h
  obtain ⟨r1, hr1, h⟩ := Option.bind_eq_some_iff.1 h
  have Kr1 : KO Tryz.prog [a0_0, a0_1, a0_2, a0_3, a0_4, a0_5, a1_0, a1_1, a1_2, a1_3, a1_4, a1_5, r1.1, r1.2.1, r1.2.2.1, r1.2.2.2.1, r1.2.2.2.2.1, r1.2.2.2.2.2] [] n5a_k15 := fun N M => ⟨_, _, [(ns 0 12), (ns 1 13), (ns 2 14), (ns 3 15), (ns 4 16), (ns 5 17)], ⟨x_box_common_ok fu a0_0 a0_1 a0_2 a0_3 a0_4 a0_5 a1_0 a1_1 a1_2 a1_3 a1_4 a1_5 r1 hr1, ⟨(r a0_0), (r a0_1), (r a0_2), (r a0_3), (r a0_4), (r a0_5), (r a1_0), (r a1_1), (r a1_2), (r a1_3), (r a1_4), (r a1_5), trivial⟩, by kernel_rfl, ⟨rfl, rfl, rfl, rfl, rfl, rfl, trivial⟩⟩⟩
  by_cases h2 : r1.1 = a0_0
  · rw [if_pos h2] at h
    by_cases h3 : r1.2.1 = a0_1
    · rw [if_pos h3] at h
      by_cases h4 : r1.2.2.1 = a0_2
      · rw [if_pos h4] at h
        by_cases h5 : r1.2.2.2.1 = a0_3
        · rw [if_pos h5] at h
          by_cases h6 : r1.2.2.2.2.1 = a0_4
          · rw [if_pos h6] at h
            by_cases h7 : r1.2.2.2.2.2 = a0_5
            · rw [if_pos h7] at h
              injection h with h; subst h
              exact to_fin mixed ⟨[(.eql, (.v 12), (.v 0), true), (.eql, (.v 13), (.v 1), true), (.eql, (.v 14), (.v 2), true), (.eql, (.v 15), (.v 3), true), (.eql, (.v 16), (.v 4), true), (.eql, (.v 17), (.v 5), true)], [], [], [n5a_k15], [], []⟩ (V := (vals [a0_0, a0_1, a0_2, a0_3, a0_4, a0_5, a1_0, a1_1, a1_2, a1_3, a1_4, a1_5, r1.1, r1.2.1, r1.2.2.1, r1.2.2.2.1, r1.2.2.2.2.1, r1.2.2.2.2.2] [])) (n := 3000) (f := 3000) ⟨⟨eql_t h2, eql_t h3, eql_t h4, eql_t h5, eql_t h6, eql_t h7, trivial⟩, trivial, trivial, trivial, trivial⟩ ⟨Kr1 _ _, trivial⟩ (R := ⟨.bs (.v 0), [], []⟩) (qs := [.num (.c 1) (.v 0)]) hF hr (by kernel_rfl) ⟨rfl, trivial⟩ (hta1 r1)
            · rw [if_neg h7] at h
              injection h with h; subst h
              exact to_fin mixed ⟨[(.eql, (.v 12), (.v 0), true), (.eql, (.v 13), (.v 1), true), (.eql, (.v 14), (.v 2), true), (.eql, (.v 15), (.v 3), true), (.eql, (.v 16), (.v 4), true), (.eql, (.v 17), (.v 5), false)], [], [], [n5a_k15], [], []⟩ (V := (vals [a0_0, a0_1, a0_2, a0_3, a0_4, a0_5, a1_0, a1_1, a1_2, a1_3, a1_4, a1_5, r1.1, r1.2.1, r1.2.2.1, r1.2.2.2.1, r1.2.2.2.2.1, r1.2.2.2.2.2] [])) (n := 3000) (f := 3000) ⟨⟨eql_t h2, eql_t h3, eql_t h4, eql_t h5, eql_t h6, eql_f h7, trivial⟩, trivial, trivial, trivial, trivial⟩ ⟨Kr1 _ _, trivial⟩ (R := ⟨.bs (.v 0), [], []⟩) (qs := [.num (.c 0) (.v 0)]) hF hr (by kernel_rfl) ⟨rfl, trivial⟩ (hta1 r1)
          · rw [if_neg h6] at h
            injection h with h; subst h
            exact to_fin mixed ⟨[(.eql, (.v 12), (.v 0), true), (.eql, (.v 13), (.v 1), true), (.eql, (.v 14), (.v 2), true), (.eql, (.v 15), (.v 3), true), (.eql, (.v 16), (.v 4), false)], [], [], [n5a_k15], [], []⟩ (V := (vals [a0_0, a0_1, a0_2, a0_3, a0_4, a0_5, a1_0, a1_1, a1_2, a1_3, a1_4, a1_5, r1.1, r1.2.1, r1.2.2.1, r1.2.2.2.1, r1.2.2.2.2.1, r1.2.2.2.2.2] [])) (n := 3000) (f := 3000) ⟨⟨eql_t h2, eql_t h3, eql_t h4, eql_t h5, eql_f h6, trivial⟩, trivial, trivial, trivial, trivial⟩ ⟨Kr1 _ _, trivial⟩ (R := ⟨.bs (.v 0), [], []⟩) (qs := [.num (.c 0) (.v 0)]) hF hr (by kernel_rfl) ⟨rfl, trivial⟩ (hta1 r1)
        · rw [if_neg h5] at h
          injection h with h; subst h
          exact to_fin mixed ⟨[(.eql, (.v 12), (.v 0), true), (.eql, (.v 13), (.v 1), true), (.eql, (.v 14), (.v 2), true), (.eql, (.v 15), (.v 3), false)], [], [], [n5a_k15], [], []⟩ (V := (vals [a0_0, a0_1, a0_2, a0_3, a0_4, a0_5, a1_0, a1_1, a1_2, a1_3, a1_4, a1_5, r1.1, r1.2.1, r1.2.2.1, r1.2.2.2.1, r1.2.2.2.2.1, r1.2.2.2.2.2] [])) (n := 3000) (f := 3000) ⟨⟨eql_t h2, eql_t h3, eql_t h4, eql_f h5, trivial⟩, trivial, trivial, trivial, trivial⟩ ⟨Kr1 _ _, trivial⟩ (R := ⟨.bs (.v 0), [], []⟩) (qs := [.num (.c 0) (.v 0)]) hF hr (by kernel_rfl) ⟨rfl, trivial⟩ (hta1 r1)
      · rw [if_neg h4] at h
        injection h with h; subst h
        exact to_fin mixed ⟨[(.eql, (.v 12), (.v 0), true), (.eql, (.v 13), (.v 1), true), (.eql, (.v 14), (.v 2), false)], [], [], [n5a_k15], [], []⟩ (V := (vals [a0_0, a0_1, a0_2, a0_3, a0_4, a0_5, a1_0, a1_1, a1_2, a1_3, a1_4, a1_5, r1.1, r1.2.1, r1.2.2.1, r1.2.2.2.1, r1.2.2.2.2.1, r1.2.2.2.2.2] [])) (n := 3000) (f := 3000) ⟨⟨eql_t h2, eql_t h3, eql_f h4, trivial⟩, trivial, trivial, trivial, trivial⟩ ⟨Kr1 _ _, trivial⟩ (R := ⟨.bs (.v 0), [], []⟩) (qs := [.num (.c 0) (.v 0)]) hF hr (by kernel_rfl) ⟨rfl, trivial⟩ (hta1 r1)
    · rw [if_neg h3] at h
      injection h with h; subst h
      exact to_fin mixed ⟨[(.eql, (.v 12), (.v 0), true), (.eql, (.v 13), (.v 1), false)], [], [], [n5a_k15], [], []⟩ (V := (vals [a0_0, a0_1, a0_2, a0_3, a0_4, a0_5, a1_0, a1_1, a1_2, a1_3, a1_4, a1_5, r1.1, r1.2.1, r1.2.2.1, r1.2.2.2.1, r1.2.2.2.2.1, r1.2.2.2.2.2] [])) (n := 3000) (f := 3000) ⟨⟨eql_t h2, eql_f h3, trivial⟩, trivial, trivial, trivial, trivial⟩ ⟨Kr1 _ _, trivial⟩ (R := ⟨.bs (.v 0), [], []⟩) (qs := [.num (.c 0) (.v 0)]) hF hr (by kernel_rfl) ⟨rfl, trivial⟩ (hta1 r1)
  · rw [if_neg h2] at h
    injection h with h; subst h
    exact to_fin mixed ⟨[(.eql, (.v 12), (.v 0), false)], [], [], [n5a_k15], [], []⟩ (V := (vals [a0_0, a0_1, a0_2, a0_3, a0_4, a0_5, a1_0, a1_1, a1_2, a1_3, a1_4, a1_5, r1.1, r1.2.1, r1.2.2.1, r1.2.2.2.1, r1.2.2.2.2.1, r1.2.2.2.2.2] [])) (n := 3000) (f := 3000) ⟨⟨eql_f h2, trivial⟩, trivial, trivial, trivial, trivial⟩ ⟨Kr1 _ _, trivial⟩ (R := ⟨.bs (.v 0), [], []⟩) (qs := [.num (.c 0) (.v 0)]) hF hr (by kernel_rfl) ⟨rfl, trivial⟩ (hta1 r1)
def x_CheckBox (fu : Nat) (a0_0 : Int) (a0_1 : Int) (a0_2 : Int) (a0_3 : Int) (a0_4 : Int) (a0_5 : Int) (a0_6 : List (Int × Int × Int × Int)) (a1_0 : Int) (a1_1 : Int) (a1_2 : Int) (a1_3 : Int) (a1_4 : Int) (a1_5 : Int) : Option (Int) := Option.bind (x_netError fu a0_0 a0_1 a0_2 a0_3 a0_4 a0_5 a0_6) fun r1 => Option.bind (x_boxOf a1_0 a1_1 a1_2 a1_3 a1_4 a1_5) fun r2 => Option.bind (x_box_orderError fu r2.1 r2.2.1 r2.2.2.1 r2.2.2.2.1 r2.2.2.2.2.1 r2.2.2.2.2.2) fun r3 => Option.bind (u_FirstError fu ([r1, r3] : List (Int))) fun r4 => if r4 = (0 : Int) then (Option.bind (x_boxOf a1_0 a1_1 a1_2 a1_3 a1_4 a1_5) fun r6 => Option.bind (x_boxOf a0_0 a0_1 a0_2 a0_3 a0_4 a0_5) fun r7 => Option.bind (x_box_liesIn fu r6.1 r6.2.1 r6.2.2.1 r6.2.2.2.1 r6.2.2.2.2.1 r6.2.2.2.2.2 r7.1 r7.2.1 r7.2.2.1 r7.2.2.2.1 r7.2.2.2.2.1 r7.2.2.2.2.2) fun r8 => if r8 = true then (some (0 : Int)) else (some (2 : Int))) else (some r4)
theorem x_CheckBox_ok (fu : Nat) (a0_0 : Int) (a0_1 : Int) (a0_2 : Int) (a0_3 : Int) (a0_4 : Int) (a0_5 : Int) (a0_6 : List (Int × Int × Int × Int)) (a1_0 : Int) (a1_1 : Int) (a1_2 : Int) (a1_3 : Int) (a1_4 : Int) (a1_5 : Int) (y : Int) (h : x_CheckBox fu a0_0 a0_1 a0_2 a0_3 a0_4 a0_5 a0_6 a1_0 a1_1 a1_2 a1_3 a1_4 a1_5 = some y) : CallOk Tryz.prog 29 (vals [a0_0, a0_1, a0_2, a0_3, a0_4, a0_5, (a0_6.length : Int), a1_0, a1_1, a1_2, a1_3, a1_4, a1_5] [(a0_6.flatMap enSIII)]) [.agg [(ys 0), (ys 1), (ys 2), (ys 3), (ys 4), (ys 5), .gs 0 0 (.v 6) 4 false], .agg [(ys 7), (ys 8), (ys 9), (ys 10), (ys 11), (ys 12)]] [some (.rows 0 [] 82 true)] 1 (vals [y] []) ((ys 0)) [none] := by
  refine fun_of (nt := 23) (by kernel_rfl) (by kernel_rfl) fun φ0 w0 a w hat => ?_
  have hF := wide_fw
  have hr : Fence.wide.round = none := rfl
  unfold x_CheckBox at h
  obtain ⟨r1, hr1, h⟩ := Option.bind_eq_some_iff.1 h
  have Kr1 : KO Tryz.prog [a0_0, a0_1, a0_2, a0_3, a0_4, a0_5, (a0_6.length : Int), a1_0, a1_1, a1_2, a1_3, a1_4, a1_5, r1] [(a0_6.flatMap enSIII)] n5a_k16 := fun N M => ⟨_, _, [(ns 0 13)], ⟨x_netError_ok fu a0_0 a0_1 a0_2 a0_3 a0_4 a0_5 a0_6 r1 hr1, ⟨(r a0_0), (r a0_1), (r a0_2), (r a0_3), (r a0_4), (r a0_5), (r (a0_6.length : Int)), ⟨[], rfl, lnil _⟩, trivial⟩, by kernel_rfl, ⟨rfl, trivial⟩⟩⟩
  obtain ⟨r2, hr2, h⟩ := Option.bind_eq_some_iff.1 h
  have Kr2 : KO Tryz.prog [a0_0, a0_1, a0_2, a0_3, a0_4, a0_5, (a0_6.length : Int), a1_0, a1_1, a1_2, a1_3, a1_4, a1_5, r1, r2.1, r2.2.1, r2.2.2.1, r2.2.2.2.1, r2.2.2.2.2.1, r2.2.2.2.2.2] [(a0_6.flatMap enSIII)] n5a_k17 := fun N M => ⟨_, _, [(ns 0 14), (ns 1 15), (ns 2 16), (ns 3 17), (ns 4 18), (ns 5 19)], ⟨x_boxOf_ok a1_0 a1_1 a1_2 a1_3 a1_4 a1_5 r2 hr2, ⟨(r a1_0), (r a1_1), (r a1_2), (r a1_3), (r a1_4), (r a1_5), trivial⟩, by kernel_rfl, ⟨rfl, rfl, rfl, rfl, rfl, rfl, trivial⟩⟩⟩
  obtain ⟨r3, hr3, h⟩ := Option.bind_eq_some_iff.1 h
  have Kr3 : KO Tryz.prog [a0_0, a0_1, a0_2, a0_3, a0_4, a0_5, (a0_6.length : Int), a1_0, a1_1, a1_2, a1_3, a1_4, a1_5, r1, r2.1, r2.2.1, r2.2.2.1, r2.2.2.2.1, r2.2.2.2.2.1, r2.2.2.2.2.2, r3] [(a0_6.flatMap enSIII)] n5a_k18 := fun N M => ⟨_, _, [(ns 0 20)], ⟨x_box_orderError_ok fu r2.1 r2.2.1 r2.2.2.1 r2.2.2.2.1 r2.2.2.2.2.1 r2.2.2.2.2.2 r3 hr3, ⟨(r r2.1), (r r2.2.1), (r r2.2.2.1), (r r2.2.2.2.1), (r r2.2.2.2.2.1), (r r2.2.2.2.2.2), trivial⟩, by kernel_rfl, ⟨rfl, trivial⟩⟩⟩
  obtain ⟨r4, hr4, h⟩ := Option.bind_eq_some_iff.1 h
  have Kr4 : KO Tryz.prog [a0_0, a0_1, a0_2, a0_3, a0_4, a0_5, (a0_6.length : Int), a1_0, a1_1, a1_2, a1_3, a1_4, a1_5, r1, r2.1, r2.2.1, r2.2.2.1, r2.2.2.2.1, r2.2.2.2.2.1, r2.2.2.2.2.2, r3, r4] [(a0_6.flatMap enSIII)] n5a_k19 := fun N M => ⟨_, _, [(ns 0 21)], ⟨u_FirstError_ok fu ([r1, r3] : List (Int)) r4 hr4, ⟨rfl, rfl, trivial⟩, by kernel_rfl, ⟨rfl, trivial⟩⟩⟩
  by_cases h5 : r4 = (0 : Int)
  · rw [if_pos h5] at h
    obtain ⟨r6, hr6, h⟩ := Option.bind_eq_some_iff.1 h
    have Kr6 : KO Tryz.prog [a0_0, a0_1, a0_2, a0_3, a0_4, a0_5, (a0_6.length : Int), a1_0, a1_1, a1_2, a1_3, a1_4, a1_5, r1, r2.1, r2.2.1, r2.2.2.1, r2.2.2.2.1, r2.2.2.2.2.1, r2.2.2.2.2.2, r3, r4, r6.1, r6.2.1, r6.2.2.1, r6.2.2.2.1, r6.2.2.2.2.1, r6.2.2.2.2.2] [(a0_6.flatMap enSIII)] n5a_k20 := fun N M => ⟨_, _, [(ns 0 22), (ns 1 23), (ns 2 24), (ns 3 25), (ns 4 26), (ns 5 27)], ⟨x_boxOf_ok a1_0 a1_1 a1_2 a1_3 a1_4 a1_5 r6 hr6, ⟨(r a1_0), (r a1_1), (r a1_2), (r a1_3), (r a1_4), (r a1_5), trivial⟩, by kernel_rfl, ⟨rfl, rfl, rfl, rfl, rfl, rfl, trivial⟩⟩⟩
    obtain ⟨r7, hr7, h⟩ := Option.bind_eq_some_iff.1 h
    have Kr7 : KO Tryz.prog [a0_0, a0_1, a0_2, a0_3, a0_4, a0_5, (a0_6.length : Int), a1_0, a1_1, a1_2, a1_3, a1_4, a1_5, r1, r2.1, r2.2.1, r2.2.2.1, r2.2.2.2.1, r2.2.2.2.2.1, r2.2.2.2.2.2, r3, r4, r6.1, r6.2.1, r6.2.2.1, r6.2.2.2.1, r6.2.2.2.2.1, r6.2.2.2.2.2, r7.1, r7.2.1, r7.2.2.1, r7.2.2.2.1, r7.2.2.2.2.1, r7.2.2.2.2.2] [(a0_6.flatMap enSIII)] n5a_k21 := fun N M => ⟨_, _, [(ns 0 28), (ns 1 29), (ns 2 30), (ns 3 31), (ns 4 32), (ns 5 33)], ⟨x_boxOf_ok a0_0 a0_1 a0_2 a0_3 a0_4 a0_5 r7 hr7, ⟨(r a0_0), (r a0_1), (r a0_2), (r a0_3), (r a0_4), (r a0_5), trivial⟩, by kernel_rfl, ⟨rfl, rfl, rfl, rfl, rfl, rfl, trivial⟩⟩⟩
    obtain ⟨r8, hr8, h⟩ := Option.bind_eq_some_iff.1 h
    have Kr8 : KO Tryz.prog [a0_0, a0_1, a0_2, a0_3, a0_4, a0_5, (a0_6.length : Int), a1_0, a1_1, a1_2, a1_3, a1_4, a1_5, r1, r2.1, r2.2.1, r2.2.2.1, r2.2.2.2.1, r2.2.2.2.2.1, r2.2.2.2.2.2, r3, r4, r6.1, r6.2.1, r6.2.2.1, r6.2.2.2.1, r6.2.2.2.2.1, r6.2.2.2.2.2, r7.1, r7.2.1, r7.2.2.1, r7.2.2.2.1, r7.2.2.2.2.1, r7.2.2.2.2.2, bI r8] [(a0_6.flatMap enSIII)] n5a_k22 := fun N M => ⟨_, _, [(ns 0 34)], ⟨x_box_liesIn_ok fu r6.1 r6.2.1 r6.2.2.1 r6.2.2.2.1 r6.2.2.2.2.1 r6.2.2.2.2.2 r7.1 r7.2.1 r7.2.2.1 r7.2.2.2.1 r7.2.2.2.2.1 r7.2.2.2.2.2 r8 hr8, ⟨(r r6.1), (r r6.2.1), (r r6.2.2.1), (r r6.2.2.2.1), (r r6.2.2.2.2.1), (r r6.2.2.2.2.2), (r r7.1), (r r7.2.1), (r r7.2.2.1), (r r7.2.2.2.1), (r r7.2.2.2.2.1), (r r7.2.2.2.2.2), trivial⟩, by kernel_rfl, ⟨rfl, trivial⟩⟩⟩
    by_cases h9 : r8 = true
    · rw [if_pos h9] at h
      injection h with h; subst h
      exact to_fin mixed ⟨[(.neq, (.v 21), (.c 0), false), (.neq, (.v 34), (.c 0), true)], [], [(0, 4, (.v 6))], [n5a_k16, n5a_k17, n5a_k18, n5a_k19, n5a_k20, n5a_k21, n5a_k22], [], []⟩ (V := (vvN5a_37_1 a0_0 a0_1 a0_2 a0_3 a0_4 a0_5 a0_6 a1_0 a1_1 a1_2 a1_3 a1_4 a1_5 r1 r2 r3 r4 r6 r7 r8)) (n := 3000) (f := 3000) ⟨⟨neq_f h5, bi_t h9, trivial⟩, trivial, ⟨flat_length enSIII_len _, trivial⟩, trivial, trivial⟩ ⟨Kr1 _ _, Kr2 _ _, Kr3 _ _, Kr4 _ _, Kr6 _ _, Kr7 _ _, Kr8 _ _, trivial⟩ (R := ⟨(ys 0), [none], [some (0, 0)]⟩) (qs := [.num (.c 0) (.v 0)]) hF hr (by kernel_rfl) ⟨(r (0 : Int)), trivial⟩ (at_re (V' := (vvN5a_37_1 a0_0 a0_1 a0_2 a0_3 a0_4 a0_5 a0_6 a1_0 a1_1 a1_2 a1_3 a1_4 a1_5 r1 r2 r3 r4 r6 r7 r8)) (T := ttN5a_4) (qs := qqN5a_2) hat (by kernel_rfl) ⟨rfl, rfl, rfl, rfl, rfl, rfl, rfl, rfl, rfl, rfl, rfl, rfl, rfl, ⟨[], rfl, lnil _⟩, trivial⟩)
    · rw [if_neg h9] at h
      injection h with h; subst h
      exact to_fin mixed ⟨[(.neq, (.v 21), (.c 0), false), (.neq, (.v 34), (.c 0), false)], [], [(0, 4, (.v 6))], [n5a_k16, n5a_k17, n5a_k18, n5a_k19, n5a_k20, n5a_k21, n5a_k22], [], []⟩ (V := (vvN5a_37_1 a0_0 a0_1 a0_2 a0_3 a0_4 a0_5 a0_6 a1_0 a1_1 a1_2 a1_3 a1_4 a1_5 r1 r2 r3 r4 r6 r7 r8)) (n := 3000) (f := 3000) ⟨⟨neq_f h5, bi_f h9, trivial⟩, trivial, ⟨flat_length enSIII_len _, trivial⟩, trivial, trivial⟩ ⟨Kr1 _ _, Kr2 _ _, Kr3 _ _, Kr4 _ _, Kr6 _ _, Kr7 _ _, Kr8 _ _, trivial⟩ (R := ⟨(ys 0), [none], [some (0, 0)]⟩) (qs := [.num (.c 2) (.v 0)]) hF hr (by kernel_rfl) ⟨(r (2 : Int)), trivial⟩ (at_re (V' := (vvN5a_37_1 a0_0 a0_1 a0_2 a0_3 a0_4 a0_5 a0_6 a1_0 a1_1 a1_2 a1_3 a1_4 a1_5 r1 r2 r3 r4 r6 r7 r8)) (T := ttN5a_4) (qs := qqN5a_2) hat (by kernel_rfl) ⟨rfl, rfl, rfl, rfl, rfl, rfl, rfl, rfl, rfl, rfl, rfl, rfl, rfl, ⟨[], rfl, lnil _⟩, trivial⟩)
  · rw [if_neg h5] at h
    injection h with h; subst h
    exact to_fin mixed ⟨[(.neq, (.v 21), (.c 0), true)], [], [(0, 4, (.v 6))], [n5a_k16, n5a_k17, n5a_k18, n5a_k19], [], []⟩ (V := (vals [a0_0, a0_1, a0_2, a0_3, a0_4, a0_5, (a0_6.length : Int), a1_0, a1_1, a1_2, a1_3, a1_4, a1_5, r1, r2.1, r2.2.1, r2.2.2.1, r2.2.2.2.1, r2.2.2.2.2.1, r2.2.2.2.2.2, r3, r4] [(a0_6.flatMap enSIII)])) (n := 3000) (f := 3000) ⟨⟨neq_t h5, trivial⟩, trivial, ⟨flat_length enSIII_len _, trivial⟩, trivial, trivial⟩ ⟨Kr1 _ _, Kr2 _ _, Kr3 _ _, Kr4 _ _, trivial⟩ (R := ⟨(ys 0), [none], [some (0, 0)]⟩) (qs := [(ns 21 0)]) hF hr (by kernel_rfl) ⟨(r r4), trivial⟩ (at_re (V' := (vals [a0_0, a0_1, a0_2, a0_3, a0_4, a0_5, (a0_6.length : Int), a1_0, a1_1, a1_2, a1_3, a1_4, a1_5, r1, r2.1, r2.2.1, r2.2.2.1, r2.2.2.2.1, r2.2.2.2.2.1, r2.2.2.2.2.2, r3, r4] [(a0_6.flatMap enSIII)])) (T := ttN5a_4) (qs := qqN5a_2) hat (by kernel_rfl) ⟨rfl, rfl, rfl, rfl, rfl, rfl, rfl, rfl, rfl, rfl, rfl, rfl, rfl, ⟨[], rfl, lnil _⟩, trivial⟩)
end Go.Proofs.YtaafodbiigdbaaaGreat
