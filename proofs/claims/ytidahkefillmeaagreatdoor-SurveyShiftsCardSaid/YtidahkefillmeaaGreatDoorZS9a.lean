/-
  Go functions as Lean functions (written by tools/lift.py).
-/
import Derived.Test.YtidahkefillmeaaGreatDoorZEd
import Derived.Test.YtidahkefillmeaaGreatDoorZEg
set_option linter.all false
namespace Go.Proofs.YtidahkefillmeaaGreatDoor
open Go Go.RowKit Cm
set_option maxRecDepth 100000
set_option maxHeartbeats 4000000
def u_Within (a0 : Int) (a1 : Int) : Option (Bool) := if (IntKind.wrap .i64 ((0 : Int) - a1)) ≤ a0 then (if a0 ≤ a1 then (some true) else (some false)) else (some false)
theorem u_Within_ok (a0 : Int) (a1 : Int) (y : Bool) (h : u_Within a0 a1 = some y) : CallOk Tryz.prog 111 (vals [a0, a1] []) [(ys 0), (ys 1)] [] 0 (vals [bI y] []) (.bs (.v 0)) [] := by
  refine fun_of (nt := 14) (by kernel_rfl) (by kernel_rfl) fun φ0 w0 a w hat => ?_
  have hF := wide_fw
  have hr : Fence.wide.round = none := rfl
  unfold u_Within at h
  by_cases h1 : (IntKind.wrap .i64 ((0 : Int) - a1)) ≤ a0
  · rw [if_pos h1] at h
    by_cases h2 : a0 ≤ a1
    · rw [if_pos h2] at h
      injection h with h; subst h
      exact to_fin mixed ⟨[(.leq, (.sub .i64 (.c 0) (.v 1)), (.v 0), true), (.leq, (.v 0), (.v 1), true)], [], [], [], [], []⟩ (V := (vals [a0, a1] [])) (n := 3000) (f := 3000) ⟨⟨leq_t h1, leq_t h2, trivial⟩, trivial, trivial, trivial, trivial⟩ trivial (R := ⟨.bs (.v 0), [], []⟩) (qs := [.num (.c 1) (.v 0)]) hF hr (by kernel_rfl) ⟨rfl, trivial⟩ hat
    · rw [if_neg h2] at h
      injection h with h; subst h
      exact to_fin mixed ⟨[(.leq, (.sub .i64 (.c 0) (.v 1)), (.v 0), true), (.leq, (.v 0), (.v 1), false)], [], [], [], [], []⟩ (V := (vals [a0, a1] [])) (n := 3000) (f := 3000) ⟨⟨leq_t h1, leq_f h2, trivial⟩, trivial, trivial, trivial, trivial⟩ trivial (R := ⟨.bs (.v 0), [], []⟩) (qs := [.num (.c 0) (.v 0)]) hF hr (by kernel_rfl) ⟨rfl, trivial⟩ hat
  · rw [if_neg h1] at h
    injection h with h; subst h
    exact to_fin mixed ⟨[(.leq, (.sub .i64 (.c 0) (.v 1)), (.v 0), false)], [], [], [], [], []⟩ (V := (vals [a0, a1] [])) (n := 3000) (f := 3000) ⟨⟨leq_f h1, trivial⟩, trivial, trivial, trivial, trivial⟩ trivial (R := ⟨.bs (.v 0), [], []⟩) (qs := [.num (.c 0) (.v 0)]) hF hr (by kernel_rfl) ⟨rfl, trivial⟩ hat
def u_SizeError_L1 (fu : Nat) (p0 : List (Int)) (p1 : Int) (p2 : Int) : Nat → Int → Option ((Unit) ⊕ (Unit))
  | 0, _ => none
  | n + 1, v3 => if v3 < p2 then (if (0 : Int) ≤ v3 then (if v3 < (p0.length : Int) then (Option.bind ((p0)[0 + (v3).toNat]?) fun e4 => Option.bind (u_Within e4 p1) fun r5 => if r5 = true then (u_SizeError_L1 fu p0 p1 p2 n (IntKind.wrap .i64 (v3 + (1 : Int)))) else (some (.inl ()))) else none) else none) else (some (.inr ()))
theorem u_SizeError_L1_ok (fu : Nat) (p0 : List (Int)) (p1 : Int) (p2 : Int) : ∀ (n : Nat) (v3 : Int) (o : (Unit) ⊕ (Unit)), u_SizeError_L1 fu p0 p1 p2 n v3 = some o → ∀ (φ0 : Phi) (w0 : World) (F : Fence) (k : Nat) (R : Exit → Act → World → Prop) (a : Act) (w : World), FW F → F.round = none → AtS (vals [(p0.length : Int), p1, p2, v3] [(p0.flatMap enI)]) [(0, (ys 1)), (7, .gs 0 0 (.v 0) 1 false), (8, (ys 2)), (9, (ys 3))] [some (.rows 0 [] 3 true)] 18 1 1 φ0 w0 a w → (∀ (y : Unit), o = .inl y → ∀ a' w', AtS (vals [(p0.length : Int)] [(p0.flatMap enI)]) [(4, .int .i64 2)] [some (.rows 0 [] 3 true)] 18 1 1 φ0 w0 a' w' → R Exit.ret a' w') → (∀ (y : Unit), o = .inr y → ∀ a' w', AtS (vals [(p0.length : Int)] [(p0.flatMap enI)]) [] [some (.rows 0 [] 3 true)] 18 1 1 φ0 w0 a' w' → R (Exit.exit 0) a' w') → Code.roundsIn F k Tryz.prog (subAt (bodyOf Tryz.prog 65) [1, 0, 1, 0, 0]) R n a w
  | 0, _, _, h => by cases h
  | n + 1, v3, o, h => by
    intro φ0 w0 F k R a w hF hr hat hx0 hx1
    rw [u_SizeError_L1] at h
    refine rounds_in (p := [1, 0, 1, 0, 0]) ?_
    by_cases h1 : v3 < p2
    · rw [if_pos h1] at h
      by_cases h2 : (0 : Int) ≤ v3
      · rw [if_pos h2] at h
        by_cases h3 : v3 < (p0.length : Int)
        · rw [if_pos h3] at h
          obtain ⟨e4, he4, h⟩ := Option.bind_eq_some_iff.1 h
          obtain ⟨r5, hr5, h⟩ := Option.bind_eq_some_iff.1 h
          have Kr5 : KO Tryz.prog [(p0.length : Int), p1, p2, v3, e4, bI r5] [(p0.flatMap enI)] ⟨111, 1, [], [(ys 0), (ys 1)], [], [(ns 4 0), (ns 1 1)], 0, .bs (.v 0), [], .bs (.v 5), [], []⟩ := fun N M => ⟨_, _, [(ns 0 5)], ⟨u_Within_ok e4 p1 r5 hr5, ⟨(r e4), (r p1), trivial⟩, by kernel_rfl, ⟨rfl, trivial⟩⟩⟩
          by_cases h6 : r5 = true
          · rw [if_pos h6] at h
            refine to_done mixed ⟨[(.lss, (.v 3), (.v 2), true), (.leq, (.c 0), (.v 3), true), (.lss, (.v 3), (.v 0), true), (.neq, (.v 5), (.c 0), true)], [(0, 0, (.v 3), [(ys 4)])], [(0, 1, (.v 0))], [⟨111, 1, [], [(ys 0), (ys 1)], [], [(ns 4 0), (ns 1 1)], 0, .bs (.v 0), [], .bs (.v 5), [], []⟩], [], []⟩ (V := (vals [(p0.length : Int), p1, p2, v3, e4, bI r5] [(p0.flatMap enI)])) (n := 3000) (f := 3000) (V' := (vals [(p0.length : Int), p1, p2, (IntKind.wrap .i64 (v3 + (1 : Int)))] [(p0.flatMap enI)])) ⟨⟨lss_t h1, leq_t h2, lss_t h3, bi_t h6, trivial⟩, ⟨⟨h2, _, rfl, flat_row enI_len he4⟩, trivial⟩, ⟨flat_length enI_len _, trivial⟩, trivial, trivial⟩ ⟨Kr5 _ _, trivial⟩ (T := ⟨[(0, (ys 1)), (7, .gs 0 0 (.v 0) 1 false), (8, (ys 2)), (9, (ys 3))], [some (.rows 0 [] 3 true)], [some (0, 0)]⟩) (ce := .normal) (qs := [(ns 1 1), (ns 0 0), (ns 2 2), .num (.add .i64 (.v 3) (.c 1)) (.v 3), .lst 0 (some 0) []]) hF hr (by kernel_rfl) ⟨(r p1), (r (p0.length : Int)), (r p2), (r (IntKind.wrap .i64 (v3 + (1 : Int)))), ⟨[], rfl, lnil _⟩, trivial⟩ (at_re (V' := (vals [(p0.length : Int), p1, p2, v3, e4, bI r5] [(p0.flatMap enI)])) (T := ⟨[(0, (ys 1)), (7, .gs 0 0 (.v 0) 1 false), (8, (ys 2)), (9, (ys 3))], [some (.rows 0 [] 3 true)], [some (0, 0)]⟩) (qs := [(ns 1 1), (ns 0 0), (ns 2 2), (ns 3 3), .lst 0 (some 0) []]) hat (by kernel_rfl) ⟨rfl, rfl, rfl, rfl, ⟨[], rfl, lnil _⟩, trivial⟩) fun a' w' hat' => ?_
            exact u_SizeError_L1_ok fu p0 p1 p2 n (IntKind.wrap .i64 (v3 + (1 : Int))) o h _ _ _ _ _ _ _ hF hr hat' hx0 hx1
          · rw [if_neg h6] at h
            injection h with h; subst h
            exact to_done mixed ⟨[(.lss, (.v 3), (.v 2), true), (.leq, (.c 0), (.v 3), true), (.lss, (.v 3), (.v 0), true), (.neq, (.v 5), (.c 0), false)], [(0, 0, (.v 3), [(ys 4)])], [(0, 1, (.v 0))], [⟨111, 1, [], [(ys 0), (ys 1)], [], [(ns 4 0), (ns 1 1)], 0, .bs (.v 0), [], .bs (.v 5), [], []⟩], [], []⟩ (V := (vals [(p0.length : Int), p1, p2, v3, e4, bI r5] [(p0.flatMap enI)])) (n := 3000) (f := 3000) (V' := (vals [(p0.length : Int)] [(p0.flatMap enI)])) ⟨⟨lss_t h1, leq_t h2, lss_t h3, bi_f h6, trivial⟩, ⟨⟨h2, _, rfl, flat_row enI_len he4⟩, trivial⟩, ⟨flat_length enI_len _, trivial⟩, trivial, trivial⟩ ⟨Kr5 _ _, trivial⟩ (T := ⟨[(4, .int .i64 2)], [some (.rows 0 [] 3 true)], [some (0, 0)]⟩) (ce := .ret) (qs := [.lst 0 (some 0) []]) hF hr (by kernel_rfl) ⟨⟨[], rfl, lnil _⟩, trivial⟩ (at_re (V' := (vals [(p0.length : Int), p1, p2, v3, e4, bI r5] [(p0.flatMap enI)])) (T := ⟨[(0, (ys 1)), (7, .gs 0 0 (.v 0) 1 false), (8, (ys 2)), (9, (ys 3))], [some (.rows 0 [] 3 true)], [some (0, 0)]⟩) (qs := [(ns 1 1), (ns 0 0), (ns 2 2), (ns 3 3), .lst 0 (some 0) []]) hat (by kernel_rfl) ⟨rfl, rfl, rfl, rfl, ⟨[], rfl, lnil _⟩, trivial⟩) fun a' w' hat' => hx0 () rfl a' w' hat'
        · rw [if_neg h3] at h
          cases h
      · rw [if_neg h2] at h
        cases h
    · rw [if_neg h1] at h
      injection h with h; subst h
      exact to_done mixed ⟨[(.lss, (.v 3), (.v 2), false)], [], [(0, 1, (.v 0))], [], [], []⟩ (V := (vals [(p0.length : Int), p1, p2, v3] [(p0.flatMap enI)])) (n := 3000) (f := 3000) (V' := (vals [(p0.length : Int)] [(p0.flatMap enI)])) ⟨⟨lss_f h1, trivial⟩, trivial, ⟨flat_length enI_len _, trivial⟩, trivial, trivial⟩ trivial (T := ⟨[], [some (.rows 0 [] 3 true)], [some (0, 0)]⟩) (ce := (.exit 0)) (qs := [.lst 0 (some 0) []]) hF hr (by kernel_rfl) ⟨⟨[], rfl, lnil _⟩, trivial⟩ hat fun a' w' hat' => hx1 () rfl a' w' hat'
def u_SizeError (fu : Nat) (a0 : Int) (a1 : List (Int)) : Option (Int) := Option.bind (u_SizeError_L1 fu a1 a0 (a1.length : Int) fu (0 : Int)) fun o1 => (match o1 with | .inl y2 => (some (2 : Int)) | .inr y3 => (some (0 : Int)))
theorem u_SizeError_ok (fu : Nat) (a0 : Int) (a1 : List (Int)) (y : Int) (h : u_SizeError fu a0 a1 = some y) : CallOk Tryz.prog 65 (vals [a0, (a1.length : Int)] [(a1.flatMap enI)]) [(ys 0), .gs 0 0 (.v 1) 1 false] [some (.rows 0 [] 3 true)] 1 (vals [y] []) ((ys 0)) [none] := by
  refine fun_of (nt := 18) (by kernel_rfl) (by kernel_rfl) fun φ0 w0 a w hat => ?_
  have hF := wide_fw
  have hr : Fence.wide.round = none := rfl
  unfold u_SizeError at h
  obtain ⟨o1, ho1, h⟩ := Option.bind_eq_some_iff.1 h
  refine to_loop mixed ⟨[], [], [(0, 1, (.v 1))], [], [], []⟩ (V := (vals [a0, (a1.length : Int)] [(a1.flatMap enI)])) (n := 3000) (f := 3000) (V' := (vals [(a1.length : Int), a0, (a1.length : Int), (0 : Int)] [(a1.flatMap enI)])) ⟨trivial, trivial, ⟨flat_length enI_len _, trivial⟩, trivial, trivial⟩ trivial (T := ⟨[(0, (ys 1)), (7, .gs 0 0 (.v 0) 1 false), (8, (ys 2)), (9, (ys 3))], [some (.rows 0 [] 3 true)], [some (0, 0)]⟩) (B := subAt (bodyOf Tryz.prog 65) [1, 0, 1, 0, 0]) (K' := [.bk 0, .sq (subAt (bodyOf Tryz.prog 65) [1, 1]) [1, 1]]) (qs := [(ns 0 1), (ns 1 0), (ns 1 2), .num (.c 0) (.v 3), .lst 0 (some 0) []]) hF hr (by kernel_rfl) ⟨(r a0), (r (a1.length : Int)), (r (a1.length : Int)), (r (0 : Int)), ⟨[], rfl, lnil _⟩, trivial⟩ hat fun aa1 ww1 hat1 => loop_in (u_SizeError_L1_ok fu a1 a0 (a1.length : Int) fu (0 : Int) o1 ho1 _ _ _ _ _ _ _ hF hr hat1 ?_ ?_)
  · intro y2 hy aa2 ww2 hat
    subst hy
    dsimp only at h
    show (Wk.out .ret).goal _ _ _ [.bk 0, .sq (subAt (bodyOf Tryz.prog 65) [1, 1]) [1, 1]] _ aa2 ww2
    injection h with h; subst h
    exact to_fin mixed ⟨[], [], [(0, 1, (.v 0))], [], [], []⟩ (V := (vals [(a1.length : Int)] [(a1.flatMap enI)])) (n := 3000) (f := 3000) ⟨trivial, trivial, ⟨flat_length enI_len _, trivial⟩, trivial, trivial⟩ trivial (R := ⟨(ys 0), [none], [some (0, 0)]⟩) (qs := [.num (.c 2) (.v 0)]) hF hr (by kernel_rfl) ⟨(r (2 : Int)), trivial⟩ hat
  · intro y3 hy aa2 ww2 hat
    subst hy
    dsimp only at h
    show (Wk.out (.exit 0)).goal _ _ _ [.bk 0, .sq (subAt (bodyOf Tryz.prog 65) [1, 1]) [1, 1]] _ aa2 ww2
    injection h with h; subst h
    exact to_fin mixed ⟨[], [], [(0, 1, (.v 0))], [], [], []⟩ (V := (vals [(a1.length : Int)] [(a1.flatMap enI)])) (n := 3000) (f := 3000) ⟨trivial, trivial, ⟨flat_length enI_len _, trivial⟩, trivial, trivial⟩ trivial (R := ⟨(ys 0), [none], [some (0, 0)]⟩) (qs := [.num (.c 0) (.v 0)]) hF hr (by kernel_rfl) ⟨(r (0 : Int)), trivial⟩ hat
def u_OrderError (a0_0 : Int) (a0_1 : Int) : Option (Int) := if a0_1 < a0_0 then (some (9 : Int)) else (some (0 : Int))
theorem u_OrderError_ok (a0_0 : Int) (a0_1 : Int) (y : Int) (h : u_OrderError a0_0 a0_1 = some y) : CallOk Tryz.prog 89 (vals [a0_0, a0_1] []) [.agg [(ys 0), (ys 1)]] [] 0 (vals [y] []) ((ys 0)) [] := by
  refine fun_of (nt := 8) (by kernel_rfl) (by kernel_rfl) fun φ0 w0 a w hat => ?_
  have hF := wide_fw
  have hr : Fence.wide.round = none := rfl
  unfold u_OrderError at h
  by_cases h1 : a0_1 < a0_0
  · rw [if_pos h1] at h
    injection h with h; subst h
    exact to_fin mixed ⟨[(.gtr, (.v 0), (.v 1), true)], [], [], [], [], []⟩ (V := (vals [a0_0, a0_1] [])) (n := 3000) (f := 3000) ⟨⟨gtr_t h1, trivial⟩, trivial, trivial, trivial, trivial⟩ trivial (R := ⟨(ys 0), [], []⟩) (qs := [.num (.c 9) (.v 0)]) hF hr (by kernel_rfl) ⟨(r (9 : Int)), trivial⟩ hat
  · rw [if_neg h1] at h
    injection h with h; subst h
    exact to_fin mixed ⟨[(.gtr, (.v 0), (.v 1), false)], [], [], [], [], []⟩ (V := (vals [a0_0, a0_1] [])) (n := 3000) (f := 3000) ⟨⟨gtr_f h1, trivial⟩, trivial, trivial, trivial, trivial⟩ trivial (R := ⟨(ys 0), [], []⟩) (qs := [.num (.c 0) (.v 0)]) hF hr (by kernel_rfl) ⟨(r (0 : Int)), trivial⟩ hat
def u_FirstError_L1 (fu : Nat) (p0 : List (Int)) (p1 : Int) : Nat → Int → Option ((Int) ⊕ (Unit))
  | 0, _ => none
  | n + 1, v2 => if v2 < p1 then (if (0 : Int) ≤ v2 then (if v2 < (p0.length : Int) then (Option.bind ((p0)[0 + (v2).toNat]?) fun e4 => if e4 = (0 : Int) then (u_FirstError_L1 fu p0 p1 n (IntKind.wrap .i64 (v2 + (1 : Int)))) else (some (.inl e4))) else none) else none) else (some (.inr ()))
theorem u_FirstError_L1_ok (fu : Nat) (p0 : List (Int)) (p1 : Int) : ∀ (n : Nat) (v2 : Int) (o : (Int) ⊕ (Unit)), u_FirstError_L1 fu p0 p1 n v2 = some o → ∀ (φ0 : Phi) (w0 : World) (F : Fence) (k : Nat) (R : Exit → Act → World → Prop) (a : Act) (w : World), FW F → F.round = none → AtS (vals [(p0.length : Int), p1, v2] [(p0.flatMap enI)]) [(5, .gs 0 0 (.v 0) 1 false), (6, (ys 1)), (7, (ys 2))] [some (.rows 0 [] 27 true)] 15 1 1 φ0 w0 a w → (∀ (y : Int), o = .inl y → ∀ a' w', AtS (vals [(p0.length : Int), y] [(p0.flatMap enI)]) [(2, (ys 1))] [some (.rows 0 [] 27 true)] 15 1 1 φ0 w0 a' w' → R Exit.ret a' w') → (∀ (y : Unit), o = .inr y → ∀ a' w', AtS (vals [(p0.length : Int)] [(p0.flatMap enI)]) [] [some (.rows 0 [] 27 true)] 15 1 1 φ0 w0 a' w' → R (Exit.exit 0) a' w') → Code.roundsIn F k Tryz.prog (subAt (bodyOf Tryz.prog 60) [1, 0, 1, 0, 0]) R n a w
  | 0, _, _, h => by cases h
  | n + 1, v2, o, h => by
    intro φ0 w0 F k R a w hF hr hat hx0 hx1
    rw [u_FirstError_L1] at h
    refine rounds_in (p := [1, 0, 1, 0, 0]) ?_
    by_cases h1 : v2 < p1
    · rw [if_pos h1] at h
      by_cases h2 : (0 : Int) ≤ v2
      · rw [if_pos h2] at h
        by_cases h3 : v2 < (p0.length : Int)
        · rw [if_pos h3] at h
          obtain ⟨e4, he4, h⟩ := Option.bind_eq_some_iff.1 h
          by_cases h5 : e4 = (0 : Int)
          · rw [if_pos h5] at h
            refine to_done mixed ⟨[(.lss, (.v 2), (.v 1), true), (.leq, (.c 0), (.v 2), true), (.lss, (.v 2), (.v 0), true), (.neq, (.v 3), (.c 0), false)], [(0, 0, (.v 2), [(ys 3)])], [(0, 1, (.v 0))], [], [], []⟩ (V := (vals [(p0.length : Int), p1, v2, e4] [(p0.flatMap enI)])) (n := 3000) (f := 3000) (V' := (vals [(p0.length : Int), p1, (IntKind.wrap .i64 (v2 + (1 : Int)))] [(p0.flatMap enI)])) ⟨⟨lss_t h1, leq_t h2, lss_t h3, neq_f h5, trivial⟩, ⟨⟨h2, _, rfl, flat_row enI_len he4⟩, trivial⟩, ⟨flat_length enI_len _, trivial⟩, trivial, trivial⟩ trivial (T := ⟨[(5, .gs 0 0 (.v 0) 1 false), (6, (ys 1)), (7, (ys 2))], [some (.rows 0 [] 27 true)], [some (0, 0)]⟩) (ce := .normal) (qs := [(ns 0 0), (ns 1 1), .num (.add .i64 (.v 2) (.c 1)) (.v 2), .lst 0 (some 0) []]) hF hr (by kernel_rfl) ⟨(r (p0.length : Int)), (r p1), (r (IntKind.wrap .i64 (v2 + (1 : Int)))), ⟨[], rfl, lnil _⟩, trivial⟩ (at_re (V' := (vals [(p0.length : Int), p1, v2, e4] [(p0.flatMap enI)])) (T := ⟨[(5, .gs 0 0 (.v 0) 1 false), (6, (ys 1)), (7, (ys 2))], [some (.rows 0 [] 27 true)], [some (0, 0)]⟩) (qs := [(ns 0 0), (ns 1 1), (ns 2 2), .lst 0 (some 0) []]) hat (by kernel_rfl) ⟨rfl, rfl, rfl, ⟨[], rfl, lnil _⟩, trivial⟩) fun a' w' hat' => ?_
            exact u_FirstError_L1_ok fu p0 p1 n (IntKind.wrap .i64 (v2 + (1 : Int))) o h _ _ _ _ _ _ _ hF hr hat' hx0 hx1
          · rw [if_neg h5] at h
            injection h with h; subst h
            exact to_done mixed ⟨[(.lss, (.v 2), (.v 1), true), (.leq, (.c 0), (.v 2), true), (.lss, (.v 2), (.v 0), true), (.neq, (.v 3), (.c 0), true)], [(0, 0, (.v 2), [(ys 3)])], [(0, 1, (.v 0))], [], [], []⟩ (V := (vals [(p0.length : Int), p1, v2, e4] [(p0.flatMap enI)])) (n := 3000) (f := 3000) (V' := (vals [(p0.length : Int), e4] [(p0.flatMap enI)])) ⟨⟨lss_t h1, leq_t h2, lss_t h3, neq_t h5, trivial⟩, ⟨⟨h2, _, rfl, flat_row enI_len he4⟩, trivial⟩, ⟨flat_length enI_len _, trivial⟩, trivial, trivial⟩ trivial (T := ⟨[(2, (ys 1))], [some (.rows 0 [] 27 true)], [some (0, 0)]⟩) (ce := .ret) (qs := [(ns 3 1), .lst 0 (some 0) []]) hF hr (by kernel_rfl) ⟨(r e4), ⟨[], rfl, lnil _⟩, trivial⟩ (at_re (V' := (vals [(p0.length : Int), p1, v2, e4] [(p0.flatMap enI)])) (T := ⟨[(5, .gs 0 0 (.v 0) 1 false), (6, (ys 1)), (7, (ys 2))], [some (.rows 0 [] 27 true)], [some (0, 0)]⟩) (qs := [(ns 0 0), (ns 1 1), (ns 2 2), .lst 0 (some 0) []]) hat (by kernel_rfl) ⟨rfl, rfl, rfl, ⟨[], rfl, lnil _⟩, trivial⟩) fun a' w' hat' => hx0 e4 rfl a' w' hat'
        · rw [if_neg h3] at h
          cases h
      · rw [if_neg h2] at h
        cases h
    · rw [if_neg h1] at h
      injection h with h; subst h
      exact to_done mixed ⟨[(.lss, (.v 2), (.v 1), false)], [], [(0, 1, (.v 0))], [], [], []⟩ (V := (vals [(p0.length : Int), p1, v2] [(p0.flatMap enI)])) (n := 3000) (f := 3000) (V' := (vals [(p0.length : Int)] [(p0.flatMap enI)])) ⟨⟨lss_f h1, trivial⟩, trivial, ⟨flat_length enI_len _, trivial⟩, trivial, trivial⟩ trivial (T := ⟨[], [some (.rows 0 [] 27 true)], [some (0, 0)]⟩) (ce := (.exit 0)) (qs := [.lst 0 (some 0) []]) hF hr (by kernel_rfl) ⟨⟨[], rfl, lnil _⟩, trivial⟩ hat fun a' w' hat' => hx1 () rfl a' w' hat'
def u_FirstError (fu : Nat) (a0 : List (Int)) : Option (Int) := Option.bind (u_FirstError_L1 fu a0 (a0.length : Int) fu (0 : Int)) fun o1 => (match o1 with | .inl y2 => (some y2) | .inr y3 => (some (0 : Int)))
theorem u_FirstError_ok (fu : Nat) (a0 : List (Int)) (y : Int) (h : u_FirstError fu a0 = some y) : CallOk Tryz.prog 60 (vals [(a0.length : Int)] [(a0.flatMap enI)]) [.gs 0 0 (.v 0) 1 false] [some (.rows 0 [] 27 true)] 1 (vals [y] []) ((ys 0)) [none] := by
  refine fun_of (nt := 15) (by kernel_rfl) (by kernel_rfl) fun φ0 w0 a w hat => ?_
  have hF := wide_fw
  have hr : Fence.wide.round = none := rfl
  unfold u_FirstError at h
  obtain ⟨o1, ho1, h⟩ := Option.bind_eq_some_iff.1 h
  refine to_loop mixed ⟨[], [], [(0, 1, (.v 0))], [], [], []⟩ (V := (vals [(a0.length : Int)] [(a0.flatMap enI)])) (n := 3000) (f := 3000) (V' := (vals [(a0.length : Int), (a0.length : Int), (0 : Int)] [(a0.flatMap enI)])) ⟨trivial, trivial, ⟨flat_length enI_len _, trivial⟩, trivial, trivial⟩ trivial (T := ⟨[(5, .gs 0 0 (.v 0) 1 false), (6, (ys 1)), (7, (ys 2))], [some (.rows 0 [] 27 true)], [some (0, 0)]⟩) (B := subAt (bodyOf Tryz.prog 60) [1, 0, 1, 0, 0]) (K' := [.bk 0, .sq (subAt (bodyOf Tryz.prog 60) [1, 1]) [1, 1]]) (qs := [(ns 0 0), (ns 0 1), .num (.c 0) (.v 2), .lst 0 (some 0) []]) hF hr (by kernel_rfl) ⟨(r (a0.length : Int)), (r (a0.length : Int)), (r (0 : Int)), ⟨[], rfl, lnil _⟩, trivial⟩ hat fun aa1 ww1 hat1 => loop_in (u_FirstError_L1_ok fu a0 (a0.length : Int) fu (0 : Int) o1 ho1 _ _ _ _ _ _ _ hF hr hat1 ?_ ?_)
  · intro y2 hy aa2 ww2 hat
    subst hy
    dsimp only at h
    show (Wk.out .ret).goal _ _ _ [.bk 0, .sq (subAt (bodyOf Tryz.prog 60) [1, 1]) [1, 1]] _ aa2 ww2
    injection h with h; subst h
    exact to_fin mixed ⟨[], [], [(0, 1, (.v 0))], [], [], []⟩ (V := (vals [(a0.length : Int), y2] [(a0.flatMap enI)])) (n := 3000) (f := 3000) ⟨trivial, trivial, ⟨flat_length enI_len _, trivial⟩, trivial, trivial⟩ trivial (R := ⟨(ys 0), [none], [some (0, 0)]⟩) (qs := [(ns 1 0)]) hF hr (by kernel_rfl) ⟨(r y2), trivial⟩ hat
  · intro y3 hy aa2 ww2 hat
    subst hy
    dsimp only at h
    show (Wk.out (.exit 0)).goal _ _ _ [.bk 0, .sq (subAt (bodyOf Tryz.prog 60) [1, 1]) [1, 1]] _ aa2 ww2
    injection h with h; subst h
    exact to_fin mixed ⟨[], [], [(0, 1, (.v 0))], [], [], []⟩ (V := (vals [(a0.length : Int)] [(a0.flatMap enI)])) (n := 3000) (f := 3000) ⟨trivial, trivial, ⟨flat_length enI_len _, trivial⟩, trivial, trivial⟩ trivial (R := ⟨(ys 0), [none], [some (0, 0)]⟩) (qs := [.num (.c 0) (.v 0)]) hF hr (by kernel_rfl) ⟨(r (0 : Int)), trivial⟩ hat
def sv_differences (a0_0 : Int) (a0_1 : Int) (a1_0 : Int) (a1_1 : Int) : Option (Int × Int) := some ((IntKind.wrap .i64 (a0_0 - a1_1)), (IntKind.wrap .i64 (a0_1 - a1_0)))
theorem sv_differences_ok (a0_0 : Int) (a0_1 : Int) (a1_0 : Int) (a1_1 : Int) (y : Int × Int) (h : sv_differences a0_0 a0_1 a1_0 a1_1 = some y) : CallOk Tryz.prog 110 (vals [a0_0, a0_1, a1_0, a1_1] []) [.agg [(ys 0), (ys 1)], .agg [(ys 2), (ys 3)]] [] 0 (vals [y.1, y.2] []) (.agg [(ys 0), (ys 1)]) [] := by
  refine fun_of (nt := 16) (by kernel_rfl) (by kernel_rfl) fun φ0 w0 a w hat => ?_
  have hF := wide_fw
  have hr : Fence.wide.round = none := rfl
  unfold sv_differences at h
  injection h with h; subst h
  exact to_fin mixed ⟨[], [], [], [], [], []⟩ (V := (vals [a0_0, a0_1, a1_0, a1_1] [])) (n := 3000) (f := 3000) ⟨trivial, trivial, trivial, trivial, trivial⟩ trivial (R := ⟨.agg [(ys 0), (ys 1)], [], []⟩) (qs := [.num (.sub .i64 (.v 0) (.v 3)) (.v 0), .num (.sub .i64 (.v 1) (.v 2)) (.v 1)]) hF hr (by kernel_rfl) ⟨(show (IntKind.wrap .i64 (a0_0 - a1_1)) = (IntKind.wrap .i64 (a0_0 - a1_1)) from rfl), (show (IntKind.wrap .i64 (a0_1 - a1_0)) = (IntKind.wrap .i64 (a0_1 - a1_0)) from rfl), trivial⟩ hat
end Go.Proofs.YtidahkefillmeaaGreatDoor
