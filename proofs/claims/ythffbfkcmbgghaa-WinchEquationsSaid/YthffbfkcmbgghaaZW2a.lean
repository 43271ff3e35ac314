/-
  Go functions as Lean functions (written by tools/lift.py).
-/
import Derived.Test.YthffbfkcmbgghaaZEd
import Derived.Test.YthffbfkcmbgghaaZEg
set_option linter.all false
namespace Go.Proofs.Ythffbfkcmbgghaa
open Go Go.RowKit Cm
set_option maxRecDepth 100000
set_option maxHeartbeats 4000000
def l2_awake  : Option (Bool) := some true
theorem l2_awake_ok  (y : Bool) (h : l2_awake  = some y) : CallOk Try.prog 22 (vals [] []) [] [] 0 (vals [bI y] []) (.bs (.v 0)) [] := by
  refine fun_of (nt := 73) (by kernel_rfl) (by kernel_rfl) fun φ0 w0 a w hat => ?_
  have hF := wide_fw
  have hr : Fence.wide.round = none := rfl
  unfold l2_awake at h
  injection h with h; subst h
  exact to_fin mixed ⟨[], [], [], [], [], []⟩ (V := (vals [] [])) (n := 3000) (f := 3000) (fid := 22) (fun _ => rfl) ⟨trivial, trivial, trivial, trivial, trivial⟩ trivial (R := ⟨.bs (.v 0), [], []⟩) (qs := [.num (.c 1) (.v 0)]) wok0 trivial hF hr (by kernel_rfl) ⟨rfl, trivial⟩ hat
def u_Within (a0 : Int) (a1 : Int) : Option (Bool) := if (IntKind.wrap .i64 ((0 : Int) - a1)) ≤ a0 then (if a0 ≤ a1 then (some true) else (some false)) else (some false)
theorem u_Within_ok (a0 : Int) (a1 : Int) (y : Bool) (h : u_Within a0 a1 = some y) : CallOk Try.prog 102 (vals [a0, a1] []) [(ys 0), (ys 1)] [] 0 (vals [bI y] []) (.bs (.v 0)) [] := by
  refine fun_of (nt := 14) (by kernel_rfl) (by kernel_rfl) fun φ0 w0 a w hat => ?_
  have hF := wide_fw
  have hr : Fence.wide.round = none := rfl
  unfold u_Within at h
  by_cases h1 : (IntKind.wrap .i64 ((0 : Int) - a1)) ≤ a0
  · rw [if_pos h1] at h
    by_cases h2 : a0 ≤ a1
    · rw [if_pos h2] at h
      injection h with h; subst h
      exact to_fin mixed ⟨[(.leq, (.sub .i64 (.c 0) (.v 1)), (.v 0), true), (.leq, (.v 0), (.v 1), true)], [], [], [], [], []⟩ (V := (vals [a0, a1] [])) (n := 3000) (f := 3000) (fid := 102) (fun _ => rfl) ⟨⟨leq_t h1, leq_t h2, trivial⟩, trivial, trivial, trivial, trivial⟩ trivial (R := ⟨.bs (.v 0), [], []⟩) (qs := [.num (.c 1) (.v 0)]) wok0 trivial hF hr (by kernel_rfl) ⟨rfl, trivial⟩ hat
    · rw [if_neg h2] at h
      injection h with h; subst h
      exact to_fin mixed ⟨[(.leq, (.sub .i64 (.c 0) (.v 1)), (.v 0), true), (.leq, (.v 0), (.v 1), false)], [], [], [], [], []⟩ (V := (vals [a0, a1] [])) (n := 3000) (f := 3000) (fid := 102) (fun _ => rfl) ⟨⟨leq_t h1, leq_f h2, trivial⟩, trivial, trivial, trivial, trivial⟩ trivial (R := ⟨.bs (.v 0), [], []⟩) (qs := [.num (.c 0) (.v 0)]) wok0 trivial hF hr (by kernel_rfl) ⟨rfl, trivial⟩ hat
  · rw [if_neg h1] at h
    injection h with h; subst h
    exact to_fin mixed ⟨[(.leq, (.sub .i64 (.c 0) (.v 1)), (.v 0), false)], [], [], [], [], []⟩ (V := (vals [a0, a1] [])) (n := 3000) (f := 3000) (fid := 102) (fun _ => rfl) ⟨⟨leq_f h1, trivial⟩, trivial, trivial, trivial, trivial⟩ trivial (R := ⟨.bs (.v 0), [], []⟩) (qs := [.num (.c 0) (.v 0)]) wok0 trivial hF hr (by kernel_rfl) ⟨rfl, trivial⟩ hat
def u_SizeError_L1 (fu : Nat) (p0 : List (Int)) (p1 : Int) (p2 : Int) : Nat → Int → Option ((Unit) ⊕ (Unit))
  | 0, _ => none
  | n + 1, v3 => if v3 < p2 then (if (0 : Int) ≤ v3 then (if v3 < (p0.length : Int) then (Option.bind ((p0)[0 + (v3).toNat]?) fun e4 => Option.bind (u_Within e4 p1) fun r5 => if r5 = true then (u_SizeError_L1 fu p0 p1 p2 n (IntKind.wrap .i64 (v3 + (1 : Int)))) else (some (.inl ()))) else none) else none) else (some (.inr ()))
theorem u_SizeError_L1_ok (fu : Nat) (p0 : List (Int)) (p1 : Int) (p2 : Int) : ∀ (n : Nat) (v3 : Int) (o : (Unit) ⊕ (Unit)), u_SizeError_L1 fu p0 p1 p2 n v3 = some o → ∀ (φ0 : Phi) (w0 : World) (F : Fence) (k : Nat) (R : Exit → Act → World → Prop) (a : Act) (w : World), FW F → F.round = none → AtS (vals [(p0.length : Int), p1, p2, v3] [(p0.flatMap enI)]) [(0, (ys 1)), (7, .gs 0 0 (.v 0) 1 false), (8, (ys 2)), (9, (ys 3))] [some (.rows 0 [] 3 true)] 18 1 1 φ0 w0 a w → (∀ (y : Unit), o = .inl y → ∀ a' w', AtS (vals [(p0.length : Int)] [(p0.flatMap enI)]) [(4, .int .i64 2)] [some (.rows 0 [] 3 true)] 18 1 1 φ0 w0 a' w' → R Exit.ret a' w') → (∀ (y : Unit), o = .inr y → ∀ a' w', AtS (vals [(p0.length : Int)] [(p0.flatMap enI)]) [] [some (.rows 0 [] 3 true)] 18 1 1 φ0 w0 a' w' → R (Exit.exit 0) a' w') → Code.roundsIn F k Try.prog (subAt (bodyOf Try.prog 58) [1, 0, 1, 0, 0]) R n a w
  | 0, _, _, h => by cases h
  | n + 1, v3, o, h => by
    intro φ0 w0 F k R a w hF hr hat hx0 hx1
    rw [u_SizeError_L1] at h
    refine rounds_in (p := [1, 0, 1, 0, 0]) ?_
    by_cases h1 : v3 < p2
    · rw [if_pos h1] at h
      by_cases h2 : (0 : Int) ≤ v3
      · rw [if_pos h2] at h
        by_cases h3 : v3 < (p0.length : Int)
        · rw [if_pos h3] at h
          obtain ⟨e4, he4, h⟩ := Option.bind_eq_some_iff.1 h
          obtain ⟨r5, hr5, h⟩ := Option.bind_eq_some_iff.1 h
          have Kr5 : KO Try.prog [(p0.length : Int), p1, p2, v3, e4, bI r5] [(p0.flatMap enI)] ⟨102, 1, [], [(ys 0), (ys 1)], [], [(ns 4 0), (ns 1 1)], 0, .bs (.v 0), [], .bs (.v 5), [], []⟩ := fun N M => ⟨_, _, [(ns 0 5)], ⟨u_Within_ok e4 p1 r5 hr5, ⟨(r e4), (r p1), trivial⟩, by kernel_rfl, ⟨rfl, trivial⟩⟩⟩
          by_cases h6 : r5 = true
          · rw [if_pos h6] at h
            refine to_done mixed ⟨[(.lss, (.v 3), (.v 2), true), (.leq, (.c 0), (.v 3), true), (.lss, (.v 3), (.v 0), true), (.neq, (.v 5), (.c 0), true)], [(0, 0, (.v 3), [(ys 4)])], [(0, 1, (.v 0))], [⟨102, 1, [], [(ys 0), (ys 1)], [], [(ns 4 0), (ns 1 1)], 0, .bs (.v 0), [], .bs (.v 5), [], []⟩], [], []⟩ (V := (vals [(p0.length : Int), p1, p2, v3, e4, bI r5] [(p0.flatMap enI)])) (n := 3000) (f := 3000) (fid := 58) (fun _ => rfl) (V' := (vals [(p0.length : Int), p1, p2, (IntKind.wrap .i64 (v3 + (1 : Int)))] [(p0.flatMap enI)])) ⟨⟨lss_t h1, leq_t h2, lss_t h3, bi_t h6, trivial⟩, ⟨⟨h2, _, rfl, flat_row enI_len he4⟩, trivial⟩, ⟨flat_length enI_len _, trivial⟩, trivial, trivial⟩ ⟨Kr5 _ _, trivial⟩ (T := ⟨[(0, (ys 1)), (7, .gs 0 0 (.v 0) 1 false), (8, (ys 2)), (9, (ys 3))], [some (.rows 0 [] 3 true)], [some (0, 0)]⟩) (ce := .normal) (qs := [(ns 1 1), (ns 0 0), (ns 2 2), .num (.add .i64 (.v 3) (.c 1)) (.v 3), .lst 0 (some 0) []]) rfl trivial hF hr (by kernel_rfl) ⟨(r p1), (r (p0.length : Int)), (r p2), (r (IntKind.wrap .i64 (v3 + (1 : Int)))), ⟨[], rfl, lnil _⟩, trivial⟩ (at_re (V' := (vals [(p0.length : Int), p1, p2, v3, e4, bI r5] [(p0.flatMap enI)])) (T := ⟨[(0, (ys 1)), (7, .gs 0 0 (.v 0) 1 false), (8, (ys 2)), (9, (ys 3))], [some (.rows 0 [] 3 true)], [some (0, 0)]⟩) (qs := [(ns 1 1), (ns 0 0), (ns 2 2), (ns 3 3), .lst 0 (some 0) []]) hat (by kernel_rfl) ⟨rfl, rfl, rfl, rfl, ⟨[], rfl, lnil _⟩, trivial⟩) fun a' w' hat' => ?_
            exact u_SizeError_L1_ok fu p0 p1 p2 n (IntKind.wrap .i64 (v3 + (1 : Int))) o h _ _ _ _ _ _ _ hF hr hat' hx0 hx1
          · rw [if_neg h6] at h
            injection h with h; subst h
            exact to_done mixed ⟨[(.lss, (.v 3), (.v 2), true), (.leq, (.c 0), (.v 3), true), (.lss, (.v 3), (.v 0), true), (.neq, (.v 5), (.c 0), false)], [(0, 0, (.v 3), [(ys 4)])], [(0, 1, (.v 0))], [⟨102, 1, [], [(ys 0), (ys 1)], [], [(ns 4 0), (ns 1 1)], 0, .bs (.v 0), [], .bs (.v 5), [], []⟩], [], []⟩ (V := (vals [(p0.length : Int), p1, p2, v3, e4, bI r5] [(p0.flatMap enI)])) (n := 3000) (f := 3000) (fid := 58) (fun _ => rfl) (V' := (vals [(p0.length : Int)] [(p0.flatMap enI)])) ⟨⟨lss_t h1, leq_t h2, lss_t h3, bi_f h6, trivial⟩, ⟨⟨h2, _, rfl, flat_row enI_len he4⟩, trivial⟩, ⟨flat_length enI_len _, trivial⟩, trivial, trivial⟩ ⟨Kr5 _ _, trivial⟩ (T := ⟨[(4, .int .i64 2)], [some (.rows 0 [] 3 true)], [some (0, 0)]⟩) (ce := .ret) (qs := [.lst 0 (some 0) []]) rfl trivial hF hr (by kernel_rfl) ⟨⟨[], rfl, lnil _⟩, trivial⟩ (at_re (V' := (vals [(p0.length : Int), p1, p2, v3, e4, bI r5] [(p0.flatMap enI)])) (T := ⟨[(0, (ys 1)), (7, .gs 0 0 (.v 0) 1 false), (8, (ys 2)), (9, (ys 3))], [some (.rows 0 [] 3 true)], [some (0, 0)]⟩) (qs := [(ns 1 1), (ns 0 0), (ns 2 2), (ns 3 3), .lst 0 (some 0) []]) hat (by kernel_rfl) ⟨rfl, rfl, rfl, rfl, ⟨[], rfl, lnil _⟩, trivial⟩) fun a' w' hat' => hx0 () rfl a' w' hat'
        · rw [if_neg h3] at h
          cases h
      · rw [if_neg h2] at h
        cases h
    · rw [if_neg h1] at h
      injection h with h; subst h
      exact to_done mixed ⟨[(.lss, (.v 3), (.v 2), false)], [], [(0, 1, (.v 0))], [], [], []⟩ (V := (vals [(p0.length : Int), p1, p2, v3] [(p0.flatMap enI)])) (n := 3000) (f := 3000) (fid := 58) (fun _ => rfl) (V' := (vals [(p0.length : Int)] [(p0.flatMap enI)])) ⟨⟨lss_f h1, trivial⟩, trivial, ⟨flat_length enI_len _, trivial⟩, trivial, trivial⟩ trivial (T := ⟨[], [some (.rows 0 [] 3 true)], [some (0, 0)]⟩) (ce := (.exit 0)) (qs := [.lst 0 (some 0) []]) rfl trivial hF hr (by kernel_rfl) ⟨⟨[], rfl, lnil _⟩, trivial⟩ hat fun a' w' hat' => hx1 () rfl a' w' hat'
def u_SizeError (fu : Nat) (a0 : Int) (a1 : List (Int)) : Option (Int) := Option.bind (u_SizeError_L1 fu a1 a0 (a1.length : Int) fu (0 : Int)) fun o1 => (match o1 with | .inl y2 => (some (2 : Int)) | .inr y3 => (some (0 : Int)))
theorem u_SizeError_ok (fu : Nat) (a0 : Int) (a1 : List (Int)) (y : Int) (h : u_SizeError fu a0 a1 = some y) : CallOk Try.prog 58 (vals [a0, (a1.length : Int)] [(a1.flatMap enI)]) [(ys 0), .gs 0 0 (.v 1) 1 false] [some (.rows 0 [] 3 true)] 1 (vals [y] []) ((ys 0)) [none] := by
  refine fun_of (nt := 18) (by kernel_rfl) (by kernel_rfl) fun φ0 w0 a w hat => ?_
  have hF := wide_fw
  have hr : Fence.wide.round = none := rfl
  unfold u_SizeError at h
  obtain ⟨o1, ho1, h⟩ := Option.bind_eq_some_iff.1 h
  refine to_loop mixed ⟨[], [], [(0, 1, (.v 1))], [], [], []⟩ (V := (vals [a0, (a1.length : Int)] [(a1.flatMap enI)])) (n := 3000) (f := 3000) (fid := 58) (fun _ => rfl) (V' := (vals [(a1.length : Int), a0, (a1.length : Int), (0 : Int)] [(a1.flatMap enI)])) ⟨trivial, trivial, ⟨flat_length enI_len _, trivial⟩, trivial, trivial⟩ trivial (T := ⟨[(0, (ys 1)), (7, .gs 0 0 (.v 0) 1 false), (8, (ys 2)), (9, (ys 3))], [some (.rows 0 [] 3 true)], [some (0, 0)]⟩) (B := subAt (bodyOf Try.prog 58) [1, 0, 1, 0, 0]) (K' := [.bk 0, .sq (subAt (bodyOf Try.prog 58) [1, 1]) [1, 1]]) (qs := [(ns 0 1), (ns 1 0), (ns 1 2), .num (.c 0) (.v 3), .lst 0 (some 0) []]) wok0 trivial hF hr (by kernel_rfl) ⟨(r a0), (r (a1.length : Int)), (r (a1.length : Int)), (r (0 : Int)), ⟨[], rfl, lnil _⟩, trivial⟩ hat fun aa1 ww1 hat1 => loop_in (u_SizeError_L1_ok fu a1 a0 (a1.length : Int) fu (0 : Int) o1 ho1 _ _ _ _ _ _ _ hF hr hat1 ?_ ?_)
  · intro y2 hy aa2 ww2 hat
    subst hy
    dsimp only at h
    show (Wk.out .ret).goal _ _ _ [.bk 0, .sq (subAt (bodyOf Try.prog 58) [1, 1]) [1, 1]] _ aa2 ww2
    injection h with h; subst h
    exact to_fin mixed ⟨[], [], [(0, 1, (.v 0))], [], [], []⟩ (V := (vals [(a1.length : Int)] [(a1.flatMap enI)])) (n := 3000) (f := 3000) (fid := 58) (fun _ => rfl) ⟨trivial, trivial, ⟨flat_length enI_len _, trivial⟩, trivial, trivial⟩ trivial (R := ⟨(ys 0), [none], [some (0, 0)]⟩) (qs := [.num (.c 2) (.v 0)]) trivial ⟨rfl, trivial⟩ hF hr (by kernel_rfl) ⟨(r (2 : Int)), trivial⟩ hat
  · intro y3 hy aa2 ww2 hat
    subst hy
    dsimp only at h
    show (Wk.out (.exit 0)).goal _ _ _ [.bk 0, .sq (subAt (bodyOf Try.prog 58) [1, 1]) [1, 1]] _ aa2 ww2
    injection h with h; subst h
    exact to_fin mixed ⟨[], [], [(0, 1, (.v 0))], [], [], []⟩ (V := (vals [(a1.length : Int)] [(a1.flatMap enI)])) (n := 3000) (f := 3000) (fid := 58) (fun _ => rfl) ⟨trivial, trivial, ⟨flat_length enI_len _, trivial⟩, trivial, trivial⟩ trivial (R := ⟨(ys 0), [none], [some (0, 0)]⟩) (qs := [.num (.c 0) (.v 0)]) trivial ⟨rfl, trivial⟩ hF hr (by kernel_rfl) ⟨(r (0 : Int)), trivial⟩ hat
def w_CheckSamples_1 (fu : Nat) (a0 : Int) : Option (Int) := Option.bind (u_SizeError fu (100 : Int) ([a0] : List (Int))) fun r1 => some r1
theorem w_CheckSamples_1_ok (fu : Nat) (a0 : Int) (y : Int) (h : w_CheckSamples_1 fu a0 = some y) : CallOk Try.prog 57 (vals [a0] []) [(ys 0)] [] 0 (vals [y] []) ((ys 0)) [] := by
  refine fun_of (nt := 6) (by kernel_rfl) (by kernel_rfl) fun φ0 w0 a w hat => ?_
  have hF := wide_fw
  have hr : Fence.wide.round = none := rfl
  unfold w_CheckSamples_1 at h
  obtain ⟨r1, hr1, h⟩ := Option.bind_eq_some_iff.1 h
  have Kr1 : KO Try.prog [a0, r1] [] ⟨58, 1, [some (0, 0)], [(ys 0), .gs 0 0 (.v 1) 1 false], [some (.rows 0 [] 3 true)], [.num (.c 100) (.v 0), .num (.c 1) (.v 1), .lst 0 none [(ys 0)]], 1, (ys 0), [none], (ys 1), [], []⟩ := fun N M => ⟨_, _, [(ns 0 1)], ⟨u_SizeError_ok fu (100 : Int) ([a0] : List (Int)) r1 hr1, ⟨(r (100 : Int)), rfl, rfl, trivial⟩, by kernel_rfl, ⟨rfl, trivial⟩⟩⟩
  injection h with h; subst h
  exact to_fin mixed ⟨[], [], [], [⟨58, 1, [some (0, 0)], [(ys 0), .gs 0 0 (.v 1) 1 false], [some (.rows 0 [] 3 true)], [.num (.c 100) (.v 0), .num (.c 1) (.v 1), .lst 0 none [(ys 0)]], 1, (ys 0), [none], (ys 1), [], []⟩], [], []⟩ (V := (vals [a0, r1] [])) (n := 3000) (f := 3000) (fid := 57) (fun _ => rfl) ⟨trivial, trivial, trivial, trivial, trivial⟩ ⟨Kr1 _ _, trivial⟩ (R := ⟨(ys 0), [], []⟩) (qs := [(ns 1 0)]) wok0 trivial hF hr (by kernel_rfl) ⟨(r r1), trivial⟩ (at_re (V' := (vals [a0, r1] [])) (T := ⟨[(0, (ys 0))], [], []⟩) (qs := [(ns 0 0)]) hat (by kernel_rfl) ⟨rfl, trivial⟩)
def u_FirstBad_int_CheckSamples_1_L1 (fu : Nat) (p0 : List (Int)) (p1 : Int) : Nat → Int → Option ((Int × Int) ⊕ (Unit))
  | 0, _ => none
  | n + 1, v2 => if v2 < p1 then (if (0 : Int) ≤ v2 then (if v2 < (p0.length : Int) then (Option.bind ((p0)[0 + (v2).toNat]?) fun e4 => Option.bind (w_CheckSamples_1 fu e4) fun r5 => if r5 = (0 : Int) then (u_FirstBad_int_CheckSamples_1_L1 fu p0 p1 n (IntKind.wrap .i64 (v2 + (1 : Int)))) else (some (.inl (v2, r5)))) else none) else none) else (some (.inr ()))
theorem u_FirstBad_int_CheckSamples_1_L1_ok (fu : Nat) (p0 : List (Int)) (p1 : Int) : ∀ (n : Nat) (v2 : Int) (o : (Int × Int) ⊕ (Unit)), u_FirstBad_int_CheckSamples_1_L1 fu p0 p1 n v2 = some o → ∀ (φ0 : Phi) (w0 : World) (F : Fence) (k : Nat) (R : Exit → Act → World → Prop) (a : Act) (w : World), FW F → F.round = none → AtS (vals [(p0.length : Int), p1, v2] [(p0.flatMap enI)]) [(1, .fn 57 [] []), (9, .gs 0 0 (.v 0) 1 false), (10, (ys 1)), (11, (ys 2))] [some (.rows 0 [] 3 true)] 24 1 1 φ0 w0 a w → (∀ (y : Int × Int), o = .inl y → ∀ a' w', AtS (vals [(p0.length : Int), y.1, y.2] [(p0.flatMap enI)]) [(4, (ys 1)), (5, (ys 2))] [some (.rows 0 [] 3 true)] 24 1 1 φ0 w0 a' w' → R Exit.ret a' w') → (∀ (y : Unit), o = .inr y → ∀ a' w', AtS (vals [(p0.length : Int)] [(p0.flatMap enI)]) [] [some (.rows 0 [] 3 true)] 24 1 1 φ0 w0 a' w' → R (Exit.exit 0) a' w') → Code.roundsIn F k Try.prog (subAt (bodyOf Try.prog 91) [1, 0, 1, 0, 0]) R n a w
  | 0, _, _, h => by cases h
  | n + 1, v2, o, h => by
    intro φ0 w0 F k R a w hF hr hat hx0 hx1
    rw [u_FirstBad_int_CheckSamples_1_L1] at h
    refine rounds_in (p := [1, 0, 1, 0, 0]) ?_
    by_cases h1 : v2 < p1
    · rw [if_pos h1] at h
      by_cases h2 : (0 : Int) ≤ v2
      · rw [if_pos h2] at h
        by_cases h3 : v2 < (p0.length : Int)
        · rw [if_pos h3] at h
          obtain ⟨e4, he4, h⟩ := Option.bind_eq_some_iff.1 h
          obtain ⟨r5, hr5, h⟩ := Option.bind_eq_some_iff.1 h
          have Kr5 : KO Try.prog [(p0.length : Int), p1, v2, e4, r5] [(p0.flatMap enI)] ⟨57, 1, [], [(ys 0)], [], [(ns 3 0)], 0, (ys 0), [], (ys 4), [], []⟩ := fun N M => ⟨_, _, [(ns 0 4)], ⟨w_CheckSamples_1_ok fu e4 r5 hr5, ⟨(r e4), trivial⟩, by kernel_rfl, ⟨rfl, trivial⟩⟩⟩
          by_cases h6 : r5 = (0 : Int)
          · rw [if_pos h6] at h
            refine to_done mixed ⟨[(.lss, (.v 2), (.v 1), true), (.leq, (.c 0), (.v 2), true), (.lss, (.v 2), (.v 0), true), (.neq, (.v 4), (.c 0), false)], [(0, 0, (.v 2), [(ys 3)])], [(0, 1, (.v 0))], [⟨57, 1, [], [(ys 0)], [], [(ns 3 0)], 0, (ys 0), [], (ys 4), [], []⟩], [], []⟩ (V := (vals [(p0.length : Int), p1, v2, e4, r5] [(p0.flatMap enI)])) (n := 3000) (f := 3000) (fid := 91) (fun _ => rfl) (V' := (vals [(p0.length : Int), p1, (IntKind.wrap .i64 (v2 + (1 : Int)))] [(p0.flatMap enI)])) ⟨⟨lss_t h1, leq_t h2, lss_t h3, neq_f h6, trivial⟩, ⟨⟨h2, _, rfl, flat_row enI_len he4⟩, trivial⟩, ⟨flat_length enI_len _, trivial⟩, trivial, trivial⟩ ⟨Kr5 _ _, trivial⟩ (T := ⟨[(1, .fn 57 [] []), (9, .gs 0 0 (.v 0) 1 false), (10, (ys 1)), (11, (ys 2))], [some (.rows 0 [] 3 true)], [some (0, 0)]⟩) (ce := .normal) (qs := [(ns 0 0), (ns 1 1), .num (.add .i64 (.v 2) (.c 1)) (.v 2), .lst 0 (some 0) []]) rfl trivial hF hr (by kernel_rfl) ⟨(r (p0.length : Int)), (r p1), (r (IntKind.wrap .i64 (v2 + (1 : Int)))), ⟨[], rfl, lnil _⟩, trivial⟩ (at_re (V' := (vals [(p0.length : Int), p1, v2, e4, r5] [(p0.flatMap enI)])) (T := ⟨[(1, .fn 57 [] []), (9, .gs 0 0 (.v 0) 1 false), (10, (ys 1)), (11, (ys 2))], [some (.rows 0 [] 3 true)], [some (0, 0)]⟩) (qs := [(ns 0 0), (ns 1 1), (ns 2 2), .lst 0 (some 0) []]) hat (by kernel_rfl) ⟨rfl, rfl, rfl, ⟨[], rfl, lnil _⟩, trivial⟩) fun a' w' hat' => ?_
            exact u_FirstBad_int_CheckSamples_1_L1_ok fu p0 p1 n (IntKind.wrap .i64 (v2 + (1 : Int))) o h _ _ _ _ _ _ _ hF hr hat' hx0 hx1
          · rw [if_neg h6] at h
            injection h with h; subst h
            exact to_done mixed ⟨[(.lss, (.v 2), (.v 1), true), (.leq, (.c 0), (.v 2), true), (.lss, (.v 2), (.v 0), true), (.neq, (.v 4), (.c 0), true)], [(0, 0, (.v 2), [(ys 3)])], [(0, 1, (.v 0))], [⟨57, 1, [], [(ys 0)], [], [(ns 3 0)], 0, (ys 0), [], (ys 4), [], []⟩], [], []⟩ (V := (vals [(p0.length : Int), p1, v2, e4, r5] [(p0.flatMap enI)])) (n := 3000) (f := 3000) (fid := 91) (fun _ => rfl) (V' := (vals [(p0.length : Int), v2, r5] [(p0.flatMap enI)])) ⟨⟨lss_t h1, leq_t h2, lss_t h3, neq_t h6, trivial⟩, ⟨⟨h2, _, rfl, flat_row enI_len he4⟩, trivial⟩, ⟨flat_length enI_len _, trivial⟩, trivial, trivial⟩ ⟨Kr5 _ _, trivial⟩ (T := ⟨[(4, (ys 1)), (5, (ys 2))], [some (.rows 0 [] 3 true)], [some (0, 0)]⟩) (ce := .ret) (qs := [(ns 2 1), (ns 4 2), .lst 0 (some 0) []]) rfl trivial hF hr (by kernel_rfl) ⟨(r v2), (r r5), ⟨[], rfl, lnil _⟩, trivial⟩ (at_re (V' := (vals [(p0.length : Int), p1, v2, e4, r5] [(p0.flatMap enI)])) (T := ⟨[(1, .fn 57 [] []), (9, .gs 0 0 (.v 0) 1 false), (10, (ys 1)), (11, (ys 2))], [some (.rows 0 [] 3 true)], [some (0, 0)]⟩) (qs := [(ns 0 0), (ns 1 1), (ns 2 2), .lst 0 (some 0) []]) hat (by kernel_rfl) ⟨rfl, rfl, rfl, ⟨[], rfl, lnil _⟩, trivial⟩) fun a' w' hat' => hx0 (v2, r5) rfl a' w' hat'
        · rw [if_neg h3] at h
          cases h
      · rw [if_neg h2] at h
        cases h
    · rw [if_neg h1] at h
      injection h with h; subst h
      exact to_done mixed ⟨[(.lss, (.v 2), (.v 1), false)], [], [(0, 1, (.v 0))], [], [], []⟩ (V := (vals [(p0.length : Int), p1, v2] [(p0.flatMap enI)])) (n := 3000) (f := 3000) (fid := 91) (fun _ => rfl) (V' := (vals [(p0.length : Int)] [(p0.flatMap enI)])) ⟨⟨lss_f h1, trivial⟩, trivial, ⟨flat_length enI_len _, trivial⟩, trivial, trivial⟩ trivial (T := ⟨[], [some (.rows 0 [] 3 true)], [some (0, 0)]⟩) (ce := (.exit 0)) (qs := [.lst 0 (some 0) []]) rfl trivial hF hr (by kernel_rfl) ⟨⟨[], rfl, lnil _⟩, trivial⟩ hat fun a' w' hat' => hx1 () rfl a' w' hat'
def u_FirstBad_int_CheckSamples_1 (fu : Nat) (a0 : List (Int)) : Option (Int × Int) := Option.bind (u_FirstBad_int_CheckSamples_1_L1 fu a0 (a0.length : Int) fu (0 : Int)) fun o1 => (match o1 with | .inl y2 => (some (y2.1, y2.2)) | .inr y3 => (some ((0 : Int), (0 : Int))))
theorem u_FirstBad_int_CheckSamples_1_ok (fu : Nat) (a0 : List (Int)) (y : Int × Int) (h : u_FirstBad_int_CheckSamples_1 fu a0 = some y) : CallOk Try.prog 91 (vals [(a0.length : Int)] [(a0.flatMap enI)]) [.gs 0 0 (.v 0) 1 false, .fn 57 [] []] [some (.rows 0 [] 3 true)] 1 (vals [y.1, y.2] []) (.tup [(ys 0), (ys 1)]) [none] := by
  refine fun_of (nt := 24) (by kernel_rfl) (by kernel_rfl) fun φ0 w0 a w hat => ?_
  have hF := wide_fw
  have hr : Fence.wide.round = none := rfl
  unfold u_FirstBad_int_CheckSamples_1 at h
  obtain ⟨o1, ho1, h⟩ := Option.bind_eq_some_iff.1 h
  refine to_loop mixed ⟨[], [], [(0, 1, (.v 0))], [], [], []⟩ (V := (vals [(a0.length : Int)] [(a0.flatMap enI)])) (n := 3000) (f := 3000) (fid := 91) (fun _ => rfl) (V' := (vals [(a0.length : Int), (a0.length : Int), (0 : Int)] [(a0.flatMap enI)])) ⟨trivial, trivial, ⟨flat_length enI_len _, trivial⟩, trivial, trivial⟩ trivial (T := ⟨[(1, .fn 57 [] []), (9, .gs 0 0 (.v 0) 1 false), (10, (ys 1)), (11, (ys 2))], [some (.rows 0 [] 3 true)], [some (0, 0)]⟩) (B := subAt (bodyOf Try.prog 91) [1, 0, 1, 0, 0]) (K' := [.bk 0, .sq (subAt (bodyOf Try.prog 91) [1, 1]) [1, 1]]) (qs := [(ns 0 0), (ns 0 1), .num (.c 0) (.v 2), .lst 0 (some 0) []]) wok0 trivial hF hr (by kernel_rfl) ⟨(r (a0.length : Int)), (r (a0.length : Int)), (r (0 : Int)), ⟨[], rfl, lnil _⟩, trivial⟩ hat fun aa1 ww1 hat1 => loop_in (u_FirstBad_int_CheckSamples_1_L1_ok fu a0 (a0.length : Int) fu (0 : Int) o1 ho1 _ _ _ _ _ _ _ hF hr hat1 ?_ ?_)
  · intro y2 hy aa2 ww2 hat
    subst hy
    dsimp only at h
    show (Wk.out .ret).goal _ _ _ [.bk 0, .sq (subAt (bodyOf Try.prog 91) [1, 1]) [1, 1]] _ aa2 ww2
    injection h with h; subst h
    exact to_fin mixed ⟨[], [], [(0, 1, (.v 0))], [], [], []⟩ (V := (vals [(a0.length : Int), y2.1, y2.2] [(a0.flatMap enI)])) (n := 3000) (f := 3000) (fid := 91) (fun _ => rfl) ⟨trivial, trivial, ⟨flat_length enI_len _, trivial⟩, trivial, trivial⟩ trivial (R := ⟨.tup [(ys 0), (ys 1)], [none], [some (0, 0)]⟩) (qs := [(ns 1 0), (ns 2 1)]) trivial ⟨rfl, trivial⟩ hF hr (by kernel_rfl) ⟨(r y2.1), (r y2.2), trivial⟩ hat
  · intro y3 hy aa2 ww2 hat
    subst hy
    dsimp only at h
    show (Wk.out (.exit 0)).goal _ _ _ [.bk 0, .sq (subAt (bodyOf Try.prog 91) [1, 1]) [1, 1]] _ aa2 ww2
    injection h with h; subst h
    exact to_fin mixed ⟨[], [], [(0, 1, (.v 0))], [], [], []⟩ (V := (vals [(a0.length : Int)] [(a0.flatMap enI)])) (n := 3000) (f := 3000) (fid := 91) (fun _ => rfl) ⟨trivial, trivial, ⟨flat_length enI_len _, trivial⟩, trivial, trivial⟩ trivial (R := ⟨.tup [(ys 0), (ys 1)], [none], [some (0, 0)]⟩) (qs := [.num (.c 0) (.v 0), .num (.c 0) (.v 1)]) trivial ⟨rfl, trivial⟩ hF hr (by kernel_rfl) ⟨(r (0 : Int)), (r (0 : Int)), trivial⟩ hat
def u_CheckList_int_CheckSamples_1 (fu : Nat) (a0 : List (Int)) (a1 : Int) (a2 : Int) : Option (Int × Int) := if (a0.length : Int) < a1 then (some ((0 : Int), (10 : Int))) else (if a2 < (a0.length : Int) then (some ((0 : Int), (8 : Int))) else (Option.bind (u_FirstBad_int_CheckSamples_1 fu a0) fun r3 => some (r3.1, r3.2)))
theorem u_CheckList_int_CheckSamples_1_ok (fu : Nat) (a0 : List (Int)) (a1 : Int) (a2 : Int) (y : Int × Int) (h : u_CheckList_int_CheckSamples_1 fu a0 a1 a2 = some y) : CallOk Try.prog 56 (vals [(a0.length : Int), a1, a2] [(a0.flatMap enI)]) [.gs 0 0 (.v 0) 1 false, (ys 1), (ys 2), .fn 57 [] []] [some (.rows 0 [] 3 true)] 1 (vals [y.1, y.2] []) (.tup [(ys 0), (ys 1)]) [none] := by
  refine fun_of (nt := 23) (by kernel_rfl) (by kernel_rfl) fun φ0 w0 a w hat => ?_
  have hF := wide_fw
  have hr : Fence.wide.round = none := rfl
  unfold u_CheckList_int_CheckSamples_1 at h
  by_cases h1 : (a0.length : Int) < a1
  · rw [if_pos h1] at h
    injection h with h; subst h
    exact to_fin mixed ⟨[(.lss, (.v 0), (.v 1), true)], [], [(0, 1, (.v 0))], [], [], []⟩ (V := (vals [(a0.length : Int), a1, a2] [(a0.flatMap enI)])) (n := 3000) (f := 3000) (fid := 56) (fun _ => rfl) ⟨⟨lss_t h1, trivial⟩, trivial, ⟨flat_length enI_len _, trivial⟩, trivial, trivial⟩ trivial (R := ⟨.tup [(ys 0), (ys 1)], [none], [some (0, 0)]⟩) (qs := [.num (.c 0) (.v 0), .num (.c 10) (.v 1)]) wok0 trivial hF hr (by kernel_rfl) ⟨(r (0 : Int)), (r (10 : Int)), trivial⟩ hat
  · rw [if_neg h1] at h
    by_cases h2 : a2 < (a0.length : Int)
    · rw [if_pos h2] at h
      injection h with h; subst h
      exact to_fin mixed ⟨[(.lss, (.v 0), (.v 1), false), (.gtr, (.v 0), (.v 2), true)], [], [(0, 1, (.v 0))], [], [], []⟩ (V := (vals [(a0.length : Int), a1, a2] [(a0.flatMap enI)])) (n := 3000) (f := 3000) (fid := 56) (fun _ => rfl) ⟨⟨lss_f h1, gtr_t h2, trivial⟩, trivial, ⟨flat_length enI_len _, trivial⟩, trivial, trivial⟩ trivial (R := ⟨.tup [(ys 0), (ys 1)], [none], [some (0, 0)]⟩) (qs := [.num (.c 0) (.v 0), .num (.c 8) (.v 1)]) wok0 trivial hF hr (by kernel_rfl) ⟨(r (0 : Int)), (r (8 : Int)), trivial⟩ hat
    · rw [if_neg h2] at h
      obtain ⟨r3, hr3, h⟩ := Option.bind_eq_some_iff.1 h
      have Kr3 : KO Try.prog [(a0.length : Int), a1, a2, r3.1, r3.2] [(a0.flatMap enI)] ⟨91, 1, [some (0, 0)], [.gs 0 0 (.v 0) 1 false, .fn 57 [] []], [some (.rows 0 [] 3 true)], [(ns 0 0), .lst 0 (some 0) []], 1, .tup [(ys 0), (ys 1)], [none], .tup [(ys 3), (ys 4)], [], []⟩ := fun N M => ⟨_, _, [(ns 0 3), (ns 1 4)], ⟨u_FirstBad_int_CheckSamples_1_ok fu a0 r3 hr3, ⟨(r (a0.length : Int)), ⟨[], rfl, lnil _⟩, trivial⟩, by kernel_rfl, ⟨rfl, rfl, trivial⟩⟩⟩
      injection h with h; subst h
      exact to_fin mixed ⟨[(.lss, (.v 0), (.v 1), false), (.gtr, (.v 0), (.v 2), false)], [], [(0, 1, (.v 0))], [⟨91, 1, [some (0, 0)], [.gs 0 0 (.v 0) 1 false, .fn 57 [] []], [some (.rows 0 [] 3 true)], [(ns 0 0), .lst 0 (some 0) []], 1, .tup [(ys 0), (ys 1)], [none], .tup [(ys 3), (ys 4)], [], []⟩], [], []⟩ (V := (vals [(a0.length : Int), a1, a2, r3.1, r3.2] [(a0.flatMap enI)])) (n := 3000) (f := 3000) (fid := 56) (fun _ => rfl) ⟨⟨lss_f h1, gtr_f h2, trivial⟩, trivial, ⟨flat_length enI_len _, trivial⟩, trivial, trivial⟩ ⟨Kr3 _ _, trivial⟩ (R := ⟨.tup [(ys 0), (ys 1)], [none], [some (0, 0)]⟩) (qs := [(ns 3 0), (ns 4 1)]) wok0 trivial hF hr (by kernel_rfl) ⟨(r r3.1), (r r3.2), trivial⟩ (at_re (V' := (vals [(a0.length : Int), a1, a2, r3.1, r3.2] [(a0.flatMap enI)])) (T := ⟨[(0, .gs 0 0 (.v 0) 1 false), (1, (ys 1)), (2, (ys 2)), (3, .fn 57 [] [])], [some (.rows 0 [] 3 true)], [some (0, 0)]⟩) (qs := [(ns 0 0), (ns 1 1), (ns 2 2), .lst 0 (some 0) []]) hat (by kernel_rfl) ⟨rfl, rfl, rfl, ⟨[], rfl, lnil _⟩, trivial⟩)
def w_CheckSamples (fu : Nat) (a0 : List (Int)) : Option (Int × Int) := Option.bind (u_CheckList_int_CheckSamples_1 fu a0 (4 : Int) (20 : Int)) fun r1 => some (r1.1, r1.2)
theorem w_CheckSamples_ok (fu : Nat) (a0 : List (Int)) (y : Int × Int) (h : w_CheckSamples fu a0 = some y) : CallOk Try.prog 23 (vals [(a0.length : Int)] [(a0.flatMap enI)]) [.gs 0 0 (.v 0) 1 false] [some (.rows 0 [] 3 true)] 1 (vals [y.1, y.2] []) (.tup [(ys 0), (ys 1)]) [none] := by
  refine fun_of (nt := 8) (by kernel_rfl) (by kernel_rfl) fun φ0 w0 a w hat => ?_
  have hF := wide_fw
  have hr : Fence.wide.round = none := rfl
  unfold w_CheckSamples at h
  obtain ⟨r1, hr1, h⟩ := Option.bind_eq_some_iff.1 h
  have Kr1 : KO Try.prog [(a0.length : Int), r1.1, r1.2] [(a0.flatMap enI)] ⟨56, 1, [some (0, 0)], [.gs 0 0 (.v 0) 1 false, (ys 1), (ys 2), .fn 57 [] []], [some (.rows 0 [] 3 true)], [(ns 0 0), .num (.c 4) (.v 1), .num (.c 20) (.v 2), .lst 0 (some 0) []], 1, .tup [(ys 0), (ys 1)], [none], .tup [(ys 1), (ys 2)], [], []⟩ := fun N M => ⟨_, _, [(ns 0 1), (ns 1 2)], ⟨u_CheckList_int_CheckSamples_1_ok fu a0 (4 : Int) (20 : Int) r1 hr1, ⟨(r (a0.length : Int)), (r (4 : Int)), (r (20 : Int)), ⟨[], rfl, lnil _⟩, trivial⟩, by kernel_rfl, ⟨rfl, rfl, trivial⟩⟩⟩
  injection h with h; subst h
  exact to_fin mixed ⟨[], [], [(0, 1, (.v 0))], [⟨56, 1, [some (0, 0)], [.gs 0 0 (.v 0) 1 false, (ys 1), (ys 2), .fn 57 [] []], [some (.rows 0 [] 3 true)], [(ns 0 0), .num (.c 4) (.v 1), .num (.c 20) (.v 2), .lst 0 (some 0) []], 1, .tup [(ys 0), (ys 1)], [none], .tup [(ys 1), (ys 2)], [], []⟩], [], []⟩ (V := (vals [(a0.length : Int), r1.1, r1.2] [(a0.flatMap enI)])) (n := 3000) (f := 3000) (fid := 23) (fun _ => rfl) ⟨trivial, trivial, ⟨flat_length enI_len _, trivial⟩, trivial, trivial⟩ ⟨Kr1 _ _, trivial⟩ (R := ⟨.tup [(ys 0), (ys 1)], [none], [some (0, 0)]⟩) (qs := [(ns 1 0), (ns 2 1)]) wok0 trivial hF hr (by kernel_rfl) ⟨(r r1.1), (r r1.2), trivial⟩ (at_re (V' := (vals [(a0.length : Int), r1.1, r1.2] [(a0.flatMap enI)])) (T := ⟨[(0, .gs 0 0 (.v 0) 1 false)], [some (.rows 0 [] 3 true)], [some (0, 0)]⟩) (qs := [(ns 0 0), .lst 0 (some 0) []]) hat (by kernel_rfl) ⟨rfl, ⟨[], rfl, lnil _⟩, trivial⟩)
def w_samplesError (fu : Nat) (a0 : List (Int)) : Option (Int) := Option.bind (w_CheckSamples fu a0) fun r1 => some r1.2
theorem w_samplesError_ok (fu : Nat) (a0 : List (Int)) (y : Int) (h : w_samplesError fu a0 = some y) : CallOk Try.prog 59 (vals [(a0.length : Int)] [(a0.flatMap enI)]) [.gs 0 0 (.v 0) 1 false] [some (.rows 0 [] 3 true)] 1 (vals [y] []) ((ys 0)) [none] := by
  refine fun_of (nt := 11) (by kernel_rfl) (by kernel_rfl) fun φ0 w0 a w hat => ?_
  have hF := wide_fw
  have hr : Fence.wide.round = none := rfl
  unfold w_samplesError at h
  obtain ⟨r1, hr1, h⟩ := Option.bind_eq_some_iff.1 h
  have Kr1 : KO Try.prog [(a0.length : Int), r1.1, r1.2] [(a0.flatMap enI)] ⟨23, 1, [some (0, 0)], [.gs 0 0 (.v 0) 1 false], [some (.rows 0 [] 3 true)], [(ns 0 0), .lst 0 (some 0) []], 1, .tup [(ys 0), (ys 1)], [none], .tup [(ys 1), (ys 2)], [], []⟩ := fun N M => ⟨_, _, [(ns 0 1), (ns 1 2)], ⟨w_CheckSamples_ok fu a0 r1 hr1, ⟨(r (a0.length : Int)), ⟨[], rfl, lnil _⟩, trivial⟩, by kernel_rfl, ⟨rfl, rfl, trivial⟩⟩⟩
  injection h with h; subst h
  exact to_fin mixed ⟨[], [], [(0, 1, (.v 0))], [⟨23, 1, [some (0, 0)], [.gs 0 0 (.v 0) 1 false], [some (.rows 0 [] 3 true)], [(ns 0 0), .lst 0 (some 0) []], 1, .tup [(ys 0), (ys 1)], [none], .tup [(ys 1), (ys 2)], [], []⟩], [], []⟩ (V := (vals [(a0.length : Int), r1.1, r1.2] [(a0.flatMap enI)])) (n := 3000) (f := 3000) (fid := 59) (fun _ => rfl) ⟨trivial, trivial, ⟨flat_length enI_len _, trivial⟩, trivial, trivial⟩ ⟨Kr1 _ _, trivial⟩ (R := ⟨(ys 0), [none], [some (0, 0)]⟩) (qs := [(ns 2 0)]) wok0 trivial hF hr (by kernel_rfl) ⟨(r r1.2), trivial⟩ (at_re (V' := (vals [(a0.length : Int), r1.1, r1.2] [(a0.flatMap enI)])) (T := ⟨[(0, .gs 0 0 (.v 0) 1 false)], [some (.rows 0 [] 3 true)], [some (0, 0)]⟩) (qs := [(ns 0 0), .lst 0 (some 0) []]) hat (by kernel_rfl) ⟨rfl, ⟨[], rfl, lnil _⟩, trivial⟩)
def w_rows_1_L1 (fu : Nat) (p0 : List (Int)) (p7 : Int) : Nat → Int → Int → Int → Int → Int → Int → Int → Option ((Int × Int × Int × Int × Int × Int))
  | 0, _, _, _, _, _, _, _ => none
  | n + 1, v1, v2, v3, v4, v5, v6, v8 => if v8 < p7 then (if (0 : Int) ≤ (IntKind.wrap .i64 (v8 + (2 : Int))) then (if (IntKind.wrap .i64 (v8 + (2 : Int))) < (p0.length : Int) then (Option.bind ((p0)[0 + ((IntKind.wrap .i64 (v8 + (2 : Int)))).toNat]?) fun e4 => if (0 : Int) ≤ (IntKind.wrap .i64 (v8 + (1 : Int))) then (if (IntKind.wrap .i64 (v8 + (1 : Int))) < (p0.length : Int) then (Option.bind ((p0)[0 + ((IntKind.wrap .i64 (v8 + (1 : Int)))).toNat]?) fun e7 => if (0 : Int) ≤ v8 then (if v8 < (p0.length : Int) then (Option.bind ((p0)[0 + (v8).toNat]?) fun e10 => w_rows_1_L1 fu p0 p7 n (IntKind.wrap .i64 (v1 + (IntKind.wrap .i64 (e7 * e7)))) (IntKind.wrap .i64 (v2 + (IntKind.wrap .i64 (e7 * e10)))) (IntKind.wrap .i64 (v3 + (IntKind.wrap .i64 (e7 * e4)))) (IntKind.wrap .i64 (v4 + (IntKind.wrap .i64 (e10 * e7)))) (IntKind.wrap .i64 (v5 + (IntKind.wrap .i64 (e10 * e10)))) (IntKind.wrap .i64 (v6 + (IntKind.wrap .i64 (e10 * e4)))) (IntKind.wrap .i64 (v8 + (1 : Int)))) else none) else none) else none) else none) else none) else none) else (some (v1, v2, v3, v4, v5, v6))
theorem w_rows_1_L1_ok (fu : Nat) (p0 : List (Int)) (p7 : Int) : ∀ (n : Nat) (v1 : Int) (v2 : Int) (v3 : Int) (v4 : Int) (v5 : Int) (v6 : Int) (v8 : Int) (o : (Int × Int × Int × Int × Int × Int)), w_rows_1_L1 fu p0 p7 n v1 v2 v3 v4 v5 v6 v8 = some o → ∀ (φ0 : Phi) (w0 : World) (F : Fence) (k : Nat) (R : Exit → Act → World → Prop) (a : Act) (w : World), FW F → F.round = none → AtS (vals [(p0.length : Int), v1, v2, v3, v4, v5, v6, p7, v8] [(p0.flatMap enI)]) [(0, .yield 2), (1, .ptr 4 0), (6, (ys 7)), (7, (ys 8))] [none, some (.rows 0 [] 3 true), some (.loop .ready none (slotsT [(3, .ptr 3 0)]) 50 [12, 13] (60, [0, 1, 0, 1, 1]) 0), some (.cells [(ys 1), (ys 2), (ys 3), (ys 4), (ys 5), (ys 6)] 130 false), some (.cells [.gs 1 0 (.v 0) 1 false] 28 false)] 29 5 2 φ0 w0 a w → (∀ (y : Int × Int × Int × Int × Int × Int), o = y → ∀ a' w', AtS (vals [(p0.length : Int), y.1, y.2.1, y.2.2.1, y.2.2.2.1, y.2.2.2.2.1, y.2.2.2.2.2] [(p0.flatMap enI)]) [] [none, some (.rows 0 [] 3 true), some (.loop .ready none (slotsT [(3, .ptr 3 0)]) 50 [12, 13] (60, [0, 1, 0, 1, 1]) 0), some (.cells [(ys 1), (ys 2), (ys 3), (ys 4), (ys 5), (ys 6)] 130 false), some (.cells [.gs 1 0 (.v 0) 1 false] 28 false)] 29 5 2 φ0 w0 a' w' → R (Exit.exit 0) a' w') → Code.roundsIn F k Try.prog (subAt (bodyOf Try.prog 103) [1, 0, 0]) R n a w
  | 0, _, _, _, _, _, _, _, _, h => by cases h
  | n + 1, v1, v2, v3, v4, v5, v6, v8, o, h => by
    intro φ0 w0 F k R a w hF hr hat hx0
    rw [w_rows_1_L1] at h
    refine rounds_in (p := [1, 0, 0]) ?_
    by_cases h1 : v8 < p7
    · rw [if_pos h1] at h
      by_cases h2 : (0 : Int) ≤ (IntKind.wrap .i64 (v8 + (2 : Int)))
      · rw [if_pos h2] at h
        by_cases h3 : (IntKind.wrap .i64 (v8 + (2 : Int))) < (p0.length : Int)
        · rw [if_pos h3] at h
          obtain ⟨e4, he4, h⟩ := Option.bind_eq_some_iff.1 h
          by_cases h5 : (0 : Int) ≤ (IntKind.wrap .i64 (v8 + (1 : Int)))
          · rw [if_pos h5] at h
            by_cases h6 : (IntKind.wrap .i64 (v8 + (1 : Int))) < (p0.length : Int)
            · rw [if_pos h6] at h
              obtain ⟨e7, he7, h⟩ := Option.bind_eq_some_iff.1 h
              by_cases h8 : (0 : Int) ≤ v8
              · rw [if_pos h8] at h
                by_cases h9 : v8 < (p0.length : Int)
                · rw [if_pos h9] at h
                  obtain ⟨e10, he10, h⟩ := Option.bind_eq_some_iff.1 h
                  refine to_done mixed ⟨[(.lss, (.v 8), (.v 7), true), (.leq, (.c 0), (.add .i64 (.v 8) (.c 2)), true), (.lss, (.add .i64 (.v 8) (.c 2)), (.v 0), true), (.leq, (.c 0), (.add .i64 (.v 8) (.c 1)), true), (.lss, (.add .i64 (.v 8) (.c 1)), (.v 0), true), (.leq, (.c 0), (.v 8), true), (.lss, (.v 8), (.v 0), true)], [(0, 0, (.add .i64 (.v 8) (.c 2)), [(ys 9)]), (0, 0, (.add .i64 (.v 8) (.c 1)), [(ys 10)]), (0, 0, (.v 8), [(ys 11)])], [(0, 1, (.v 0))], [], [], []⟩ (V := (vals [(p0.length : Int), v1, v2, v3, v4, v5, v6, p7, v8, e4, e7, e10] [(p0.flatMap enI)])) (n := 3000) (f := 3000) (fid := 103) (fun _ => rfl) (V' := (vals [(p0.length : Int), (IntKind.wrap .i64 (v1 + (IntKind.wrap .i64 (e7 * e7)))), (IntKind.wrap .i64 (v2 + (IntKind.wrap .i64 (e7 * e10)))), (IntKind.wrap .i64 (v3 + (IntKind.wrap .i64 (e7 * e4)))), (IntKind.wrap .i64 (v4 + (IntKind.wrap .i64 (e10 * e7)))), (IntKind.wrap .i64 (v5 + (IntKind.wrap .i64 (e10 * e10)))), (IntKind.wrap .i64 (v6 + (IntKind.wrap .i64 (e10 * e4)))), p7, (IntKind.wrap .i64 (v8 + (1 : Int)))] [(p0.flatMap enI)])) ⟨⟨lss_t h1, leq_t h2, lss_t h3, leq_t h5, lss_t h6, leq_t h8, lss_t h9, trivial⟩, ⟨⟨h2, _, rfl, flat_row enI_len he4⟩, ⟨h5, _, rfl, flat_row enI_len he7⟩, ⟨h8, _, rfl, flat_row enI_len he10⟩, trivial⟩, ⟨flat_length enI_len _, trivial⟩, trivial, trivial⟩ trivial (T := ⟨[(0, .yield 2), (1, .ptr 4 0), (6, (ys 7)), (7, (ys 8))], [none, some (.rows 0 [] 3 true), some (.loop .ready none (slotsT [(3, .ptr 3 0)]) 50 [12, 13] (60, [0, 1, 0, 1, 1]) 0), some (.cells [(ys 1), (ys 2), (ys 3), (ys 4), (ys 5), (ys 6)] 130 false), some (.cells [.gs 1 0 (.v 0) 1 false] 28 false)], [some (0, 0), some (1, 0), some (2, 0), some (3, 0), some (4, 0)]⟩) (ce := .normal) (qs := [(ns 7 7), .num (.add .i64 (.v 8) (.c 1)) (.v 8), .lst 0 (some 0) [], .cod (60, [0, 1, 0, 1, 1]), .num (.add .i64 (.v 1) (.mul .i64 (.v 10) (.v 10))) (.v 1), .num (.add .i64 (.v 2) (.mul .i64 (.v 10) (.v 11))) (.v 2), .num (.add .i64 (.v 3) (.mul .i64 (.v 10) (.v 9))) (.v 3), .num (.add .i64 (.v 4) (.mul .i64 (.v 11) (.v 10))) (.v 4), .num (.add .i64 (.v 5) (.mul .i64 (.v 11) (.v 11))) (.v 5), .num (.add .i64 (.v 6) (.mul .i64 (.v 11) (.v 9))) (.v 6), (ns 0 0)]) rfl trivial hF hr (by kernel_rfl) ⟨(r p7), (r (IntKind.wrap .i64 (v8 + (1 : Int)))), ⟨[], rfl, lnil _⟩, rfl, (r (IntKind.wrap .i64 (v1 + (IntKind.wrap .i64 (e7 * e7))))), (r (IntKind.wrap .i64 (v2 + (IntKind.wrap .i64 (e7 * e10))))), (r (IntKind.wrap .i64 (v3 + (IntKind.wrap .i64 (e7 * e4))))), (r (IntKind.wrap .i64 (v4 + (IntKind.wrap .i64 (e10 * e7))))), (r (IntKind.wrap .i64 (v5 + (IntKind.wrap .i64 (e10 * e10))))), (r (IntKind.wrap .i64 (v6 + (IntKind.wrap .i64 (e10 * e4))))), (r (p0.length : Int)), trivial⟩ (at_re (V' := (vals [(p0.length : Int), v1, v2, v3, v4, v5, v6, p7, v8, e4, e7, e10] [(p0.flatMap enI)])) (T := ⟨[(0, .yield 2), (1, .ptr 4 0), (6, (ys 7)), (7, (ys 8))], [none, some (.rows 0 [] 3 true), some (.loop .ready none (slotsT [(3, .ptr 3 0)]) 50 [12, 13] (60, [0, 1, 0, 1, 1]) 0), some (.cells [(ys 1), (ys 2), (ys 3), (ys 4), (ys 5), (ys 6)] 130 false), some (.cells [.gs 1 0 (.v 0) 1 false] 28 false)], [some (0, 0), some (1, 0), some (2, 0), some (3, 0), some (4, 0)]⟩) (qs := [(ns 7 7), (ns 8 8), .lst 0 (some 0) [], .cod (60, [0, 1, 0, 1, 1]), (ns 1 1), (ns 2 2), (ns 3 3), (ns 4 4), (ns 5 5), (ns 6 6), (ns 0 0)]) hat (by kernel_rfl) ⟨rfl, rfl, ⟨[], rfl, lnil _⟩, rfl, rfl, rfl, rfl, rfl, rfl, rfl, rfl, trivial⟩) fun a' w' hat' => ?_
                  exact w_rows_1_L1_ok fu p0 p7 n (IntKind.wrap .i64 (v1 + (IntKind.wrap .i64 (e7 * e7)))) (IntKind.wrap .i64 (v2 + (IntKind.wrap .i64 (e7 * e10)))) (IntKind.wrap .i64 (v3 + (IntKind.wrap .i64 (e7 * e4)))) (IntKind.wrap .i64 (v4 + (IntKind.wrap .i64 (e10 * e7)))) (IntKind.wrap .i64 (v5 + (IntKind.wrap .i64 (e10 * e10)))) (IntKind.wrap .i64 (v6 + (IntKind.wrap .i64 (e10 * e4)))) (IntKind.wrap .i64 (v8 + (1 : Int))) o h _ _ _ _ _ _ _ hF hr hat' hx0
                · rw [if_neg h9] at h
                  cases h
              · rw [if_neg h8] at h
                cases h
            · rw [if_neg h6] at h
              cases h
          · rw [if_neg h5] at h
            cases h
        · rw [if_neg h3] at h
          cases h
      · rw [if_neg h2] at h
        cases h
    · rw [if_neg h1] at h
      injection h with h; subst h
      exact to_done mixed ⟨[(.lss, (.v 8), (.v 7), false)], [], [(0, 1, (.v 0))], [], [], []⟩ (V := (vals [(p0.length : Int), v1, v2, v3, v4, v5, v6, p7, v8] [(p0.flatMap enI)])) (n := 3000) (f := 3000) (fid := 103) (fun _ => rfl) (V' := (vals [(p0.length : Int), v1, v2, v3, v4, v5, v6] [(p0.flatMap enI)])) ⟨⟨lss_f h1, trivial⟩, trivial, ⟨flat_length enI_len _, trivial⟩, trivial, trivial⟩ trivial (T := ⟨[], [none, some (.rows 0 [] 3 true), some (.loop .ready none (slotsT [(3, .ptr 3 0)]) 50 [12, 13] (60, [0, 1, 0, 1, 1]) 0), some (.cells [(ys 1), (ys 2), (ys 3), (ys 4), (ys 5), (ys 6)] 130 false), some (.cells [.gs 1 0 (.v 0) 1 false] 28 false)], [some (0, 0), some (1, 0), some (2, 0), some (3, 0), some (4, 0)]⟩) (ce := (.exit 0)) (qs := [.lst 0 (some 0) [], .cod (60, [0, 1, 0, 1, 1]), (ns 1 1), (ns 2 2), (ns 3 3), (ns 4 4), (ns 5 5), (ns 6 6), (ns 0 0)]) rfl trivial hF hr (by kernel_rfl) ⟨⟨[], rfl, lnil _⟩, rfl, (r v1), (r v2), (r v3), (r v4), (r v5), (r v6), (r (p0.length : Int)), trivial⟩ hat fun a' w' hat' => hx0 (v1, v2, v3, v4, v5, v6) rfl a' w' hat'
def w_rows_1 (fu : Nat) (a0_3_0 : Int) (a0_3_1 : Int) (a0_3_2 : Int) (a0_3_3 : Int) (a0_3_4 : Int) (a0_3_5 : Int) (a1_0 : List (Int)) : Option (Int × Int × Int × Int × Int × Int) := Option.bind (w_rows_1_L1 fu a1_0 (IntKind.wrap .i64 ((a1_0.length : Int) - (2 : Int))) fu a0_3_0 a0_3_1 a0_3_2 a0_3_3 a0_3_4 a0_3_5 (0 : Int)) fun o1 => some (o1.1, o1.2.1, o1.2.2.1, o1.2.2.2.1, o1.2.2.2.2.1, o1.2.2.2.2.2)
theorem w_rows_1_ok (fu : Nat) (a0_3_0 : Int) (a0_3_1 : Int) (a0_3_2 : Int) (a0_3_3 : Int) (a0_3_4 : Int) (a0_3_5 : Int) (a1_0 : List (Int)) (y : Int × Int × Int × Int × Int × Int) (h : w_rows_1 fu a0_3_0 a0_3_1 a0_3_2 a0_3_3 a0_3_4 a0_3_5 a1_0 = some y) : CallOk Try.prog 103 (vals [a0_3_0, a0_3_1, a0_3_2, a0_3_3, a0_3_4, a0_3_5, (a1_0.length : Int)] [(a1_0.flatMap enI)]) [.yield 2, .ptr 4 0] [none, some (.rows 0 [] 3 true), some (.loop .ready none (slotsT [(3, .ptr 3 0)]) 50 [12, 13] (60, [0, 1, 0, 1, 1]) 0), some (.cells [(ys 0), (ys 1), (ys 2), (ys 3), (ys 4), (ys 5)] 130 false), some (.cells [.gs 1 0 (.v 6) 1 false] 28 false)] 2 (vals [y.1, y.2.1, y.2.2.1, y.2.2.2.1, y.2.2.2.2.1, y.2.2.2.2.2, (a1_0.length : Int)] []) (.tup []) [none, none, some (.loop .ready none (slotsT [(3, .ptr 3 0)]) 50 [12, 13] (60, [0, 1, 0, 1, 1]) 0), some (.cells [(ys 0), (ys 1), (ys 2), (ys 3), (ys 4), (ys 5)] 130 false), some (.cells [.gs 1 0 (.v 6) 1 false] 28 false)] := by
  refine fun_of (nt := 29) (by kernel_rfl) (by kernel_rfl) fun φ0 w0 a w hat => ?_
  have hF := wide_fw
  have hr : Fence.wide.round = none := rfl
  unfold w_rows_1 at h
  obtain ⟨o1, ho1, h⟩ := Option.bind_eq_some_iff.1 h
  refine to_loop mixed ⟨[], [], [(0, 1, (.v 6))], [], [], []⟩ (V := (vals [a0_3_0, a0_3_1, a0_3_2, a0_3_3, a0_3_4, a0_3_5, (a1_0.length : Int)] [(a1_0.flatMap enI)])) (n := 3000) (f := 3000) (fid := 103) (fun _ => rfl) (V' := (vals [(a1_0.length : Int), a0_3_0, a0_3_1, a0_3_2, a0_3_3, a0_3_4, a0_3_5, (IntKind.wrap .i64 ((a1_0.length : Int) - (2 : Int))), (0 : Int)] [(a1_0.flatMap enI)])) ⟨trivial, trivial, ⟨flat_length enI_len _, trivial⟩, trivial, trivial⟩ trivial (T := ⟨[(0, .yield 2), (1, .ptr 4 0), (6, (ys 7)), (7, (ys 8))], [none, some (.rows 0 [] 3 true), some (.loop .ready none (slotsT [(3, .ptr 3 0)]) 50 [12, 13] (60, [0, 1, 0, 1, 1]) 0), some (.cells [(ys 1), (ys 2), (ys 3), (ys 4), (ys 5), (ys 6)] 130 false), some (.cells [.gs 1 0 (.v 0) 1 false] 28 false)], [some (0, 0), some (1, 0), some (2, 0), some (3, 0), some (4, 0)]⟩) (B := subAt (bodyOf Try.prog 103) [1, 0, 0]) (K' := [.bk 0]) (qs := [.num (.sub .i64 (.v 6) (.c 2)) (.v 7), .num (.c 0) (.v 8), .lst 0 (some 0) [], .cod (60, [0, 1, 0, 1, 1]), (ns 0 1), (ns 1 2), (ns 2 3), (ns 3 4), (ns 4 5), (ns 5 6), (ns 6 0)]) wok0 trivial hF hr (by kernel_rfl) ⟨(show (IntKind.wrap .i64 ((a1_0.length : Int) - (2 : Int))) = (IntKind.wrap .i64 ((a1_0.length : Int) - (2 : Int))) from rfl), (r (0 : Int)), ⟨[], rfl, lnil _⟩, rfl, (r a0_3_0), (r a0_3_1), (r a0_3_2), (r a0_3_3), (r a0_3_4), (r a0_3_5), (r (a1_0.length : Int)), trivial⟩ hat fun aa1 ww1 hat1 => loop_in (w_rows_1_L1_ok fu a1_0 (IntKind.wrap .i64 ((a1_0.length : Int) - (2 : Int))) fu a0_3_0 a0_3_1 a0_3_2 a0_3_3 a0_3_4 a0_3_5 (0 : Int) o1 ho1 _ _ _ _ _ _ _ hF hr hat1 ?_)
  · intro yy hy aa2 ww2 hat
    subst hy
    show (Wk.out (.exit 0)).goal _ _ _ [.bk 0] _ aa2 ww2
    injection h with h; subst h
    exact to_fin mixed ⟨[], [], [(0, 1, (.v 0))], [], [], []⟩ (V := (vals [(a1_0.length : Int), o1.1, o1.2.1, o1.2.2.1, o1.2.2.2.1, o1.2.2.2.2.1, o1.2.2.2.2.2] [(a1_0.flatMap enI)])) (n := 3000) (f := 3000) (fid := 103) (fun _ => rfl) ⟨trivial, trivial, ⟨flat_length enI_len _, trivial⟩, trivial, trivial⟩ trivial (R := ⟨.tup [], [none, none, some (.loop .ready none (slotsT [(3, .ptr 3 0)]) 50 [12, 13] (60, [0, 1, 0, 1, 1]) 0), some (.cells [(ys 0), (ys 1), (ys 2), (ys 3), (ys 4), (ys 5)] 130 false), some (.cells [.gs 1 0 (.v 6) 1 false] 28 false)], [some (0, 0), some (1, 0), some (2, 0), some (3, 0), some (4, 0)]⟩) (qs := [.cod (60, [0, 1, 0, 1, 1]), (ns 1 0), (ns 2 1), (ns 3 2), (ns 4 3), (ns 5 4), (ns 6 5), (ns 0 6)]) trivial trivial hF hr (by kernel_rfl) ⟨rfl, (r o1.1), (r o1.2.1), (r o1.2.2.1), (r o1.2.2.2.1), (r o1.2.2.2.2.1), (r o1.2.2.2.2.2), (r (a1_0.length : Int)), trivial⟩ hat
def w_equations (fu : Nat) (a0 : List (Int)) : Option (Int × Int × Int × Int × Int × Int) := Option.bind (w_rows_1 fu (0 : Int) (0 : Int) (0 : Int) (0 : Int) (0 : Int) (0 : Int) a0) fun r1 => some (r1.1, r1.2.1, r1.2.2.1, r1.2.2.2.1, r1.2.2.2.2.1, r1.2.2.2.2.2)
theorem w_equations_ok (fu : Nat) (a0 : List (Int)) (y : Int × Int × Int × Int × Int × Int) (h : w_equations fu a0 = some y) : CallOk Try.prog 60 (vals [(a0.length : Int)] [(a0.flatMap enI)]) [.gs 0 0 (.v 0) 1 false] [some (.rows 0 [] 3 true)] 1 (vals [y.1, y.2.1, y.2.2.1, y.2.2.2.1, y.2.2.2.2.1, y.2.2.2.2.2] []) (.agg [(ys 0), (ys 1), (ys 2), (ys 3), (ys 4), (ys 5)]) [none] := by
  refine fun_of (nt := 50) (by kernel_rfl) (by kernel_rfl) fun φ0 w0 a w hat => ?_
  have hF := wide_fw
  have hr : Fence.wide.round = none := rfl
  unfold w_equations at h
  obtain ⟨r1, hr1, h⟩ := Option.bind_eq_some_iff.1 h
  have Kr1 : KO Try.prog [(a0.length : Int), r1.1, r1.2.1, r1.2.2.1, r1.2.2.2.1, r1.2.2.2.2.1, r1.2.2.2.2.2] [(a0.flatMap enI)] ⟨103, 6, [some (4, 0), some (0, 0), some (5, 0), some (2, 0), some (3, 0)], [.yield 2, .ptr 4 0], [none, some (.rows 0 [] 3 true), some (.loop .ready none (slotsT [(3, .ptr 3 0)]) 50 [12, 13] (60, [0, 1, 0, 1, 1]) 0), some (.cells [(ys 0), (ys 1), (ys 2), (ys 3), (ys 4), (ys 5)] 130 false), some (.cells [.gs 1 0 (.v 6) 1 false] 28 false)], [.lst 0 (some 0) [], .cod (60, [0, 1, 0, 1, 1]), .num (.c 0) (.v 0), .num (.c 0) (.v 1), .num (.c 0) (.v 2), .num (.c 0) (.v 3), .num (.c 0) (.v 4), .num (.c 0) (.v 5), (ns 0 6)], 2, .tup [], [none, none, some (.loop .ready none (slotsT [(3, .ptr 3 0)]) 50 [12, 13] (60, [0, 1, 0, 1, 1]) 0), some (.cells [(ys 0), (ys 1), (ys 2), (ys 3), (ys 4), (ys 5)] 130 false), some (.cells [.gs 1 0 (.v 6) 1 false] 28 false)], .tup [], [], [(5, some (.loop .ready none (slotsT [(3, .ptr 2 0)]) 50 [12, 13] (60, [0, 1, 0, 1, 1]) 4)), (2, some (.cells [(ys 1), (ys 2), (ys 3), (ys 4), (ys 5), (ys 6)] 130 false)), (3, some (.cells [.gs 0 0 (.v 0) 1 false] 28 false))]⟩ := fun N M => ⟨_, _, [.cod (60, [0, 1, 0, 1, 1]), (ns 0 1), (ns 1 2), (ns 2 3), (ns 3 4), (ns 4 5), (ns 5 6), (ns 6 0)], ⟨w_rows_1_ok fu (0 : Int) (0 : Int) (0 : Int) (0 : Int) (0 : Int) (0 : Int) a0 r1 hr1, ⟨⟨[], rfl, lnil _⟩, rfl, (r (0 : Int)), (r (0 : Int)), (r (0 : Int)), (r (0 : Int)), (r (0 : Int)), (r (0 : Int)), (r (a0.length : Int)), trivial⟩, by kernel_rfl, ⟨rfl, rfl, rfl, rfl, rfl, rfl, rfl, rfl, trivial⟩⟩⟩
  injection h with h; subst h
  exact to_fin mixed ⟨[], [], [(0, 1, (.v 0))], [⟨103, 6, [some (4, 0), some (0, 0), some (5, 0), some (2, 0), some (3, 0)], [.yield 2, .ptr 4 0], [none, some (.rows 0 [] 3 true), some (.loop .ready none (slotsT [(3, .ptr 3 0)]) 50 [12, 13] (60, [0, 1, 0, 1, 1]) 0), some (.cells [(ys 0), (ys 1), (ys 2), (ys 3), (ys 4), (ys 5)] 130 false), some (.cells [.gs 1 0 (.v 6) 1 false] 28 false)], [.lst 0 (some 0) [], .cod (60, [0, 1, 0, 1, 1]), .num (.c 0) (.v 0), .num (.c 0) (.v 1), .num (.c 0) (.v 2), .num (.c 0) (.v 3), .num (.c 0) (.v 4), .num (.c 0) (.v 5), (ns 0 6)], 2, .tup [], [none, none, some (.loop .ready none (slotsT [(3, .ptr 3 0)]) 50 [12, 13] (60, [0, 1, 0, 1, 1]) 0), some (.cells [(ys 0), (ys 1), (ys 2), (ys 3), (ys 4), (ys 5)] 130 false), some (.cells [.gs 1 0 (.v 6) 1 false] 28 false)], .tup [], [], [(5, some (.loop .ready none (slotsT [(3, .ptr 2 0)]) 50 [12, 13] (60, [0, 1, 0, 1, 1]) 4)), (2, some (.cells [(ys 1), (ys 2), (ys 3), (ys 4), (ys 5), (ys 6)] 130 false)), (3, some (.cells [.gs 0 0 (.v 0) 1 false] 28 false))]⟩], [], []⟩ (V := (vals [(a0.length : Int), r1.1, r1.2.1, r1.2.2.1, r1.2.2.2.1, r1.2.2.2.2.1, r1.2.2.2.2.2] [(a0.flatMap enI)])) (n := 3000) (f := 3000) (fid := 60) (fun _ => rfl) ⟨trivial, trivial, ⟨flat_length enI_len _, trivial⟩, trivial, trivial⟩ ⟨Kr1 _ _, trivial⟩ (R := ⟨.agg [(ys 0), (ys 1), (ys 2), (ys 3), (ys 4), (ys 5)], [none], [some (0, 0)]⟩) (qs := [(ns 1 0), (ns 2 1), (ns 3 2), (ns 4 3), (ns 5 4), (ns 6 5)]) wok0 trivial hF hr (by kernel_rfl) ⟨(r r1.1), (r r1.2.1), (r r1.2.2.1), (r r1.2.2.2.1), (r r1.2.2.2.2.1), (r r1.2.2.2.2.2), trivial⟩ (at_re (V' := (vals [(a0.length : Int), r1.1, r1.2.1, r1.2.2.1, r1.2.2.2.1, r1.2.2.2.2.1, r1.2.2.2.2.2] [(a0.flatMap enI)])) (T := ⟨[(0, .gs 0 0 (.v 0) 1 false)], [some (.rows 0 [] 3 true)], [some (0, 0)]⟩) (qs := [(ns 0 0), .lst 0 (some 0) []]) hat (by kernel_rfl) ⟨rfl, ⟨[], rfl, lnil _⟩, trivial⟩)
def w_determinant (a0_0 : Int) (a0_1 : Int) (a0_2 : Int) (a0_3 : Int) (a0_4 : Int) (a0_5 : Int) : Option (Int) := some (IntKind.wrap .i64 ((IntKind.wrap .i64 (a0_0 * a0_4)) - (IntKind.wrap .i64 (a0_1 * a0_3))))
theorem w_determinant_ok (a0_0 : Int) (a0_1 : Int) (a0_2 : Int) (a0_3 : Int) (a0_4 : Int) (a0_5 : Int) (y : Int) (h : w_determinant a0_0 a0_1 a0_2 a0_3 a0_4 a0_5 = some y) : CallOk Try.prog 61 (vals [a0_0, a0_1, a0_2, a0_3, a0_4, a0_5] []) [.agg [(ys 0), (ys 1), (ys 2), (ys 3), (ys 4), (ys 5)]] [] 0 (vals [y] []) ((ys 0)) [] := by
  refine fun_of (nt := 22) (by kernel_rfl) (by kernel_rfl) fun φ0 w0 a w hat => ?_
  have hF := wide_fw
  have hr : Fence.wide.round = none := rfl
  unfold w_determinant at h
  injection h with h; subst h
  exact to_fin mixed ⟨[], [], [], [], [], []⟩ (V := (vals [a0_0, a0_1, a0_2, a0_3, a0_4, a0_5] [])) (n := 3000) (f := 3000) (fid := 61) (fun _ => rfl) ⟨trivial, trivial, trivial, trivial, trivial⟩ trivial (R := ⟨(ys 0), [], []⟩) (qs := [.num (.sub .i64 (.mul .i64 (.v 0) (.v 4)) (.mul .i64 (.v 1) (.v 3))) (.v 0)]) wok0 trivial hF hr (by kernel_rfl) ⟨(show (IntKind.wrap .i64 ((IntKind.wrap .i64 (a0_0 * a0_4)) - (IntKind.wrap .i64 (a0_1 * a0_3)))) = (IntKind.wrap .i64 ((IntKind.wrap .i64 (a0_0 * a0_4)) - (IntKind.wrap .i64 (a0_1 * a0_3)))) from rfl), trivial⟩ hat
def u_Divisor_L1 (fu : Nat) (p0 : List (Int)) (p3 : Int) (p4 : Int) : Nat → Int → Int → Option ((Int))
  | 0, _, _ => none
  | n + 1, v1, v2 => if v2 = (0 : Int) then (some v1) else (u_Divisor_L1 fu p0 p3 p4 n v2 (Int.tmod v1 v2))
theorem u_Divisor_L1_ok (fu : Nat) (p0 : List (Int)) (p3 : Int) (p4 : Int) : ∀ (n : Nat) (v1 : Int) (v2 : Int) (o : (Int)), u_Divisor_L1 fu p0 p3 p4 n v1 v2 = some o → ∀ (φ0 : Phi) (w0 : World) (F : Fence) (k : Nat) (R : Exit → Act → World → Prop) (a : Act) (w : World), FW F → F.round = none → AtS (vals [(p0.length : Int), v1, v2, p3, p4] [(p0.flatMap enI)]) [(3, (ys 1)), (5, (ys 2)), (6, .gs 0 0 (.v 0) 1 false), (7, (ys 3)), (8, (ys 4))] [some (.rows 0 [] 3 true)] 23 1 1 φ0 w0 a w → (∀ (y : Int), o = y → ∀ a' w', AtS (vals [(p0.length : Int), y, p3, p4] [(p0.flatMap enI)]) [(3, (ys 1)), (6, .gs 0 0 (.v 0) 1 false), (7, (ys 2)), (8, (ys 3))] [some (.rows 0 [] 3 true)] 23 1 1 φ0 w0 a' w' → R (Exit.exit 2) a' w') → Code.roundsIn F k Try.prog (subAt (bodyOf Try.prog 62) [1, 1, 0, 1, 0, 0, 1, 1, 0, 0, 1, 0, 0]) R n a w
  | 0, _, _, _, h => by cases h
  | n + 1, v1, v2, o, h => by
    intro φ0 w0 F k R a w hF hr hat hx0
    rw [u_Divisor_L1] at h
    refine rounds_in (p := [1, 1, 0, 1, 0, 0, 1, 1, 0, 0, 1, 0, 0]) ?_
    by_cases h1 : v2 = (0 : Int)
    · rw [if_pos h1] at h
      injection h with h; subst h
      exact to_done mixed ⟨[(.neq, (.v 2), (.c 0), false)], [], [(0, 1, (.v 0))], [], [], []⟩ (V := (vals [(p0.length : Int), v1, v2, p3, p4] [(p0.flatMap enI)])) (n := 3000) (f := 3000) (fid := 62) (fun _ => rfl) (V' := (vals [(p0.length : Int), v1, p3, p4] [(p0.flatMap enI)])) ⟨⟨neq_f h1, trivial⟩, trivial, ⟨flat_length enI_len _, trivial⟩, trivial, trivial⟩ trivial (T := ⟨[(3, (ys 1)), (6, .gs 0 0 (.v 0) 1 false), (7, (ys 2)), (8, (ys 3))], [some (.rows 0 [] 3 true)], [some (0, 0)]⟩) (ce := (.exit 2)) (qs := [(ns 1 1), (ns 0 0), (ns 3 2), (ns 4 3), .lst 0 (some 0) []]) rfl trivial hF hr (by kernel_rfl) ⟨(r v1), (r (p0.length : Int)), (r p3), (r p4), ⟨[], rfl, lnil _⟩, trivial⟩ hat fun a' w' hat' => hx0 v1 rfl a' w' hat'
    · rw [if_neg h1] at h
      refine to_done mixed ⟨[(.neq, (.v 2), (.c 0), true), (.eql, (.v 2), (.c 0), false)], [], [(0, 1, (.v 0))], [], [], []⟩ (V := (vals [(p0.length : Int), v1, v2, p3, p4] [(p0.flatMap enI)])) (n := 3000) (f := 3000) (fid := 62) (fun _ => rfl) (V' := (vals [(p0.length : Int), v2, (Int.tmod v1 v2), p3, p4] [(p0.flatMap enI)])) ⟨⟨neq_t h1, eql_f (a := v2) (b := (0 : Int)) (by omega), trivial⟩, trivial, ⟨flat_length enI_len _, trivial⟩, trivial, trivial⟩ trivial (T := ⟨[(3, (ys 1)), (5, (ys 2)), (6, .gs 0 0 (.v 0) 1 false), (7, (ys 3)), (8, (ys 4))], [some (.rows 0 [] 3 true)], [some (0, 0)]⟩) (ce := .normal) (qs := [(ns 2 1), .num (.rem .i64 (.v 1) (.v 2)) (.v 2), (ns 0 0), (ns 3 3), (ns 4 4), .lst 0 (some 0) []]) rfl trivial hF hr (by kernel_rfl) ⟨(r v2), (r (Int.tmod v1 v2)), (r (p0.length : Int)), (r p3), (r p4), ⟨[], rfl, lnil _⟩, trivial⟩ hat fun a' w' hat' => ?_
      exact u_Divisor_L1_ok fu p0 p3 p4 n v2 (Int.tmod v1 v2) o h _ _ _ _ _ _ _ hF hr hat' hx0
def u_Divisor_L2 (fu : Nat) (p0 : List (Int)) (p2 : Int) : Nat → Int → Int → Option ((Int))
  | 0, _, _ => none
  | n + 1, v1, v3 => if v3 < p2 then (if (0 : Int) ≤ v3 then (if v3 < (p0.length : Int) then (Option.bind ((p0)[0 + (v3).toNat]?) fun e4 => Option.bind (u_Divisor_L1 fu p0 p2 v3 fu v1 e4) fun o5 => u_Divisor_L2 fu p0 p2 n o5 (IntKind.wrap .i64 (v3 + (1 : Int)))) else none) else none) else (some v1)
theorem u_Divisor_L2_ok (fu : Nat) (p0 : List (Int)) (p2 : Int) : ∀ (n : Nat) (v1 : Int) (v3 : Int) (o : (Int)), u_Divisor_L2 fu p0 p2 n v1 v3 = some o → ∀ (φ0 : Phi) (w0 : World) (F : Fence) (k : Nat) (R : Exit → Act → World → Prop) (a : Act) (w : World), FW F → F.round = none → AtS (vals [(p0.length : Int), v1, p2, v3] [(p0.flatMap enI)]) [(3, (ys 1)), (6, .gs 0 0 (.v 0) 1 false), (7, (ys 2)), (8, (ys 3))] [some (.rows 0 [] 3 true)] 23 1 1 φ0 w0 a w → (∀ (y : Int), o = y → ∀ a' w', AtS (vals [(p0.length : Int), y] [(p0.flatMap enI)]) [(3, (ys 1))] [some (.rows 0 [] 3 true)] 23 1 1 φ0 w0 a' w' → R (Exit.exit 0) a' w') → Code.roundsIn F k Try.prog (subAt (bodyOf Try.prog 62) [1, 1, 0, 1, 0, 0]) R n a w
  | 0, _, _, _, h => by cases h
  | n + 1, v1, v3, o, h => by
    intro φ0 w0 F k R a w hF hr hat hx0
    rw [u_Divisor_L2] at h
    refine rounds_in (p := [1, 1, 0, 1, 0, 0]) ?_
    by_cases h1 : v3 < p2
    · rw [if_pos h1] at h
      by_cases h2 : (0 : Int) ≤ v3
      · rw [if_pos h2] at h
        by_cases h3 : v3 < (p0.length : Int)
        · rw [if_pos h3] at h
          obtain ⟨e4, he4, h⟩ := Option.bind_eq_some_iff.1 h
          obtain ⟨o5, ho5, h⟩ := Option.bind_eq_some_iff.1 h
          refine to_loop mixed ⟨[(.lss, (.v 3), (.v 2), true), (.leq, (.c 0), (.v 3), true), (.lss, (.v 3), (.v 0), true)], [(0, 0, (.v 3), [(ys 4)])], [(0, 1, (.v 0))], [], [], []⟩ (V := (vals [(p0.length : Int), v1, p2, v3, e4] [(p0.flatMap enI)])) (n := 3000) (f := 3000) (fid := 62) (fun _ => rfl) (V' := (vals [(p0.length : Int), v1, e4, p2, v3] [(p0.flatMap enI)])) ⟨⟨lss_t h1, leq_t h2, lss_t h3, trivial⟩, ⟨⟨h2, _, rfl, flat_row enI_len he4⟩, trivial⟩, ⟨flat_length enI_len _, trivial⟩, trivial, trivial⟩ trivial (T := ⟨[(3, (ys 1)), (5, (ys 2)), (6, .gs 0 0 (.v 0) 1 false), (7, (ys 3)), (8, (ys 4))], [some (.rows 0 [] 3 true)], [some (0, 0)]⟩) (B := subAt (bodyOf Try.prog 62) [1, 1, 0, 1, 0, 0, 1, 1, 0, 0, 1, 0, 0]) (K' := [.bk 2, .bk 1, .sq (subAt (bodyOf Try.prog 62) [1, 1, 0, 1, 0, 0, 1, 1, 1]) [1, 1, 0, 1, 0, 0, 1, 1, 1]]) (qs := [(ns 1 1), (ns 4 2), (ns 0 0), (ns 2 3), (ns 3 4), .lst 0 (some 0) []]) rfl trivial hF hr (by kernel_rfl) ⟨(r v1), (r e4), (r (p0.length : Int)), (r p2), (r v3), ⟨[], rfl, lnil _⟩, trivial⟩ (at_re (V' := (vals [(p0.length : Int), v1, p2, v3, e4] [(p0.flatMap enI)])) (T := ⟨[(3, (ys 1)), (6, .gs 0 0 (.v 0) 1 false), (7, (ys 2)), (8, (ys 3))], [some (.rows 0 [] 3 true)], [some (0, 0)]⟩) (qs := [(ns 1 1), (ns 0 0), (ns 2 2), (ns 3 3), .lst 0 (some 0) []]) hat (by kernel_rfl) ⟨rfl, rfl, rfl, rfl, ⟨[], rfl, lnil _⟩, trivial⟩) fun aa1 ww1 hat1 => loop_in (u_Divisor_L1_ok fu p0 p2 v3 fu v1 e4 o5 ho5 _ _ _ _ _ _ _ hF hr hat1 ?_)
          · intro yy hy aa2 ww2 hat
            subst hy
            show (Wk.out (.exit 2)).goal _ _ _ [.bk 2, .bk 1, .sq (subAt (bodyOf Try.prog 62) [1, 1, 0, 1, 0, 0, 1, 1, 1]) [1, 1, 0, 1, 0, 0, 1, 1, 1]] _ aa2 ww2
            refine to_done mixed ⟨[], [], [(0, 1, (.v 0))], [], [], []⟩ (V := (vals [(p0.length : Int), o5, p2, v3] [(p0.flatMap enI)])) (n := 3000) (f := 3000) (fid := 62) (fun _ => rfl) (V' := (vals [(p0.length : Int), o5, p2, (IntKind.wrap .i64 (v3 + (1 : Int)))] [(p0.flatMap enI)])) ⟨trivial, trivial, ⟨flat_length enI_len _, trivial⟩, trivial, trivial⟩ trivial (T := ⟨[(3, (ys 1)), (6, .gs 0 0 (.v 0) 1 false), (7, (ys 2)), (8, (ys 3))], [some (.rows 0 [] 3 true)], [some (0, 0)]⟩) (ce := .normal) (qs := [(ns 1 1), (ns 0 0), (ns 2 2), .num (.add .i64 (.v 3) (.c 1)) (.v 3), .lst 0 (some 0) []]) trivial ⟨rfl, trivial⟩ hF hr (by kernel_rfl) ⟨(r o5), (r (p0.length : Int)), (r p2), (r (IntKind.wrap .i64 (v3 + (1 : Int)))), ⟨[], rfl, lnil _⟩, trivial⟩ hat fun a' w' hat' => ?_
            exact u_Divisor_L2_ok fu p0 p2 n o5 (IntKind.wrap .i64 (v3 + (1 : Int))) o h _ _ _ _ _ _ _ hF hr hat' hx0
        · rw [if_neg h3] at h
          cases h
      · rw [if_neg h2] at h
        cases h
    · rw [if_neg h1] at h
      injection h with h; subst h
      exact to_done mixed ⟨[(.lss, (.v 3), (.v 2), false)], [], [(0, 1, (.v 0))], [], [], []⟩ (V := (vals [(p0.length : Int), v1, p2, v3] [(p0.flatMap enI)])) (n := 3000) (f := 3000) (fid := 62) (fun _ => rfl) (V' := (vals [(p0.length : Int), v1] [(p0.flatMap enI)])) ⟨⟨lss_f h1, trivial⟩, trivial, ⟨flat_length enI_len _, trivial⟩, trivial, trivial⟩ trivial (T := ⟨[(3, (ys 1))], [some (.rows 0 [] 3 true)], [some (0, 0)]⟩) (ce := (.exit 0)) (qs := [(ns 1 1), .lst 0 (some 0) []]) rfl trivial hF hr (by kernel_rfl) ⟨(r v1), ⟨[], rfl, lnil _⟩, trivial⟩ hat fun a' w' hat' => hx0 v1 rfl a' w' hat'
def u_Divisor (fu : Nat) (a0 : List (Int)) : Option (Int) := Option.bind (u_Divisor_L2 fu a0 (a0.length : Int) fu (0 : Int) (0 : Int)) fun o1 => if o1 < (IntKind.wrap .i64 ((0 : Int) - o1)) then (some (IntKind.wrap .i64 ((0 : Int) - o1))) else (some o1)
theorem u_Divisor_ok (fu : Nat) (a0 : List (Int)) (y : Int) (h : u_Divisor fu a0 = some y) : CallOk Try.prog 62 (vals [(a0.length : Int)] [(a0.flatMap enI)]) [.gs 0 0 (.v 0) 1 false] [some (.rows 0 [] 3 true)] 1 (vals [y] []) ((ys 0)) [none] := by
  refine fun_of (nt := 23) (by kernel_rfl) (by kernel_rfl) fun φ0 w0 a w hat => ?_
  have hF := wide_fw
  have hr : Fence.wide.round = none := rfl
  unfold u_Divisor at h
  obtain ⟨o1, ho1, h⟩ := Option.bind_eq_some_iff.1 h
  refine to_loop mixed ⟨[], [], [(0, 1, (.v 0))], [], [], []⟩ (V := (vals [(a0.length : Int)] [(a0.flatMap enI)])) (n := 3000) (f := 3000) (fid := 62) (fun _ => rfl) (V' := (vals [(a0.length : Int), (0 : Int), (a0.length : Int), (0 : Int)] [(a0.flatMap enI)])) ⟨trivial, trivial, ⟨flat_length enI_len _, trivial⟩, trivial, trivial⟩ trivial (T := ⟨[(3, (ys 1)), (6, .gs 0 0 (.v 0) 1 false), (7, (ys 2)), (8, (ys 3))], [some (.rows 0 [] 3 true)], [some (0, 0)]⟩) (B := subAt (bodyOf Try.prog 62) [1, 1, 0, 1, 0, 0]) (K' := [.bk 0, .sq (subAt (bodyOf Try.prog 62) [1, 1, 1]) [1, 1, 1]]) (qs := [.num (.c 0) (.v 1), (ns 0 0), (ns 0 2), .num (.c 0) (.v 3), .lst 0 (some 0) []]) wok0 trivial hF hr (by kernel_rfl) ⟨(r (0 : Int)), (r (a0.length : Int)), (r (a0.length : Int)), (r (0 : Int)), ⟨[], rfl, lnil _⟩, trivial⟩ hat fun aa1 ww1 hat1 => loop_in (u_Divisor_L2_ok fu a0 (a0.length : Int) fu (0 : Int) (0 : Int) o1 ho1 _ _ _ _ _ _ _ hF hr hat1 ?_)
  · intro yy hy aa2 ww2 hat
    subst hy
    show (Wk.out (.exit 0)).goal _ _ _ [.bk 0, .sq (subAt (bodyOf Try.prog 62) [1, 1, 1]) [1, 1, 1]] _ aa2 ww2
    by_cases h2 : o1 < (IntKind.wrap .i64 ((0 : Int) - o1))
    · rw [if_pos h2] at h
      injection h with h; subst h
      exact to_fin mixed ⟨[(.lss, (.v 1), (.sub .i64 (.c 0) (.v 1)), true)], [], [(0, 1, (.v 0))], [], [], []⟩ (V := (vals [(a0.length : Int), o1] [(a0.flatMap enI)])) (n := 3000) (f := 3000) (fid := 62) (fun _ => rfl) ⟨⟨lss_t h2, trivial⟩, trivial, ⟨flat_length enI_len _, trivial⟩, trivial, trivial⟩ trivial (R := ⟨(ys 0), [none], [some (0, 0)]⟩) (qs := [.num (.sub .i64 (.c 0) (.v 1)) (.v 0)]) trivial ⟨rfl, trivial⟩ hF hr (by kernel_rfl) ⟨(show (IntKind.wrap .i64 ((0 : Int) - o1)) = (IntKind.wrap .i64 ((0 : Int) - o1)) from rfl), trivial⟩ hat
    · rw [if_neg h2] at h
      injection h with h; subst h
      exact to_fin mixed ⟨[(.lss, (.v 1), (.sub .i64 (.c 0) (.v 1)), false)], [], [(0, 1, (.v 0))], [], [], []⟩ (V := (vals [(a0.length : Int), o1] [(a0.flatMap enI)])) (n := 3000) (f := 3000) (fid := 62) (fun _ => rfl) ⟨⟨lss_f h2, trivial⟩, trivial, ⟨flat_length enI_len _, trivial⟩, trivial, trivial⟩ trivial (R := ⟨(ys 0), [none], [some (0, 0)]⟩) (qs := [(ns 1 0)]) trivial ⟨rfl, trivial⟩ hF hr (by kernel_rfl) ⟨(r o1), trivial⟩ hat
def w_PredictorOf (fu : Nat) (a0 : List (Int)) : Option (Int × Int × Int × Int) := Option.bind (w_samplesError fu a0) fun r1 => if r1 = (0 : Int) then (Option.bind (w_equations fu a0) fun r3 => Option.bind (w_determinant r3.1 r3.2.1 r3.2.2.1 r3.2.2.2.1 r3.2.2.2.2.1 r3.2.2.2.2.2) fun r4 => if r4 = (0 : Int) then (some ((0 : Int), (0 : Int), (0 : Int), (11 : Int))) else (Option.bind (u_Divisor fu ([(IntKind.wrap .i64 ((IntKind.wrap .i64 (r3.2.2.1 * r3.2.2.2.2.1)) - (IntKind.wrap .i64 (r3.2.2.2.2.2 * r3.2.1)))), (IntKind.wrap .i64 ((IntKind.wrap .i64 (r3.2.2.2.2.2 * r3.1)) - (IntKind.wrap .i64 (r3.2.2.1 * r3.2.2.2.1)))), r4] : List (Int))) fun r6 => if r6 = (0 : Int) then none else (some ((IntKind.wrap .i64 (Int.tdiv (IntKind.wrap .i64 ((IntKind.wrap .i64 (r3.2.2.1 * r3.2.2.2.2.1)) - (IntKind.wrap .i64 (r3.2.2.2.2.2 * r3.2.1)))) r6)), (IntKind.wrap .i64 (Int.tdiv (IntKind.wrap .i64 ((IntKind.wrap .i64 (r3.2.2.2.2.2 * r3.1)) - (IntKind.wrap .i64 (r3.2.2.1 * r3.2.2.2.1)))) r6)), (IntKind.wrap .i64 (Int.tdiv r4 r6)), (0 : Int))))) else (some ((0 : Int), (0 : Int), (0 : Int), r1))
theorem w_PredictorOf_ok (fu : Nat) (a0 : List (Int)) (y : Int × Int × Int × Int) (h : w_PredictorOf fu a0 = some y) : CallOk Try.prog 24 (vals [(a0.length : Int)] [(a0.flatMap enI)]) [.gs 0 0 (.v 0) 1 false] [some (.rows 0 [] 3 true)] 1 (vals [y.1, y.2.1, y.2.2.1, y.2.2.2] []) (.tup [.agg [(ys 0), (ys 1), (ys 2)], (ys 3)]) [none] := by
  refine fun_of (nt := 72) (by kernel_rfl) (by kernel_rfl) fun φ0 w0 a w hat => ?_
  have hF := wide_fw
  have hr : Fence.wide.round = none := rfl
  unfold w_PredictorOf at h
  obtain ⟨r1, hr1, h⟩ := Option.bind_eq_some_iff.1 h
  have Kr1 : KO Try.prog [(a0.length : Int), r1] [(a0.flatMap enI)] ⟨59, 2, [some (0, 0)], [.gs 0 0 (.v 0) 1 false], [some (.rows 0 [] 3 true)], [(ns 0 0), .lst 0 (some 0) []], 1, (ys 0), [none], (ys 1), [], []⟩ := fun N M => ⟨_, _, [(ns 0 1)], ⟨w_samplesError_ok fu a0 r1 hr1, ⟨(r (a0.length : Int)), ⟨[], rfl, lnil _⟩, trivial⟩, by kernel_rfl, ⟨rfl, trivial⟩⟩⟩
  by_cases h2 : r1 = (0 : Int)
  · rw [if_pos h2] at h
    obtain ⟨r3, hr3, h⟩ := Option.bind_eq_some_iff.1 h
    have Kr3 : KO Try.prog [(a0.length : Int), r1, r3.1, r3.2.1, r3.2.2.1, r3.2.2.2.1, r3.2.2.2.2.1, r3.2.2.2.2.2] [(a0.flatMap enI)] ⟨60, 2, [some (0, 0)], [.gs 0 0 (.v 0) 1 false], [some (.rows 0 [] 3 true)], [(ns 0 0), .lst 0 (some 0) []], 1, .agg [(ys 0), (ys 1), (ys 2), (ys 3), (ys 4), (ys 5)], [none], .agg [(ys 2), (ys 3), (ys 4), (ys 5), (ys 6), (ys 7)], [], []⟩ := fun N M => ⟨_, _, [(ns 0 2), (ns 1 3), (ns 2 4), (ns 3 5), (ns 4 6), (ns 5 7)], ⟨w_equations_ok fu a0 r3 hr3, ⟨(r (a0.length : Int)), ⟨[], rfl, lnil _⟩, trivial⟩, by kernel_rfl, ⟨rfl, rfl, rfl, rfl, rfl, rfl, trivial⟩⟩⟩
    obtain ⟨r4, hr4, h⟩ := Option.bind_eq_some_iff.1 h
    have Kr4 : KO Try.prog [(a0.length : Int), r1, r3.1, r3.2.1, r3.2.2.1, r3.2.2.2.1, r3.2.2.2.2.1, r3.2.2.2.2.2, r4] [(a0.flatMap enI)] ⟨61, 3, [], [.agg [(ys 0), (ys 1), (ys 2), (ys 3), (ys 4), (ys 5)]], [], [(ns 2 0), (ns 3 1), (ns 4 2), (ns 5 3), (ns 6 4), (ns 7 5)], 0, (ys 0), [], (ys 8), [], []⟩ := fun N M => ⟨_, _, [(ns 0 8)], ⟨w_determinant_ok r3.1 r3.2.1 r3.2.2.1 r3.2.2.2.1 r3.2.2.2.2.1 r3.2.2.2.2.2 r4 hr4, ⟨(r r3.1), (r r3.2.1), (r r3.2.2.1), (r r3.2.2.2.1), (r r3.2.2.2.2.1), (r r3.2.2.2.2.2), trivial⟩, by kernel_rfl, ⟨rfl, trivial⟩⟩⟩
    by_cases h5 : r4 = (0 : Int)
    · rw [if_pos h5] at h
      injection h with h; subst h
      exact to_fin mixed ⟨[(.neq, (.v 1), (.c 0), false), (.eql, (.v 8), (.c 0), true)], [], [(0, 1, (.v 0))], [⟨59, 2, [some (0, 0)], [.gs 0 0 (.v 0) 1 false], [some (.rows 0 [] 3 true)], [(ns 0 0), .lst 0 (some 0) []], 1, (ys 0), [none], (ys 1), [], []⟩, ⟨60, 2, [some (0, 0)], [.gs 0 0 (.v 0) 1 false], [some (.rows 0 [] 3 true)], [(ns 0 0), .lst 0 (some 0) []], 1, .agg [(ys 0), (ys 1), (ys 2), (ys 3), (ys 4), (ys 5)], [none], .agg [(ys 2), (ys 3), (ys 4), (ys 5), (ys 6), (ys 7)], [], []⟩, ⟨61, 3, [], [.agg [(ys 0), (ys 1), (ys 2), (ys 3), (ys 4), (ys 5)]], [], [(ns 2 0), (ns 3 1), (ns 4 2), (ns 5 3), (ns 6 4), (ns 7 5)], 0, (ys 0), [], (ys 8), [], []⟩], [], []⟩ (V := (vals [(a0.length : Int), r1, r3.1, r3.2.1, r3.2.2.1, r3.2.2.2.1, r3.2.2.2.2.1, r3.2.2.2.2.2, r4] [(a0.flatMap enI)])) (n := 3000) (f := 3000) (fid := 24) (fun _ => rfl) ⟨⟨neq_f h2, eql_t h5, trivial⟩, trivial, ⟨flat_length enI_len _, trivial⟩, trivial, trivial⟩ ⟨Kr1 _ _, Kr3 _ _, Kr4 _ _, trivial⟩ (R := ⟨.tup [.agg [(ys 0), (ys 1), (ys 2)], (ys 3)], [none], [some (0, 0)]⟩) (qs := [.num (.c 0) (.v 0), .num (.c 0) (.v 1), .num (.c 0) (.v 2), .num (.c 11) (.v 3)]) wok0 trivial hF hr (by kernel_rfl) ⟨(r (0 : Int)), (r (0 : Int)), (r (0 : Int)), (r (11 : Int)), trivial⟩ (at_re (V' := (vals [(a0.length : Int), r1, r3.1, r3.2.1, r3.2.2.1, r3.2.2.2.1, r3.2.2.2.2.1, r3.2.2.2.2.2, r4] [(a0.flatMap enI)])) (T := ⟨[(0, .gs 0 0 (.v 0) 1 false)], [some (.rows 0 [] 3 true)], [some (0, 0)]⟩) (qs := [(ns 0 0), .lst 0 (some 0) []]) hat (by kernel_rfl) ⟨rfl, ⟨[], rfl, lnil _⟩, trivial⟩)
    · rw [if_neg h5] at h
      obtain ⟨r6, hr6, h⟩ := Option.bind_eq_some_iff.1 h
      have Kr6 : KO Try.prog [(a0.length : Int), r1, r3.1, r3.2.1, r3.2.2.1, r3.2.2.2.1, r3.2.2.2.2.1, r3.2.2.2.2.2, r4, r6] [(a0.flatMap enI)] ⟨62, 4, [some (3, 0)], [.gs 0 0 (.v 0) 1 false], [some (.rows 0 [] 3 true)], [.num (.c 3) (.v 0), .lst 0 none [.sym .i64 (.sub .i64 (.mul .i64 (.v 4) (.v 6)) (.mul .i64 (.v 7) (.v 3))), .sym .i64 (.sub .i64 (.mul .i64 (.v 7) (.v 2)) (.mul .i64 (.v 4) (.v 5))), (ys 8)]], 1, (ys 0), [none], (ys 9), [], []⟩ := fun N M => ⟨_, _, [(ns 0 9)], ⟨u_Divisor_ok fu ([(IntKind.wrap .i64 ((IntKind.wrap .i64 (r3.2.2.1 * r3.2.2.2.2.1)) - (IntKind.wrap .i64 (r3.2.2.2.2.2 * r3.2.1)))), (IntKind.wrap .i64 ((IntKind.wrap .i64 (r3.2.2.2.2.2 * r3.1)) - (IntKind.wrap .i64 (r3.2.2.1 * r3.2.2.2.1)))), r4] : List (Int)) r6 hr6, ⟨rfl, rfl, trivial⟩, by kernel_rfl, ⟨rfl, trivial⟩⟩⟩
      by_cases h7 : r6 = (0 : Int)
      · rw [if_pos h7] at h
        cases h
      · rw [if_neg h7] at h
        injection h with h; subst h
        exact to_fin mixed ⟨[(.neq, (.v 1), (.c 0), false), (.eql, (.v 8), (.c 0), false), (.eql, (.v 9), (.c 0), false)], [], [(0, 1, (.v 0))], [⟨59, 2, [some (0, 0)], [.gs 0 0 (.v 0) 1 false], [some (.rows 0 [] 3 true)], [(ns 0 0), .lst 0 (some 0) []], 1, (ys 0), [none], (ys 1), [], []⟩, ⟨60, 2, [some (0, 0)], [.gs 0 0 (.v 0) 1 false], [some (.rows 0 [] 3 true)], [(ns 0 0), .lst 0 (some 0) []], 1, .agg [(ys 0), (ys 1), (ys 2), (ys 3), (ys 4), (ys 5)], [none], .agg [(ys 2), (ys 3), (ys 4), (ys 5), (ys 6), (ys 7)], [], []⟩, ⟨61, 3, [], [.agg [(ys 0), (ys 1), (ys 2), (ys 3), (ys 4), (ys 5)]], [], [(ns 2 0), (ns 3 1), (ns 4 2), (ns 5 3), (ns 6 4), (ns 7 5)], 0, (ys 0), [], (ys 8), [], []⟩, ⟨62, 4, [some (3, 0)], [.gs 0 0 (.v 0) 1 false], [some (.rows 0 [] 3 true)], [.num (.c 3) (.v 0), .lst 0 none [.sym .i64 (.sub .i64 (.mul .i64 (.v 4) (.v 6)) (.mul .i64 (.v 7) (.v 3))), .sym .i64 (.sub .i64 (.mul .i64 (.v 7) (.v 2)) (.mul .i64 (.v 4) (.v 5))), (ys 8)]], 1, (ys 0), [none], (ys 9), [], []⟩], [], []⟩ (V := (vals [(a0.length : Int), r1, r3.1, r3.2.1, r3.2.2.1, r3.2.2.2.1, r3.2.2.2.2.1, r3.2.2.2.2.2, r4, r6] [(a0.flatMap enI)])) (n := 3000) (f := 3000) (fid := 24) (fun _ => rfl) ⟨⟨neq_f h2, eql_f h5, eql_f h7, trivial⟩, trivial, ⟨flat_length enI_len _, trivial⟩, trivial, trivial⟩ ⟨Kr1 _ _, Kr3 _ _, Kr4 _ _, Kr6 _ _, trivial⟩ (R := ⟨.tup [.agg [(ys 0), (ys 1), (ys 2)], (ys 3)], [none], [some (0, 0)]⟩) (qs := [.num (.quo .i64 (.sub .i64 (.mul .i64 (.v 4) (.v 6)) (.mul .i64 (.v 7) (.v 3))) (.v 9)) (.v 0), .num (.quo .i64 (.sub .i64 (.mul .i64 (.v 7) (.v 2)) (.mul .i64 (.v 4) (.v 5))) (.v 9)) (.v 1), .num (.quo .i64 (.v 8) (.v 9)) (.v 2), .num (.c 0) (.v 3)]) wok0 trivial hF hr (by kernel_rfl) ⟨(show (IntKind.wrap .i64 (Int.tdiv (IntKind.wrap .i64 ((IntKind.wrap .i64 (r3.2.2.1 * r3.2.2.2.2.1)) - (IntKind.wrap .i64 (r3.2.2.2.2.2 * r3.2.1)))) r6)) = (IntKind.wrap .i64 (Int.tdiv (IntKind.wrap .i64 ((IntKind.wrap .i64 (r3.2.2.1 * r3.2.2.2.2.1)) - (IntKind.wrap .i64 (r3.2.2.2.2.2 * r3.2.1)))) r6)) from rfl), (show (IntKind.wrap .i64 (Int.tdiv (IntKind.wrap .i64 ((IntKind.wrap .i64 (r3.2.2.2.2.2 * r3.1)) - (IntKind.wrap .i64 (r3.2.2.1 * r3.2.2.2.1)))) r6)) = (IntKind.wrap .i64 (Int.tdiv (IntKind.wrap .i64 ((IntKind.wrap .i64 (r3.2.2.2.2.2 * r3.1)) - (IntKind.wrap .i64 (r3.2.2.1 * r3.2.2.2.1)))) r6)) from rfl), (r (IntKind.wrap .i64 (Int.tdiv r4 r6))), (r (0 : Int)), trivial⟩ (at_re (V' := (vals [(a0.length : Int), r1, r3.1, r3.2.1, r3.2.2.1, r3.2.2.2.1, r3.2.2.2.2.1, r3.2.2.2.2.2, r4, r6] [(a0.flatMap enI)])) (T := ⟨[(0, .gs 0 0 (.v 0) 1 false)], [some (.rows 0 [] 3 true)], [some (0, 0)]⟩) (qs := [(ns 0 0), .lst 0 (some 0) []]) hat (by kernel_rfl) ⟨rfl, ⟨[], rfl, lnil _⟩, trivial⟩)
  · rw [if_neg h2] at h
    injection h with h; subst h
    exact to_fin mixed ⟨[(.neq, (.v 1), (.c 0), true)], [], [(0, 1, (.v 0))], [⟨59, 2, [some (0, 0)], [.gs 0 0 (.v 0) 1 false], [some (.rows 0 [] 3 true)], [(ns 0 0), .lst 0 (some 0) []], 1, (ys 0), [none], (ys 1), [], []⟩], [], []⟩ (V := (vals [(a0.length : Int), r1] [(a0.flatMap enI)])) (n := 3000) (f := 3000) (fid := 24) (fun _ => rfl) ⟨⟨neq_t h2, trivial⟩, trivial, ⟨flat_length enI_len _, trivial⟩, trivial, trivial⟩ ⟨Kr1 _ _, trivial⟩ (R := ⟨.tup [.agg [(ys 0), (ys 1), (ys 2)], (ys 3)], [none], [some (0, 0)]⟩) (qs := [.num (.c 0) (.v 0), .num (.c 0) (.v 1), .num (.c 0) (.v 2), (ns 1 3)]) wok0 trivial hF hr (by kernel_rfl) ⟨(r (0 : Int)), (r (0 : Int)), (r (0 : Int)), (r r1), trivial⟩ (at_re (V' := (vals [(a0.length : Int), r1] [(a0.flatMap enI)])) (T := ⟨[(0, .gs 0 0 (.v 0) 1 false)], [some (.rows 0 [] 3 true)], [some (0, 0)]⟩) (qs := [(ns 0 0), .lst 0 (some 0) []]) hat (by kernel_rfl) ⟨rfl, ⟨[], rfl, lnil _⟩, trivial⟩)
def w_rows_1_2_L1 (fu : Nat) (p0 : List (Int)) (p1 : Int) (p2 : Int) (p3 : Int) (p5 : Int) : Nat → Int → Int → Option ((Int))
  | 0, _, _ => none
  | n + 1, v4, v6 => if v6 < p5 then (if (0 : Int) ≤ (IntKind.wrap .i64 (v6 + (2 : Int))) then (if (IntKind.wrap .i64 (v6 + (2 : Int))) < (p0.length : Int) then (Option.bind ((p0)[0 + ((IntKind.wrap .i64 (v6 + (2 : Int)))).toNat]?) fun e4 => if (0 : Int) ≤ (IntKind.wrap .i64 (v6 + (1 : Int))) then (if (IntKind.wrap .i64 (v6 + (1 : Int))) < (p0.length : Int) then (Option.bind ((p0)[0 + ((IntKind.wrap .i64 (v6 + (1 : Int)))).toNat]?) fun e7 => if (0 : Int) ≤ v6 then (if v6 < (p0.length : Int) then (Option.bind ((p0)[0 + (v6).toNat]?) fun e10 => w_rows_1_2_L1 fu p0 p1 p2 p3 p5 n (IntKind.wrap .i64 (v4 + (IntKind.wrap .i64 (e4 * (IntKind.wrap .i64 ((IntKind.wrap .i64 ((IntKind.wrap .i64 (p3 * e4)) - (IntKind.wrap .i64 (p1 * e7)))) - (IntKind.wrap .i64 (p2 * e10)))))))) (IntKind.wrap .i64 (v6 + (1 : Int)))) else none) else none) else none) else none) else none) else none) else (some v4)
theorem w_rows_1_2_L1_ok (fu : Nat) (p0 : List (Int)) (p1 : Int) (p2 : Int) (p3 : Int) (p5 : Int) : ∀ (n : Nat) (v4 : Int) (v6 : Int) (o : (Int)), w_rows_1_2_L1 fu p0 p1 p2 p3 p5 n v4 v6 = some o → ∀ (φ0 : Phi) (w0 : World) (F : Fence) (k : Nat) (R : Exit → Act → World → Prop) (a : Act) (w : World), FW F → F.round = none → AtS (vals [(p0.length : Int), p1, p2, p3, v4, p5, v6] [(p0.flatMap enI)]) [(0, .yield 2), (1, .ptr 5 0), (6, (ys 5)), (7, (ys 6))] [none, some (.rows 0 [] 3 true), some (.loop .ready none (slotsT [(4, .ptr 3 0), (6, .ptr 4 0)]) 46 [20, 21] (25, [0, 1, 0, 1, 1, 1, 1]) 0), some (.cells [(ys 1), (ys 2), (ys 3)] 60 false), some (.cells [(ys 4)] 3 false), some (.cells [.gs 1 0 (.v 0) 1 false] 28 false)] 29 6 2 φ0 w0 a w → (∀ (y : Int), o = y → ∀ a' w', AtS (vals [(p0.length : Int), p1, p2, p3, y] [(p0.flatMap enI)]) [] [none, some (.rows 0 [] 3 true), some (.loop .ready none (slotsT [(4, .ptr 3 0), (6, .ptr 4 0)]) 46 [20, 21] (25, [0, 1, 0, 1, 1, 1, 1]) 0), some (.cells [(ys 1), (ys 2), (ys 3)] 60 false), some (.cells [(ys 4)] 3 false), some (.cells [.gs 1 0 (.v 0) 1 false] 28 false)] 29 6 2 φ0 w0 a' w' → R (Exit.exit 0) a' w') → Code.roundsIn F k Try.prog (subAt (bodyOf Try.prog 103) [1, 0, 0]) R n a w
  | 0, _, _, _, h => by cases h
  | n + 1, v4, v6, o, h => by
    intro φ0 w0 F k R a w hF hr hat hx0
    rw [w_rows_1_2_L1] at h
    refine rounds_in (p := [1, 0, 0]) ?_
    by_cases h1 : v6 < p5
    · rw [if_pos h1] at h
      by_cases h2 : (0 : Int) ≤ (IntKind.wrap .i64 (v6 + (2 : Int)))
      · rw [if_pos h2] at h
        by_cases h3 : (IntKind.wrap .i64 (v6 + (2 : Int))) < (p0.length : Int)
        · rw [if_pos h3] at h
          obtain ⟨e4, he4, h⟩ := Option.bind_eq_some_iff.1 h
          by_cases h5 : (0 : Int) ≤ (IntKind.wrap .i64 (v6 + (1 : Int)))
          · rw [if_pos h5] at h
            by_cases h6 : (IntKind.wrap .i64 (v6 + (1 : Int))) < (p0.length : Int)
            · rw [if_pos h6] at h
              obtain ⟨e7, he7, h⟩ := Option.bind_eq_some_iff.1 h
              by_cases h8 : (0 : Int) ≤ v6
              · rw [if_pos h8] at h
                by_cases h9 : v6 < (p0.length : Int)
                · rw [if_pos h9] at h
                  obtain ⟨e10, he10, h⟩ := Option.bind_eq_some_iff.1 h
                  refine to_done mixed ⟨[(.lss, (.v 6), (.v 5), true), (.leq, (.c 0), (.add .i64 (.v 6) (.c 2)), true), (.lss, (.add .i64 (.v 6) (.c 2)), (.v 0), true), (.leq, (.c 0), (.add .i64 (.v 6) (.c 1)), true), (.lss, (.add .i64 (.v 6) (.c 1)), (.v 0), true), (.leq, (.c 0), (.v 6), true), (.lss, (.v 6), (.v 0), true)], [(0, 0, (.add .i64 (.v 6) (.c 2)), [(ys 7)]), (0, 0, (.add .i64 (.v 6) (.c 1)), [(ys 8)]), (0, 0, (.v 6), [(ys 9)])], [(0, 1, (.v 0))], [], [], []⟩ (V := (vals [(p0.length : Int), p1, p2, p3, v4, p5, v6, e4, e7, e10] [(p0.flatMap enI)])) (n := 3000) (f := 3000) (fid := 103) (fun _ => rfl) (V' := (vals [(p0.length : Int), p1, p2, p3, (IntKind.wrap .i64 (v4 + (IntKind.wrap .i64 (e4 * (IntKind.wrap .i64 ((IntKind.wrap .i64 ((IntKind.wrap .i64 (p3 * e4)) - (IntKind.wrap .i64 (p1 * e7)))) - (IntKind.wrap .i64 (p2 * e10)))))))), p5, (IntKind.wrap .i64 (v6 + (1 : Int)))] [(p0.flatMap enI)])) ⟨⟨lss_t h1, leq_t h2, lss_t h3, leq_t h5, lss_t h6, leq_t h8, lss_t h9, trivial⟩, ⟨⟨h2, _, rfl, flat_row enI_len he4⟩, ⟨h5, _, rfl, flat_row enI_len he7⟩, ⟨h8, _, rfl, flat_row enI_len he10⟩, trivial⟩, ⟨flat_length enI_len _, trivial⟩, trivial, trivial⟩ trivial (T := ⟨[(0, .yield 2), (1, .ptr 5 0), (6, (ys 5)), (7, (ys 6))], [none, some (.rows 0 [] 3 true), some (.loop .ready none (slotsT [(4, .ptr 3 0), (6, .ptr 4 0)]) 46 [20, 21] (25, [0, 1, 0, 1, 1, 1, 1]) 0), some (.cells [(ys 1), (ys 2), (ys 3)] 60 false), some (.cells [(ys 4)] 3 false), some (.cells [.gs 1 0 (.v 0) 1 false] 28 false)], [some (0, 0), some (1, 0), some (2, 0), some (3, 0), some (4, 0), some (5, 0)]⟩) (ce := .normal) (qs := [(ns 5 5), .num (.add .i64 (.v 6) (.c 1)) (.v 6), .lst 0 (some 0) [], .cod (25, [0, 1, 0, 1, 1, 1, 1]), (ns 1 1), (ns 2 2), (ns 3 3), .num (.add .i64 (.v 4) (.mul .i64 (.v 7) (.sub .i64 (.sub .i64 (.mul .i64 (.v 3) (.v 7)) (.mul .i64 (.v 1) (.v 8))) (.mul .i64 (.v 2) (.v 9))))) (.v 4), (ns 0 0)]) rfl trivial hF hr (by kernel_rfl) ⟨(r p5), (r (IntKind.wrap .i64 (v6 + (1 : Int)))), ⟨[], rfl, lnil _⟩, rfl, (r p1), (r p2), (r p3), (show (IntKind.wrap .i64 (v4 + (IntKind.wrap .i64 (e4 * (IntKind.wrap .i64 ((IntKind.wrap .i64 ((IntKind.wrap .i64 (p3 * e4)) - (IntKind.wrap .i64 (p1 * e7)))) - (IntKind.wrap .i64 (p2 * e10)))))))) = (IntKind.wrap .i64 (v4 + (IntKind.wrap .i64 (e4 * (IntKind.wrap .i64 ((IntKind.wrap .i64 ((IntKind.wrap .i64 (p3 * e4)) - (IntKind.wrap .i64 (p1 * e7)))) - (IntKind.wrap .i64 (p2 * e10)))))))) from rfl), (r (p0.length : Int)), trivial⟩ (at_re (V' := (vals [(p0.length : Int), p1, p2, p3, v4, p5, v6, e4, e7, e10] [(p0.flatMap enI)])) (T := ⟨[(0, .yield 2), (1, .ptr 5 0), (6, (ys 5)), (7, (ys 6))], [none, some (.rows 0 [] 3 true), some (.loop .ready none (slotsT [(4, .ptr 3 0), (6, .ptr 4 0)]) 46 [20, 21] (25, [0, 1, 0, 1, 1, 1, 1]) 0), some (.cells [(ys 1), (ys 2), (ys 3)] 60 false), some (.cells [(ys 4)] 3 false), some (.cells [.gs 1 0 (.v 0) 1 false] 28 false)], [some (0, 0), some (1, 0), some (2, 0), some (3, 0), some (4, 0), some (5, 0)]⟩) (qs := [(ns 5 5), (ns 6 6), .lst 0 (some 0) [], .cod (25, [0, 1, 0, 1, 1, 1, 1]), (ns 1 1), (ns 2 2), (ns 3 3), (ns 4 4), (ns 0 0)]) hat (by kernel_rfl) ⟨rfl, rfl, ⟨[], rfl, lnil _⟩, rfl, rfl, rfl, rfl, rfl, rfl, trivial⟩) fun a' w' hat' => ?_
                  exact w_rows_1_2_L1_ok fu p0 p1 p2 p3 p5 n (IntKind.wrap .i64 (v4 + (IntKind.wrap .i64 (e4 * (IntKind.wrap .i64 ((IntKind.wrap .i64 ((IntKind.wrap .i64 (p3 * e4)) - (IntKind.wrap .i64 (p1 * e7)))) - (IntKind.wrap .i64 (p2 * e10)))))))) (IntKind.wrap .i64 (v6 + (1 : Int))) o h _ _ _ _ _ _ _ hF hr hat' hx0
                · rw [if_neg h9] at h
                  cases h
              · rw [if_neg h8] at h
                cases h
            · rw [if_neg h6] at h
              cases h
          · rw [if_neg h5] at h
            cases h
        · rw [if_neg h3] at h
          cases h
      · rw [if_neg h2] at h
        cases h
    · rw [if_neg h1] at h
      injection h with h; subst h
      exact to_done mixed ⟨[(.lss, (.v 6), (.v 5), false)], [], [(0, 1, (.v 0))], [], [], []⟩ (V := (vals [(p0.length : Int), p1, p2, p3, v4, p5, v6] [(p0.flatMap enI)])) (n := 3000) (f := 3000) (fid := 103) (fun _ => rfl) (V' := (vals [(p0.length : Int), p1, p2, p3, v4] [(p0.flatMap enI)])) ⟨⟨lss_f h1, trivial⟩, trivial, ⟨flat_length enI_len _, trivial⟩, trivial, trivial⟩ trivial (T := ⟨[], [none, some (.rows 0 [] 3 true), some (.loop .ready none (slotsT [(4, .ptr 3 0), (6, .ptr 4 0)]) 46 [20, 21] (25, [0, 1, 0, 1, 1, 1, 1]) 0), some (.cells [(ys 1), (ys 2), (ys 3)] 60 false), some (.cells [(ys 4)] 3 false), some (.cells [.gs 1 0 (.v 0) 1 false] 28 false)], [some (0, 0), some (1, 0), some (2, 0), some (3, 0), some (4, 0), some (5, 0)]⟩) (ce := (.exit 0)) (qs := [.lst 0 (some 0) [], .cod (25, [0, 1, 0, 1, 1, 1, 1]), (ns 1 1), (ns 2 2), (ns 3 3), (ns 4 4), (ns 0 0)]) rfl trivial hF hr (by kernel_rfl) ⟨⟨[], rfl, lnil _⟩, rfl, (r p1), (r p2), (r p3), (r v4), (r (p0.length : Int)), trivial⟩ hat fun a' w' hat' => hx0 v4 rfl a' w' hat'
def w_rows_1_2 (fu : Nat) (a0_4_0 : Int) (a0_4_1 : Int) (a0_4_2 : Int) (a0_6_0 : Int) (a1_0 : List (Int)) : Option (Int) := Option.bind (w_rows_1_2_L1 fu a1_0 a0_4_0 a0_4_1 a0_4_2 (IntKind.wrap .i64 ((a1_0.length : Int) - (2 : Int))) fu a0_6_0 (0 : Int)) fun o1 => some o1
theorem w_rows_1_2_ok (fu : Nat) (a0_4_0 : Int) (a0_4_1 : Int) (a0_4_2 : Int) (a0_6_0 : Int) (a1_0 : List (Int)) (y : Int) (h : w_rows_1_2 fu a0_4_0 a0_4_1 a0_4_2 a0_6_0 a1_0 = some y) : CallOk Try.prog 103 (vals [a0_4_0, a0_4_1, a0_4_2, a0_6_0, (a1_0.length : Int)] [(a1_0.flatMap enI)]) [.yield 2, .ptr 5 0] [none, some (.rows 0 [] 3 true), some (.loop .ready none (slotsT [(4, .ptr 3 0), (6, .ptr 4 0)]) 46 [20, 21] (25, [0, 1, 0, 1, 1, 1, 1]) 0), some (.cells [(ys 0), (ys 1), (ys 2)] 60 false), some (.cells [(ys 3)] 3 false), some (.cells [.gs 1 0 (.v 4) 1 false] 28 false)] 2 (vals [a0_4_0, a0_4_1, a0_4_2, y, (a1_0.length : Int)] []) (.tup []) [none, none, some (.loop .ready none (slotsT [(4, .ptr 3 0), (6, .ptr 4 0)]) 46 [20, 21] (25, [0, 1, 0, 1, 1, 1, 1]) 0), some (.cells [(ys 0), (ys 1), (ys 2)] 60 false), some (.cells [(ys 3)] 3 false), some (.cells [.gs 1 0 (.v 4) 1 false] 28 false)] := by
  refine fun_of (nt := 29) (by kernel_rfl) (by kernel_rfl) fun φ0 w0 a w hat => ?_
  have hF := wide_fw
  have hr : Fence.wide.round = none := rfl
  unfold w_rows_1_2 at h
  obtain ⟨o1, ho1, h⟩ := Option.bind_eq_some_iff.1 h
  refine to_loop mixed ⟨[], [], [(0, 1, (.v 4))], [], [], []⟩ (V := (vals [a0_4_0, a0_4_1, a0_4_2, a0_6_0, (a1_0.length : Int)] [(a1_0.flatMap enI)])) (n := 3000) (f := 3000) (fid := 103) (fun _ => rfl) (V' := (vals [(a1_0.length : Int), a0_4_0, a0_4_1, a0_4_2, a0_6_0, (IntKind.wrap .i64 ((a1_0.length : Int) - (2 : Int))), (0 : Int)] [(a1_0.flatMap enI)])) ⟨trivial, trivial, ⟨flat_length enI_len _, trivial⟩, trivial, trivial⟩ trivial (T := ⟨[(0, .yield 2), (1, .ptr 5 0), (6, (ys 5)), (7, (ys 6))], [none, some (.rows 0 [] 3 true), some (.loop .ready none (slotsT [(4, .ptr 3 0), (6, .ptr 4 0)]) 46 [20, 21] (25, [0, 1, 0, 1, 1, 1, 1]) 0), some (.cells [(ys 1), (ys 2), (ys 3)] 60 false), some (.cells [(ys 4)] 3 false), some (.cells [.gs 1 0 (.v 0) 1 false] 28 false)], [some (0, 0), some (1, 0), some (2, 0), some (3, 0), some (4, 0), some (5, 0)]⟩) (B := subAt (bodyOf Try.prog 103) [1, 0, 0]) (K' := [.bk 0]) (qs := [.num (.sub .i64 (.v 4) (.c 2)) (.v 5), .num (.c 0) (.v 6), .lst 0 (some 0) [], .cod (25, [0, 1, 0, 1, 1, 1, 1]), (ns 0 1), (ns 1 2), (ns 2 3), (ns 3 4), (ns 4 0)]) wok0 trivial hF hr (by kernel_rfl) ⟨(show (IntKind.wrap .i64 ((a1_0.length : Int) - (2 : Int))) = (IntKind.wrap .i64 ((a1_0.length : Int) - (2 : Int))) from rfl), (r (0 : Int)), ⟨[], rfl, lnil _⟩, rfl, (r a0_4_0), (r a0_4_1), (r a0_4_2), (r a0_6_0), (r (a1_0.length : Int)), trivial⟩ hat fun aa1 ww1 hat1 => loop_in (w_rows_1_2_L1_ok fu a1_0 a0_4_0 a0_4_1 a0_4_2 (IntKind.wrap .i64 ((a1_0.length : Int) - (2 : Int))) fu a0_6_0 (0 : Int) o1 ho1 _ _ _ _ _ _ _ hF hr hat1 ?_)
  · intro yy hy aa2 ww2 hat
    subst hy
    show (Wk.out (.exit 0)).goal _ _ _ [.bk 0] _ aa2 ww2
    injection h with h; subst h
    exact to_fin mixed ⟨[], [], [(0, 1, (.v 0))], [], [], []⟩ (V := (vals [(a1_0.length : Int), a0_4_0, a0_4_1, a0_4_2, o1] [(a1_0.flatMap enI)])) (n := 3000) (f := 3000) (fid := 103) (fun _ => rfl) ⟨trivial, trivial, ⟨flat_length enI_len _, trivial⟩, trivial, trivial⟩ trivial (R := ⟨.tup [], [none, none, some (.loop .ready none (slotsT [(4, .ptr 3 0), (6, .ptr 4 0)]) 46 [20, 21] (25, [0, 1, 0, 1, 1, 1, 1]) 0), some (.cells [(ys 0), (ys 1), (ys 2)] 60 false), some (.cells [(ys 3)] 3 false), some (.cells [.gs 1 0 (.v 4) 1 false] 28 false)], [some (0, 0), some (1, 0), some (2, 0), some (3, 0), some (4, 0), some (5, 0)]⟩) (qs := [.cod (25, [0, 1, 0, 1, 1, 1, 1]), (ns 1 0), (ns 2 1), (ns 3 2), (ns 4 3), (ns 0 4)]) trivial trivial hF hr (by kernel_rfl) ⟨rfl, (r a0_4_0), (r a0_4_1), (r a0_4_2), (r o1), (r (a1_0.length : Int)), trivial⟩ hat
def u_Lowest (fu : Nat) (a0 : Int) (a1 : Int) : Option (Int × Int) := Option.bind (u_Divisor fu ([a0, a1] : List (Int))) fun r1 => if r1 = (0 : Int) then none else (some ((IntKind.wrap .i64 (Int.tdiv a0 r1)), (IntKind.wrap .i64 (Int.tdiv a1 r1))))
theorem u_Lowest_ok (fu : Nat) (a0 : Int) (a1 : Int) (y : Int × Int) (h : u_Lowest fu a0 a1 = some y) : CallOk Try.prog 64 (vals [a0, a1] []) [(ys 0), (ys 1)] [] 0 (vals [y.1, y.2] []) (.agg [(ys 0), (ys 1)]) [] := by
  refine fun_of (nt := 17) (by kernel_rfl) (by kernel_rfl) fun φ0 w0 a w hat => ?_
  have hF := wide_fw
  have hr : Fence.wide.round = none := rfl
  unfold u_Lowest at h
  obtain ⟨r1, hr1, h⟩ := Option.bind_eq_some_iff.1 h
  have Kr1 : KO Try.prog [a0, a1, r1] [] ⟨62, 2, [some (1, 0)], [.gs 0 0 (.v 0) 1 false], [some (.rows 0 [] 3 true)], [.num (.c 2) (.v 0), .lst 0 none [(ys 0), (ys 1)]], 1, (ys 0), [none], (ys 2), [], []⟩ := fun N M => ⟨_, _, [(ns 0 2)], ⟨u_Divisor_ok fu ([a0, a1] : List (Int)) r1 hr1, ⟨rfl, rfl, trivial⟩, by kernel_rfl, ⟨rfl, trivial⟩⟩⟩
  by_cases h2 : r1 = (0 : Int)
  · rw [if_pos h2] at h
    cases h
  · rw [if_neg h2] at h
    injection h with h; subst h
    exact to_fin mixed ⟨[(.eql, (.v 2), (.c 0), false)], [], [], [⟨62, 2, [some (1, 0)], [.gs 0 0 (.v 0) 1 false], [some (.rows 0 [] 3 true)], [.num (.c 2) (.v 0), .lst 0 none [(ys 0), (ys 1)]], 1, (ys 0), [none], (ys 2), [], []⟩], [], []⟩ (V := (vals [a0, a1, r1] [])) (n := 3000) (f := 3000) (fid := 64) (fun _ => rfl) ⟨⟨eql_f h2, trivial⟩, trivial, trivial, trivial, trivial⟩ ⟨Kr1 _ _, trivial⟩ (R := ⟨.agg [(ys 0), (ys 1)], [], []⟩) (qs := [.num (.quo .i64 (.v 0) (.v 2)) (.v 0), .num (.quo .i64 (.v 1) (.v 2)) (.v 1)]) wok0 trivial hF hr (by kernel_rfl) ⟨(r (IntKind.wrap .i64 (Int.tdiv a0 r1))), (r (IntKind.wrap .i64 (Int.tdiv a1 r1))), trivial⟩ (at_re (V' := (vals [a0, a1, r1] [])) (T := ⟨[(0, (ys 0)), (1, (ys 1))], [], []⟩) (qs := [(ns 0 0), (ns 1 1)]) hat (by kernel_rfl) ⟨rfl, rfl, trivial⟩)
def w_ResidualOf (fu : Nat) (a0 : List (Int)) : Option (Int × Int × Int) := Option.bind (w_PredictorOf fu a0) fun r1 => if r1.2.2.2 = (0 : Int) then (Option.bind (w_rows_1_2 fu r1.1 r1.2.1 r1.2.2.1 (0 : Int) a0) fun r3 => Option.bind (u_Lowest fu r3 r1.2.2.1) fun r4 => some (r4.1, r4.2, (0 : Int))) else (some ((0 : Int), (0 : Int), r1.2.2.2))
theorem w_ResidualOf_ok (fu : Nat) (a0 : List (Int)) (y : Int × Int × Int) (h : w_ResidualOf fu a0 = some y) : CallOk Try.prog 25 (vals [(a0.length : Int)] [(a0.flatMap enI)]) [.gs 0 0 (.v 0) 1 false] [some (.rows 0 [] 3 true)] 1 (vals [y.1, y.2.1, y.2.2] []) (.tup [.agg [(ys 0), (ys 1)], (ys 2)]) [none] := by
  refine fun_of (nt := 46) (by kernel_rfl) (by kernel_rfl) fun φ0 w0 a w hat => ?_
  have hF := wide_fw
  have hr : Fence.wide.round = none := rfl
  unfold w_ResidualOf at h
  obtain ⟨r1, hr1, h⟩ := Option.bind_eq_some_iff.1 h
  have Kr1 : KO Try.prog [(a0.length : Int), r1.1, r1.2.1, r1.2.2.1, r1.2.2.2] [(a0.flatMap enI)] ⟨24, 2, [some (0, 0)], [.gs 0 0 (.v 0) 1 false], [some (.rows 0 [] 3 true)], [(ns 0 0), .lst 0 (some 0) []], 1, .tup [.agg [(ys 0), (ys 1), (ys 2)], (ys 3)], [none], .tup [.agg [(ys 1), (ys 2), (ys 3)], (ys 4)], [], []⟩ := fun N M => ⟨_, _, [(ns 0 1), (ns 1 2), (ns 2 3), (ns 3 4)], ⟨w_PredictorOf_ok fu a0 r1 hr1, ⟨(r (a0.length : Int)), ⟨[], rfl, lnil _⟩, trivial⟩, by kernel_rfl, ⟨rfl, rfl, rfl, rfl, trivial⟩⟩⟩
  by_cases h2 : r1.2.2.2 = (0 : Int)
  · rw [if_pos h2] at h
    obtain ⟨r3, hr3, h⟩ := Option.bind_eq_some_iff.1 h
    have Kr3 : KO Try.prog [(a0.length : Int), r1.1, r1.2.1, r1.2.2.1, r1.2.2.2, r3] [(a0.flatMap enI)] ⟨103, 7, [some (5, 0), some (0, 0), some (6, 0), some (2, 0), some (3, 0), some (4, 0)], [.yield 2, .ptr 5 0], [none, some (.rows 0 [] 3 true), some (.loop .ready none (slotsT [(4, .ptr 3 0), (6, .ptr 4 0)]) 46 [20, 21] (25, [0, 1, 0, 1, 1, 1, 1]) 0), some (.cells [(ys 0), (ys 1), (ys 2)] 60 false), some (.cells [(ys 3)] 3 false), some (.cells [.gs 1 0 (.v 4) 1 false] 28 false)], [.lst 0 (some 0) [], .cod (25, [0, 1, 0, 1, 1, 1, 1]), (ns 1 0), (ns 2 1), (ns 3 2), .num (.c 0) (.v 3), (ns 0 4)], 2, .tup [], [none, none, some (.loop .ready none (slotsT [(4, .ptr 3 0), (6, .ptr 4 0)]) 46 [20, 21] (25, [0, 1, 0, 1, 1, 1, 1]) 0), some (.cells [(ys 0), (ys 1), (ys 2)] 60 false), some (.cells [(ys 3)] 3 false), some (.cells [.gs 1 0 (.v 4) 1 false] 28 false)], .tup [], [], [(6, some (.loop .ready none (slotsT [(4, .ptr 2 0), (6, .ptr 3 0)]) 46 [20, 21] (25, [0, 1, 0, 1, 1, 1, 1]) 5)), (2, some (.cells [(ys 1), (ys 2), (ys 3)] 60 false)), (3, some (.cells [(ys 5)] 3 false)), (4, some (.cells [.gs 0 0 (.v 0) 1 false] 28 false))]⟩ := fun N M => ⟨_, _, [.cod (25, [0, 1, 0, 1, 1, 1, 1]), (ns 0 1), (ns 1 2), (ns 2 3), (ns 3 5), (ns 4 0)], ⟨w_rows_1_2_ok fu r1.1 r1.2.1 r1.2.2.1 (0 : Int) a0 r3 hr3, ⟨⟨[], rfl, lnil _⟩, rfl, (r r1.1), (r r1.2.1), (r r1.2.2.1), (r (0 : Int)), (r (a0.length : Int)), trivial⟩, by kernel_rfl, ⟨rfl, rfl, rfl, rfl, rfl, rfl, trivial⟩⟩⟩
    obtain ⟨r4, hr4, h⟩ := Option.bind_eq_some_iff.1 h
    have Kr4 : KO Try.prog [(a0.length : Int), r1.1, r1.2.1, r1.2.2.1, r1.2.2.2, r3, r4.1, r4.2] [(a0.flatMap enI)] ⟨64, 7, [], [(ys 0), (ys 1)], [], [(ns 5 0), (ns 3 1)], 0, .agg [(ys 0), (ys 1)], [], .agg [(ys 6), (ys 7)], [], []⟩ := fun N M => ⟨_, _, [(ns 0 6), (ns 1 7)], ⟨u_Lowest_ok fu r3 r1.2.2.1 r4 hr4, ⟨(r r3), (r r1.2.2.1), trivial⟩, by kernel_rfl, ⟨rfl, rfl, trivial⟩⟩⟩
    injection h with h; subst h
    exact to_fin mixed ⟨[(.neq, (.v 4), (.c 0), false)], [], [(0, 1, (.v 0))], [⟨24, 2, [some (0, 0)], [.gs 0 0 (.v 0) 1 false], [some (.rows 0 [] 3 true)], [(ns 0 0), .lst 0 (some 0) []], 1, .tup [.agg [(ys 0), (ys 1), (ys 2)], (ys 3)], [none], .tup [.agg [(ys 1), (ys 2), (ys 3)], (ys 4)], [], []⟩, ⟨103, 7, [some (5, 0), some (0, 0), some (6, 0), some (2, 0), some (3, 0), some (4, 0)], [.yield 2, .ptr 5 0], [none, some (.rows 0 [] 3 true), some (.loop .ready none (slotsT [(4, .ptr 3 0), (6, .ptr 4 0)]) 46 [20, 21] (25, [0, 1, 0, 1, 1, 1, 1]) 0), some (.cells [(ys 0), (ys 1), (ys 2)] 60 false), some (.cells [(ys 3)] 3 false), some (.cells [.gs 1 0 (.v 4) 1 false] 28 false)], [.lst 0 (some 0) [], .cod (25, [0, 1, 0, 1, 1, 1, 1]), (ns 1 0), (ns 2 1), (ns 3 2), .num (.c 0) (.v 3), (ns 0 4)], 2, .tup [], [none, none, some (.loop .ready none (slotsT [(4, .ptr 3 0), (6, .ptr 4 0)]) 46 [20, 21] (25, [0, 1, 0, 1, 1, 1, 1]) 0), some (.cells [(ys 0), (ys 1), (ys 2)] 60 false), some (.cells [(ys 3)] 3 false), some (.cells [.gs 1 0 (.v 4) 1 false] 28 false)], .tup [], [], [(6, some (.loop .ready none (slotsT [(4, .ptr 2 0), (6, .ptr 3 0)]) 46 [20, 21] (25, [0, 1, 0, 1, 1, 1, 1]) 5)), (2, some (.cells [(ys 1), (ys 2), (ys 3)] 60 false)), (3, some (.cells [(ys 5)] 3 false)), (4, some (.cells [.gs 0 0 (.v 0) 1 false] 28 false))]⟩, ⟨64, 7, [], [(ys 0), (ys 1)], [], [(ns 5 0), (ns 3 1)], 0, .agg [(ys 0), (ys 1)], [], .agg [(ys 6), (ys 7)], [], []⟩], [], []⟩ (V := (vals [(a0.length : Int), r1.1, r1.2.1, r1.2.2.1, r1.2.2.2, r3, r4.1, r4.2] [(a0.flatMap enI)])) (n := 3000) (f := 3000) (fid := 25) (fun _ => rfl) ⟨⟨neq_f h2, trivial⟩, trivial, ⟨flat_length enI_len _, trivial⟩, trivial, trivial⟩ ⟨Kr1 _ _, Kr3 _ _, Kr4 _ _, trivial⟩ (R := ⟨.tup [.agg [(ys 0), (ys 1)], (ys 2)], [none], [some (0, 0)]⟩) (qs := [(ns 6 0), (ns 7 1), .num (.c 0) (.v 2)]) wok0 trivial hF hr (by kernel_rfl) ⟨(r r4.1), (r r4.2), (r (0 : Int)), trivial⟩ (at_re (V' := (vals [(a0.length : Int), r1.1, r1.2.1, r1.2.2.1, r1.2.2.2, r3, r4.1, r4.2] [(a0.flatMap enI)])) (T := ⟨[(0, .gs 0 0 (.v 0) 1 false)], [some (.rows 0 [] 3 true)], [some (0, 0)]⟩) (qs := [(ns 0 0), .lst 0 (some 0) []]) hat (by kernel_rfl) ⟨rfl, ⟨[], rfl, lnil _⟩, trivial⟩)
  · rw [if_neg h2] at h
    injection h with h; subst h
    exact to_fin mixed ⟨[(.neq, (.v 4), (.c 0), true)], [], [(0, 1, (.v 0))], [⟨24, 2, [some (0, 0)], [.gs 0 0 (.v 0) 1 false], [some (.rows 0 [] 3 true)], [(ns 0 0), .lst 0 (some 0) []], 1, .tup [.agg [(ys 0), (ys 1), (ys 2)], (ys 3)], [none], .tup [.agg [(ys 1), (ys 2), (ys 3)], (ys 4)], [], []⟩], [], []⟩ (V := (vals [(a0.length : Int), r1.1, r1.2.1, r1.2.2.1, r1.2.2.2] [(a0.flatMap enI)])) (n := 3000) (f := 3000) (fid := 25) (fun _ => rfl) ⟨⟨neq_t h2, trivial⟩, trivial, ⟨flat_length enI_len _, trivial⟩, trivial, trivial⟩ ⟨Kr1 _ _, trivial⟩ (R := ⟨.tup [.agg [(ys 0), (ys 1)], (ys 2)], [none], [some (0, 0)]⟩) (qs := [.num (.c 0) (.v 0), .num (.c 0) (.v 1), (ns 4 2)]) wok0 trivial hF hr (by kernel_rfl) ⟨(r (0 : Int)), (r (0 : Int)), (r r1.2.2.2), trivial⟩ (at_re (V' := (vals [(a0.length : Int), r1.1, r1.2.1, r1.2.2.1, r1.2.2.2] [(a0.flatMap enI)])) (T := ⟨[(0, .gs 0 0 (.v 0) 1 false)], [some (.rows 0 [] 3 true)], [some (0, 0)]⟩) (qs := [(ns 0 0), .lst 0 (some 0) []]) hat (by kernel_rfl) ⟨rfl, ⟨[], rfl, lnil _⟩, trivial⟩)
def u_LimitError (a0 : Int) (a1 : Int) (a2 : Int) : Option (Int) := if a0 < a1 then (some (2 : Int)) else (if a2 < a0 then (some (2 : Int)) else (some (0 : Int)))
theorem u_LimitError_ok (a0 : Int) (a1 : Int) (a2 : Int) (y : Int) (h : u_LimitError a0 a1 a2 = some y) : CallOk Try.prog 104 (vals [a0, a1, a2] []) [(ys 0), (ys 1), (ys 2)] [] 0 (vals [y] []) ((ys 0)) [] := by
  refine fun_of (nt := 15) (by kernel_rfl) (by kernel_rfl) fun φ0 w0 a w hat => ?_
  have hF := wide_fw
  have hr : Fence.wide.round = none := rfl
  unfold u_LimitError at h
  by_cases h1 : a0 < a1
  · rw [if_pos h1] at h
    injection h with h; subst h
    exact to_fin mixed ⟨[(.lss, (.v 0), (.v 1), true)], [], [], [], [], []⟩ (V := (vals [a0, a1, a2] [])) (n := 3000) (f := 3000) (fid := 104) (fun _ => rfl) ⟨⟨lss_t h1, trivial⟩, trivial, trivial, trivial, trivial⟩ trivial (R := ⟨(ys 0), [], []⟩) (qs := [.num (.c 2) (.v 0)]) wok0 trivial hF hr (by kernel_rfl) ⟨(r (2 : Int)), trivial⟩ hat
  · rw [if_neg h1] at h
    by_cases h2 : a2 < a0
    · rw [if_pos h2] at h
      injection h with h; subst h
      exact to_fin mixed ⟨[(.lss, (.v 0), (.v 1), false), (.gtr, (.v 0), (.v 2), true)], [], [], [], [], []⟩ (V := (vals [a0, a1, a2] [])) (n := 3000) (f := 3000) (fid := 104) (fun _ => rfl) ⟨⟨lss_f h1, gtr_t h2, trivial⟩, trivial, trivial, trivial, trivial⟩ trivial (R := ⟨(ys 0), [], []⟩) (qs := [.num (.c 2) (.v 0)]) wok0 trivial hF hr (by kernel_rfl) ⟨(r (2 : Int)), trivial⟩ hat
    · rw [if_neg h2] at h
      injection h with h; subst h
      exact to_fin mixed ⟨[(.lss, (.v 0), (.v 1), false), (.gtr, (.v 0), (.v 2), false)], [], [], [], [], []⟩ (V := (vals [a0, a1, a2] [])) (n := 3000) (f := 3000) (fid := 104) (fun _ => rfl) ⟨⟨lss_f h1, gtr_f h2, trivial⟩, trivial, trivial, trivial, trivial⟩ trivial (R := ⟨(ys 0), [], []⟩) (qs := [.num (.c 0) (.v 0)]) wok0 trivial hF hr (by kernel_rfl) ⟨(r (0 : Int)), trivial⟩ hat
def u_FirstError_L1 (fu : Nat) (p0 : List (Int)) (p1 : Int) : Nat → Int → Option ((Int) ⊕ (Unit))
  | 0, _ => none
  | n + 1, v2 => if v2 < p1 then (if (0 : Int) ≤ v2 then (if v2 < (p0.length : Int) then (Option.bind ((p0)[0 + (v2).toNat]?) fun e4 => if e4 = (0 : Int) then (u_FirstError_L1 fu p0 p1 n (IntKind.wrap .i64 (v2 + (1 : Int)))) else (some (.inl e4))) else none) else none) else (some (.inr ()))
theorem u_FirstError_L1_ok (fu : Nat) (p0 : List (Int)) (p1 : Int) : ∀ (n : Nat) (v2 : Int) (o : (Int) ⊕ (Unit)), u_FirstError_L1 fu p0 p1 n v2 = some o → ∀ (φ0 : Phi) (w0 : World) (F : Fence) (k : Nat) (R : Exit → Act → World → Prop) (a : Act) (w : World), FW F → F.round = none → AtS (vals [(p0.length : Int), p1, v2] [(p0.flatMap enI)]) [(5, .gs 0 0 (.v 0) 1 false), (6, (ys 1)), (7, (ys 2))] [some (.rows 0 [] 41 true)] 15 1 1 φ0 w0 a w → (∀ (y : Int), o = .inl y → ∀ a' w', AtS (vals [(p0.length : Int), y] [(p0.flatMap enI)]) [(2, (ys 1))] [some (.rows 0 [] 41 true)] 15 1 1 φ0 w0 a' w' → R Exit.ret a' w') → (∀ (y : Unit), o = .inr y → ∀ a' w', AtS (vals [(p0.length : Int)] [(p0.flatMap enI)]) [] [some (.rows 0 [] 41 true)] 15 1 1 φ0 w0 a' w' → R (Exit.exit 0) a' w') → Code.roundsIn F k Try.prog (subAt (bodyOf Try.prog 65) [1, 0, 1, 0, 0]) R n a w
  | 0, _, _, h => by cases h
  | n + 1, v2, o, h => by
    intro φ0 w0 F k R a w hF hr hat hx0 hx1
    rw [u_FirstError_L1] at h
    refine rounds_in (p := [1, 0, 1, 0, 0]) ?_
    by_cases h1 : v2 < p1
    · rw [if_pos h1] at h
      by_cases h2 : (0 : Int) ≤ v2
      · rw [if_pos h2] at h
        by_cases h3 : v2 < (p0.length : Int)
        · rw [if_pos h3] at h
          obtain ⟨e4, he4, h⟩ := Option.bind_eq_some_iff.1 h
          by_cases h5 : e4 = (0 : Int)
          · rw [if_pos h5] at h
            refine to_done mixed ⟨[(.lss, (.v 2), (.v 1), true), (.leq, (.c 0), (.v 2), true), (.lss, (.v 2), (.v 0), true), (.neq, (.v 3), (.c 0), false)], [(0, 0, (.v 2), [(ys 3)])], [(0, 1, (.v 0))], [], [], []⟩ (V := (vals [(p0.length : Int), p1, v2, e4] [(p0.flatMap enI)])) (n := 3000) (f := 3000) (fid := 65) (fun _ => rfl) (V' := (vals [(p0.length : Int), p1, (IntKind.wrap .i64 (v2 + (1 : Int)))] [(p0.flatMap enI)])) ⟨⟨lss_t h1, leq_t h2, lss_t h3, neq_f h5, trivial⟩, ⟨⟨h2, _, rfl, flat_row enI_len he4⟩, trivial⟩, ⟨flat_length enI_len _, trivial⟩, trivial, trivial⟩ trivial (T := ⟨[(5, .gs 0 0 (.v 0) 1 false), (6, (ys 1)), (7, (ys 2))], [some (.rows 0 [] 41 true)], [some (0, 0)]⟩) (ce := .normal) (qs := [(ns 0 0), (ns 1 1), .num (.add .i64 (.v 2) (.c 1)) (.v 2), .lst 0 (some 0) []]) rfl trivial hF hr (by kernel_rfl) ⟨(r (p0.length : Int)), (r p1), (r (IntKind.wrap .i64 (v2 + (1 : Int)))), ⟨[], rfl, lnil _⟩, trivial⟩ (at_re (V' := (vals [(p0.length : Int), p1, v2, e4] [(p0.flatMap enI)])) (T := ⟨[(5, .gs 0 0 (.v 0) 1 false), (6, (ys 1)), (7, (ys 2))], [some (.rows 0 [] 41 true)], [some (0, 0)]⟩) (qs := [(ns 0 0), (ns 1 1), (ns 2 2), .lst 0 (some 0) []]) hat (by kernel_rfl) ⟨rfl, rfl, rfl, ⟨[], rfl, lnil _⟩, trivial⟩) fun a' w' hat' => ?_
            exact u_FirstError_L1_ok fu p0 p1 n (IntKind.wrap .i64 (v2 + (1 : Int))) o h _ _ _ _ _ _ _ hF hr hat' hx0 hx1
          · rw [if_neg h5] at h
            injection h with h; subst h
            exact to_done mixed ⟨[(.lss, (.v 2), (.v 1), true), (.leq, (.c 0), (.v 2), true), (.lss, (.v 2), (.v 0), true), (.neq, (.v 3), (.c 0), true)], [(0, 0, (.v 2), [(ys 3)])], [(0, 1, (.v 0))], [], [], []⟩ (V := (vals [(p0.length : Int), p1, v2, e4] [(p0.flatMap enI)])) (n := 3000) (f := 3000) (fid := 65) (fun _ => rfl) (V' := (vals [(p0.length : Int), e4] [(p0.flatMap enI)])) ⟨⟨lss_t h1, leq_t h2, lss_t h3, neq_t h5, trivial⟩, ⟨⟨h2, _, rfl, flat_row enI_len he4⟩, trivial⟩, ⟨flat_length enI_len _, trivial⟩, trivial, trivial⟩ trivial (T := ⟨[(2, (ys 1))], [some (.rows 0 [] 41 true)], [some (0, 0)]⟩) (ce := .ret) (qs := [(ns 3 1), .lst 0 (some 0) []]) rfl trivial hF hr (by kernel_rfl) ⟨(r e4), ⟨[], rfl, lnil _⟩, trivial⟩ (at_re (V' := (vals [(p0.length : Int), p1, v2, e4] [(p0.flatMap enI)])) (T := ⟨[(5, .gs 0 0 (.v 0) 1 false), (6, (ys 1)), (7, (ys 2))], [some (.rows 0 [] 41 true)], [some (0, 0)]⟩) (qs := [(ns 0 0), (ns 1 1), (ns 2 2), .lst 0 (some 0) []]) hat (by kernel_rfl) ⟨rfl, rfl, rfl, ⟨[], rfl, lnil _⟩, trivial⟩) fun a' w' hat' => hx0 e4 rfl a' w' hat'
        · rw [if_neg h3] at h
          cases h
      · rw [if_neg h2] at h
        cases h
    · rw [if_neg h1] at h
      injection h with h; subst h
      exact to_done mixed ⟨[(.lss, (.v 2), (.v 1), false)], [], [(0, 1, (.v 0))], [], [], []⟩ (V := (vals [(p0.length : Int), p1, v2] [(p0.flatMap enI)])) (n := 3000) (f := 3000) (fid := 65) (fun _ => rfl) (V' := (vals [(p0.length : Int)] [(p0.flatMap enI)])) ⟨⟨lss_f h1, trivial⟩, trivial, ⟨flat_length enI_len _, trivial⟩, trivial, trivial⟩ trivial (T := ⟨[], [some (.rows 0 [] 41 true)], [some (0, 0)]⟩) (ce := (.exit 0)) (qs := [.lst 0 (some 0) []]) rfl trivial hF hr (by kernel_rfl) ⟨⟨[], rfl, lnil _⟩, trivial⟩ hat fun a' w' hat' => hx1 () rfl a' w' hat'
def u_FirstError (fu : Nat) (a0 : List (Int)) : Option (Int) := Option.bind (u_FirstError_L1 fu a0 (a0.length : Int) fu (0 : Int)) fun o1 => (match o1 with | .inl y2 => (some y2) | .inr y3 => (some (0 : Int)))
theorem u_FirstError_ok (fu : Nat) (a0 : List (Int)) (y : Int) (h : u_FirstError fu a0 = some y) : CallOk Try.prog 65 (vals [(a0.length : Int)] [(a0.flatMap enI)]) [.gs 0 0 (.v 0) 1 false] [some (.rows 0 [] 41 true)] 1 (vals [y] []) ((ys 0)) [none] := by
  refine fun_of (nt := 15) (by kernel_rfl) (by kernel_rfl) fun φ0 w0 a w hat => ?_
  have hF := wide_fw
  have hr : Fence.wide.round = none := rfl
  unfold u_FirstError at h
  obtain ⟨o1, ho1, h⟩ := Option.bind_eq_some_iff.1 h
  refine to_loop mixed ⟨[], [], [(0, 1, (.v 0))], [], [], []⟩ (V := (vals [(a0.length : Int)] [(a0.flatMap enI)])) (n := 3000) (f := 3000) (fid := 65) (fun _ => rfl) (V' := (vals [(a0.length : Int), (a0.length : Int), (0 : Int)] [(a0.flatMap enI)])) ⟨trivial, trivial, ⟨flat_length enI_len _, trivial⟩, trivial, trivial⟩ trivial (T := ⟨[(5, .gs 0 0 (.v 0) 1 false), (6, (ys 1)), (7, (ys 2))], [some (.rows 0 [] 41 true)], [some (0, 0)]⟩) (B := subAt (bodyOf Try.prog 65) [1, 0, 1, 0, 0]) (K' := [.bk 0, .sq (subAt (bodyOf Try.prog 65) [1, 1]) [1, 1]]) (qs := [(ns 0 0), (ns 0 1), .num (.c 0) (.v 2), .lst 0 (some 0) []]) wok0 trivial hF hr (by kernel_rfl) ⟨(r (a0.length : Int)), (r (a0.length : Int)), (r (0 : Int)), ⟨[], rfl, lnil _⟩, trivial⟩ hat fun aa1 ww1 hat1 => loop_in (u_FirstError_L1_ok fu a0 (a0.length : Int) fu (0 : Int) o1 ho1 _ _ _ _ _ _ _ hF hr hat1 ?_ ?_)
  · intro y2 hy aa2 ww2 hat
    subst hy
    dsimp only at h
    show (Wk.out .ret).goal _ _ _ [.bk 0, .sq (subAt (bodyOf Try.prog 65) [1, 1]) [1, 1]] _ aa2 ww2
    injection h with h; subst h
    exact to_fin mixed ⟨[], [], [(0, 1, (.v 0))], [], [], []⟩ (V := (vals [(a0.length : Int), y2] [(a0.flatMap enI)])) (n := 3000) (f := 3000) (fid := 65) (fun _ => rfl) ⟨trivial, trivial, ⟨flat_length enI_len _, trivial⟩, trivial, trivial⟩ trivial (R := ⟨(ys 0), [none], [some (0, 0)]⟩) (qs := [(ns 1 0)]) trivial ⟨rfl, trivial⟩ hF hr (by kernel_rfl) ⟨(r y2), trivial⟩ hat
  · intro y3 hy aa2 ww2 hat
    subst hy
    dsimp only at h
    show (Wk.out (.exit 0)).goal _ _ _ [.bk 0, .sq (subAt (bodyOf Try.prog 65) [1, 1]) [1, 1]] _ aa2 ww2
    injection h with h; subst h
    exact to_fin mixed ⟨[], [], [(0, 1, (.v 0))], [], [], []⟩ (V := (vals [(a0.length : Int)] [(a0.flatMap enI)])) (n := 3000) (f := 3000) (fid := 65) (fun _ => rfl) ⟨trivial, trivial, ⟨flat_length enI_len _, trivial⟩, trivial, trivial⟩ trivial (R := ⟨(ys 0), [none], [some (0, 0)]⟩) (qs := [.num (.c 0) (.v 0)]) trivial ⟨rfl, trivial⟩ hF hr (by kernel_rfl) ⟨(r (0 : Int)), trivial⟩ hat
def w_predictorError (fu : Nat) (a0_0 : Int) (a0_1 : Int) (a0_2 : Int) : Option (Int) := Option.bind (u_LimitError a0_2 (1 : Int) (1000000000000 : Int)) fun r1 => Option.bind (u_SizeError fu (1000000000000 : Int) ([a0_0, a0_1] : List (Int))) fun r2 => Option.bind (u_FirstError fu ([r1, r2] : List (Int))) fun r3 => if r3 = (0 : Int) then (Option.bind (u_Divisor fu ([a0_0, a0_1, a0_2] : List (Int))) fun r5 => if r5 = (1 : Int) then (some r3) else (some (3 : Int))) else (some r3)
theorem w_predictorError_ok (fu : Nat) (a0_0 : Int) (a0_1 : Int) (a0_2 : Int) (y : Int) (h : w_predictorError fu a0_0 a0_1 a0_2 = some y) : CallOk Try.prog 66 (vals [a0_0, a0_1, a0_2] []) [.agg [(ys 0), (ys 1), (ys 2)]] [] 0 (vals [y] []) ((ys 0)) [] := by
  refine fun_of (nt := 31) (by kernel_rfl) (by kernel_rfl) fun φ0 w0 a w hat => ?_
  have hF := wide_fw
  have hr : Fence.wide.round = none := rfl
  unfold w_predictorError at h
  obtain ⟨r1, hr1, h⟩ := Option.bind_eq_some_iff.1 h
  have Kr1 : KO Try.prog [a0_0, a0_1, a0_2, r1] [] ⟨104, 2, [], [(ys 0), (ys 1), (ys 2)], [], [(ns 2 0), .num (.c 1) (.v 1), .num (.c 1000000000000) (.v 2)], 0, (ys 0), [], (ys 3), [], []⟩ := fun N M => ⟨_, _, [(ns 0 3)], ⟨u_LimitError_ok a0_2 (1 : Int) (1000000000000 : Int) r1 hr1, ⟨(r a0_2), (r (1 : Int)), (r (1000000000000 : Int)), trivial⟩, by kernel_rfl, ⟨rfl, trivial⟩⟩⟩
  obtain ⟨r2, hr2, h⟩ := Option.bind_eq_some_iff.1 h
  have Kr2 : KO Try.prog [a0_0, a0_1, a0_2, r1, r2] [] ⟨58, 2, [some (1, 0)], [(ys 0), .gs 0 0 (.v 1) 1 false], [some (.rows 0 [] 3 true)], [.num (.c 1000000000000) (.v 0), .num (.c 2) (.v 1), .lst 0 none [(ys 0), (ys 1)]], 1, (ys 0), [none], (ys 4), [], []⟩ := fun N M => ⟨_, _, [(ns 0 4)], ⟨u_SizeError_ok fu (1000000000000 : Int) ([a0_0, a0_1] : List (Int)) r2 hr2, ⟨(r (1000000000000 : Int)), rfl, rfl, trivial⟩, by kernel_rfl, ⟨rfl, trivial⟩⟩⟩
  obtain ⟨r3, hr3, h⟩ := Option.bind_eq_some_iff.1 h
  have Kr3 : KO Try.prog [a0_0, a0_1, a0_2, r1, r2, r3] [] ⟨65, 3, [some (2, 0)], [.gs 0 0 (.v 0) 1 false], [some (.rows 0 [] 41 true)], [.num (.c 2) (.v 0), .lst 0 none [(ys 3), (ys 4)]], 1, (ys 0), [none], (ys 5), [], []⟩ := fun N M => ⟨_, _, [(ns 0 5)], ⟨u_FirstError_ok fu ([r1, r2] : List (Int)) r3 hr3, ⟨rfl, rfl, trivial⟩, by kernel_rfl, ⟨rfl, trivial⟩⟩⟩
  by_cases h4 : r3 = (0 : Int)
  · rw [if_pos h4] at h
    obtain ⟨r5, hr5, h⟩ := Option.bind_eq_some_iff.1 h
    have Kr5 : KO Try.prog [a0_0, a0_1, a0_2, r1, r2, r3, r5] [] ⟨62, 4, [some (3, 0)], [.gs 0 0 (.v 0) 1 false], [some (.rows 0 [] 3 true)], [.num (.c 3) (.v 0), .lst 0 none [(ys 0), (ys 1), (ys 2)]], 1, (ys 0), [none], (ys 6), [], []⟩ := fun N M => ⟨_, _, [(ns 0 6)], ⟨u_Divisor_ok fu ([a0_0, a0_1, a0_2] : List (Int)) r5 hr5, ⟨rfl, rfl, trivial⟩, by kernel_rfl, ⟨rfl, trivial⟩⟩⟩
    by_cases h6 : r5 = (1 : Int)
    · rw [if_pos h6] at h
      injection h with h; subst h
      exact to_fin mixed ⟨[(.eql, (.v 5), (.c 0), true), (.neq, (.v 6), (.c 1), false)], [], [], [⟨104, 2, [], [(ys 0), (ys 1), (ys 2)], [], [(ns 2 0), .num (.c 1) (.v 1), .num (.c 1000000000000) (.v 2)], 0, (ys 0), [], (ys 3), [], []⟩, ⟨58, 2, [some (1, 0)], [(ys 0), .gs 0 0 (.v 1) 1 false], [some (.rows 0 [] 3 true)], [.num (.c 1000000000000) (.v 0), .num (.c 2) (.v 1), .lst 0 none [(ys 0), (ys 1)]], 1, (ys 0), [none], (ys 4), [], []⟩, ⟨65, 3, [some (2, 0)], [.gs 0 0 (.v 0) 1 false], [some (.rows 0 [] 41 true)], [.num (.c 2) (.v 0), .lst 0 none [(ys 3), (ys 4)]], 1, (ys 0), [none], (ys 5), [], []⟩, ⟨62, 4, [some (3, 0)], [.gs 0 0 (.v 0) 1 false], [some (.rows 0 [] 3 true)], [.num (.c 3) (.v 0), .lst 0 none [(ys 0), (ys 1), (ys 2)]], 1, (ys 0), [none], (ys 6), [], []⟩], [], []⟩ (V := (vals [a0_0, a0_1, a0_2, r1, r2, r3, r5] [])) (n := 3000) (f := 3000) (fid := 66) (fun _ => rfl) ⟨⟨eql_t h4, neq_f h6, trivial⟩, trivial, trivial, trivial, trivial⟩ ⟨Kr1 _ _, Kr2 _ _, Kr3 _ _, Kr5 _ _, trivial⟩ (R := ⟨(ys 0), [], []⟩) (qs := [(ns 5 0)]) wok0 trivial hF hr (by kernel_rfl) ⟨(r r3), trivial⟩ (at_re (V' := (vals [a0_0, a0_1, a0_2, r1, r2, r3, r5] [])) (T := ⟨[(0, .agg [(ys 0), (ys 1), (ys 2)])], [], []⟩) (qs := [(ns 0 0), (ns 1 1), (ns 2 2)]) hat (by kernel_rfl) ⟨rfl, rfl, rfl, trivial⟩)
    · rw [if_neg h6] at h
      injection h with h; subst h
      exact to_fin mixed ⟨[(.eql, (.v 5), (.c 0), true), (.neq, (.v 6), (.c 1), true)], [], [], [⟨104, 2, [], [(ys 0), (ys 1), (ys 2)], [], [(ns 2 0), .num (.c 1) (.v 1), .num (.c 1000000000000) (.v 2)], 0, (ys 0), [], (ys 3), [], []⟩, ⟨58, 2, [some (1, 0)], [(ys 0), .gs 0 0 (.v 1) 1 false], [some (.rows 0 [] 3 true)], [.num (.c 1000000000000) (.v 0), .num (.c 2) (.v 1), .lst 0 none [(ys 0), (ys 1)]], 1, (ys 0), [none], (ys 4), [], []⟩, ⟨65, 3, [some (2, 0)], [.gs 0 0 (.v 0) 1 false], [some (.rows 0 [] 41 true)], [.num (.c 2) (.v 0), .lst 0 none [(ys 3), (ys 4)]], 1, (ys 0), [none], (ys 5), [], []⟩, ⟨62, 4, [some (3, 0)], [.gs 0 0 (.v 0) 1 false], [some (.rows 0 [] 3 true)], [.num (.c 3) (.v 0), .lst 0 none [(ys 0), (ys 1), (ys 2)]], 1, (ys 0), [none], (ys 6), [], []⟩], [], []⟩ (V := (vals [a0_0, a0_1, a0_2, r1, r2, r3, r5] [])) (n := 3000) (f := 3000) (fid := 66) (fun _ => rfl) ⟨⟨eql_t h4, neq_t h6, trivial⟩, trivial, trivial, trivial, trivial⟩ ⟨Kr1 _ _, Kr2 _ _, Kr3 _ _, Kr5 _ _, trivial⟩ (R := ⟨(ys 0), [], []⟩) (qs := [.num (.c 3) (.v 0)]) wok0 trivial hF hr (by kernel_rfl) ⟨(r (3 : Int)), trivial⟩ (at_re (V' := (vals [a0_0, a0_1, a0_2, r1, r2, r3, r5] [])) (T := ⟨[(0, .agg [(ys 0), (ys 1), (ys 2)])], [], []⟩) (qs := [(ns 0 0), (ns 1 1), (ns 2 2)]) hat (by kernel_rfl) ⟨rfl, rfl, rfl, trivial⟩)
  · rw [if_neg h4] at h
    injection h with h; subst h
    exact to_fin mixed ⟨[(.eql, (.v 5), (.c 0), false)], [], [], [⟨104, 2, [], [(ys 0), (ys 1), (ys 2)], [], [(ns 2 0), .num (.c 1) (.v 1), .num (.c 1000000000000) (.v 2)], 0, (ys 0), [], (ys 3), [], []⟩, ⟨58, 2, [some (1, 0)], [(ys 0), .gs 0 0 (.v 1) 1 false], [some (.rows 0 [] 3 true)], [.num (.c 1000000000000) (.v 0), .num (.c 2) (.v 1), .lst 0 none [(ys 0), (ys 1)]], 1, (ys 0), [none], (ys 4), [], []⟩, ⟨65, 3, [some (2, 0)], [.gs 0 0 (.v 0) 1 false], [some (.rows 0 [] 41 true)], [.num (.c 2) (.v 0), .lst 0 none [(ys 3), (ys 4)]], 1, (ys 0), [none], (ys 5), [], []⟩], [], []⟩ (V := (vals [a0_0, a0_1, a0_2, r1, r2, r3] [])) (n := 3000) (f := 3000) (fid := 66) (fun _ => rfl) ⟨⟨eql_f h4, trivial⟩, trivial, trivial, trivial, trivial⟩ ⟨Kr1 _ _, Kr2 _ _, Kr3 _ _, trivial⟩ (R := ⟨(ys 0), [], []⟩) (qs := [(ns 5 0)]) wok0 trivial hF hr (by kernel_rfl) ⟨(r r3), trivial⟩ (at_re (V' := (vals [a0_0, a0_1, a0_2, r1, r2, r3] [])) (T := ⟨[(0, .agg [(ys 0), (ys 1), (ys 2)])], [], []⟩) (qs := [(ns 0 0), (ns 1 1), (ns 2 2)]) hat (by kernel_rfl) ⟨rfl, rfl, rfl, trivial⟩)
def w_CheckPredictor_L1 (fu : Nat) (p0 : List (Int)) (p1 : Int) (p2 : Int) (p3 : Int) (p4 : Int) (p5 : Int) (p6 : Int) (p7 : Int) (p8 : Int) (p9 : Int) : Nat → Int → Option ((Int) ⊕ (Unit))
  | 0, _ => none
  | n + 1, v10 => if v10 < (2 : Int) then (if v10 = (1 : Int) then (if (IntKind.wrap .i64 ((IntKind.wrap .i64 (p7 * p1)) + (IntKind.wrap .i64 (p8 * p2)))) = (IntKind.wrap .i64 (p9 * p3)) then (w_CheckPredictor_L1 fu p0 p1 p2 p3 p4 p5 p6 p7 p8 p9 n (IntKind.wrap .i64 (v10 + (1 : Int)))) else (some (.inl v10))) else (if v10 = (0 : Int) then (if (IntKind.wrap .i64 ((IntKind.wrap .i64 (p4 * p1)) + (IntKind.wrap .i64 (p5 * p2)))) = (IntKind.wrap .i64 (p6 * p3)) then (w_CheckPredictor_L1 fu p0 p1 p2 p3 p4 p5 p6 p7 p8 p9 n (IntKind.wrap .i64 (v10 + (1 : Int)))) else (some (.inl v10))) else none)) else (some (.inr ()))
theorem w_CheckPredictor_L1_ok (fu : Nat) (p0 : List (Int)) (p1 : Int) (p2 : Int) (p3 : Int) (p4 : Int) (p5 : Int) (p6 : Int) (p7 : Int) (p8 : Int) (p9 : Int) : ∀ (n : Nat) (v10 : Int) (o : (Int) ⊕ (Unit)), w_CheckPredictor_L1 fu p0 p1 p2 p3 p4 p5 p6 p7 p8 p9 n v10 = some o → ∀ (φ0 : Phi) (w0 : World) (F : Fence) (k : Nat) (R : Exit → Act → World → Prop) (a : Act) (w : World), FW F → F.round = none → AtS (vals [(p0.length : Int), p1, p2, p3, p4, p5, p6, p7, p8, p9, v10] [(p0.flatMap enI)]) [(3, .ptr 1 0), (7, .ptr 2 0), (21, .agg [(ys 4), (ys 5), (ys 6), (ys 7), (ys 8), (ys 9)]), (22, (ys 10))] [some (.rows 0 [] 3 true), some (.cells [(ys 1), (ys 2), (ys 3)] 60 false), some (.cells [(ys 4), (ys 5), (ys 6), (ys 7), (ys 8), (ys 9)] 130 false)] 50 1 1 φ0 w0 a w → (∀ (y : Int), o = .inl y → ∀ a' w', AtS (vals [(p0.length : Int), y] [(p0.flatMap enI)]) [(4, (ys 1)), (5, .int .i64 19)] [some (.rows 0 [] 3 true)] 50 1 1 φ0 w0 a' w' → R Exit.ret a' w') → (∀ (y : Unit), o = .inr y → ∀ a' w', AtS (vals [(p0.length : Int), p4, p5, p6, p7, p8, p9] [(p0.flatMap enI)]) [(7, .ptr 1 0)] [some (.rows 0 [] 3 true), some (.cells [(ys 1), (ys 2), (ys 3), (ys 4), (ys 5), (ys 6)] 130 false)] 50 1 1 φ0 w0 a' w' → R (Exit.exit 0) a' w') → Code.roundsIn F k Try.prog (subAt (bodyOf Try.prog 26) [1, 1, 1, 0, 1, 0, 0]) R n a w
  | 0, _, _, h => by cases h
  | n + 1, v10, o, h => by
    intro φ0 w0 F k R a w hF hr hat hx0 hx1
    rw [w_CheckPredictor_L1] at h
    refine rounds_in (p := [1, 1, 1, 0, 1, 0, 0]) ?_
    by_cases h1 : v10 < (2 : Int)
    · rw [if_pos h1] at h
      by_cases h2 : v10 = (1 : Int)
      · rw [if_pos h2] at h
        by_cases h3 : (IntKind.wrap .i64 ((IntKind.wrap .i64 (p7 * p1)) + (IntKind.wrap .i64 (p8 * p2)))) = (IntKind.wrap .i64 (p9 * p3))
        · rw [if_pos h3] at h
          refine to_done mixed ⟨[(.lss, (.v 10), (.c 2), true), (.eql, (.v 10), (.c 1), true), (.neq, (.add .i64 (.mul .i64 (.v 7) (.v 1)) (.mul .i64 (.v 8) (.v 2))), (.mul .i64 (.v 9) (.v 3)), false)], [], [(0, 1, (.v 0))], [], [], []⟩ (V := (vals [(p0.length : Int), p1, p2, p3, p4, p5, p6, p7, p8, p9, v10] [(p0.flatMap enI)])) (n := 3000) (f := 3000) (fid := 26) (fun _ => rfl) (V' := (vals [(p0.length : Int), p1, p2, p3, p4, p5, p6, p7, p8, p9, (IntKind.wrap .i64 (v10 + (1 : Int)))] [(p0.flatMap enI)])) ⟨⟨lss_t h1, eql_t h2, neq_f h3, trivial⟩, trivial, ⟨flat_length enI_len _, trivial⟩, trivial, trivial⟩ trivial (T := ⟨[(3, .ptr 1 0), (7, .ptr 2 0), (21, .agg [(ys 4), (ys 5), (ys 6), (ys 7), (ys 8), (ys 9)]), (22, (ys 10))], [some (.rows 0 [] 3 true), some (.cells [(ys 1), (ys 2), (ys 3)] 60 false), some (.cells [(ys 4), (ys 5), (ys 6), (ys 7), (ys 8), (ys 9)] 130 false)], [some (0, 0), some (1, 0), some (2, 0)]⟩) (ce := .normal) (qs := [(ns 4 4), (ns 5 5), (ns 6 6), (ns 7 7), (ns 8 8), (ns 9 9), .num (.add .i64 (.v 10) (.c 1)) (.v 10), .lst 0 (some 0) [], (ns 1 1), (ns 2 2), (ns 3 3), (ns 4 4), (ns 5 5), (ns 6 6), (ns 7 7), (ns 8 8), (ns 9 9)]) rfl trivial hF hr (by kernel_rfl) ⟨(r p4), (r p5), (r p6), (r p7), (r p8), (r p9), (r (IntKind.wrap .i64 (v10 + (1 : Int)))), ⟨[], rfl, lnil _⟩, (r p1), (r p2), (r p3), (r p4), (r p5), (r p6), (r p7), (r p8), (r p9), trivial⟩ hat fun a' w' hat' => ?_
          exact w_CheckPredictor_L1_ok fu p0 p1 p2 p3 p4 p5 p6 p7 p8 p9 n (IntKind.wrap .i64 (v10 + (1 : Int))) o h _ _ _ _ _ _ _ hF hr hat' hx0 hx1
        · rw [if_neg h3] at h
          injection h with h; subst h
          exact to_done mixed ⟨[(.lss, (.v 10), (.c 2), true), (.eql, (.v 10), (.c 1), true), (.neq, (.add .i64 (.mul .i64 (.v 7) (.v 1)) (.mul .i64 (.v 8) (.v 2))), (.mul .i64 (.v 9) (.v 3)), true)], [], [(0, 1, (.v 0))], [], [], []⟩ (V := (vals [(p0.length : Int), p1, p2, p3, p4, p5, p6, p7, p8, p9, v10] [(p0.flatMap enI)])) (n := 3000) (f := 3000) (fid := 26) (fun _ => rfl) (V' := (vals [(p0.length : Int), v10] [(p0.flatMap enI)])) ⟨⟨lss_t h1, eql_t h2, neq_t h3, trivial⟩, trivial, ⟨flat_length enI_len _, trivial⟩, trivial, trivial⟩ trivial (T := ⟨[(4, (ys 1)), (5, .int .i64 19)], [some (.rows 0 [] 3 true)], [some (0, 0)]⟩) (ce := .ret) (qs := [(ns 10 1), .lst 0 (some 0) []]) rfl trivial hF hr (by kernel_rfl) ⟨(r v10), ⟨[], rfl, lnil _⟩, trivial⟩ hat fun a' w' hat' => hx0 v10 rfl a' w' hat'
      · rw [if_neg h2] at h
        by_cases h4 : v10 = (0 : Int)
        · rw [if_pos h4] at h
          by_cases h5 : (IntKind.wrap .i64 ((IntKind.wrap .i64 (p4 * p1)) + (IntKind.wrap .i64 (p5 * p2)))) = (IntKind.wrap .i64 (p6 * p3))
          · rw [if_pos h5] at h
            refine to_done mixed ⟨[(.lss, (.v 10), (.c 2), true), (.eql, (.v 10), (.c 1), false), (.eql, (.v 10), (.c 0), true), (.neq, (.add .i64 (.mul .i64 (.v 4) (.v 1)) (.mul .i64 (.v 5) (.v 2))), (.mul .i64 (.v 6) (.v 3)), false)], [], [(0, 1, (.v 0))], [], [], []⟩ (V := (vals [(p0.length : Int), p1, p2, p3, p4, p5, p6, p7, p8, p9, v10] [(p0.flatMap enI)])) (n := 3000) (f := 3000) (fid := 26) (fun _ => rfl) (V' := (vals [(p0.length : Int), p1, p2, p3, p4, p5, p6, p7, p8, p9, (IntKind.wrap .i64 (v10 + (1 : Int)))] [(p0.flatMap enI)])) ⟨⟨lss_t h1, eql_f h2, eql_t h4, neq_f h5, trivial⟩, trivial, ⟨flat_length enI_len _, trivial⟩, trivial, trivial⟩ trivial (T := ⟨[(3, .ptr 1 0), (7, .ptr 2 0), (21, .agg [(ys 4), (ys 5), (ys 6), (ys 7), (ys 8), (ys 9)]), (22, (ys 10))], [some (.rows 0 [] 3 true), some (.cells [(ys 1), (ys 2), (ys 3)] 60 false), some (.cells [(ys 4), (ys 5), (ys 6), (ys 7), (ys 8), (ys 9)] 130 false)], [some (0, 0), some (1, 0), some (2, 0)]⟩) (ce := .normal) (qs := [(ns 4 4), (ns 5 5), (ns 6 6), (ns 7 7), (ns 8 8), (ns 9 9), .num (.add .i64 (.v 10) (.c 1)) (.v 10), .lst 0 (some 0) [], (ns 1 1), (ns 2 2), (ns 3 3), (ns 4 4), (ns 5 5), (ns 6 6), (ns 7 7), (ns 8 8), (ns 9 9)]) rfl trivial hF hr (by kernel_rfl) ⟨(r p4), (r p5), (r p6), (r p7), (r p8), (r p9), (r (IntKind.wrap .i64 (v10 + (1 : Int)))), ⟨[], rfl, lnil _⟩, (r p1), (r p2), (r p3), (r p4), (r p5), (r p6), (r p7), (r p8), (r p9), trivial⟩ hat fun a' w' hat' => ?_
            exact w_CheckPredictor_L1_ok fu p0 p1 p2 p3 p4 p5 p6 p7 p8 p9 n (IntKind.wrap .i64 (v10 + (1 : Int))) o h _ _ _ _ _ _ _ hF hr hat' hx0 hx1
          · rw [if_neg h5] at h
            injection h with h; subst h
            exact to_done mixed ⟨[(.lss, (.v 10), (.c 2), true), (.eql, (.v 10), (.c 1), false), (.eql, (.v 10), (.c 0), true), (.neq, (.add .i64 (.mul .i64 (.v 4) (.v 1)) (.mul .i64 (.v 5) (.v 2))), (.mul .i64 (.v 6) (.v 3)), true)], [], [(0, 1, (.v 0))], [], [], []⟩ (V := (vals [(p0.length : Int), p1, p2, p3, p4, p5, p6, p7, p8, p9, v10] [(p0.flatMap enI)])) (n := 3000) (f := 3000) (fid := 26) (fun _ => rfl) (V' := (vals [(p0.length : Int), v10] [(p0.flatMap enI)])) ⟨⟨lss_t h1, eql_f h2, eql_t h4, neq_t h5, trivial⟩, trivial, ⟨flat_length enI_len _, trivial⟩, trivial, trivial⟩ trivial (T := ⟨[(4, (ys 1)), (5, .int .i64 19)], [some (.rows 0 [] 3 true)], [some (0, 0)]⟩) (ce := .ret) (qs := [(ns 10 1), .lst 0 (some 0) []]) rfl trivial hF hr (by kernel_rfl) ⟨(r v10), ⟨[], rfl, lnil _⟩, trivial⟩ hat fun a' w' hat' => hx0 v10 rfl a' w' hat'
        · rw [if_neg h4] at h
          cases h
    · rw [if_neg h1] at h
      injection h with h; subst h
      exact to_done mixed ⟨[(.lss, (.v 10), (.c 2), false)], [], [(0, 1, (.v 0))], [], [], []⟩ (V := (vals [(p0.length : Int), p1, p2, p3, p4, p5, p6, p7, p8, p9, v10] [(p0.flatMap enI)])) (n := 3000) (f := 3000) (fid := 26) (fun _ => rfl) (V' := (vals [(p0.length : Int), p4, p5, p6, p7, p8, p9] [(p0.flatMap enI)])) ⟨⟨lss_f h1, trivial⟩, trivial, ⟨flat_length enI_len _, trivial⟩, trivial, trivial⟩ trivial (T := ⟨[(7, .ptr 1 0)], [some (.rows 0 [] 3 true), some (.cells [(ys 1), (ys 2), (ys 3), (ys 4), (ys 5), (ys 6)] 130 false)], [some (0, 0), some (2, 0)]⟩) (ce := (.exit 0)) (qs := [.lst 0 (some 0) [], (ns 4 1), (ns 5 2), (ns 6 3), (ns 7 4), (ns 8 5), (ns 9 6)]) rfl trivial hF hr (by kernel_rfl) ⟨⟨[], rfl, lnil _⟩, (r p4), (r p5), (r p6), (r p7), (r p8), (r p9), trivial⟩ hat fun a' w' hat' => hx1 () rfl a' w' hat'
def w_CheckPredictor (fu : Nat) (a0 : List (Int)) (a1_0 : Int) (a1_1 : Int) (a1_2 : Int) : Option (Int × Int) := Option.bind (w_samplesError fu a0) fun r1 => Option.bind (w_predictorError fu a1_0 a1_1 a1_2) fun r2 => Option.bind (u_FirstError fu ([r1, r2] : List (Int))) fun r3 => if r3 = (0 : Int) then (Option.bind (w_equations fu a0) fun r5 => Option.bind (w_CheckPredictor_L1 fu a0 a1_0 a1_1 a1_2 r5.1 r5.2.1 r5.2.2.1 r5.2.2.2.1 r5.2.2.2.2.1 r5.2.2.2.2.2 fu (0 : Int)) fun o6 => (match o6 with | .inl y7 => (some (y7, (19 : Int))) | .inr y8 => (Option.bind (w_determinant r5.1 r5.2.1 r5.2.2.1 r5.2.2.2.1 r5.2.2.2.2.1 r5.2.2.2.2.2) fun r9 => if r9 = (0 : Int) then (some ((0 : Int), (11 : Int))) else (some ((0 : Int), (0 : Int)))))) else (some ((0 : Int), r3))
theorem w_CheckPredictor_ok (fu : Nat) (a0 : List (Int)) (a1_0 : Int) (a1_1 : Int) (a1_2 : Int) (y : Int × Int) (h : w_CheckPredictor fu a0 a1_0 a1_1 a1_2 = some y) : CallOk Try.prog 26 (vals [(a0.length : Int), a1_0, a1_1, a1_2] [(a0.flatMap enI)]) [.gs 0 0 (.v 0) 1 false, .agg [(ys 1), (ys 2), (ys 3)]] [some (.rows 0 [] 3 true)] 1 (vals [y.1, y.2] []) (.tup [(ys 0), (ys 1)]) [none] := by
  refine fun_of (nt := 50) (by kernel_rfl) (by kernel_rfl) fun φ0 w0 a w hat => ?_
  have hF := wide_fw
  have hr : Fence.wide.round = none := rfl
  unfold w_CheckPredictor at h
  obtain ⟨r1, hr1, h⟩ := Option.bind_eq_some_iff.1 h
  have Kr1 : KO Try.prog [(a0.length : Int), a1_0, a1_1, a1_2, r1] [(a0.flatMap enI)] ⟨59, 2, [some (0, 0)], [.gs 0 0 (.v 0) 1 false], [some (.rows 0 [] 3 true)], [(ns 0 0), .lst 0 (some 0) []], 1, (ys 0), [none], (ys 4), [], []⟩ := fun N M => ⟨_, _, [(ns 0 4)], ⟨w_samplesError_ok fu a0 r1 hr1, ⟨(r (a0.length : Int)), ⟨[], rfl, lnil _⟩, trivial⟩, by kernel_rfl, ⟨rfl, trivial⟩⟩⟩
  obtain ⟨r2, hr2, h⟩ := Option.bind_eq_some_iff.1 h
  have Kr2 : KO Try.prog [(a0.length : Int), a1_0, a1_1, a1_2, r1, r2] [(a0.flatMap enI)] ⟨66, 2, [], [.agg [(ys 0), (ys 1), (ys 2)]], [], [(ns 1 0), (ns 2 1), (ns 3 2)], 0, (ys 0), [], (ys 5), [], []⟩ := fun N M => ⟨_, _, [(ns 0 5)], ⟨w_predictorError_ok fu a1_0 a1_1 a1_2 r2 hr2, ⟨(r a1_0), (r a1_1), (r a1_2), trivial⟩, by kernel_rfl, ⟨rfl, trivial⟩⟩⟩
  obtain ⟨r3, hr3, h⟩ := Option.bind_eq_some_iff.1 h
  have Kr3 : KO Try.prog [(a0.length : Int), a1_0, a1_1, a1_2, r1, r2, r3] [(a0.flatMap enI)] ⟨65, 3, [some (2, 0)], [.gs 0 0 (.v 0) 1 false], [some (.rows 0 [] 41 true)], [.num (.c 2) (.v 0), .lst 0 none [(ys 4), (ys 5)]], 1, (ys 0), [none], (ys 6), [], []⟩ := fun N M => ⟨_, _, [(ns 0 6)], ⟨u_FirstError_ok fu ([r1, r2] : List (Int)) r3 hr3, ⟨rfl, rfl, trivial⟩, by kernel_rfl, ⟨rfl, trivial⟩⟩⟩
  by_cases h4 : r3 = (0 : Int)
  · rw [if_pos h4] at h
    obtain ⟨r5, hr5, h⟩ := Option.bind_eq_some_iff.1 h
    have Kr5 : KO Try.prog [(a0.length : Int), a1_0, a1_1, a1_2, r1, r2, r3, r5.1, r5.2.1, r5.2.2.1, r5.2.2.2.1, r5.2.2.2.2.1, r5.2.2.2.2.2] [(a0.flatMap enI)] ⟨60, 3, [some (0, 0)], [.gs 0 0 (.v 0) 1 false], [some (.rows 0 [] 3 true)], [(ns 0 0), .lst 0 (some 0) []], 1, .agg [(ys 0), (ys 1), (ys 2), (ys 3), (ys 4), (ys 5)], [none], .agg [(ys 7), (ys 8), (ys 9), (ys 10), (ys 11), (ys 12)], [], []⟩ := fun N M => ⟨_, _, [(ns 0 7), (ns 1 8), (ns 2 9), (ns 3 10), (ns 4 11), (ns 5 12)], ⟨w_equations_ok fu a0 r5 hr5, ⟨(r (a0.length : Int)), ⟨[], rfl, lnil _⟩, trivial⟩, by kernel_rfl, ⟨rfl, rfl, rfl, rfl, rfl, rfl, trivial⟩⟩⟩
    obtain ⟨o6, ho6, h⟩ := Option.bind_eq_some_iff.1 h
    refine to_loop mixed ⟨[(.neq, (.v 6), (.c 0), false)], [], [(0, 1, (.v 0))], [⟨59, 2, [some (0, 0)], [.gs 0 0 (.v 0) 1 false], [some (.rows 0 [] 3 true)], [(ns 0 0), .lst 0 (some 0) []], 1, (ys 0), [none], (ys 4), [], []⟩, ⟨66, 2, [], [.agg [(ys 0), (ys 1), (ys 2)]], [], [(ns 1 0), (ns 2 1), (ns 3 2)], 0, (ys 0), [], (ys 5), [], []⟩, ⟨65, 3, [some (2, 0)], [.gs 0 0 (.v 0) 1 false], [some (.rows 0 [] 41 true)], [.num (.c 2) (.v 0), .lst 0 none [(ys 4), (ys 5)]], 1, (ys 0), [none], (ys 6), [], []⟩, ⟨60, 3, [some (0, 0)], [.gs 0 0 (.v 0) 1 false], [some (.rows 0 [] 3 true)], [(ns 0 0), .lst 0 (some 0) []], 1, .agg [(ys 0), (ys 1), (ys 2), (ys 3), (ys 4), (ys 5)], [none], .agg [(ys 7), (ys 8), (ys 9), (ys 10), (ys 11), (ys 12)], [], []⟩], [], []⟩ (V := (vals [(a0.length : Int), a1_0, a1_1, a1_2, r1, r2, r3, r5.1, r5.2.1, r5.2.2.1, r5.2.2.2.1, r5.2.2.2.2.1, r5.2.2.2.2.2] [(a0.flatMap enI)])) (n := 3000) (f := 3000) (fid := 26) (fun _ => rfl) (V' := (vals [(a0.length : Int), a1_0, a1_1, a1_2, r5.1, r5.2.1, r5.2.2.1, r5.2.2.2.1, r5.2.2.2.2.1, r5.2.2.2.2.2, (0 : Int)] [(a0.flatMap enI)])) ⟨⟨neq_f h4, trivial⟩, trivial, ⟨flat_length enI_len _, trivial⟩, trivial, trivial⟩ ⟨Kr1 _ _, Kr2 _ _, Kr3 _ _, Kr5 _ _, trivial⟩ (T := ⟨[(3, .ptr 1 0), (7, .ptr 2 0), (21, .agg [(ys 4), (ys 5), (ys 6), (ys 7), (ys 8), (ys 9)]), (22, (ys 10))], [some (.rows 0 [] 3 true), some (.cells [(ys 1), (ys 2), (ys 3)] 60 false), some (.cells [(ys 4), (ys 5), (ys 6), (ys 7), (ys 8), (ys 9)] 130 false)], [some (0, 0), some (1, 0), some (3, 0)]⟩) (B := subAt (bodyOf Try.prog 26) [1, 1, 1, 0, 1, 0, 0]) (K' := [.bk 0, .sq (subAt (bodyOf Try.prog 26) [1, 1, 1, 1]) [1, 1, 1, 1]]) (qs := [(ns 7 4), (ns 8 5), (ns 9 6), (ns 10 7), (ns 11 8), (ns 12 9), .num (.c 0) (.v 10), .lst 0 (some 0) [], (ns 1 1), (ns 2 2), (ns 3 3), (ns 7 4), (ns 8 5), (ns 9 6), (ns 10 7), (ns 11 8), (ns 12 9)]) wok0 trivial hF hr (by kernel_rfl) ⟨(r r5.1), (r r5.2.1), (r r5.2.2.1), (r r5.2.2.2.1), (r r5.2.2.2.2.1), (r r5.2.2.2.2.2), (r (0 : Int)), ⟨[], rfl, lnil _⟩, (r a1_0), (r a1_1), (r a1_2), (r r5.1), (r r5.2.1), (r r5.2.2.1), (r r5.2.2.2.1), (r r5.2.2.2.2.1), (r r5.2.2.2.2.2), trivial⟩ (at_re (V' := (vals [(a0.length : Int), a1_0, a1_1, a1_2, r1, r2, r3, r5.1, r5.2.1, r5.2.2.1, r5.2.2.2.1, r5.2.2.2.2.1, r5.2.2.2.2.2] [(a0.flatMap enI)])) (T := ⟨[(0, .gs 0 0 (.v 0) 1 false), (1, .agg [(ys 1), (ys 2), (ys 3)])], [some (.rows 0 [] 3 true)], [some (0, 0)]⟩) (qs := [(ns 0 0), (ns 1 1), (ns 2 2), (ns 3 3), .lst 0 (some 0) []]) hat (by kernel_rfl) ⟨rfl, rfl, rfl, rfl, ⟨[], rfl, lnil _⟩, trivial⟩) fun aa1 ww1 hat1 => loop_in (w_CheckPredictor_L1_ok fu a0 a1_0 a1_1 a1_2 r5.1 r5.2.1 r5.2.2.1 r5.2.2.2.1 r5.2.2.2.2.1 r5.2.2.2.2.2 fu (0 : Int) o6 ho6 _ _ _ _ _ _ _ hF hr hat1 ?_ ?_)
    · intro y7 hy aa2 ww2 hat
      subst hy
      dsimp only at h
      show (Wk.out .ret).goal _ _ _ [.bk 0, .sq (subAt (bodyOf Try.prog 26) [1, 1, 1, 1]) [1, 1, 1, 1]] _ aa2 ww2
      injection h with h; subst h
      exact to_fin mixed ⟨[], [], [(0, 1, (.v 0))], [], [], []⟩ (V := (vals [(a0.length : Int), y7] [(a0.flatMap enI)])) (n := 3000) (f := 3000) (fid := 26) (fun _ => rfl) ⟨trivial, trivial, ⟨flat_length enI_len _, trivial⟩, trivial, trivial⟩ trivial (R := ⟨.tup [(ys 0), (ys 1)], [none], [some (0, 0)]⟩) (qs := [(ns 1 0), .num (.c 19) (.v 1)]) trivial ⟨rfl, trivial⟩ hF hr (by kernel_rfl) ⟨(r y7), (r (19 : Int)), trivial⟩ hat
    · intro y8 hy aa2 ww2 hat
      subst hy
      dsimp only at h
      show (Wk.out (.exit 0)).goal _ _ _ [.bk 0, .sq (subAt (bodyOf Try.prog 26) [1, 1, 1, 1]) [1, 1, 1, 1]] _ aa2 ww2
      obtain ⟨r9, hr9, h⟩ := Option.bind_eq_some_iff.1 h
      have Kr9 : KO Try.prog [(a0.length : Int), r5.1, r5.2.1, r5.2.2.1, r5.2.2.2.1, r5.2.2.2.2.1, r5.2.2.2.2.2, r9] [(a0.flatMap enI)] ⟨61, 2, [], [.agg [(ys 0), (ys 1), (ys 2), (ys 3), (ys 4), (ys 5)]], [], [(ns 1 0), (ns 2 1), (ns 3 2), (ns 4 3), (ns 5 4), (ns 6 5)], 0, (ys 0), [], (ys 7), [], []⟩ := fun N M => ⟨_, _, [(ns 0 7)], ⟨w_determinant_ok r5.1 r5.2.1 r5.2.2.1 r5.2.2.2.1 r5.2.2.2.2.1 r5.2.2.2.2.2 r9 hr9, ⟨(r r5.1), (r r5.2.1), (r r5.2.2.1), (r r5.2.2.2.1), (r r5.2.2.2.2.1), (r r5.2.2.2.2.2), trivial⟩, by kernel_rfl, ⟨rfl, trivial⟩⟩⟩
      by_cases h10 : r9 = (0 : Int)
      · rw [if_pos h10] at h
        injection h with h; subst h
        exact to_fin mixed ⟨[(.eql, (.v 7), (.c 0), true)], [], [(0, 1, (.v 0))], [⟨61, 2, [], [.agg [(ys 0), (ys 1), (ys 2), (ys 3), (ys 4), (ys 5)]], [], [(ns 1 0), (ns 2 1), (ns 3 2), (ns 4 3), (ns 5 4), (ns 6 5)], 0, (ys 0), [], (ys 7), [], []⟩], [], []⟩ (V := (vals [(a0.length : Int), r5.1, r5.2.1, r5.2.2.1, r5.2.2.2.1, r5.2.2.2.2.1, r5.2.2.2.2.2, r9] [(a0.flatMap enI)])) (n := 3000) (f := 3000) (fid := 26) (fun _ => rfl) ⟨⟨eql_t h10, trivial⟩, trivial, ⟨flat_length enI_len _, trivial⟩, trivial, trivial⟩ ⟨Kr9 _ _, trivial⟩ (R := ⟨.tup [(ys 0), (ys 1)], [none], [some (0, 0)]⟩) (qs := [.num (.c 0) (.v 0), .num (.c 11) (.v 1)]) trivial ⟨rfl, trivial⟩ hF hr (by kernel_rfl) ⟨(r (0 : Int)), (r (11 : Int)), trivial⟩ (at_re (V' := (vals [(a0.length : Int), r5.1, r5.2.1, r5.2.2.1, r5.2.2.2.1, r5.2.2.2.2.1, r5.2.2.2.2.2, r9] [(a0.flatMap enI)])) (T := ⟨[(7, .ptr 1 0)], [some (.rows 0 [] 3 true), some (.cells [(ys 1), (ys 2), (ys 3), (ys 4), (ys 5), (ys 6)] 130 false)], [some (0, 0), some (1, 0)]⟩) (qs := [.lst 0 (some 0) [], (ns 1 1), (ns 2 2), (ns 3 3), (ns 4 4), (ns 5 5), (ns 6 6)]) hat (by kernel_rfl) ⟨⟨[], rfl, lnil _⟩, rfl, rfl, rfl, rfl, rfl, rfl, trivial⟩)
      · rw [if_neg h10] at h
        injection h with h; subst h
        exact to_fin mixed ⟨[(.eql, (.v 7), (.c 0), false)], [], [(0, 1, (.v 0))], [⟨61, 2, [], [.agg [(ys 0), (ys 1), (ys 2), (ys 3), (ys 4), (ys 5)]], [], [(ns 1 0), (ns 2 1), (ns 3 2), (ns 4 3), (ns 5 4), (ns 6 5)], 0, (ys 0), [], (ys 7), [], []⟩], [], []⟩ (V := (vals [(a0.length : Int), r5.1, r5.2.1, r5.2.2.1, r5.2.2.2.1, r5.2.2.2.2.1, r5.2.2.2.2.2, r9] [(a0.flatMap enI)])) (n := 3000) (f := 3000) (fid := 26) (fun _ => rfl) ⟨⟨eql_f h10, trivial⟩, trivial, ⟨flat_length enI_len _, trivial⟩, trivial, trivial⟩ ⟨Kr9 _ _, trivial⟩ (R := ⟨.tup [(ys 0), (ys 1)], [none], [some (0, 0)]⟩) (qs := [.num (.c 0) (.v 0), .num (.c 0) (.v 1)]) trivial ⟨rfl, trivial⟩ hF hr (by kernel_rfl) ⟨(r (0 : Int)), (r (0 : Int)), trivial⟩ (at_re (V' := (vals [(a0.length : Int), r5.1, r5.2.1, r5.2.2.1, r5.2.2.2.1, r5.2.2.2.2.1, r5.2.2.2.2.2, r9] [(a0.flatMap enI)])) (T := ⟨[(7, .ptr 1 0)], [some (.rows 0 [] 3 true), some (.cells [(ys 1), (ys 2), (ys 3), (ys 4), (ys 5), (ys 6)] 130 false)], [some (0, 0), some (1, 0)]⟩) (qs := [.lst 0 (some 0) [], (ns 1 1), (ns 2 2), (ns 3 3), (ns 4 4), (ns 5 5), (ns 6 6)]) hat (by kernel_rfl) ⟨⟨[], rfl, lnil _⟩, rfl, rfl, rfl, rfl, rfl, rfl, trivial⟩)
  · rw [if_neg h4] at h
    injection h with h; subst h
    exact to_fin mixed ⟨[(.neq, (.v 6), (.c 0), true)], [], [(0, 1, (.v 0))], [⟨59, 2, [some (0, 0)], [.gs 0 0 (.v 0) 1 false], [some (.rows 0 [] 3 true)], [(ns 0 0), .lst 0 (some 0) []], 1, (ys 0), [none], (ys 4), [], []⟩, ⟨66, 2, [], [.agg [(ys 0), (ys 1), (ys 2)]], [], [(ns 1 0), (ns 2 1), (ns 3 2)], 0, (ys 0), [], (ys 5), [], []⟩, ⟨65, 3, [some (2, 0)], [.gs 0 0 (.v 0) 1 false], [some (.rows 0 [] 41 true)], [.num (.c 2) (.v 0), .lst 0 none [(ys 4), (ys 5)]], 1, (ys 0), [none], (ys 6), [], []⟩], [], []⟩ (V := (vals [(a0.length : Int), a1_0, a1_1, a1_2, r1, r2, r3] [(a0.flatMap enI)])) (n := 3000) (f := 3000) (fid := 26) (fun _ => rfl) ⟨⟨neq_t h4, trivial⟩, trivial, ⟨flat_length enI_len _, trivial⟩, trivial, trivial⟩ ⟨Kr1 _ _, Kr2 _ _, Kr3 _ _, trivial⟩ (R := ⟨.tup [(ys 0), (ys 1)], [none], [some (0, 0)]⟩) (qs := [.num (.c 0) (.v 0), (ns 6 1)]) wok0 trivial hF hr (by kernel_rfl) ⟨(r (0 : Int)), (r r3), trivial⟩ (at_re (V' := (vals [(a0.length : Int), a1_0, a1_1, a1_2, r1, r2, r3] [(a0.flatMap enI)])) (T := ⟨[(0, .gs 0 0 (.v 0) 1 false), (1, .agg [(ys 1), (ys 2), (ys 3)])], [some (.rows 0 [] 3 true)], [some (0, 0)]⟩) (qs := [(ns 0 0), (ns 1 1), (ns 2 2), (ns 3 3), .lst 0 (some 0) []]) hat (by kernel_rfl) ⟨rfl, rfl, rfl, rfl, ⟨[], rfl, lnil _⟩, trivial⟩)
def b_Within (a0 : Int) (a1 : Int) (a2 : Int) : Option (Bool) := if a1 ≤ a0 then (if a0 ≤ a2 then (some true) else (some false)) else (some false)
theorem b_Within_ok (a0 : Int) (a1 : Int) (a2 : Int) (y : Bool) (h : b_Within a0 a1 a2 = some y) : CallOk Try.prog 21 (vals [a0, a1, a2] []) [(ys 0), (ys 1), (ys 2)] [] 0 (vals [bI y] []) (.bs (.v 0)) [] := by
  refine fun_of (nt := 15) (by kernel_rfl) (by kernel_rfl) fun φ0 w0 a w hat => ?_
  have hF := wide_fw
  have hr : Fence.wide.round = none := rfl
  unfold b_Within at h
  by_cases h1 : a1 ≤ a0
  · rw [if_pos h1] at h
    by_cases h2 : a0 ≤ a2
    · rw [if_pos h2] at h
      injection h with h; subst h
      exact to_fin mixed ⟨[(.leq, (.v 1), (.v 0), true), (.leq, (.v 0), (.v 2), true)], [], [], [], [], []⟩ (V := (vals [a0, a1, a2] [])) (n := 3000) (f := 3000) (fid := 21) (fun _ => rfl) ⟨⟨leq_t h1, leq_t h2, trivial⟩, trivial, trivial, trivial, trivial⟩ trivial (R := ⟨.bs (.v 0), [], []⟩) (qs := [.num (.c 1) (.v 0)]) wok0 trivial hF hr (by kernel_rfl) ⟨rfl, trivial⟩ hat
    · rw [if_neg h2] at h
      injection h with h; subst h
      exact to_fin mixed ⟨[(.leq, (.v 1), (.v 0), true), (.leq, (.v 0), (.v 2), false)], [], [], [], [], []⟩ (V := (vals [a0, a1, a2] [])) (n := 3000) (f := 3000) (fid := 21) (fun _ => rfl) ⟨⟨leq_t h1, leq_f h2, trivial⟩, trivial, trivial, trivial, trivial⟩ trivial (R := ⟨.bs (.v 0), [], []⟩) (qs := [.num (.c 0) (.v 0)]) wok0 trivial hF hr (by kernel_rfl) ⟨rfl, trivial⟩ hat
  · rw [if_neg h1] at h
    injection h with h; subst h
    exact to_fin mixed ⟨[(.leq, (.v 1), (.v 0), false)], [], [], [], [], []⟩ (V := (vals [a0, a1, a2] [])) (n := 3000) (f := 3000) (fid := 21) (fun _ => rfl) ⟨⟨leq_f h1, trivial⟩, trivial, trivial, trivial, trivial⟩ trivial (R := ⟨.bs (.v 0), [], []⟩) (qs := [.num (.c 0) (.v 0)]) wok0 trivial hF hr (by kernel_rfl) ⟨rfl, trivial⟩ hat
def r2_CheckSamples_L1 (fu : Nat) (p0 : List (Int)) : Nat → Int → Option ((Int) ⊕ (Unit))
  | 0, _ => none
  | n + 1, v1 => if v1 < (p0.length : Int) then (if (0 : Int) ≤ v1 then (Option.bind ((p0)[0 + (v1).toNat]?) fun e3 => Option.bind (b_Within e3 (-100 : Int) (100 : Int)) fun r4 => if r4 = true then (r2_CheckSamples_L1 fu p0 n (IntKind.wrap .i64 (v1 + (1 : Int)))) else (some (.inl v1))) else none) else (some (.inr ()))
theorem r2_CheckSamples_L1_ok (fu : Nat) (p0 : List (Int)) : ∀ (n : Nat) (v1 : Int) (o : (Int) ⊕ (Unit)), r2_CheckSamples_L1 fu p0 n v1 = some o → ∀ (φ0 : Phi) (w0 : World) (F : Fence) (k : Nat) (R : Exit → Act → World → Prop) (a : Act) (w : World), FW F → F.round = none → AtS (vals [(p0.length : Int), v1] [(p0.flatMap enI)]) [(0, .gs 0 0 (.v 0) 1 false), (4, (ys 1))] [some (.rows 0 [] 3 true)] 24 1 1 φ0 w0 a w → (∀ (y : Int), o = .inl y → ∀ a' w', AtS (vals [(p0.length : Int), y] [(p0.flatMap enI)]) [(2, (ys 1)), (3, .int .i64 2)] [some (.rows 0 [] 3 true)] 24 1 1 φ0 w0 a' w' → R Exit.ret a' w') → (∀ (y : Unit), o = .inr y → ∀ a' w', AtS (vals [(p0.length : Int)] [(p0.flatMap enI)]) [] [some (.rows 0 [] 3 true)] 24 1 1 φ0 w0 a' w' → R (Exit.exit 0) a' w') → Code.roundsIn F k Try.prog (subAt (bodyOf Try.prog 27) [1, 1, 1, 0, 1, 0, 0]) R n a w
  | 0, _, _, h => by cases h
  | n + 1, v1, o, h => by
    intro φ0 w0 F k R a w hF hr hat hx0 hx1
    rw [r2_CheckSamples_L1] at h
    refine rounds_in (p := [1, 1, 1, 0, 1, 0, 0]) ?_
    by_cases h1 : v1 < (p0.length : Int)
    · rw [if_pos h1] at h
      by_cases h2 : (0 : Int) ≤ v1
      · rw [if_pos h2] at h
        obtain ⟨e3, he3, h⟩ := Option.bind_eq_some_iff.1 h
        obtain ⟨r4, hr4, h⟩ := Option.bind_eq_some_iff.1 h
        have Kr4 : KO Try.prog [(p0.length : Int), v1, e3, bI r4] [(p0.flatMap enI)] ⟨21, 1, [], [(ys 0), (ys 1), (ys 2)], [], [(ns 2 0), .num (.c (-100)) (.v 1), .num (.c 100) (.v 2)], 0, .bs (.v 0), [], .bs (.v 3), [], []⟩ := fun N M => ⟨_, _, [(ns 0 3)], ⟨b_Within_ok e3 (-100 : Int) (100 : Int) r4 hr4, ⟨(r e3), (show (-100 : Int) = (-100 : Int) from rfl), (r (100 : Int)), trivial⟩, by kernel_rfl, ⟨rfl, trivial⟩⟩⟩
        by_cases h5 : r4 = true
        · rw [if_pos h5] at h
          refine to_done mixed ⟨[(.lss, (.v 1), (.v 0), true), (.leq, (.c 0), (.v 1), true), (.neq, (.v 3), (.c 0), true)], [(0, 0, (.v 1), [(ys 2)])], [(0, 1, (.v 0))], [⟨21, 1, [], [(ys 0), (ys 1), (ys 2)], [], [(ns 2 0), .num (.c (-100)) (.v 1), .num (.c 100) (.v 2)], 0, .bs (.v 0), [], .bs (.v 3), [], []⟩], [], []⟩ (V := (vals [(p0.length : Int), v1, e3, bI r4] [(p0.flatMap enI)])) (n := 3000) (f := 3000) (fid := 27) (fun _ => rfl) (V' := (vals [(p0.length : Int), (IntKind.wrap .i64 (v1 + (1 : Int)))] [(p0.flatMap enI)])) ⟨⟨lss_t h1, leq_t h2, bi_t h5, trivial⟩, ⟨⟨h2, _, rfl, flat_row enI_len he3⟩, trivial⟩, ⟨flat_length enI_len _, trivial⟩, trivial, trivial⟩ ⟨Kr4 _ _, trivial⟩ (T := ⟨[(0, .gs 0 0 (.v 0) 1 false), (4, (ys 1))], [some (.rows 0 [] 3 true)], [some (0, 0)]⟩) (ce := .normal) (qs := [(ns 0 0), .num (.add .i64 (.v 1) (.c 1)) (.v 1), .lst 0 (some 0) []]) rfl trivial hF hr (by kernel_rfl) ⟨(r (p0.length : Int)), (r (IntKind.wrap .i64 (v1 + (1 : Int)))), ⟨[], rfl, lnil _⟩, trivial⟩ (at_re (V' := (vals [(p0.length : Int), v1, e3, bI r4] [(p0.flatMap enI)])) (T := ⟨[(0, .gs 0 0 (.v 0) 1 false), (4, (ys 1))], [some (.rows 0 [] 3 true)], [some (0, 0)]⟩) (qs := [(ns 0 0), (ns 1 1), .lst 0 (some 0) []]) hat (by kernel_rfl) ⟨rfl, rfl, ⟨[], rfl, lnil _⟩, trivial⟩) fun a' w' hat' => ?_
          exact r2_CheckSamples_L1_ok fu p0 n (IntKind.wrap .i64 (v1 + (1 : Int))) o h _ _ _ _ _ _ _ hF hr hat' hx0 hx1
        · rw [if_neg h5] at h
          injection h with h; subst h
          exact to_done mixed ⟨[(.lss, (.v 1), (.v 0), true), (.leq, (.c 0), (.v 1), true), (.neq, (.v 3), (.c 0), false)], [(0, 0, (.v 1), [(ys 2)])], [(0, 1, (.v 0))], [⟨21, 1, [], [(ys 0), (ys 1), (ys 2)], [], [(ns 2 0), .num (.c (-100)) (.v 1), .num (.c 100) (.v 2)], 0, .bs (.v 0), [], .bs (.v 3), [], []⟩], [], []⟩ (V := (vals [(p0.length : Int), v1, e3, bI r4] [(p0.flatMap enI)])) (n := 3000) (f := 3000) (fid := 27) (fun _ => rfl) (V' := (vals [(p0.length : Int), v1] [(p0.flatMap enI)])) ⟨⟨lss_t h1, leq_t h2, bi_f h5, trivial⟩, ⟨⟨h2, _, rfl, flat_row enI_len he3⟩, trivial⟩, ⟨flat_length enI_len _, trivial⟩, trivial, trivial⟩ ⟨Kr4 _ _, trivial⟩ (T := ⟨[(2, (ys 1)), (3, .int .i64 2)], [some (.rows 0 [] 3 true)], [some (0, 0)]⟩) (ce := .ret) (qs := [(ns 1 1), .lst 0 (some 0) []]) rfl trivial hF hr (by kernel_rfl) ⟨(r v1), ⟨[], rfl, lnil _⟩, trivial⟩ (at_re (V' := (vals [(p0.length : Int), v1, e3, bI r4] [(p0.flatMap enI)])) (T := ⟨[(0, .gs 0 0 (.v 0) 1 false), (4, (ys 1))], [some (.rows 0 [] 3 true)], [some (0, 0)]⟩) (qs := [(ns 0 0), (ns 1 1), .lst 0 (some 0) []]) hat (by kernel_rfl) ⟨rfl, rfl, ⟨[], rfl, lnil _⟩, trivial⟩) fun a' w' hat' => hx0 v1 rfl a' w' hat'
      · rw [if_neg h2] at h
        cases h
    · rw [if_neg h1] at h
      injection h with h; subst h
      exact to_done mixed ⟨[(.lss, (.v 1), (.v 0), false)], [], [(0, 1, (.v 0))], [], [], []⟩ (V := (vals [(p0.length : Int), v1] [(p0.flatMap enI)])) (n := 3000) (f := 3000) (fid := 27) (fun _ => rfl) (V' := (vals [(p0.length : Int)] [(p0.flatMap enI)])) ⟨⟨lss_f h1, trivial⟩, trivial, ⟨flat_length enI_len _, trivial⟩, trivial, trivial⟩ trivial (T := ⟨[], [some (.rows 0 [] 3 true)], [some (0, 0)]⟩) (ce := (.exit 0)) (qs := [.lst 0 (some 0) []]) rfl trivial hF hr (by kernel_rfl) ⟨⟨[], rfl, lnil _⟩, trivial⟩ hat fun a' w' hat' => hx1 () rfl a' w' hat'
def r2_CheckSamples (fu : Nat) (a0 : List (Int)) : Option (Int × Int) := if (a0.length : Int) < (4 : Int) then (some ((0 : Int), (10 : Int))) else (if (20 : Int) < (a0.length : Int) then (some ((0 : Int), (8 : Int))) else (Option.bind (r2_CheckSamples_L1 fu a0 fu (0 : Int)) fun o3 => (match o3 with | .inl y4 => (some (y4, (2 : Int))) | .inr y5 => (some ((0 : Int), (0 : Int))))))
theorem r2_CheckSamples_ok (fu : Nat) (a0 : List (Int)) (y : Int × Int) (h : r2_CheckSamples fu a0 = some y) : CallOk Try.prog 27 (vals [(a0.length : Int)] [(a0.flatMap enI)]) [.gs 0 0 (.v 0) 1 false] [some (.rows 0 [] 3 true)] 1 (vals [y.1, y.2] []) (.tup [(ys 0), (ys 1)]) [none] := by
  refine fun_of (nt := 24) (by kernel_rfl) (by kernel_rfl) fun φ0 w0 a w hat => ?_
  have hF := wide_fw
  have hr : Fence.wide.round = none := rfl
  unfold r2_CheckSamples at h
  by_cases h1 : (a0.length : Int) < (4 : Int)
  · rw [if_pos h1] at h
    injection h with h; subst h
    exact to_fin mixed ⟨[(.lss, (.v 0), (.c 4), true)], [], [(0, 1, (.v 0))], [], [], []⟩ (V := (vals [(a0.length : Int)] [(a0.flatMap enI)])) (n := 3000) (f := 3000) (fid := 27) (fun _ => rfl) ⟨⟨lss_t h1, trivial⟩, trivial, ⟨flat_length enI_len _, trivial⟩, trivial, trivial⟩ trivial (R := ⟨.tup [(ys 0), (ys 1)], [none], [some (0, 0)]⟩) (qs := [.num (.c 0) (.v 0), .num (.c 10) (.v 1)]) wok0 trivial hF hr (by kernel_rfl) ⟨(r (0 : Int)), (r (10 : Int)), trivial⟩ hat
  · rw [if_neg h1] at h
    by_cases h2 : (20 : Int) < (a0.length : Int)
    · rw [if_pos h2] at h
      injection h with h; subst h
      exact to_fin mixed ⟨[(.lss, (.v 0), (.c 4), false), (.gtr, (.v 0), (.c 20), true)], [], [(0, 1, (.v 0))], [], [], []⟩ (V := (vals [(a0.length : Int)] [(a0.flatMap enI)])) (n := 3000) (f := 3000) (fid := 27) (fun _ => rfl) ⟨⟨lss_f h1, gtr_t h2, trivial⟩, trivial, ⟨flat_length enI_len _, trivial⟩, trivial, trivial⟩ trivial (R := ⟨.tup [(ys 0), (ys 1)], [none], [some (0, 0)]⟩) (qs := [.num (.c 0) (.v 0), .num (.c 8) (.v 1)]) wok0 trivial hF hr (by kernel_rfl) ⟨(r (0 : Int)), (r (8 : Int)), trivial⟩ hat
    · rw [if_neg h2] at h
      obtain ⟨o3, ho3, h⟩ := Option.bind_eq_some_iff.1 h
      refine to_loop mixed ⟨[(.lss, (.v 0), (.c 4), false), (.gtr, (.v 0), (.c 20), false)], [], [(0, 1, (.v 0))], [], [], []⟩ (V := (vals [(a0.length : Int)] [(a0.flatMap enI)])) (n := 3000) (f := 3000) (fid := 27) (fun _ => rfl) (V' := (vals [(a0.length : Int), (0 : Int)] [(a0.flatMap enI)])) ⟨⟨lss_f h1, gtr_f h2, trivial⟩, trivial, ⟨flat_length enI_len _, trivial⟩, trivial, trivial⟩ trivial (T := ⟨[(0, .gs 0 0 (.v 0) 1 false), (4, (ys 1))], [some (.rows 0 [] 3 true)], [some (0, 0)]⟩) (B := subAt (bodyOf Try.prog 27) [1, 1, 1, 0, 1, 0, 0]) (K' := [.bk 0, .sq (subAt (bodyOf Try.prog 27) [1, 1, 1, 1]) [1, 1, 1, 1]]) (qs := [(ns 0 0), .num (.c 0) (.v 1), .lst 0 (some 0) []]) wok0 trivial hF hr (by kernel_rfl) ⟨(r (a0.length : Int)), (r (0 : Int)), ⟨[], rfl, lnil _⟩, trivial⟩ hat fun aa1 ww1 hat1 => loop_in (r2_CheckSamples_L1_ok fu a0 fu (0 : Int) o3 ho3 _ _ _ _ _ _ _ hF hr hat1 ?_ ?_)
      · intro y4 hy aa2 ww2 hat
        subst hy
        dsimp only at h
        show (Wk.out .ret).goal _ _ _ [.bk 0, .sq (subAt (bodyOf Try.prog 27) [1, 1, 1, 1]) [1, 1, 1, 1]] _ aa2 ww2
        injection h with h; subst h
        exact to_fin mixed ⟨[], [], [(0, 1, (.v 0))], [], [], []⟩ (V := (vals [(a0.length : Int), y4] [(a0.flatMap enI)])) (n := 3000) (f := 3000) (fid := 27) (fun _ => rfl) ⟨trivial, trivial, ⟨flat_length enI_len _, trivial⟩, trivial, trivial⟩ trivial (R := ⟨.tup [(ys 0), (ys 1)], [none], [some (0, 0)]⟩) (qs := [(ns 1 0), .num (.c 2) (.v 1)]) trivial ⟨rfl, trivial⟩ hF hr (by kernel_rfl) ⟨(r y4), (r (2 : Int)), trivial⟩ hat
      · intro y5 hy aa2 ww2 hat
        subst hy
        dsimp only at h
        show (Wk.out (.exit 0)).goal _ _ _ [.bk 0, .sq (subAt (bodyOf Try.prog 27) [1, 1, 1, 1]) [1, 1, 1, 1]] _ aa2 ww2
        injection h with h; subst h
        exact to_fin mixed ⟨[], [], [(0, 1, (.v 0))], [], [], []⟩ (V := (vals [(a0.length : Int)] [(a0.flatMap enI)])) (n := 3000) (f := 3000) (fid := 27) (fun _ => rfl) ⟨trivial, trivial, ⟨flat_length enI_len _, trivial⟩, trivial, trivial⟩ trivial (R := ⟨.tup [(ys 0), (ys 1)], [none], [some (0, 0)]⟩) (qs := [.num (.c 0) (.v 0), .num (.c 0) (.v 1)]) trivial ⟨rfl, trivial⟩ hF hr (by kernel_rfl) ⟨(r (0 : Int)), (r (0 : Int)), trivial⟩ hat
def r2_SamplesErr (fu : Nat) (a0 : List (Int)) : Option (Int) := Option.bind (r2_CheckSamples fu a0) fun r1 => some r1.2
theorem r2_SamplesErr_ok (fu : Nat) (a0 : List (Int)) (y : Int) (h : r2_SamplesErr fu a0 = some y) : CallOk Try.prog 33 (vals [(a0.length : Int)] [(a0.flatMap enI)]) [.gs 0 0 (.v 0) 1 false] [some (.rows 0 [] 3 true)] 1 (vals [y] []) ((ys 0)) [none] := by
  refine fun_of (nt := 11) (by kernel_rfl) (by kernel_rfl) fun φ0 w0 a w hat => ?_
  have hF := wide_fw
  have hr : Fence.wide.round = none := rfl
  unfold r2_SamplesErr at h
  obtain ⟨r1, hr1, h⟩ := Option.bind_eq_some_iff.1 h
  have Kr1 : KO Try.prog [(a0.length : Int), r1.1, r1.2] [(a0.flatMap enI)] ⟨27, 1, [some (0, 0)], [.gs 0 0 (.v 0) 1 false], [some (.rows 0 [] 3 true)], [(ns 0 0), .lst 0 (some 0) []], 1, .tup [(ys 0), (ys 1)], [none], .tup [(ys 1), (ys 2)], [], []⟩ := fun N M => ⟨_, _, [(ns 0 1), (ns 1 2)], ⟨r2_CheckSamples_ok fu a0 r1 hr1, ⟨(r (a0.length : Int)), ⟨[], rfl, lnil _⟩, trivial⟩, by kernel_rfl, ⟨rfl, rfl, trivial⟩⟩⟩
  injection h with h; subst h
  exact to_fin mixed ⟨[], [], [(0, 1, (.v 0))], [⟨27, 1, [some (0, 0)], [.gs 0 0 (.v 0) 1 false], [some (.rows 0 [] 3 true)], [(ns 0 0), .lst 0 (some 0) []], 1, .tup [(ys 0), (ys 1)], [none], .tup [(ys 1), (ys 2)], [], []⟩], [], []⟩ (V := (vals [(a0.length : Int), r1.1, r1.2] [(a0.flatMap enI)])) (n := 3000) (f := 3000) (fid := 33) (fun _ => rfl) ⟨trivial, trivial, ⟨flat_length enI_len _, trivial⟩, trivial, trivial⟩ ⟨Kr1 _ _, trivial⟩ (R := ⟨(ys 0), [none], [some (0, 0)]⟩) (qs := [(ns 2 0)]) wok0 trivial hF hr (by kernel_rfl) ⟨(r r1.2), trivial⟩ (at_re (V' := (vals [(a0.length : Int), r1.1, r1.2] [(a0.flatMap enI)])) (T := ⟨[(0, .gs 0 0 (.v 0) 1 false)], [some (.rows 0 [] 3 true)], [some (0, 0)]⟩) (qs := [(ns 0 0), .lst 0 (some 0) []]) hat (by kernel_rfl) ⟨rfl, ⟨[], rfl, lnil _⟩, trivial⟩)
def b_Gcd_L1 (fu : Nat)  : Nat → Int → Int → Option ((Int))
  | 0, _, _ => none
  | n + 1, v0, v1 => if v1 = (0 : Int) then (some v0) else (b_Gcd_L1 fu n v1 (Int.tmod v0 v1))
theorem b_Gcd_L1_ok (fu : Nat)  : ∀ (n : Nat) (v0 : Int) (v1 : Int) (o : (Int)), b_Gcd_L1 fu  n v0 v1 = some o → ∀ (φ0 : Phi) (w0 : World) (F : Fence) (k : Nat) (R : Exit → Act → World → Prop) (a : Act) (w : World), FW F → F.round = none → AtS (vals [v0, v1] []) [(0, (ys 0)), (1, (ys 1))] [] 13 0 0 φ0 w0 a w → (∀ (y : Int), o = y → ∀ a' w', AtS (vals [y] []) [(0, (ys 0))] [] 13 0 0 φ0 w0 a' w' → R (Exit.exit 0) a' w') → Code.roundsIn F k Try.prog (subAt (bodyOf Try.prog 105) [1, 0, 0, 0]) R n a w
  | 0, _, _, _, h => by cases h
  | n + 1, v0, v1, o, h => by
    intro φ0 w0 F k R a w hF hr hat hx0
    rw [b_Gcd_L1] at h
    refine rounds_in (p := [1, 0, 0, 0]) ?_
    by_cases h1 : v1 = (0 : Int)
    · rw [if_pos h1] at h
      injection h with h; subst h
      exact to_done mixed ⟨[(.neq, (.v 1), (.c 0), false)], [], [], [], [], []⟩ (V := (vals [v0, v1] [])) (n := 3000) (f := 3000) (fid := 105) (fun _ => rfl) (V' := (vals [v0] [])) ⟨⟨neq_f h1, trivial⟩, trivial, trivial, trivial, trivial⟩ trivial (T := ⟨[(0, (ys 0))], [], []⟩) (ce := (.exit 0)) (qs := [(ns 0 0)]) rfl trivial hF hr (by kernel_rfl) ⟨(r v0), trivial⟩ hat fun a' w' hat' => hx0 v0 rfl a' w' hat'
    · rw [if_neg h1] at h
      refine to_done mixed ⟨[(.neq, (.v 1), (.c 0), true), (.eql, (.v 1), (.c 0), false)], [], [], [], [], []⟩ (V := (vals [v0, v1] [])) (n := 3000) (f := 3000) (fid := 105) (fun _ => rfl) (V' := (vals [v1, (Int.tmod v0 v1)] [])) ⟨⟨neq_t h1, eql_f (a := v1) (b := (0 : Int)) (by omega), trivial⟩, trivial, trivial, trivial, trivial⟩ trivial (T := ⟨[(0, (ys 0)), (1, (ys 1))], [], []⟩) (ce := .normal) (qs := [(ns 1 0), .num (.rem .i64 (.v 0) (.v 1)) (.v 1)]) rfl trivial hF hr (by kernel_rfl) ⟨(r v1), (r (Int.tmod v0 v1)), trivial⟩ hat fun a' w' hat' => ?_
      exact b_Gcd_L1_ok fu n v1 (Int.tmod v0 v1) o h _ _ _ _ _ _ _ hF hr hat' hx0
def b_Size (a0 : Int) : Option (Int) := if a0 < (IntKind.wrap .i64 ((0 : Int) - a0)) then (some (IntKind.wrap .i64 ((0 : Int) - a0))) else (some a0)
theorem b_Size_ok (a0 : Int) (y : Int) (h : b_Size a0 = some y) : CallOk Try.prog 136 (vals [a0] []) [(ys 0)] [] 0 (vals [y] []) ((ys 0)) [] := by
  refine fun_of (nt := 7) (by kernel_rfl) (by kernel_rfl) fun φ0 w0 a w hat => ?_
  have hF := wide_fw
  have hr : Fence.wide.round = none := rfl
  unfold b_Size at h
  by_cases h1 : a0 < (IntKind.wrap .i64 ((0 : Int) - a0))
  · rw [if_pos h1] at h
    injection h with h; subst h
    exact to_fin mixed ⟨[(.lss, (.v 0), (.sub .i64 (.c 0) (.v 0)), true)], [], [], [], [], []⟩ (V := (vals [a0] [])) (n := 3000) (f := 3000) (fid := 136) (fun _ => rfl) ⟨⟨lss_t h1, trivial⟩, trivial, trivial, trivial, trivial⟩ trivial (R := ⟨(ys 0), [], []⟩) (qs := [.num (.sub .i64 (.c 0) (.v 0)) (.v 0)]) wok0 trivial hF hr (by kernel_rfl) ⟨(show (IntKind.wrap .i64 ((0 : Int) - a0)) = (IntKind.wrap .i64 ((0 : Int) - a0)) from rfl), trivial⟩ hat
  · rw [if_neg h1] at h
    injection h with h; subst h
    exact to_fin mixed ⟨[(.lss, (.v 0), (.sub .i64 (.c 0) (.v 0)), false)], [], [], [], [], []⟩ (V := (vals [a0] [])) (n := 3000) (f := 3000) (fid := 136) (fun _ => rfl) ⟨⟨lss_f h1, trivial⟩, trivial, trivial, trivial, trivial⟩ trivial (R := ⟨(ys 0), [], []⟩) (qs := [(ns 0 0)]) wok0 trivial hF hr (by kernel_rfl) ⟨(r a0), trivial⟩ hat
def b_Gcd (fu : Nat) (a0 : Int) (a1 : Int) : Option (Int) := Option.bind (b_Gcd_L1 fu fu a0 a1) fun o1 => Option.bind (b_Size o1) fun r2 => some r2
theorem b_Gcd_ok (fu : Nat) (a0 : Int) (a1 : Int) (y : Int) (h : b_Gcd fu a0 a1 = some y) : CallOk Try.prog 105 (vals [a0, a1] []) [(ys 0), (ys 1)] [] 0 (vals [y] []) ((ys 0)) [] := by
  refine fun_of (nt := 13) (by kernel_rfl) (by kernel_rfl) fun φ0 w0 a w hat => ?_
  have hF := wide_fw
  have hr : Fence.wide.round = none := rfl
  unfold b_Gcd at h
  obtain ⟨o1, ho1, h⟩ := Option.bind_eq_some_iff.1 h
  refine to_loop mixed ⟨[], [], [], [], [], []⟩ (V := (vals [a0, a1] [])) (n := 3000) (f := 3000) (fid := 105) (fun _ => rfl) (V' := (vals [a0, a1] [])) ⟨trivial, trivial, trivial, trivial, trivial⟩ trivial (T := ⟨[(0, (ys 0)), (1, (ys 1))], [], []⟩) (B := subAt (bodyOf Try.prog 105) [1, 0, 0, 0]) (K' := [.bk 0, .sq (subAt (bodyOf Try.prog 105) [1, 1]) [1, 1]]) (qs := [(ns 0 0), (ns 1 1)]) wok0 trivial hF hr (by kernel_rfl) ⟨(r a0), (r a1), trivial⟩ hat fun aa1 ww1 hat1 => loop_in (b_Gcd_L1_ok fu fu a0 a1 o1 ho1 _ _ _ _ _ _ _ hF hr hat1 ?_)
  · intro yy hy aa2 ww2 hat
    subst hy
    show (Wk.out (.exit 0)).goal _ _ _ [.bk 0, .sq (subAt (bodyOf Try.prog 105) [1, 1]) [1, 1]] _ aa2 ww2
    obtain ⟨r2, hr2, h⟩ := Option.bind_eq_some_iff.1 h
    have Kr2 : KO Try.prog [o1, r2] [] ⟨136, 0, [], [(ys 0)], [], [(ns 0 0)], 0, (ys 0), [], (ys 1), [], []⟩ := fun N M => ⟨_, _, [(ns 0 1)], ⟨b_Size_ok o1 r2 hr2, ⟨(r o1), trivial⟩, by kernel_rfl, ⟨rfl, trivial⟩⟩⟩
    injection h with h; subst h
    exact to_fin mixed ⟨[], [], [], [⟨136, 0, [], [(ys 0)], [], [(ns 0 0)], 0, (ys 0), [], (ys 1), [], []⟩], [], []⟩ (V := (vals [o1, r2] [])) (n := 3000) (f := 3000) (fid := 105) (fun _ => rfl) ⟨trivial, trivial, trivial, trivial, trivial⟩ ⟨Kr2 _ _, trivial⟩ (R := ⟨(ys 0), [], []⟩) (qs := [(ns 1 0)]) trivial ⟨rfl, trivial⟩ hF hr (by kernel_rfl) ⟨(r r2), trivial⟩ (at_re (V' := (vals [o1, r2] [])) (T := ⟨[(0, (ys 0))], [], []⟩) (qs := [(ns 0 0)]) hat (by kernel_rfl) ⟨rfl, trivial⟩)
def r2_Lowest (fu : Nat) (a0 : Int) (a1 : Int) (a2 : Int) : Option (Int × Int × Int) := Option.bind (b_Gcd fu a0 a1) fun r1 => Option.bind (b_Gcd fu r1 a2) fun r2 => if a2 < (0 : Int) then (if (IntKind.wrap .i64 ((0 : Int) - r2)) = (0 : Int) then none else (some ((IntKind.wrap .i64 (Int.tdiv a0 (IntKind.wrap .i64 ((0 : Int) - r2)))), (IntKind.wrap .i64 (Int.tdiv a1 (IntKind.wrap .i64 ((0 : Int) - r2)))), (IntKind.wrap .i64 (Int.tdiv a2 (IntKind.wrap .i64 ((0 : Int) - r2))))))) else (if r2 = (0 : Int) then none else (some ((IntKind.wrap .i64 (Int.tdiv a0 r2)), (IntKind.wrap .i64 (Int.tdiv a1 r2)), (IntKind.wrap .i64 (Int.tdiv a2 r2)))))
theorem r2_Lowest_ok (fu : Nat) (a0 : Int) (a1 : Int) (a2 : Int) (y : Int × Int × Int) (h : r2_Lowest fu a0 a1 a2 = some y) : CallOk Try.prog 69 (vals [a0, a1, a2] []) [(ys 0), (ys 1), (ys 2)] [] 0 (vals [y.1, y.2.1, y.2.2] []) (.agg [(ys 0), (ys 1), (ys 2)]) [] := by
  refine fun_of (nt := 27) (by kernel_rfl) (by kernel_rfl) fun φ0 w0 a w hat => ?_
  have hF := wide_fw
  have hr : Fence.wide.round = none := rfl
  unfold r2_Lowest at h
  obtain ⟨r1, hr1, h⟩ := Option.bind_eq_some_iff.1 h
  have Kr1 : KO Try.prog [a0, a1, a2, r1] [] ⟨105, 1, [], [(ys 0), (ys 1)], [], [(ns 0 0), (ns 1 1)], 0, (ys 0), [], (ys 3), [], []⟩ := fun N M => ⟨_, _, [(ns 0 3)], ⟨b_Gcd_ok fu a0 a1 r1 hr1, ⟨(r a0), (r a1), trivial⟩, by kernel_rfl, ⟨rfl, trivial⟩⟩⟩
  obtain ⟨r2, hr2, h⟩ := Option.bind_eq_some_iff.1 h
  have Kr2 : KO Try.prog [a0, a1, a2, r1, r2] [] ⟨105, 1, [], [(ys 0), (ys 1)], [], [(ns 3 0), (ns 2 1)], 0, (ys 0), [], (ys 4), [], []⟩ := fun N M => ⟨_, _, [(ns 0 4)], ⟨b_Gcd_ok fu r1 a2 r2 hr2, ⟨(r r1), (r a2), trivial⟩, by kernel_rfl, ⟨rfl, trivial⟩⟩⟩
  by_cases h3 : a2 < (0 : Int)
  · rw [if_pos h3] at h
    by_cases h4 : (IntKind.wrap .i64 ((0 : Int) - r2)) = (0 : Int)
    · rw [if_pos h4] at h
      cases h
    · rw [if_neg h4] at h
      injection h with h; subst h
      exact to_fin mixed ⟨[(.lss, (.v 2), (.c 0), true), (.eql, (.sub .i64 (.c 0) (.v 4)), (.c 0), false)], [], [], [⟨105, 1, [], [(ys 0), (ys 1)], [], [(ns 0 0), (ns 1 1)], 0, (ys 0), [], (ys 3), [], []⟩, ⟨105, 1, [], [(ys 0), (ys 1)], [], [(ns 3 0), (ns 2 1)], 0, (ys 0), [], (ys 4), [], []⟩], [], []⟩ (V := (vals [a0, a1, a2, r1, r2] [])) (n := 3000) (f := 3000) (fid := 69) (fun _ => rfl) ⟨⟨lss_t h3, eql_f h4, trivial⟩, trivial, trivial, trivial, trivial⟩ ⟨Kr1 _ _, Kr2 _ _, trivial⟩ (R := ⟨.agg [(ys 0), (ys 1), (ys 2)], [], []⟩) (qs := [.num (.quo .i64 (.v 0) (.sub .i64 (.c 0) (.v 4))) (.v 0), .num (.quo .i64 (.v 1) (.sub .i64 (.c 0) (.v 4))) (.v 1), .num (.quo .i64 (.v 2) (.sub .i64 (.c 0) (.v 4))) (.v 2)]) wok0 trivial hF hr (by kernel_rfl) ⟨(show (IntKind.wrap .i64 (Int.tdiv a0 (IntKind.wrap .i64 ((0 : Int) - r2)))) = (IntKind.wrap .i64 (Int.tdiv a0 (IntKind.wrap .i64 ((0 : Int) - r2)))) from rfl), (show (IntKind.wrap .i64 (Int.tdiv a1 (IntKind.wrap .i64 ((0 : Int) - r2)))) = (IntKind.wrap .i64 (Int.tdiv a1 (IntKind.wrap .i64 ((0 : Int) - r2)))) from rfl), (show (IntKind.wrap .i64 (Int.tdiv a2 (IntKind.wrap .i64 ((0 : Int) - r2)))) = (IntKind.wrap .i64 (Int.tdiv a2 (IntKind.wrap .i64 ((0 : Int) - r2)))) from rfl), trivial⟩ (at_re (V' := (vals [a0, a1, a2, r1, r2] [])) (T := ⟨[(0, (ys 0)), (1, (ys 1)), (2, (ys 2))], [], []⟩) (qs := [(ns 0 0), (ns 1 1), (ns 2 2)]) hat (by kernel_rfl) ⟨rfl, rfl, rfl, trivial⟩)
  · rw [if_neg h3] at h
    by_cases h5 : r2 = (0 : Int)
    · rw [if_pos h5] at h
      cases h
    · rw [if_neg h5] at h
      injection h with h; subst h
      exact to_fin mixed ⟨[(.lss, (.v 2), (.c 0), false), (.eql, (.v 4), (.c 0), false)], [], [], [⟨105, 1, [], [(ys 0), (ys 1)], [], [(ns 0 0), (ns 1 1)], 0, (ys 0), [], (ys 3), [], []⟩, ⟨105, 1, [], [(ys 0), (ys 1)], [], [(ns 3 0), (ns 2 1)], 0, (ys 0), [], (ys 4), [], []⟩], [], []⟩ (V := (vals [a0, a1, a2, r1, r2] [])) (n := 3000) (f := 3000) (fid := 69) (fun _ => rfl) ⟨⟨lss_f h3, eql_f h5, trivial⟩, trivial, trivial, trivial, trivial⟩ ⟨Kr1 _ _, Kr2 _ _, trivial⟩ (R := ⟨.agg [(ys 0), (ys 1), (ys 2)], [], []⟩) (qs := [.num (.quo .i64 (.v 0) (.v 4)) (.v 0), .num (.quo .i64 (.v 1) (.v 4)) (.v 1), .num (.quo .i64 (.v 2) (.v 4)) (.v 2)]) wok0 trivial hF hr (by kernel_rfl) ⟨(r (IntKind.wrap .i64 (Int.tdiv a0 r2))), (r (IntKind.wrap .i64 (Int.tdiv a1 r2))), (r (IntKind.wrap .i64 (Int.tdiv a2 r2))), trivial⟩ (at_re (V' := (vals [a0, a1, a2, r1, r2] [])) (T := ⟨[(0, (ys 0)), (1, (ys 1)), (2, (ys 2))], [], []⟩) (qs := [(ns 0 0), (ns 1 1), (ns 2 2)]) hat (by kernel_rfl) ⟨rfl, rfl, rfl, trivial⟩)
def r2_PredictorErr (fu : Nat) (a0_0 : Int) (a0_1 : Int) (a0_2 : Int) : Option (Int) := Option.bind (b_Within a0_2 (1 : Int) (1000000000000 : Int)) fun r1 => if r1 = true then (Option.bind (b_Within a0_0 (-1000000000000 : Int) (1000000000000 : Int)) fun r3 => if r3 = true then (Option.bind (b_Within a0_1 (-1000000000000 : Int) (1000000000000 : Int)) fun r5 => if r5 = true then (Option.bind (r2_Lowest fu a0_0 a0_1 a0_2) fun r7 => if r7.1 = a0_0 then (if r7.2.1 = a0_1 then (if r7.2.2 = a0_2 then (some (0 : Int)) else (some (3 : Int))) else (some (3 : Int))) else (some (3 : Int))) else (some (2 : Int))) else (some (2 : Int))) else (some (2 : Int))
theorem r2_PredictorErr_ok (fu : Nat) (a0_0 : Int) (a0_1 : Int) (a0_2 : Int) (y : Int) (h : r2_PredictorErr fu a0_0 a0_1 a0_2 = some y) : CallOk Try.prog 30 (vals [a0_0, a0_1, a0_2] []) [.agg [(ys 0), (ys 1), (ys 2)]] [] 0 (vals [y] []) ((ys 0)) [] := by
  refine fun_of (nt := 36) (by kernel_rfl) (by kernel_rfl) fun φ0 w0 a w hat => ?_
  have hF := wide_fw
  have hr : Fence.wide.round = none := rfl
  unfold r2_PredictorErr at h
  obtain ⟨r1, hr1, h⟩ := Option.bind_eq_some_iff.1 h
  have Kr1 : KO Try.prog [a0_0, a0_1, a0_2, bI r1] [] ⟨21, 1, [], [(ys 0), (ys 1), (ys 2)], [], [(ns 2 0), .num (.c 1) (.v 1), .num (.c 1000000000000) (.v 2)], 0, .bs (.v 0), [], .bs (.v 3), [], []⟩ := fun N M => ⟨_, _, [(ns 0 3)], ⟨b_Within_ok a0_2 (1 : Int) (1000000000000 : Int) r1 hr1, ⟨(r a0_2), (r (1 : Int)), (r (1000000000000 : Int)), trivial⟩, by kernel_rfl, ⟨rfl, trivial⟩⟩⟩
  by_cases h2 : r1 = true
  · rw [if_pos h2] at h
    obtain ⟨r3, hr3, h⟩ := Option.bind_eq_some_iff.1 h
    have Kr3 : KO Try.prog [a0_0, a0_1, a0_2, bI r1, bI r3] [] ⟨21, 1, [], [(ys 0), (ys 1), (ys 2)], [], [(ns 0 0), .num (.c (-1000000000000)) (.v 1), .num (.c 1000000000000) (.v 2)], 0, .bs (.v 0), [], .bs (.v 4), [], []⟩ := fun N M => ⟨_, _, [(ns 0 4)], ⟨b_Within_ok a0_0 (-1000000000000 : Int) (1000000000000 : Int) r3 hr3, ⟨(r a0_0), (show (-1000000000000 : Int) = (-1000000000000 : Int) from rfl), (r (1000000000000 : Int)), trivial⟩, by kernel_rfl, ⟨rfl, trivial⟩⟩⟩
    by_cases h4 : r3 = true
    · rw [if_pos h4] at h
      obtain ⟨r5, hr5, h⟩ := Option.bind_eq_some_iff.1 h
      have Kr5 : KO Try.prog [a0_0, a0_1, a0_2, bI r1, bI r3, bI r5] [] ⟨21, 1, [], [(ys 0), (ys 1), (ys 2)], [], [(ns 1 0), .num (.c (-1000000000000)) (.v 1), .num (.c 1000000000000) (.v 2)], 0, .bs (.v 0), [], .bs (.v 5), [], []⟩ := fun N M => ⟨_, _, [(ns 0 5)], ⟨b_Within_ok a0_1 (-1000000000000 : Int) (1000000000000 : Int) r5 hr5, ⟨(r a0_1), (show (-1000000000000 : Int) = (-1000000000000 : Int) from rfl), (r (1000000000000 : Int)), trivial⟩, by kernel_rfl, ⟨rfl, trivial⟩⟩⟩
      by_cases h6 : r5 = true
      · rw [if_pos h6] at h
        obtain ⟨r7, hr7, h⟩ := Option.bind_eq_some_iff.1 h
        have Kr7 : KO Try.prog [a0_0, a0_1, a0_2, bI r1, bI r3, bI r5, r7.1, r7.2.1, r7.2.2] [] ⟨69, 1, [], [(ys 0), (ys 1), (ys 2)], [], [(ns 0 0), (ns 1 1), (ns 2 2)], 0, .agg [(ys 0), (ys 1), (ys 2)], [], .agg [(ys 6), (ys 7), (ys 8)], [], []⟩ := fun N M => ⟨_, _, [(ns 0 6), (ns 1 7), (ns 2 8)], ⟨r2_Lowest_ok fu a0_0 a0_1 a0_2 r7 hr7, ⟨(r a0_0), (r a0_1), (r a0_2), trivial⟩, by kernel_rfl, ⟨rfl, rfl, rfl, trivial⟩⟩⟩
        by_cases h8 : r7.1 = a0_0
        · rw [if_pos h8] at h
          by_cases h9 : r7.2.1 = a0_1
          · rw [if_pos h9] at h
            by_cases h10 : r7.2.2 = a0_2
            · rw [if_pos h10] at h
              injection h with h; subst h
              exact to_fin mixed ⟨[(.neq, (.v 3), (.c 0), true), (.neq, (.v 4), (.c 0), true), (.neq, (.v 5), (.c 0), true), (.eql, (.v 6), (.v 0), true), (.eql, (.v 7), (.v 1), true), (.eql, (.v 8), (.v 2), true)], [], [], [⟨21, 1, [], [(ys 0), (ys 1), (ys 2)], [], [(ns 2 0), .num (.c 1) (.v 1), .num (.c 1000000000000) (.v 2)], 0, .bs (.v 0), [], .bs (.v 3), [], []⟩, ⟨21, 1, [], [(ys 0), (ys 1), (ys 2)], [], [(ns 0 0), .num (.c (-1000000000000)) (.v 1), .num (.c 1000000000000) (.v 2)], 0, .bs (.v 0), [], .bs (.v 4), [], []⟩, ⟨21, 1, [], [(ys 0), (ys 1), (ys 2)], [], [(ns 1 0), .num (.c (-1000000000000)) (.v 1), .num (.c 1000000000000) (.v 2)], 0, .bs (.v 0), [], .bs (.v 5), [], []⟩, ⟨69, 1, [], [(ys 0), (ys 1), (ys 2)], [], [(ns 0 0), (ns 1 1), (ns 2 2)], 0, .agg [(ys 0), (ys 1), (ys 2)], [], .agg [(ys 6), (ys 7), (ys 8)], [], []⟩], [], []⟩ (V := (vals [a0_0, a0_1, a0_2, bI r1, bI r3, bI r5, r7.1, r7.2.1, r7.2.2] [])) (n := 3000) (f := 3000) (fid := 30) (fun _ => rfl) ⟨⟨bi_t h2, bi_t h4, bi_t h6, eql_t h8, eql_t h9, eql_t h10, trivial⟩, trivial, trivial, trivial, trivial⟩ ⟨Kr1 _ _, Kr3 _ _, Kr5 _ _, Kr7 _ _, trivial⟩ (R := ⟨(ys 0), [], []⟩) (qs := [.num (.c 0) (.v 0)]) wok0 trivial hF hr (by kernel_rfl) ⟨(r (0 : Int)), trivial⟩ (at_re (V' := (vals [a0_0, a0_1, a0_2, bI r1, bI r3, bI r5, r7.1, r7.2.1, r7.2.2] [])) (T := ⟨[(0, .agg [(ys 0), (ys 1), (ys 2)])], [], []⟩) (qs := [(ns 0 0), (ns 1 1), (ns 2 2)]) hat (by kernel_rfl) ⟨rfl, rfl, rfl, trivial⟩)
            · rw [if_neg h10] at h
              injection h with h; subst h
              exact to_fin mixed ⟨[(.neq, (.v 3), (.c 0), true), (.neq, (.v 4), (.c 0), true), (.neq, (.v 5), (.c 0), true), (.eql, (.v 6), (.v 0), true), (.eql, (.v 7), (.v 1), true), (.eql, (.v 8), (.v 2), false)], [], [], [⟨21, 1, [], [(ys 0), (ys 1), (ys 2)], [], [(ns 2 0), .num (.c 1) (.v 1), .num (.c 1000000000000) (.v 2)], 0, .bs (.v 0), [], .bs (.v 3), [], []⟩, ⟨21, 1, [], [(ys 0), (ys 1), (ys 2)], [], [(ns 0 0), .num (.c (-1000000000000)) (.v 1), .num (.c 1000000000000) (.v 2)], 0, .bs (.v 0), [], .bs (.v 4), [], []⟩, ⟨21, 1, [], [(ys 0), (ys 1), (ys 2)], [], [(ns 1 0), .num (.c (-1000000000000)) (.v 1), .num (.c 1000000000000) (.v 2)], 0, .bs (.v 0), [], .bs (.v 5), [], []⟩, ⟨69, 1, [], [(ys 0), (ys 1), (ys 2)], [], [(ns 0 0), (ns 1 1), (ns 2 2)], 0, .agg [(ys 0), (ys 1), (ys 2)], [], .agg [(ys 6), (ys 7), (ys 8)], [], []⟩], [], []⟩ (V := (vals [a0_0, a0_1, a0_2, bI r1, bI r3, bI r5, r7.1, r7.2.1, r7.2.2] [])) (n := 3000) (f := 3000) (fid := 30) (fun _ => rfl) ⟨⟨bi_t h2, bi_t h4, bi_t h6, eql_t h8, eql_t h9, eql_f h10, trivial⟩, trivial, trivial, trivial, trivial⟩ ⟨Kr1 _ _, Kr3 _ _, Kr5 _ _, Kr7 _ _, trivial⟩ (R := ⟨(ys 0), [], []⟩) (qs := [.num (.c 3) (.v 0)]) wok0 trivial hF hr (by kernel_rfl) ⟨(r (3 : Int)), trivial⟩ (at_re (V' := (vals [a0_0, a0_1, a0_2, bI r1, bI r3, bI r5, r7.1, r7.2.1, r7.2.2] [])) (T := ⟨[(0, .agg [(ys 0), (ys 1), (ys 2)])], [], []⟩) (qs := [(ns 0 0), (ns 1 1), (ns 2 2)]) hat (by kernel_rfl) ⟨rfl, rfl, rfl, trivial⟩)
          · rw [if_neg h9] at h
            injection h with h; subst h
            exact to_fin mixed ⟨[(.neq, (.v 3), (.c 0), true), (.neq, (.v 4), (.c 0), true), (.neq, (.v 5), (.c 0), true), (.eql, (.v 6), (.v 0), true), (.eql, (.v 7), (.v 1), false)], [], [], [⟨21, 1, [], [(ys 0), (ys 1), (ys 2)], [], [(ns 2 0), .num (.c 1) (.v 1), .num (.c 1000000000000) (.v 2)], 0, .bs (.v 0), [], .bs (.v 3), [], []⟩, ⟨21, 1, [], [(ys 0), (ys 1), (ys 2)], [], [(ns 0 0), .num (.c (-1000000000000)) (.v 1), .num (.c 1000000000000) (.v 2)], 0, .bs (.v 0), [], .bs (.v 4), [], []⟩, ⟨21, 1, [], [(ys 0), (ys 1), (ys 2)], [], [(ns 1 0), .num (.c (-1000000000000)) (.v 1), .num (.c 1000000000000) (.v 2)], 0, .bs (.v 0), [], .bs (.v 5), [], []⟩, ⟨69, 1, [], [(ys 0), (ys 1), (ys 2)], [], [(ns 0 0), (ns 1 1), (ns 2 2)], 0, .agg [(ys 0), (ys 1), (ys 2)], [], .agg [(ys 6), (ys 7), (ys 8)], [], []⟩], [], []⟩ (V := (vals [a0_0, a0_1, a0_2, bI r1, bI r3, bI r5, r7.1, r7.2.1, r7.2.2] [])) (n := 3000) (f := 3000) (fid := 30) (fun _ => rfl) ⟨⟨bi_t h2, bi_t h4, bi_t h6, eql_t h8, eql_f h9, trivial⟩, trivial, trivial, trivial, trivial⟩ ⟨Kr1 _ _, Kr3 _ _, Kr5 _ _, Kr7 _ _, trivial⟩ (R := ⟨(ys 0), [], []⟩) (qs := [.num (.c 3) (.v 0)]) wok0 trivial hF hr (by kernel_rfl) ⟨(r (3 : Int)), trivial⟩ (at_re (V' := (vals [a0_0, a0_1, a0_2, bI r1, bI r3, bI r5, r7.1, r7.2.1, r7.2.2] [])) (T := ⟨[(0, .agg [(ys 0), (ys 1), (ys 2)])], [], []⟩) (qs := [(ns 0 0), (ns 1 1), (ns 2 2)]) hat (by kernel_rfl) ⟨rfl, rfl, rfl, trivial⟩)
        · rw [if_neg h8] at h
          injection h with h; subst h
          exact to_fin mixed ⟨[(.neq, (.v 3), (.c 0), true), (.neq, (.v 4), (.c 0), true), (.neq, (.v 5), (.c 0), true), (.eql, (.v 6), (.v 0), false)], [], [], [⟨21, 1, [], [(ys 0), (ys 1), (ys 2)], [], [(ns 2 0), .num (.c 1) (.v 1), .num (.c 1000000000000) (.v 2)], 0, .bs (.v 0), [], .bs (.v 3), [], []⟩, ⟨21, 1, [], [(ys 0), (ys 1), (ys 2)], [], [(ns 0 0), .num (.c (-1000000000000)) (.v 1), .num (.c 1000000000000) (.v 2)], 0, .bs (.v 0), [], .bs (.v 4), [], []⟩, ⟨21, 1, [], [(ys 0), (ys 1), (ys 2)], [], [(ns 1 0), .num (.c (-1000000000000)) (.v 1), .num (.c 1000000000000) (.v 2)], 0, .bs (.v 0), [], .bs (.v 5), [], []⟩, ⟨69, 1, [], [(ys 0), (ys 1), (ys 2)], [], [(ns 0 0), (ns 1 1), (ns 2 2)], 0, .agg [(ys 0), (ys 1), (ys 2)], [], .agg [(ys 6), (ys 7), (ys 8)], [], []⟩], [], []⟩ (V := (vals [a0_0, a0_1, a0_2, bI r1, bI r3, bI r5, r7.1, r7.2.1, r7.2.2] [])) (n := 3000) (f := 3000) (fid := 30) (fun _ => rfl) ⟨⟨bi_t h2, bi_t h4, bi_t h6, eql_f h8, trivial⟩, trivial, trivial, trivial, trivial⟩ ⟨Kr1 _ _, Kr3 _ _, Kr5 _ _, Kr7 _ _, trivial⟩ (R := ⟨(ys 0), [], []⟩) (qs := [.num (.c 3) (.v 0)]) wok0 trivial hF hr (by kernel_rfl) ⟨(r (3 : Int)), trivial⟩ (at_re (V' := (vals [a0_0, a0_1, a0_2, bI r1, bI r3, bI r5, r7.1, r7.2.1, r7.2.2] [])) (T := ⟨[(0, .agg [(ys 0), (ys 1), (ys 2)])], [], []⟩) (qs := [(ns 0 0), (ns 1 1), (ns 2 2)]) hat (by kernel_rfl) ⟨rfl, rfl, rfl, trivial⟩)
      · rw [if_neg h6] at h
        injection h with h; subst h
        exact to_fin mixed ⟨[(.neq, (.v 3), (.c 0), true), (.neq, (.v 4), (.c 0), true), (.neq, (.v 5), (.c 0), false)], [], [], [⟨21, 1, [], [(ys 0), (ys 1), (ys 2)], [], [(ns 2 0), .num (.c 1) (.v 1), .num (.c 1000000000000) (.v 2)], 0, .bs (.v 0), [], .bs (.v 3), [], []⟩, ⟨21, 1, [], [(ys 0), (ys 1), (ys 2)], [], [(ns 0 0), .num (.c (-1000000000000)) (.v 1), .num (.c 1000000000000) (.v 2)], 0, .bs (.v 0), [], .bs (.v 4), [], []⟩, ⟨21, 1, [], [(ys 0), (ys 1), (ys 2)], [], [(ns 1 0), .num (.c (-1000000000000)) (.v 1), .num (.c 1000000000000) (.v 2)], 0, .bs (.v 0), [], .bs (.v 5), [], []⟩], [], []⟩ (V := (vals [a0_0, a0_1, a0_2, bI r1, bI r3, bI r5] [])) (n := 3000) (f := 3000) (fid := 30) (fun _ => rfl) ⟨⟨bi_t h2, bi_t h4, bi_f h6, trivial⟩, trivial, trivial, trivial, trivial⟩ ⟨Kr1 _ _, Kr3 _ _, Kr5 _ _, trivial⟩ (R := ⟨(ys 0), [], []⟩) (qs := [.num (.c 2) (.v 0)]) wok0 trivial hF hr (by kernel_rfl) ⟨(r (2 : Int)), trivial⟩ (at_re (V' := (vals [a0_0, a0_1, a0_2, bI r1, bI r3, bI r5] [])) (T := ⟨[(0, .agg [(ys 0), (ys 1), (ys 2)])], [], []⟩) (qs := [(ns 0 0), (ns 1 1), (ns 2 2)]) hat (by kernel_rfl) ⟨rfl, rfl, rfl, trivial⟩)
    · rw [if_neg h4] at h
      injection h with h; subst h
      exact to_fin mixed ⟨[(.neq, (.v 3), (.c 0), true), (.neq, (.v 4), (.c 0), false)], [], [], [⟨21, 1, [], [(ys 0), (ys 1), (ys 2)], [], [(ns 2 0), .num (.c 1) (.v 1), .num (.c 1000000000000) (.v 2)], 0, .bs (.v 0), [], .bs (.v 3), [], []⟩, ⟨21, 1, [], [(ys 0), (ys 1), (ys 2)], [], [(ns 0 0), .num (.c (-1000000000000)) (.v 1), .num (.c 1000000000000) (.v 2)], 0, .bs (.v 0), [], .bs (.v 4), [], []⟩], [], []⟩ (V := (vals [a0_0, a0_1, a0_2, bI r1, bI r3] [])) (n := 3000) (f := 3000) (fid := 30) (fun _ => rfl) ⟨⟨bi_t h2, bi_f h4, trivial⟩, trivial, trivial, trivial, trivial⟩ ⟨Kr1 _ _, Kr3 _ _, trivial⟩ (R := ⟨(ys 0), [], []⟩) (qs := [.num (.c 2) (.v 0)]) wok0 trivial hF hr (by kernel_rfl) ⟨(r (2 : Int)), trivial⟩ (at_re (V' := (vals [a0_0, a0_1, a0_2, bI r1, bI r3] [])) (T := ⟨[(0, .agg [(ys 0), (ys 1), (ys 2)])], [], []⟩) (qs := [(ns 0 0), (ns 1 1), (ns 2 2)]) hat (by kernel_rfl) ⟨rfl, rfl, rfl, trivial⟩)
  · rw [if_neg h2] at h
    injection h with h; subst h
    exact to_fin mixed ⟨[(.neq, (.v 3), (.c 0), false)], [], [], [⟨21, 1, [], [(ys 0), (ys 1), (ys 2)], [], [(ns 2 0), .num (.c 1) (.v 1), .num (.c 1000000000000) (.v 2)], 0, .bs (.v 0), [], .bs (.v 3), [], []⟩], [], []⟩ (V := (vals [a0_0, a0_1, a0_2, bI r1] [])) (n := 3000) (f := 3000) (fid := 30) (fun _ => rfl) ⟨⟨bi_f h2, trivial⟩, trivial, trivial, trivial, trivial⟩ ⟨Kr1 _ _, trivial⟩ (R := ⟨(ys 0), [], []⟩) (qs := [.num (.c 2) (.v 0)]) wok0 trivial hF hr (by kernel_rfl) ⟨(r (2 : Int)), trivial⟩ (at_re (V' := (vals [a0_0, a0_1, a0_2, bI r1] [])) (T := ⟨[(0, .agg [(ys 0), (ys 1), (ys 2)])], [], []⟩) (qs := [(ns 0 0), (ns 1 1), (ns 2 2)]) hat (by kernel_rfl) ⟨rfl, rfl, rfl, trivial⟩)
def b_CopyInts (a0 : List (Int)) : Option (List (Int)) := if (a0.length : Int) < (65536 : Int) then (some a0) else none
theorem b_CopyInts_ok (a0 : List (Int)) (y : List (Int)) (h : b_CopyInts a0 = some y) : CallOk Try.prog 20 (vals [(a0.length : Int)] [(a0.flatMap enI)]) [.gs 0 0 (.v 0) 1 false] [some (.rows 0 [] 3 true)] 1 (vals [(y.length : Int)] [(y.flatMap enI)]) (.gs 1 0 (.v 0) 1 true) [none, some (.rows 0 [] 3 false)] := by
  refine fun_of (nt := 6) (by kernel_rfl) (by kernel_rfl) fun φ0 w0 a w hat => ?_
  have hF := wide_fw
  have hr : Fence.wide.round = none := rfl
  unfold b_CopyInts at h
  by_cases h1 : (a0.length : Int) < (65536 : Int)
  · rw [if_pos h1] at h
    injection h with h; subst h
    exact to_fin mixed ⟨[(.lss, (.v 0), (.c 65536), true)], [], [(0, 1, (.v 0))], [], [], []⟩ (V := (vals [(a0.length : Int)] [(a0.flatMap enI)])) (n := 3000) (f := 3000) (fid := 20) (fun _ => rfl) ⟨⟨lss_t h1, trivial⟩, trivial, ⟨flat_length enI_len _, trivial⟩, trivial, trivial⟩ trivial (R := ⟨.gs 1 0 (.v 0) 1 true, [none, some (.rows 0 [] 3 false)], [some (0, 0), some (1, 0)]⟩) (qs := [(ns 0 0), .lst 0 (some 0) []]) wok0 trivial hF hr (by kernel_rfl) ⟨(r (a0.length : Int)), ⟨[], rfl, lnil _⟩, trivial⟩ hat
  · rw [if_neg h1] at h
    cases h
end Go.Proofs.Ythffbfkcmbgghaa
