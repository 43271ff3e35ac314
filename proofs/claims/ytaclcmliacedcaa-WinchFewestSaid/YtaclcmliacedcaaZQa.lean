/-
  Go functions as Lean functions (written by tools/lift.py).
-/
import Derived.Test.YtaclcmliacedcaaZEd
import Derived.Test.YtaclcmliacedcaaZEg
set_option linter.all false
namespace Go.Proofs.Ytaclcmliacedcaa
open Go Go.RowKit
set_option maxRecDepth 100000
set_option maxHeartbeats 4000000

def u_LimitError (a0 : Int) (a1 : Int) (a2 : Int) : Option (Int) := if a0 < a1 then (some (2 : Int)) else (if a2 < a0 then (some (2 : Int)) else (some (0 : Int)))

theorem u_LimitError_ok (a0 : Int) (a1 : Int) (a2 : Int) (y : Int) (h : u_LimitError a0 a1 a2 = some y) : Cm.CallOk Try.prog 20 (Cm.vals [a0, a1, a2] []) [.sym .i64 (.v 0), .sym .i64 (.v 1), .sym .i64 (.v 2)] [] 0 (Cm.vals [y] []) (.sym .i64 (.v 0)) [] := by
  refine Cm.fun_of (nt := 15) (by kernel_rfl) (by kernel_rfl) fun φ0 w0 a w hat => ?_
  have hF := Cm.wide_fw
  have hr : Fence.wide.round = none := rfl
  unfold u_LimitError at h
  by_cases h1 : a0 < a1
  · rw [if_pos h1] at h
    injection h with h; subst h
    exact Cm.to_fin mixed ⟨[(.lss, (.v 0), (.v 1), true)], [], [], [], [], []⟩ (V := (Cm.vals [a0, a1, a2] [])) (n := 3000) (f := 3000) ⟨⟨Cm.lss_t h1, trivial⟩, trivial, trivial, trivial, trivial⟩ trivial (R := ⟨.sym .i64 (.v 0), [], []⟩) (qs := [.num (.c 2) (.v 0)]) hF hr (by kernel_rfl) ⟨(Cm.r (2 : Int)), trivial⟩ hat
  · rw [if_neg h1] at h
    by_cases h2 : a2 < a0
    · rw [if_pos h2] at h
      injection h with h; subst h
      exact Cm.to_fin mixed ⟨[(.lss, (.v 0), (.v 1), false), (.gtr, (.v 0), (.v 2), true)], [], [], [], [], []⟩ (V := (Cm.vals [a0, a1, a2] [])) (n := 3000) (f := 3000) ⟨⟨Cm.lss_f h1, Cm.gtr_t h2, trivial⟩, trivial, trivial, trivial, trivial⟩ trivial (R := ⟨.sym .i64 (.v 0), [], []⟩) (qs := [.num (.c 2) (.v 0)]) hF hr (by kernel_rfl) ⟨(Cm.r (2 : Int)), trivial⟩ hat
    · rw [if_neg h2] at h
      injection h with h; subst h
      exact Cm.to_fin mixed ⟨[(.lss, (.v 0), (.v 1), false), (.gtr, (.v 0), (.v 2), false)], [], [], [], [], []⟩ (V := (Cm.vals [a0, a1, a2] [])) (n := 3000) (f := 3000) ⟨⟨Cm.lss_f h1, Cm.gtr_f h2, trivial⟩, trivial, trivial, trivial, trivial⟩ trivial (R := ⟨.sym .i64 (.v 0), [], []⟩) (qs := [.num (.c 0) (.v 0)]) hF hr (by kernel_rfl) ⟨(Cm.r (0 : Int)), trivial⟩ hat

def u_FirstError_L1 (fu : Nat) (p0 : List (Int)) (p1 : Int) : Nat → Int → Option ((Int) ⊕ (Unit))
  | 0, _ => none
  | n + 1, v2 => if v2 < p1 then (if (0 : Int) ≤ v2 then (if v2 < (p0.length : Int) then (Option.bind ((p0)[0 + (v2).toNat]?) fun e4 => if e4 = (0 : Int) then (u_FirstError_L1 fu p0 p1 n (IntKind.wrap .i64 (v2 + (1 : Int)))) else (some (.inl e4))) else none) else none) else (some (.inr ()))

theorem u_FirstError_L1_ok (fu : Nat) (p0 : List (Int)) (p1 : Int) : ∀ (n : Nat) (v2 : Int) (o : (Int) ⊕ (Unit)), u_FirstError_L1 fu p0 p1 n v2 = some o → ∀ (φ0 : Cm.Phi) (w0 : World) (F : Fence) (k : Nat) (R : Exit → Act → World → Prop) (a : Act) (w : World), Cm.FW F → F.round = none → Cm.AtS (Cm.vals [(p0.length : Int), p1, v2] [(p0.flatMap Cm.enI)]) [(5, .gs 0 0 (.v 0) 1 false), (6, .sym .i64 (.v 1)), (7, .sym .i64 (.v 2))] [some (.rows 0 [] 30 true)] 15 1 1 φ0 w0 a w → (∀ (y : Int), o = .inl y → ∀ a' w', Cm.AtS (Cm.vals [(p0.length : Int), y] [(p0.flatMap Cm.enI)]) [(2, .sym .i64 (.v 1))] [some (.rows 0 [] 30 true)] 15 1 1 φ0 w0 a' w' → R Exit.ret a' w') → (∀ (y : Unit), o = .inr y → ∀ a' w', Cm.AtS (Cm.vals [(p0.length : Int)] [(p0.flatMap Cm.enI)]) [] [some (.rows 0 [] 30 true)] 15 1 1 φ0 w0 a' w' → R (Exit.exit 0) a' w') → Code.roundsIn F k Try.prog (Cm.subAt (Cm.bodyOf Try.prog 18) [1, 0, 1, 0, 0]) R n a w
  | 0, _, _, h => by cases h
  | n + 1, v2, o, h => by
    intro φ0 w0 F k R a w hF hr hat hx0 hx1
    rw [u_FirstError_L1] at h
    refine Cm.rounds_in (p := [1, 0, 1, 0, 0]) ?_
    by_cases h1 : v2 < p1
    · rw [if_pos h1] at h
      by_cases h2 : (0 : Int) ≤ v2
      · rw [if_pos h2] at h
        by_cases h3 : v2 < (p0.length : Int)
        · rw [if_pos h3] at h
          obtain ⟨e4, he4, h⟩ := Option.bind_eq_some_iff.1 h
          by_cases h5 : e4 = (0 : Int)
          · rw [if_pos h5] at h
            refine Cm.to_done mixed ⟨[(.lss, (.v 2), (.v 1), true), (.leq, (.c 0), (.v 2), true), (.lss, (.v 2), (.v 0), true), (.neq, (.v 3), (.c 0), false)], [(0, 0, (.v 2), [.sym .i64 (.v 3)])], [(0, 1, (.v 0))], [], [], []⟩ (V := (Cm.vals [(p0.length : Int), p1, v2, e4] [(p0.flatMap Cm.enI)])) (n := 3000) (f := 3000) (V' := (Cm.vals [(p0.length : Int), p1, (IntKind.wrap .i64 (v2 + (1 : Int)))] [(p0.flatMap Cm.enI)])) ⟨⟨Cm.lss_t h1, Cm.leq_t h2, Cm.lss_t h3, Cm.neq_f h5, trivial⟩, ⟨⟨h2, _, rfl, Cm.flat_row Cm.enI_len he4⟩, trivial⟩, ⟨Cm.flat_length Cm.enI_len _, trivial⟩, trivial, trivial⟩ trivial (T := ⟨[(5, .gs 0 0 (.v 0) 1 false), (6, .sym .i64 (.v 1)), (7, .sym .i64 (.v 2))], [some (.rows 0 [] 30 true)], [some (0, 0)]⟩) (ce := .normal) (qs := [.num (.v 0) (.v 0), .num (.v 1) (.v 1), .num (.add .i64 (.v 2) (.c 1)) (.v 2), .lst 0 (some 0) []]) hF hr (by kernel_rfl) ⟨(Cm.r (p0.length : Int)), (Cm.r p1), (Cm.r (IntKind.wrap .i64 (v2 + (1 : Int)))), ⟨[], rfl, (List.append_nil _).symm⟩, trivial⟩ (Cm.at_re (V' := (Cm.vals [(p0.length : Int), p1, v2, e4] [(p0.flatMap Cm.enI)])) (T := ⟨[(5, .gs 0 0 (.v 0) 1 false), (6, .sym .i64 (.v 1)), (7, .sym .i64 (.v 2))], [some (.rows 0 [] 30 true)], [some (0, 0)]⟩) (qs := [.num (.v 0) (.v 0), .num (.v 1) (.v 1), .num (.v 2) (.v 2), .lst 0 (some 0) []]) hat (by kernel_rfl) ⟨rfl, rfl, rfl, ⟨[], rfl, (List.append_nil _).symm⟩, trivial⟩) fun a' w' hat' => ?_
            exact u_FirstError_L1_ok fu p0 p1 n (IntKind.wrap .i64 (v2 + (1 : Int))) o h _ _ _ _ _ _ _ hF hr hat' hx0 hx1
          · rw [if_neg h5] at h
            injection h with h; subst h
            exact Cm.to_done mixed ⟨[(.lss, (.v 2), (.v 1), true), (.leq, (.c 0), (.v 2), true), (.lss, (.v 2), (.v 0), true), (.neq, (.v 3), (.c 0), true)], [(0, 0, (.v 2), [.sym .i64 (.v 3)])], [(0, 1, (.v 0))], [], [], []⟩ (V := (Cm.vals [(p0.length : Int), p1, v2, e4] [(p0.flatMap Cm.enI)])) (n := 3000) (f := 3000) (V' := (Cm.vals [(p0.length : Int), e4] [(p0.flatMap Cm.enI)])) ⟨⟨Cm.lss_t h1, Cm.leq_t h2, Cm.lss_t h3, Cm.neq_t h5, trivial⟩, ⟨⟨h2, _, rfl, Cm.flat_row Cm.enI_len he4⟩, trivial⟩, ⟨Cm.flat_length Cm.enI_len _, trivial⟩, trivial, trivial⟩ trivial (T := ⟨[(2, .sym .i64 (.v 1))], [some (.rows 0 [] 30 true)], [some (0, 0)]⟩) (ce := .ret) (qs := [.num (.v 3) (.v 1), .lst 0 (some 0) []]) hF hr (by kernel_rfl) ⟨(Cm.r e4), ⟨[], rfl, (List.append_nil _).symm⟩, trivial⟩ (Cm.at_re (V' := (Cm.vals [(p0.length : Int), p1, v2, e4] [(p0.flatMap Cm.enI)])) (T := ⟨[(5, .gs 0 0 (.v 0) 1 false), (6, .sym .i64 (.v 1)), (7, .sym .i64 (.v 2))], [some (.rows 0 [] 30 true)], [some (0, 0)]⟩) (qs := [.num (.v 0) (.v 0), .num (.v 1) (.v 1), .num (.v 2) (.v 2), .lst 0 (some 0) []]) hat (by kernel_rfl) ⟨rfl, rfl, rfl, ⟨[], rfl, (List.append_nil _).symm⟩, trivial⟩) fun a' w' hat' => hx0 e4 rfl a' w' hat'
        · rw [if_neg h3] at h
          cases h
      · rw [if_neg h2] at h
        cases h
    · rw [if_neg h1] at h
      injection h with h; subst h
      exact Cm.to_done mixed ⟨[(.lss, (.v 2), (.v 1), false)], [], [(0, 1, (.v 0))], [], [], []⟩ (V := (Cm.vals [(p0.length : Int), p1, v2] [(p0.flatMap Cm.enI)])) (n := 3000) (f := 3000) (V' := (Cm.vals [(p0.length : Int)] [(p0.flatMap Cm.enI)])) ⟨⟨Cm.lss_f h1, trivial⟩, trivial, ⟨Cm.flat_length Cm.enI_len _, trivial⟩, trivial, trivial⟩ trivial (T := ⟨[], [some (.rows 0 [] 30 true)], [some (0, 0)]⟩) (ce := (.exit 0)) (qs := [.lst 0 (some 0) []]) hF hr (by kernel_rfl) ⟨⟨[], rfl, (List.append_nil _).symm⟩, trivial⟩ hat fun a' w' hat' => hx1 () rfl a' w' hat'

def u_FirstError (fu : Nat) (a0 : List (Int)) : Option (Int) := Option.bind (u_FirstError_L1 fu a0 (a0.length : Int) fu (0 : Int)) fun o1 => (match o1 with | .inl y2 => (some y2) | .inr y3 => (some (0 : Int)))

theorem u_FirstError_ok (fu : Nat) (a0 : List (Int)) (y : Int) (h : u_FirstError fu a0 = some y) : Cm.CallOk Try.prog 18 (Cm.vals [(a0.length : Int)] [(a0.flatMap Cm.enI)]) [.gs 0 0 (.v 0) 1 false] [some (.rows 0 [] 30 true)] 1 (Cm.vals [y] []) (.sym .i64 (.v 0)) [none] := by
  refine Cm.fun_of (nt := 15) (by kernel_rfl) (by kernel_rfl) fun φ0 w0 a w hat => ?_
  have hF := Cm.wide_fw
  have hr : Fence.wide.round = none := rfl
  unfold u_FirstError at h
  obtain ⟨o1, ho1, h⟩ := Option.bind_eq_some_iff.1 h
  refine Cm.to_loop mixed ⟨[], [], [(0, 1, (.v 0))], [], [], []⟩ (V := (Cm.vals [(a0.length : Int)] [(a0.flatMap Cm.enI)])) (n := 3000) (f := 3000) (V' := (Cm.vals [(a0.length : Int), (a0.length : Int), (0 : Int)] [(a0.flatMap Cm.enI)])) ⟨trivial, trivial, ⟨Cm.flat_length Cm.enI_len _, trivial⟩, trivial, trivial⟩ trivial (T := ⟨[(5, .gs 0 0 (.v 0) 1 false), (6, .sym .i64 (.v 1)), (7, .sym .i64 (.v 2))], [some (.rows 0 [] 30 true)], [some (0, 0)]⟩) (B := Cm.subAt (Cm.bodyOf Try.prog 18) [1, 0, 1, 0, 0]) (K' := [.bk 0, .sq (Cm.subAt (Cm.bodyOf Try.prog 18) [1, 1]) [1, 1]]) (qs := [.num (.v 0) (.v 0), .num (.v 0) (.v 1), .num (.c 0) (.v 2), .lst 0 (some 0) []]) hF hr (by kernel_rfl) ⟨(Cm.r (a0.length : Int)), (Cm.r (a0.length : Int)), (Cm.r (0 : Int)), ⟨[], rfl, (List.append_nil _).symm⟩, trivial⟩ hat fun aa1 ww1 hat1 => Cm.loop_in (u_FirstError_L1_ok fu a0 (a0.length : Int) fu (0 : Int) o1 ho1 _ _ _ _ _ _ _ hF hr hat1 ?_ ?_)
  · intro y2 hy aa2 ww2 hat
    subst hy
    dsimp only at h
    show (Cm.Wk.out .ret).goal _ _ _ [.bk 0, .sq (Cm.subAt (Cm.bodyOf Try.prog 18) [1, 1]) [1, 1]] _ aa2 ww2
    injection h with h; subst h
    exact Cm.to_fin mixed ⟨[], [], [(0, 1, (.v 0))], [], [], []⟩ (V := (Cm.vals [(a0.length : Int), y2] [(a0.flatMap Cm.enI)])) (n := 3000) (f := 3000) ⟨trivial, trivial, ⟨Cm.flat_length Cm.enI_len _, trivial⟩, trivial, trivial⟩ trivial (R := ⟨.sym .i64 (.v 0), [none], [some (0, 0)]⟩) (qs := [.num (.v 1) (.v 0)]) hF hr (by kernel_rfl) ⟨(Cm.r y2), trivial⟩ hat
  · intro y3 hy aa2 ww2 hat
    subst hy
    dsimp only at h
    show (Cm.Wk.out (.exit 0)).goal _ _ _ [.bk 0, .sq (Cm.subAt (Cm.bodyOf Try.prog 18) [1, 1]) [1, 1]] _ aa2 ww2
    injection h with h; subst h
    exact Cm.to_fin mixed ⟨[], [], [(0, 1, (.v 0))], [], [], []⟩ (V := (Cm.vals [(a0.length : Int)] [(a0.flatMap Cm.enI)])) (n := 3000) (f := 3000) ⟨trivial, trivial, ⟨Cm.flat_length Cm.enI_len _, trivial⟩, trivial, trivial⟩ trivial (R := ⟨.sym .i64 (.v 0), [none], [some (0, 0)]⟩) (qs := [.num (.c 0) (.v 0)]) hF hr (by kernel_rfl) ⟨(Cm.r (0 : Int)), trivial⟩ hat

def w_limitsError (fu : Nat) (a0_0 : Int) (a0_1 : Int) : Option (Int) := Option.bind (u_LimitError a0_0 (1 : Int) (100 : Int)) fun r1 => Option.bind (u_LimitError a0_1 (1 : Int) (100 : Int)) fun r2 => Option.bind (u_FirstError fu ([r1, r2] : List (Int))) fun r3 => some r3

theorem w_limitsError_ok (fu : Nat) (a0_0 : Int) (a0_1 : Int) (y : Int) (h : w_limitsError fu a0_0 a0_1 = some y) : Cm.CallOk Try.prog 19 (Cm.vals [a0_0, a0_1] []) [.agg [.sym .i64 (.v 0), .sym .i64 (.v 1)]] [] 0 (Cm.vals [y] []) (.sym .i64 (.v 0)) [] := by
  refine Cm.fun_of (nt := 11) (by kernel_rfl) (by kernel_rfl) fun φ0 w0 a w hat => ?_
  have hF := Cm.wide_fw
  have hr : Fence.wide.round = none := rfl
  unfold w_limitsError at h
  obtain ⟨r1, hr1, h⟩ := Option.bind_eq_some_iff.1 h
  have Kr1 : ∀ N M, ∃ v v' q, Cm.KE.ok Try.prog (Cm.vals ([a0_0, a0_1, r1] ++ N) ([] ++ M)) ⟨20, 1, [], [.sym .i64 (.v 0), .sym .i64 (.v 1), .sym .i64 (.v 2)], [], [.num (.v 0) (.v 0), .num (.c 1) (.v 1), .num (.c 100) (.v 2)], 0, .sym .i64 (.v 0), [], .sym .i64 (.v 2), [], []⟩ v v' q := fun N M => ⟨_, _, [.num (.v 0) (.v 2)], ⟨u_LimitError_ok a0_0 (1 : Int) (100 : Int) r1 hr1, ⟨(Cm.r a0_0), (Cm.r (1 : Int)), (Cm.r (100 : Int)), trivial⟩, by kernel_rfl, ⟨rfl, trivial⟩⟩⟩
  obtain ⟨r2, hr2, h⟩ := Option.bind_eq_some_iff.1 h
  have Kr2 : ∀ N M, ∃ v v' q, Cm.KE.ok Try.prog (Cm.vals ([a0_0, a0_1, r1, r2] ++ N) ([] ++ M)) ⟨20, 1, [], [.sym .i64 (.v 0), .sym .i64 (.v 1), .sym .i64 (.v 2)], [], [.num (.v 1) (.v 0), .num (.c 1) (.v 1), .num (.c 100) (.v 2)], 0, .sym .i64 (.v 0), [], .sym .i64 (.v 3), [], []⟩ v v' q := fun N M => ⟨_, _, [.num (.v 0) (.v 3)], ⟨u_LimitError_ok a0_1 (1 : Int) (100 : Int) r2 hr2, ⟨(Cm.r a0_1), (Cm.r (1 : Int)), (Cm.r (100 : Int)), trivial⟩, by kernel_rfl, ⟨rfl, trivial⟩⟩⟩
  obtain ⟨r3, hr3, h⟩ := Option.bind_eq_some_iff.1 h
  have Kr3 : ∀ N M, ∃ v v' q, Cm.KE.ok Try.prog (Cm.vals ([a0_0, a0_1, r1, r2, r3] ++ N) ([] ++ M)) ⟨18, 2, [some (1, 0)], [.gs 0 0 (.v 0) 1 false], [some (.rows 0 [] 30 true)], [.num (.c 2) (.v 0), .lst 0 none [.sym .i64 (.v 2), .sym .i64 (.v 3)]], 1, .sym .i64 (.v 0), [none], .sym .i64 (.v 4), [], []⟩ v v' q := fun N M => ⟨_, _, [.num (.v 0) (.v 4)], ⟨u_FirstError_ok fu ([r1, r2] : List (Int)) r3 hr3, ⟨rfl, rfl, trivial⟩, by kernel_rfl, ⟨rfl, trivial⟩⟩⟩
  injection h with h; subst h
  exact Cm.to_fin mixed ⟨[], [], [], [⟨20, 1, [], [.sym .i64 (.v 0), .sym .i64 (.v 1), .sym .i64 (.v 2)], [], [.num (.v 0) (.v 0), .num (.c 1) (.v 1), .num (.c 100) (.v 2)], 0, .sym .i64 (.v 0), [], .sym .i64 (.v 2), [], []⟩, ⟨20, 1, [], [.sym .i64 (.v 0), .sym .i64 (.v 1), .sym .i64 (.v 2)], [], [.num (.v 1) (.v 0), .num (.c 1) (.v 1), .num (.c 100) (.v 2)], 0, .sym .i64 (.v 0), [], .sym .i64 (.v 3), [], []⟩, ⟨18, 2, [some (1, 0)], [.gs 0 0 (.v 0) 1 false], [some (.rows 0 [] 30 true)], [.num (.c 2) (.v 0), .lst 0 none [.sym .i64 (.v 2), .sym .i64 (.v 3)]], 1, .sym .i64 (.v 0), [none], .sym .i64 (.v 4), [], []⟩], [], []⟩ (V := (Cm.vals [a0_0, a0_1, r1, r2, r3] [])) (n := 3000) (f := 3000) ⟨trivial, trivial, trivial, trivial, trivial⟩ ⟨Kr1 _ _, Kr2 _ _, Kr3 _ _, trivial⟩ (R := ⟨.sym .i64 (.v 0), [], []⟩) (qs := [.num (.v 4) (.v 0)]) hF hr (by kernel_rfl) ⟨(Cm.r r3), trivial⟩ (Cm.at_re (V' := (Cm.vals [a0_0, a0_1, r1, r2, r3] [])) (T := ⟨[(0, .agg [.sym .i64 (.v 0), .sym .i64 (.v 1)])], [], []⟩) (qs := [.num (.v 0) (.v 0), .num (.v 1) (.v 1)]) hat (by kernel_rfl) ⟨rfl, rfl, trivial⟩)

def u_Within (a0 : Int) (a1 : Int) : Option (Bool) := if (IntKind.wrap .i64 ((0 : Int) - a1)) ≤ a0 then (if a0 ≤ a1 then (some true) else (some false)) else (some false)

theorem u_Within_ok (a0 : Int) (a1 : Int) (y : Bool) (h : u_Within a0 a1 = some y) : Cm.CallOk Try.prog 23 (Cm.vals [a0, a1] []) [.sym .i64 (.v 0), .sym .i64 (.v 1)] [] 0 (Cm.vals [Cm.bI y] []) (.bs (.v 0)) [] := by
  refine Cm.fun_of (nt := 14) (by kernel_rfl) (by kernel_rfl) fun φ0 w0 a w hat => ?_
  have hF := Cm.wide_fw
  have hr : Fence.wide.round = none := rfl
  unfold u_Within at h
  by_cases h1 : (IntKind.wrap .i64 ((0 : Int) - a1)) ≤ a0
  · rw [if_pos h1] at h
    by_cases h2 : a0 ≤ a1
    · rw [if_pos h2] at h
      injection h with h; subst h
      exact Cm.to_fin mixed ⟨[(.leq, (.sub .i64 (.c 0) (.v 1)), (.v 0), true), (.leq, (.v 0), (.v 1), true)], [], [], [], [], []⟩ (V := (Cm.vals [a0, a1] [])) (n := 3000) (f := 3000) ⟨⟨Cm.leq_t h1, Cm.leq_t h2, trivial⟩, trivial, trivial, trivial, trivial⟩ trivial (R := ⟨.bs (.v 0), [], []⟩) (qs := [.num (.c 1) (.v 0)]) hF hr (by kernel_rfl) ⟨rfl, trivial⟩ hat
    · rw [if_neg h2] at h
      injection h with h; subst h
      exact Cm.to_fin mixed ⟨[(.leq, (.sub .i64 (.c 0) (.v 1)), (.v 0), true), (.leq, (.v 0), (.v 1), false)], [], [], [], [], []⟩ (V := (Cm.vals [a0, a1] [])) (n := 3000) (f := 3000) ⟨⟨Cm.leq_t h1, Cm.leq_f h2, trivial⟩, trivial, trivial, trivial, trivial⟩ trivial (R := ⟨.bs (.v 0), [], []⟩) (qs := [.num (.c 0) (.v 0)]) hF hr (by kernel_rfl) ⟨rfl, trivial⟩ hat
  · rw [if_neg h1] at h
    injection h with h; subst h
    exact Cm.to_fin mixed ⟨[(.leq, (.sub .i64 (.c 0) (.v 1)), (.v 0), false)], [], [], [], [], []⟩ (V := (Cm.vals [a0, a1] [])) (n := 3000) (f := 3000) ⟨⟨Cm.leq_f h1, trivial⟩, trivial, trivial, trivial, trivial⟩ trivial (R := ⟨.bs (.v 0), [], []⟩) (qs := [.num (.c 0) (.v 0)]) hF hr (by kernel_rfl) ⟨rfl, trivial⟩ hat

def w_CheckProfile_L1 (fu : Nat) (p0 : List (Int)) (p1 : Int) (p2 : Int) (p5 : Int) : Nat → Int → Int → Int → Option ((Int × Int) ⊕ (Int × Int))
  | 0, _, _, _ => none
  | n + 1, v3, v4, v6 => if v6 < p5 then (if (0 : Int) ≤ v6 then (if v6 < (p0.length : Int) then (Option.bind ((p0)[0 + (v6).toNat]?) fun e4 => Option.bind (u_LimitError e4 (0 : Int) p1) fun r5 => if r5 = (0 : Int) then (Option.bind (u_Within (IntKind.wrap .i64 (e4 - v3)) p2) fun r7 => if r7 = true then (w_CheckProfile_L1 fu p0 p1 p2 p5 n e4 (IntKind.wrap .i64 (v4 + e4)) (IntKind.wrap .i64 (v6 + (1 : Int)))) else (some (.inl (v6, (22 : Int))))) else (some (.inl (v6, r5)))) else none) else none) else (some (.inr (v3, v4)))

theorem w_CheckProfile_L1_ok (fu : Nat) (p0 : List (Int)) (p1 : Int) (p2 : Int) (p5 : Int) : ∀ (n : Nat) (v3 : Int) (v4 : Int) (v6 : Int) (o : (Int × Int) ⊕ (Int × Int)), w_CheckProfile_L1 fu p0 p1 p2 p5 n v3 v4 v6 = some o → ∀ (φ0 : Cm.Phi) (w0 : World) (F : Fence) (k : Nat) (R : Exit → Act → World → Prop) (a : Act) (w : World), Cm.FW F → F.round = none → Cm.AtS (Cm.vals [(p0.length : Int), p1, p2, v3, v4, p5, v6] [(p0.flatMap Cm.enI)]) [(1, .gs 0 0 (.v 0) 1 false), (2, .ptr 1 0), (7, .sym .i64 (.v 3)), (8, .sym .i64 (.v 4)), (20, .gs 0 0 (.v 0) 1 false), (21, .sym .i64 (.v 5)), (22, .sym .i64 (.v 6))] [some (.rows 0 [] 3 true), some (.cells [.sym .i64 (.v 1), .sym .i64 (.v 2)] 23 false)] 56 1 1 φ0 w0 a w → (∀ (y : Int × Int), o = .inl y → ∀ a' w', Cm.AtS (Cm.vals [(p0.length : Int), y.1, y.2] [(p0.flatMap Cm.enI)]) [(4, .sym .i64 (.v 1)), (5, .sym .i64 (.v 2))] [some (.rows 0 [] 3 true)] 56 1 1 φ0 w0 a' w' → R Exit.ret a' w') → (∀ (y : Int × Int), o = .inr y → ∀ a' w', Cm.AtS (Cm.vals [(p0.length : Int), p1, p2, y.1, y.2] [(p0.flatMap Cm.enI)]) [(1, .gs 0 0 (.v 0) 1 false), (2, .ptr 1 0), (7, .sym .i64 (.v 3)), (8, .sym .i64 (.v 4))] [some (.rows 0 [] 3 true), some (.cells [.sym .i64 (.v 1), .sym .i64 (.v 2)] 23 false)] 56 1 1 φ0 w0 a' w' → R (Exit.exit 0) a' w') → Code.roundsIn F k Try.prog (Cm.subAt (Cm.bodyOf Try.prog 10) [1, 1, 1, 1, 0, 1, 0, 0]) R n a w
  | 0, _, _, _, _, h => by cases h
  | n + 1, v3, v4, v6, o, h => by
    intro φ0 w0 F k R a w hF hr hat hx0 hx1
    rw [w_CheckProfile_L1] at h
    refine Cm.rounds_in (p := [1, 1, 1, 1, 0, 1, 0, 0]) ?_
    by_cases h1 : v6 < p5
    · rw [if_pos h1] at h
      by_cases h2 : (0 : Int) ≤ v6
      · rw [if_pos h2] at h
        by_cases h3 : v6 < (p0.length : Int)
        · rw [if_pos h3] at h
          obtain ⟨e4, he4, h⟩ := Option.bind_eq_some_iff.1 h
          obtain ⟨r5, hr5, h⟩ := Option.bind_eq_some_iff.1 h
          have Kr5 : ∀ N M, ∃ v v' q, Cm.KE.ok Try.prog (Cm.vals ([(p0.length : Int), p1, p2, v3, v4, p5, v6, e4, r5] ++ N) ([(p0.flatMap Cm.enI)] ++ M)) ⟨20, 2, [], [.sym .i64 (.v 0), .sym .i64 (.v 1), .sym .i64 (.v 2)], [], [.num (.v 7) (.v 0), .num (.c 0) (.v 1), .num (.v 1) (.v 2)], 0, .sym .i64 (.v 0), [], .sym .i64 (.v 8), [], []⟩ v v' q := fun N M => ⟨_, _, [.num (.v 0) (.v 8)], ⟨u_LimitError_ok e4 (0 : Int) p1 r5 hr5, ⟨(Cm.r e4), (Cm.r (0 : Int)), (Cm.r p1), trivial⟩, by kernel_rfl, ⟨rfl, trivial⟩⟩⟩
          by_cases h6 : r5 = (0 : Int)
          · rw [if_pos h6] at h
            obtain ⟨r7, hr7, h⟩ := Option.bind_eq_some_iff.1 h
            have Kr7 : ∀ N M, ∃ v v' q, Cm.KE.ok Try.prog (Cm.vals ([(p0.length : Int), p1, p2, v3, v4, p5, v6, e4, r5, Cm.bI r7] ++ N) ([(p0.flatMap Cm.enI)] ++ M)) ⟨23, 2, [], [.sym .i64 (.v 0), .sym .i64 (.v 1)], [], [.num (.sub .i64 (.v 7) (.v 3)) (.v 0), .num (.v 2) (.v 1)], 0, .bs (.v 0), [], .bs (.v 9), [], []⟩ v v' q := fun N M => ⟨_, _, [.num (.v 0) (.v 9)], ⟨u_Within_ok (IntKind.wrap .i64 (e4 - v3)) p2 r7 hr7, ⟨(show (IntKind.wrap .i64 (e4 - v3)) = (IntKind.wrap .i64 (e4 - v3)) from rfl), (Cm.r p2), trivial⟩, by kernel_rfl, ⟨rfl, trivial⟩⟩⟩
            by_cases h8 : r7 = true
            · rw [if_pos h8] at h
              refine Cm.to_done mixed ⟨[(.lss, (.v 6), (.v 5), true), (.leq, (.c 0), (.v 6), true), (.lss, (.v 6), (.v 0), true), (.neq, (.v 8), (.c 0), false), (.neq, (.v 9), (.c 0), true)], [(0, 0, (.v 6), [.sym .i64 (.v 7)])], [(0, 1, (.v 0))], [⟨20, 2, [], [.sym .i64 (.v 0), .sym .i64 (.v 1), .sym .i64 (.v 2)], [], [.num (.v 7) (.v 0), .num (.c 0) (.v 1), .num (.v 1) (.v 2)], 0, .sym .i64 (.v 0), [], .sym .i64 (.v 8), [], []⟩, ⟨23, 2, [], [.sym .i64 (.v 0), .sym .i64 (.v 1)], [], [.num (.sub .i64 (.v 7) (.v 3)) (.v 0), .num (.v 2) (.v 1)], 0, .bs (.v 0), [], .bs (.v 9), [], []⟩], [], []⟩ (V := (Cm.vals [(p0.length : Int), p1, p2, v3, v4, p5, v6, e4, r5, Cm.bI r7] [(p0.flatMap Cm.enI)])) (n := 3000) (f := 3000) (V' := (Cm.vals [(p0.length : Int), p1, p2, e4, (IntKind.wrap .i64 (v4 + e4)), p5, (IntKind.wrap .i64 (v6 + (1 : Int)))] [(p0.flatMap Cm.enI)])) ⟨⟨Cm.lss_t h1, Cm.leq_t h2, Cm.lss_t h3, Cm.neq_f h6, Cm.bi_t h8, trivial⟩, ⟨⟨h2, _, rfl, Cm.flat_row Cm.enI_len he4⟩, trivial⟩, ⟨Cm.flat_length Cm.enI_len _, trivial⟩, trivial, trivial⟩ ⟨Kr5 _ _, Kr7 _ _, trivial⟩ (T := ⟨[(1, .gs 0 0 (.v 0) 1 false), (2, .ptr 1 0), (7, .sym .i64 (.v 3)), (8, .sym .i64 (.v 4)), (20, .gs 0 0 (.v 0) 1 false), (21, .sym .i64 (.v 5)), (22, .sym .i64 (.v 6))], [some (.rows 0 [] 3 true), some (.cells [.sym .i64 (.v 1), .sym .i64 (.v 2)] 23 false)], [some (0, 0), some (1, 0)]⟩) (ce := .normal) (qs := [.num (.v 0) (.v 0), .num (.v 7) (.v 3), .num (.add .i64 (.v 4) (.v 7)) (.v 4), .num (.v 0) (.v 0), .num (.v 5) (.v 5), .num (.add .i64 (.v 6) (.c 1)) (.v 6), .lst 0 (some 0) [], .num (.v 1) (.v 1), .num (.v 2) (.v 2)]) hF hr (by kernel_rfl) ⟨(Cm.r (p0.length : Int)), (Cm.r e4), (Cm.r (IntKind.wrap .i64 (v4 + e4))), (Cm.r (p0.length : Int)), (Cm.r p5), (Cm.r (IntKind.wrap .i64 (v6 + (1 : Int)))), ⟨[], rfl, (List.append_nil _).symm⟩, (Cm.r p1), (Cm.r p2), trivial⟩ (Cm.at_re (V' := (Cm.vals [(p0.length : Int), p1, p2, v3, v4, p5, v6, e4, r5, Cm.bI r7] [(p0.flatMap Cm.enI)])) (T := ⟨[(1, .gs 0 0 (.v 0) 1 false), (2, .ptr 1 0), (7, .sym .i64 (.v 3)), (8, .sym .i64 (.v 4)), (20, .gs 0 0 (.v 0) 1 false), (21, .sym .i64 (.v 5)), (22, .sym .i64 (.v 6))], [some (.rows 0 [] 3 true), some (.cells [.sym .i64 (.v 1), .sym .i64 (.v 2)] 23 false)], [some (0, 0), some (1, 0)]⟩) (qs := [.num (.v 0) (.v 0), .num (.v 3) (.v 3), .num (.v 4) (.v 4), .num (.v 0) (.v 0), .num (.v 5) (.v 5), .num (.v 6) (.v 6), .lst 0 (some 0) [], .num (.v 1) (.v 1), .num (.v 2) (.v 2)]) hat (by kernel_rfl) ⟨rfl, rfl, rfl, rfl, rfl, rfl, ⟨[], rfl, (List.append_nil _).symm⟩, rfl, rfl, trivial⟩) fun a' w' hat' => ?_
              exact w_CheckProfile_L1_ok fu p0 p1 p2 p5 n e4 (IntKind.wrap .i64 (v4 + e4)) (IntKind.wrap .i64 (v6 + (1 : Int))) o h _ _ _ _ _ _ _ hF hr hat' hx0 hx1
            · rw [if_neg h8] at h
              injection h with h; subst h
              exact Cm.to_done mixed ⟨[(.lss, (.v 6), (.v 5), true), (.leq, (.c 0), (.v 6), true), (.lss, (.v 6), (.v 0), true), (.neq, (.v 8), (.c 0), false), (.neq, (.v 9), (.c 0), false)], [(0, 0, (.v 6), [.sym .i64 (.v 7)])], [(0, 1, (.v 0))], [⟨20, 2, [], [.sym .i64 (.v 0), .sym .i64 (.v 1), .sym .i64 (.v 2)], [], [.num (.v 7) (.v 0), .num (.c 0) (.v 1), .num (.v 1) (.v 2)], 0, .sym .i64 (.v 0), [], .sym .i64 (.v 8), [], []⟩, ⟨23, 2, [], [.sym .i64 (.v 0), .sym .i64 (.v 1)], [], [.num (.sub .i64 (.v 7) (.v 3)) (.v 0), .num (.v 2) (.v 1)], 0, .bs (.v 0), [], .bs (.v 9), [], []⟩], [], []⟩ (V := (Cm.vals [(p0.length : Int), p1, p2, v3, v4, p5, v6, e4, r5, Cm.bI r7] [(p0.flatMap Cm.enI)])) (n := 3000) (f := 3000) (V' := (Cm.vals [(p0.length : Int), v6, (22 : Int)] [(p0.flatMap Cm.enI)])) ⟨⟨Cm.lss_t h1, Cm.leq_t h2, Cm.lss_t h3, Cm.neq_f h6, Cm.bi_f h8, trivial⟩, ⟨⟨h2, _, rfl, Cm.flat_row Cm.enI_len he4⟩, trivial⟩, ⟨Cm.flat_length Cm.enI_len _, trivial⟩, trivial, trivial⟩ ⟨Kr5 _ _, Kr7 _ _, trivial⟩ (T := ⟨[(4, .sym .i64 (.v 1)), (5, .sym .i64 (.v 2))], [some (.rows 0 [] 3 true)], [some (0, 0)]⟩) (ce := .ret) (qs := [.num (.v 6) (.v 1), .num (.c 22) (.v 2), .lst 0 (some 0) []]) hF hr (by kernel_rfl) ⟨(Cm.r v6), (Cm.r (22 : Int)), ⟨[], rfl, (List.append_nil _).symm⟩, trivial⟩ (Cm.at_re (V' := (Cm.vals [(p0.length : Int), p1, p2, v3, v4, p5, v6, e4, r5, Cm.bI r7] [(p0.flatMap Cm.enI)])) (T := ⟨[(1, .gs 0 0 (.v 0) 1 false), (2, .ptr 1 0), (7, .sym .i64 (.v 3)), (8, .sym .i64 (.v 4)), (20, .gs 0 0 (.v 0) 1 false), (21, .sym .i64 (.v 5)), (22, .sym .i64 (.v 6))], [some (.rows 0 [] 3 true), some (.cells [.sym .i64 (.v 1), .sym .i64 (.v 2)] 23 false)], [some (0, 0), some (1, 0)]⟩) (qs := [.num (.v 0) (.v 0), .num (.v 3) (.v 3), .num (.v 4) (.v 4), .num (.v 0) (.v 0), .num (.v 5) (.v 5), .num (.v 6) (.v 6), .lst 0 (some 0) [], .num (.v 1) (.v 1), .num (.v 2) (.v 2)]) hat (by kernel_rfl) ⟨rfl, rfl, rfl, rfl, rfl, rfl, ⟨[], rfl, (List.append_nil _).symm⟩, rfl, rfl, trivial⟩) fun a' w' hat' => hx0 (v6, (22 : Int)) rfl a' w' hat'
          · rw [if_neg h6] at h
            injection h with h; subst h
            exact Cm.to_done mixed ⟨[(.lss, (.v 6), (.v 5), true), (.leq, (.c 0), (.v 6), true), (.lss, (.v 6), (.v 0), true), (.neq, (.v 8), (.c 0), true)], [(0, 0, (.v 6), [.sym .i64 (.v 7)])], [(0, 1, (.v 0))], [⟨20, 2, [], [.sym .i64 (.v 0), .sym .i64 (.v 1), .sym .i64 (.v 2)], [], [.num (.v 7) (.v 0), .num (.c 0) (.v 1), .num (.v 1) (.v 2)], 0, .sym .i64 (.v 0), [], .sym .i64 (.v 8), [], []⟩], [], []⟩ (V := (Cm.vals [(p0.length : Int), p1, p2, v3, v4, p5, v6, e4, r5] [(p0.flatMap Cm.enI)])) (n := 3000) (f := 3000) (V' := (Cm.vals [(p0.length : Int), v6, r5] [(p0.flatMap Cm.enI)])) ⟨⟨Cm.lss_t h1, Cm.leq_t h2, Cm.lss_t h3, Cm.neq_t h6, trivial⟩, ⟨⟨h2, _, rfl, Cm.flat_row Cm.enI_len he4⟩, trivial⟩, ⟨Cm.flat_length Cm.enI_len _, trivial⟩, trivial, trivial⟩ ⟨Kr5 _ _, trivial⟩ (T := ⟨[(4, .sym .i64 (.v 1)), (5, .sym .i64 (.v 2))], [some (.rows 0 [] 3 true)], [some (0, 0)]⟩) (ce := .ret) (qs := [.num (.v 6) (.v 1), .num (.v 8) (.v 2), .lst 0 (some 0) []]) hF hr (by kernel_rfl) ⟨(Cm.r v6), (Cm.r r5), ⟨[], rfl, (List.append_nil _).symm⟩, trivial⟩ (Cm.at_re (V' := (Cm.vals [(p0.length : Int), p1, p2, v3, v4, p5, v6, e4, r5] [(p0.flatMap Cm.enI)])) (T := ⟨[(1, .gs 0 0 (.v 0) 1 false), (2, .ptr 1 0), (7, .sym .i64 (.v 3)), (8, .sym .i64 (.v 4)), (20, .gs 0 0 (.v 0) 1 false), (21, .sym .i64 (.v 5)), (22, .sym .i64 (.v 6))], [some (.rows 0 [] 3 true), some (.cells [.sym .i64 (.v 1), .sym .i64 (.v 2)] 23 false)], [some (0, 0), some (1, 0)]⟩) (qs := [.num (.v 0) (.v 0), .num (.v 3) (.v 3), .num (.v 4) (.v 4), .num (.v 0) (.v 0), .num (.v 5) (.v 5), .num (.v 6) (.v 6), .lst 0 (some 0) [], .num (.v 1) (.v 1), .num (.v 2) (.v 2)]) hat (by kernel_rfl) ⟨rfl, rfl, rfl, rfl, rfl, rfl, ⟨[], rfl, (List.append_nil _).symm⟩, rfl, rfl, trivial⟩) fun a' w' hat' => hx0 (v6, r5) rfl a' w' hat'
        · rw [if_neg h3] at h
          cases h
      · rw [if_neg h2] at h
        cases h
    · rw [if_neg h1] at h
      injection h with h; subst h
      exact Cm.to_done mixed ⟨[(.lss, (.v 6), (.v 5), false)], [], [(0, 1, (.v 0))], [], [], []⟩ (V := (Cm.vals [(p0.length : Int), p1, p2, v3, v4, p5, v6] [(p0.flatMap Cm.enI)])) (n := 3000) (f := 3000) (V' := (Cm.vals [(p0.length : Int), p1, p2, v3, v4] [(p0.flatMap Cm.enI)])) ⟨⟨Cm.lss_f h1, trivial⟩, trivial, ⟨Cm.flat_length Cm.enI_len _, trivial⟩, trivial, trivial⟩ trivial (T := ⟨[(1, .gs 0 0 (.v 0) 1 false), (2, .ptr 1 0), (7, .sym .i64 (.v 3)), (8, .sym .i64 (.v 4))], [some (.rows 0 [] 3 true), some (.cells [.sym .i64 (.v 1), .sym .i64 (.v 2)] 23 false)], [some (0, 0), some (1, 0)]⟩) (ce := (.exit 0)) (qs := [.num (.v 0) (.v 0), .num (.v 3) (.v 3), .num (.v 4) (.v 4), .lst 0 (some 0) [], .num (.v 1) (.v 1), .num (.v 2) (.v 2)]) hF hr (by kernel_rfl) ⟨(Cm.r (p0.length : Int)), (Cm.r v3), (Cm.r v4), ⟨[], rfl, (List.append_nil _).symm⟩, (Cm.r p1), (Cm.r p2), trivial⟩ hat fun a' w' hat' => hx1 (v3, v4) rfl a' w' hat'

def w_CheckProfile (fu : Nat) (a0_0 : Int) (a0_1 : Int) (a1 : List (Int)) : Option (Int × Int) := Option.bind (w_limitsError fu a0_0 a0_1) fun r1 => if r1 = (0 : Int) then (if (200 : Int) < (a1.length : Int) then (some ((0 : Int), (8 : Int))) else (Option.bind (w_CheckProfile_L1 fu a1 a0_0 a0_1 (a1.length : Int) fu (0 : Int) (0 : Int) (0 : Int)) fun o4 => (match o4 with | .inl y5 => (some (y5.1, y5.2)) | .inr y6 => (if a0_1 < y6.1 then (some ((IntKind.wrap .i64 ((a1.length : Int) - (1 : Int))), (21 : Int))) else (some (y6.2, (0 : Int))))))) else (some ((0 : Int), r1))

theorem w_CheckProfile_ok (fu : Nat) (a0_0 : Int) (a0_1 : Int) (a1 : List (Int)) (y : Int × Int) (h : w_CheckProfile fu a0_0 a0_1 a1 = some y) : Cm.CallOk Try.prog 10 (Cm.vals [a0_0, a0_1, (a1.length : Int)] [(a1.flatMap Cm.enI)]) [.agg [.sym .i64 (.v 0), .sym .i64 (.v 1)], .gs 0 0 (.v 2) 1 false] [some (.rows 0 [] 3 true)] 1 (Cm.vals [y.1, y.2] []) (.tup [.sym .i64 (.v 0), .sym .i64 (.v 1)]) [none] := by
  refine Cm.fun_of (nt := 56) (by kernel_rfl) (by kernel_rfl) fun φ0 w0 a w hat => ?_
  have hF := Cm.wide_fw
  have hr : Fence.wide.round = none := rfl
  unfold w_CheckProfile at h
  obtain ⟨r1, hr1, h⟩ := Option.bind_eq_some_iff.1 h
  have Kr1 : ∀ N M, ∃ v v' q, Cm.KE.ok Try.prog (Cm.vals ([a0_0, a0_1, (a1.length : Int), r1] ++ N) ([(a1.flatMap Cm.enI)] ++ M)) ⟨19, 2, [], [.agg [.sym .i64 (.v 0), .sym .i64 (.v 1)]], [], [.num (.v 0) (.v 0), .num (.v 1) (.v 1)], 0, .sym .i64 (.v 0), [], .sym .i64 (.v 3), [], []⟩ v v' q := fun N M => ⟨_, _, [.num (.v 0) (.v 3)], ⟨w_limitsError_ok fu a0_0 a0_1 r1 hr1, ⟨(Cm.r a0_0), (Cm.r a0_1), trivial⟩, by kernel_rfl, ⟨rfl, trivial⟩⟩⟩
  by_cases h2 : r1 = (0 : Int)
  · rw [if_pos h2] at h
    by_cases h3 : (200 : Int) < (a1.length : Int)
    · rw [if_pos h3] at h
      injection h with h; subst h
      exact Cm.to_fin mixed ⟨[(.neq, (.v 3), (.c 0), false), (.gtr, (.v 2), (.c 200), true)], [], [(0, 1, (.v 2))], [⟨19, 2, [], [.agg [.sym .i64 (.v 0), .sym .i64 (.v 1)]], [], [.num (.v 0) (.v 0), .num (.v 1) (.v 1)], 0, .sym .i64 (.v 0), [], .sym .i64 (.v 3), [], []⟩], [], []⟩ (V := (Cm.vals [a0_0, a0_1, (a1.length : Int), r1] [(a1.flatMap Cm.enI)])) (n := 3000) (f := 3000) ⟨⟨Cm.neq_f h2, Cm.gtr_t h3, trivial⟩, trivial, ⟨Cm.flat_length Cm.enI_len _, trivial⟩, trivial, trivial⟩ ⟨Kr1 _ _, trivial⟩ (R := ⟨.tup [.sym .i64 (.v 0), .sym .i64 (.v 1)], [none], [some (0, 0)]⟩) (qs := [.num (.c 0) (.v 0), .num (.c 8) (.v 1)]) hF hr (by kernel_rfl) ⟨(Cm.r (0 : Int)), (Cm.r (8 : Int)), trivial⟩ (Cm.at_re (V' := (Cm.vals [a0_0, a0_1, (a1.length : Int), r1] [(a1.flatMap Cm.enI)])) (T := ⟨[(0, .agg [.sym .i64 (.v 0), .sym .i64 (.v 1)]), (1, .gs 0 0 (.v 2) 1 false)], [some (.rows 0 [] 3 true)], [some (0, 0)]⟩) (qs := [.num (.v 0) (.v 0), .num (.v 1) (.v 1), .num (.v 2) (.v 2), .lst 0 (some 0) []]) hat (by kernel_rfl) ⟨rfl, rfl, rfl, ⟨[], rfl, (List.append_nil _).symm⟩, trivial⟩)
    · rw [if_neg h3] at h
      obtain ⟨o4, ho4, h⟩ := Option.bind_eq_some_iff.1 h
      refine Cm.to_loop mixed ⟨[(.neq, (.v 3), (.c 0), false), (.gtr, (.v 2), (.c 200), false)], [], [(0, 1, (.v 2))], [⟨19, 2, [], [.agg [.sym .i64 (.v 0), .sym .i64 (.v 1)]], [], [.num (.v 0) (.v 0), .num (.v 1) (.v 1)], 0, .sym .i64 (.v 0), [], .sym .i64 (.v 3), [], []⟩], [], []⟩ (V := (Cm.vals [a0_0, a0_1, (a1.length : Int), r1] [(a1.flatMap Cm.enI)])) (n := 3000) (f := 3000) (V' := (Cm.vals [(a1.length : Int), a0_0, a0_1, (0 : Int), (0 : Int), (a1.length : Int), (0 : Int)] [(a1.flatMap Cm.enI)])) ⟨⟨Cm.neq_f h2, Cm.gtr_f h3, trivial⟩, trivial, ⟨Cm.flat_length Cm.enI_len _, trivial⟩, trivial, trivial⟩ ⟨Kr1 _ _, trivial⟩ (T := ⟨[(1, .gs 0 0 (.v 0) 1 false), (2, .ptr 1 0), (7, .sym .i64 (.v 3)), (8, .sym .i64 (.v 4)), (20, .gs 0 0 (.v 0) 1 false), (21, .sym .i64 (.v 5)), (22, .sym .i64 (.v 6))], [some (.rows 0 [] 3 true), some (.cells [.sym .i64 (.v 1), .sym .i64 (.v 2)] 23 false)], [some (0, 0), some (1, 0)]⟩) (B := Cm.subAt (Cm.bodyOf Try.prog 10) [1, 1, 1, 1, 0, 1, 0, 0]) (K' := [.bk 0, .sq (Cm.subAt (Cm.bodyOf Try.prog 10) [1, 1, 1, 1, 1]) [1, 1, 1, 1, 1]]) (qs := [.num (.v 2) (.v 0), .num (.c 0) (.v 3), .num (.c 0) (.v 4), .num (.v 2) (.v 0), .num (.v 2) (.v 5), .num (.c 0) (.v 6), .lst 0 (some 0) [], .num (.v 0) (.v 1), .num (.v 1) (.v 2)]) hF hr (by kernel_rfl) ⟨(Cm.r (a1.length : Int)), (Cm.r (0 : Int)), (Cm.r (0 : Int)), (Cm.r (a1.length : Int)), (Cm.r (a1.length : Int)), (Cm.r (0 : Int)), ⟨[], rfl, (List.append_nil _).symm⟩, (Cm.r a0_0), (Cm.r a0_1), trivial⟩ (Cm.at_re (V' := (Cm.vals [a0_0, a0_1, (a1.length : Int), r1] [(a1.flatMap Cm.enI)])) (T := ⟨[(0, .agg [.sym .i64 (.v 0), .sym .i64 (.v 1)]), (1, .gs 0 0 (.v 2) 1 false)], [some (.rows 0 [] 3 true)], [some (0, 0)]⟩) (qs := [.num (.v 0) (.v 0), .num (.v 1) (.v 1), .num (.v 2) (.v 2), .lst 0 (some 0) []]) hat (by kernel_rfl) ⟨rfl, rfl, rfl, ⟨[], rfl, (List.append_nil _).symm⟩, trivial⟩) fun aa1 ww1 hat1 => Cm.loop_in (w_CheckProfile_L1_ok fu a1 a0_0 a0_1 (a1.length : Int) fu (0 : Int) (0 : Int) (0 : Int) o4 ho4 _ _ _ _ _ _ _ hF hr hat1 ?_ ?_)
      · intro y5 hy aa2 ww2 hat
        subst hy
        dsimp only at h
        show (Cm.Wk.out .ret).goal _ _ _ [.bk 0, .sq (Cm.subAt (Cm.bodyOf Try.prog 10) [1, 1, 1, 1, 1]) [1, 1, 1, 1, 1]] _ aa2 ww2
        injection h with h; subst h
        exact Cm.to_fin mixed ⟨[], [], [(0, 1, (.v 0))], [], [], []⟩ (V := (Cm.vals [(a1.length : Int), y5.1, y5.2] [(a1.flatMap Cm.enI)])) (n := 3000) (f := 3000) ⟨trivial, trivial, ⟨Cm.flat_length Cm.enI_len _, trivial⟩, trivial, trivial⟩ trivial (R := ⟨.tup [.sym .i64 (.v 0), .sym .i64 (.v 1)], [none], [some (0, 0)]⟩) (qs := [.num (.v 1) (.v 0), .num (.v 2) (.v 1)]) hF hr (by kernel_rfl) ⟨(Cm.r y5.1), (Cm.r y5.2), trivial⟩ hat
      · intro y6 hy aa2 ww2 hat
        subst hy
        dsimp only at h
        show (Cm.Wk.out (.exit 0)).goal _ _ _ [.bk 0, .sq (Cm.subAt (Cm.bodyOf Try.prog 10) [1, 1, 1, 1, 1]) [1, 1, 1, 1, 1]] _ aa2 ww2
        by_cases h7 : a0_1 < y6.1
        · rw [if_pos h7] at h
          injection h with h; subst h
          exact Cm.to_fin mixed ⟨[(.gtr, (.v 3), (.v 2), true)], [], [(0, 1, (.v 0))], [], [], []⟩ (V := (Cm.vals [(a1.length : Int), a0_0, a0_1, y6.1, y6.2] [(a1.flatMap Cm.enI)])) (n := 3000) (f := 3000) ⟨⟨Cm.gtr_t h7, trivial⟩, trivial, ⟨Cm.flat_length Cm.enI_len _, trivial⟩, trivial, trivial⟩ trivial (R := ⟨.tup [.sym .i64 (.v 0), .sym .i64 (.v 1)], [none], [some (0, 0)]⟩) (qs := [.num (.sub .i64 (.v 0) (.c 1)) (.v 0), .num (.c 21) (.v 1)]) hF hr (by kernel_rfl) ⟨(show (IntKind.wrap .i64 ((a1.length : Int) - (1 : Int))) = (IntKind.wrap .i64 ((a1.length : Int) - (1 : Int))) from rfl), (Cm.r (21 : Int)), trivial⟩ hat
        · rw [if_neg h7] at h
          injection h with h; subst h
          exact Cm.to_fin mixed ⟨[(.gtr, (.v 3), (.v 2), false)], [], [(0, 1, (.v 0))], [], [], []⟩ (V := (Cm.vals [(a1.length : Int), a0_0, a0_1, y6.1, y6.2] [(a1.flatMap Cm.enI)])) (n := 3000) (f := 3000) ⟨⟨Cm.gtr_f h7, trivial⟩, trivial, ⟨Cm.flat_length Cm.enI_len _, trivial⟩, trivial, trivial⟩ trivial (R := ⟨.tup [.sym .i64 (.v 0), .sym .i64 (.v 1)], [none], [some (0, 0)]⟩) (qs := [.num (.v 4) (.v 0), .num (.c 0) (.v 1)]) hF hr (by kernel_rfl) ⟨(Cm.r y6.2), (Cm.r (0 : Int)), trivial⟩ hat
  · rw [if_neg h2] at h
    injection h with h; subst h
    exact Cm.to_fin mixed ⟨[(.neq, (.v 3), (.c 0), true)], [], [(0, 1, (.v 2))], [⟨19, 2, [], [.agg [.sym .i64 (.v 0), .sym .i64 (.v 1)]], [], [.num (.v 0) (.v 0), .num (.v 1) (.v 1)], 0, .sym .i64 (.v 0), [], .sym .i64 (.v 3), [], []⟩], [], []⟩ (V := (Cm.vals [a0_0, a0_1, (a1.length : Int), r1] [(a1.flatMap Cm.enI)])) (n := 3000) (f := 3000) ⟨⟨Cm.neq_t h2, trivial⟩, trivial, ⟨Cm.flat_length Cm.enI_len _, trivial⟩, trivial, trivial⟩ ⟨Kr1 _ _, trivial⟩ (R := ⟨.tup [.sym .i64 (.v 0), .sym .i64 (.v 1)], [none], [some (0, 0)]⟩) (qs := [.num (.c 0) (.v 0), .num (.v 3) (.v 1)]) hF hr (by kernel_rfl) ⟨(Cm.r (0 : Int)), (Cm.r r1), trivial⟩ (Cm.at_re (V' := (Cm.vals [a0_0, a0_1, (a1.length : Int), r1] [(a1.flatMap Cm.enI)])) (T := ⟨[(0, .agg [.sym .i64 (.v 0), .sym .i64 (.v 1)]), (1, .gs 0 0 (.v 2) 1 false)], [some (.rows 0 [] 3 true)], [some (0, 0)]⟩) (qs := [.num (.v 0) (.v 0), .num (.v 1) (.v 1), .num (.v 2) (.v 2), .lst 0 (some 0) []]) hat (by kernel_rfl) ⟨rfl, rfl, rfl, ⟨[], rfl, (List.append_nil _).symm⟩, trivial⟩)

def w_limits_farthest_L1 (fu : Nat) (p0 : Int) (p1 : Int) (p2 : Int) : Nat → Int → Int → Option ((Int))
  | 0, _, _ => none
  | n + 1, v3, v4 => if v4 < p0 then (if (IntKind.wrap .i64 (p2 * (IntKind.wrap .i64 (v4 + (1 : Int))))) < p1 then (if (IntKind.wrap .i64 (p2 * (IntKind.wrap .i64 (p0 - v4)))) < (IntKind.wrap .i64 (p2 * (IntKind.wrap .i64 (v4 + (1 : Int))))) then (w_limits_farthest_L1 fu p0 p1 p2 n (IntKind.wrap .i64 (v3 + (IntKind.wrap .i64 (p2 * (IntKind.wrap .i64 (p0 - v4)))))) (IntKind.wrap .i64 (v4 + (1 : Int)))) else (w_limits_farthest_L1 fu p0 p1 p2 n (IntKind.wrap .i64 (v3 + (IntKind.wrap .i64 (p2 * (IntKind.wrap .i64 (v4 + (1 : Int))))))) (IntKind.wrap .i64 (v4 + (1 : Int))))) else (if (IntKind.wrap .i64 (p2 * (IntKind.wrap .i64 (p0 - v4)))) < p1 then (w_limits_farthest_L1 fu p0 p1 p2 n (IntKind.wrap .i64 (v3 + (IntKind.wrap .i64 (p2 * (IntKind.wrap .i64 (p0 - v4)))))) (IntKind.wrap .i64 (v4 + (1 : Int)))) else (w_limits_farthest_L1 fu p0 p1 p2 n (IntKind.wrap .i64 (v3 + p1)) (IntKind.wrap .i64 (v4 + (1 : Int)))))) else (some v3)

theorem w_limits_farthest_L1_ok (fu : Nat) (p0 : Int) (p1 : Int) (p2 : Int) : ∀ (n : Nat) (v3 : Int) (v4 : Int) (o : (Int)), w_limits_farthest_L1 fu p0 p1 p2 n v3 v4 = some o → ∀ (φ0 : Cm.Phi) (w0 : World) (F : Fence) (k : Nat) (R : Exit → Act → World → Prop) (a : Act) (w : World), Cm.FW F → F.round = none → Cm.AtS (Cm.vals [p0, p1, p2, v3, v4] []) [(1, .sym .i64 (.v 0)), (2, .ptr 0 0), (5, .sym .i64 (.v 3)), (7, .sym .i64 (.v 0)), (8, .sym .i64 (.v 4))] [some (.cells [.sym .i64 (.v 1), .sym .i64 (.v 2)] 58 false)] 32 0 0 φ0 w0 a w → (∀ (y : Int), o = y → ∀ a' w', Cm.AtS (Cm.vals [y] []) [(5, .sym .i64 (.v 0))] [] 32 0 0 φ0 w0 a' w' → R (Exit.exit 0) a' w') → Code.roundsIn F k Try.prog (Cm.subAt (Cm.bodyOf Try.prog 21) [1, 1, 0, 1, 0, 0]) R n a w
  | 0, _, _, _, h => by cases h
  | n + 1, v3, v4, o, h => by
    intro φ0 w0 F k R a w hF hr hat hx0
    rw [w_limits_farthest_L1] at h
    refine Cm.rounds_in (p := [1, 1, 0, 1, 0, 0]) ?_
    by_cases h1 : v4 < p0
    · rw [if_pos h1] at h
      by_cases h2 : (IntKind.wrap .i64 (p2 * (IntKind.wrap .i64 (v4 + (1 : Int))))) < p1
      · rw [if_pos h2] at h
        by_cases h3 : (IntKind.wrap .i64 (p2 * (IntKind.wrap .i64 (p0 - v4)))) < (IntKind.wrap .i64 (p2 * (IntKind.wrap .i64 (v4 + (1 : Int)))))
        · rw [if_pos h3] at h
          refine Cm.to_done mixed ⟨[(.lss, (.v 4), (.v 0), true), (.lss, (.mul .i64 (.v 2) (.add .i64 (.v 4) (.c 1))), (.v 1), true), (.lss, (.mul .i64 (.v 2) (.sub .i64 (.v 0) (.v 4))), (.mul .i64 (.v 2) (.add .i64 (.v 4) (.c 1))), true)], [], [], [], [], []⟩ (V := (Cm.vals [p0, p1, p2, v3, v4] [])) (n := 3000) (f := 3000) (V' := (Cm.vals [p0, p1, p2, (IntKind.wrap .i64 (v3 + (IntKind.wrap .i64 (p2 * (IntKind.wrap .i64 (p0 - v4)))))), (IntKind.wrap .i64 (v4 + (1 : Int)))] [])) ⟨⟨Cm.lss_t h1, Cm.lss_t h2, Cm.lss_t h3, trivial⟩, trivial, trivial, trivial, trivial⟩ trivial (T := ⟨[(1, .sym .i64 (.v 0)), (2, .ptr 0 0), (5, .sym .i64 (.v 3)), (7, .sym .i64 (.v 0)), (8, .sym .i64 (.v 4))], [some (.cells [.sym .i64 (.v 1), .sym .i64 (.v 2)] 58 false)], [some (0, 0)]⟩) (ce := .normal) (qs := [.num (.v 0) (.v 0), .num (.add .i64 (.v 3) (.mul .i64 (.v 2) (.sub .i64 (.v 0) (.v 4)))) (.v 3), .num (.v 0) (.v 0), .num (.add .i64 (.v 4) (.c 1)) (.v 4), .num (.v 1) (.v 1), .num (.v 2) (.v 2)]) hF hr (by kernel_rfl) ⟨(Cm.r p0), (show (IntKind.wrap .i64 (v3 + (IntKind.wrap .i64 (p2 * (IntKind.wrap .i64 (p0 - v4)))))) = (IntKind.wrap .i64 (v3 + (IntKind.wrap .i64 (p2 * (IntKind.wrap .i64 (p0 - v4)))))) from rfl), (Cm.r p0), (Cm.r (IntKind.wrap .i64 (v4 + (1 : Int)))), (Cm.r p1), (Cm.r p2), trivial⟩ hat fun a' w' hat' => ?_
          exact w_limits_farthest_L1_ok fu p0 p1 p2 n (IntKind.wrap .i64 (v3 + (IntKind.wrap .i64 (p2 * (IntKind.wrap .i64 (p0 - v4)))))) (IntKind.wrap .i64 (v4 + (1 : Int))) o h _ _ _ _ _ _ _ hF hr hat' hx0
        · rw [if_neg h3] at h
          refine Cm.to_done mixed ⟨[(.lss, (.v 4), (.v 0), true), (.lss, (.mul .i64 (.v 2) (.add .i64 (.v 4) (.c 1))), (.v 1), true), (.lss, (.mul .i64 (.v 2) (.sub .i64 (.v 0) (.v 4))), (.mul .i64 (.v 2) (.add .i64 (.v 4) (.c 1))), false)], [], [], [], [], []⟩ (V := (Cm.vals [p0, p1, p2, v3, v4] [])) (n := 3000) (f := 3000) (V' := (Cm.vals [p0, p1, p2, (IntKind.wrap .i64 (v3 + (IntKind.wrap .i64 (p2 * (IntKind.wrap .i64 (v4 + (1 : Int))))))), (IntKind.wrap .i64 (v4 + (1 : Int)))] [])) ⟨⟨Cm.lss_t h1, Cm.lss_t h2, Cm.lss_f h3, trivial⟩, trivial, trivial, trivial, trivial⟩ trivial (T := ⟨[(1, .sym .i64 (.v 0)), (2, .ptr 0 0), (5, .sym .i64 (.v 3)), (7, .sym .i64 (.v 0)), (8, .sym .i64 (.v 4))], [some (.cells [.sym .i64 (.v 1), .sym .i64 (.v 2)] 58 false)], [some (0, 0)]⟩) (ce := .normal) (qs := [.num (.v 0) (.v 0), .num (.add .i64 (.v 3) (.mul .i64 (.v 2) (.add .i64 (.v 4) (.c 1)))) (.v 3), .num (.v 0) (.v 0), .num (.add .i64 (.v 4) (.c 1)) (.v 4), .num (.v 1) (.v 1), .num (.v 2) (.v 2)]) hF hr (by kernel_rfl) ⟨(Cm.r p0), rfl, (Cm.r p0), (Cm.r (IntKind.wrap .i64 (v4 + (1 : Int)))), (Cm.r p1), (Cm.r p2), trivial⟩ hat fun a' w' hat' => ?_
          exact w_limits_farthest_L1_ok fu p0 p1 p2 n (IntKind.wrap .i64 (v3 + (IntKind.wrap .i64 (p2 * (IntKind.wrap .i64 (v4 + (1 : Int))))))) (IntKind.wrap .i64 (v4 + (1 : Int))) o h _ _ _ _ _ _ _ hF hr hat' hx0
      · rw [if_neg h2] at h
        by_cases h4 : (IntKind.wrap .i64 (p2 * (IntKind.wrap .i64 (p0 - v4)))) < p1
        · rw [if_pos h4] at h
          refine Cm.to_done mixed ⟨[(.lss, (.v 4), (.v 0), true), (.lss, (.mul .i64 (.v 2) (.add .i64 (.v 4) (.c 1))), (.v 1), false), (.lss, (.mul .i64 (.v 2) (.sub .i64 (.v 0) (.v 4))), (.v 1), true)], [], [], [], [], []⟩ (V := (Cm.vals [p0, p1, p2, v3, v4] [])) (n := 3000) (f := 3000) (V' := (Cm.vals [p0, p1, p2, (IntKind.wrap .i64 (v3 + (IntKind.wrap .i64 (p2 * (IntKind.wrap .i64 (p0 - v4)))))), (IntKind.wrap .i64 (v4 + (1 : Int)))] [])) ⟨⟨Cm.lss_t h1, Cm.lss_f h2, Cm.lss_t h4, trivial⟩, trivial, trivial, trivial, trivial⟩ trivial (T := ⟨[(1, .sym .i64 (.v 0)), (2, .ptr 0 0), (5, .sym .i64 (.v 3)), (7, .sym .i64 (.v 0)), (8, .sym .i64 (.v 4))], [some (.cells [.sym .i64 (.v 1), .sym .i64 (.v 2)] 58 false)], [some (0, 0)]⟩) (ce := .normal) (qs := [.num (.v 0) (.v 0), .num (.add .i64 (.v 3) (.mul .i64 (.v 2) (.sub .i64 (.v 0) (.v 4)))) (.v 3), .num (.v 0) (.v 0), .num (.add .i64 (.v 4) (.c 1)) (.v 4), .num (.v 1) (.v 1), .num (.v 2) (.v 2)]) hF hr (by kernel_rfl) ⟨(Cm.r p0), (show (IntKind.wrap .i64 (v3 + (IntKind.wrap .i64 (p2 * (IntKind.wrap .i64 (p0 - v4)))))) = (IntKind.wrap .i64 (v3 + (IntKind.wrap .i64 (p2 * (IntKind.wrap .i64 (p0 - v4)))))) from rfl), (Cm.r p0), (Cm.r (IntKind.wrap .i64 (v4 + (1 : Int)))), (Cm.r p1), (Cm.r p2), trivial⟩ hat fun a' w' hat' => ?_
          exact w_limits_farthest_L1_ok fu p0 p1 p2 n (IntKind.wrap .i64 (v3 + (IntKind.wrap .i64 (p2 * (IntKind.wrap .i64 (p0 - v4)))))) (IntKind.wrap .i64 (v4 + (1 : Int))) o h _ _ _ _ _ _ _ hF hr hat' hx0
        · rw [if_neg h4] at h
          refine Cm.to_done mixed ⟨[(.lss, (.v 4), (.v 0), true), (.lss, (.mul .i64 (.v 2) (.add .i64 (.v 4) (.c 1))), (.v 1), false), (.lss, (.mul .i64 (.v 2) (.sub .i64 (.v 0) (.v 4))), (.v 1), false)], [], [], [], [], []⟩ (V := (Cm.vals [p0, p1, p2, v3, v4] [])) (n := 3000) (f := 3000) (V' := (Cm.vals [p0, p1, p2, (IntKind.wrap .i64 (v3 + p1)), (IntKind.wrap .i64 (v4 + (1 : Int)))] [])) ⟨⟨Cm.lss_t h1, Cm.lss_f h2, Cm.lss_f h4, trivial⟩, trivial, trivial, trivial, trivial⟩ trivial (T := ⟨[(1, .sym .i64 (.v 0)), (2, .ptr 0 0), (5, .sym .i64 (.v 3)), (7, .sym .i64 (.v 0)), (8, .sym .i64 (.v 4))], [some (.cells [.sym .i64 (.v 1), .sym .i64 (.v 2)] 58 false)], [some (0, 0)]⟩) (ce := .normal) (qs := [.num (.v 0) (.v 0), .num (.add .i64 (.v 3) (.v 1)) (.v 3), .num (.v 0) (.v 0), .num (.add .i64 (.v 4) (.c 1)) (.v 4), .num (.v 1) (.v 1), .num (.v 2) (.v 2)]) hF hr (by kernel_rfl) ⟨(Cm.r p0), (Cm.r (IntKind.wrap .i64 (v3 + p1))), (Cm.r p0), (Cm.r (IntKind.wrap .i64 (v4 + (1 : Int)))), (Cm.r p1), (Cm.r p2), trivial⟩ hat fun a' w' hat' => ?_
          exact w_limits_farthest_L1_ok fu p0 p1 p2 n (IntKind.wrap .i64 (v3 + p1)) (IntKind.wrap .i64 (v4 + (1 : Int))) o h _ _ _ _ _ _ _ hF hr hat' hx0
    · rw [if_neg h1] at h
      injection h with h; subst h
      exact Cm.to_done mixed ⟨[(.lss, (.v 4), (.v 0), false)], [], [], [], [], []⟩ (V := (Cm.vals [p0, p1, p2, v3, v4] [])) (n := 3000) (f := 3000) (V' := (Cm.vals [v3] [])) ⟨⟨Cm.lss_f h1, trivial⟩, trivial, trivial, trivial, trivial⟩ trivial (T := ⟨[(5, .sym .i64 (.v 0))], [], []⟩) (ce := (.exit 0)) (qs := [.num (.v 3) (.v 0)]) hF hr (by kernel_rfl) ⟨(Cm.r v3), trivial⟩ hat fun a' w' hat' => hx0 v3 rfl a' w' hat'

def w_limits_farthest (fu : Nat) (a0_0 : Int) (a0_1 : Int) (a1 : Int) : Option (Int) := Option.bind (w_limits_farthest_L1 fu a1 a0_0 a0_1 fu (0 : Int) (0 : Int)) fun o1 => some o1

theorem w_limits_farthest_ok (fu : Nat) (a0_0 : Int) (a0_1 : Int) (a1 : Int) (y : Int) (h : w_limits_farthest fu a0_0 a0_1 a1 = some y) : Cm.CallOk Try.prog 21 (Cm.vals [a0_0, a0_1, a1] []) [.agg [.sym .i64 (.v 0), .sym .i64 (.v 1)], .sym .i64 (.v 2)] [] 0 (Cm.vals [y] []) (.sym .i64 (.v 0)) [] := by
  refine Cm.fun_of (nt := 32) (by kernel_rfl) (by kernel_rfl) fun φ0 w0 a w hat => ?_
  have hF := Cm.wide_fw
  have hr : Fence.wide.round = none := rfl
  unfold w_limits_farthest at h
  obtain ⟨o1, ho1, h⟩ := Option.bind_eq_some_iff.1 h
  refine Cm.to_loop mixed ⟨[], [], [], [], [], []⟩ (V := (Cm.vals [a0_0, a0_1, a1] [])) (n := 3000) (f := 3000) (V' := (Cm.vals [a1, a0_0, a0_1, (0 : Int), (0 : Int)] [])) ⟨trivial, trivial, trivial, trivial, trivial⟩ trivial (T := ⟨[(1, .sym .i64 (.v 0)), (2, .ptr 0 0), (5, .sym .i64 (.v 3)), (7, .sym .i64 (.v 0)), (8, .sym .i64 (.v 4))], [some (.cells [.sym .i64 (.v 1), .sym .i64 (.v 2)] 58 false)], [some (0, 0)]⟩) (B := Cm.subAt (Cm.bodyOf Try.prog 21) [1, 1, 0, 1, 0, 0]) (K' := [.bk 0, .sq (Cm.subAt (Cm.bodyOf Try.prog 21) [1, 1, 1]) [1, 1, 1]]) (qs := [.num (.v 2) (.v 0), .num (.c 0) (.v 3), .num (.v 2) (.v 0), .num (.c 0) (.v 4), .num (.v 0) (.v 1), .num (.v 1) (.v 2)]) hF hr (by kernel_rfl) ⟨(Cm.r a1), (Cm.r (0 : Int)), (Cm.r a1), (Cm.r (0 : Int)), (Cm.r a0_0), (Cm.r a0_1), trivial⟩ hat fun aa1 ww1 hat1 => Cm.loop_in (w_limits_farthest_L1_ok fu a1 a0_0 a0_1 fu (0 : Int) (0 : Int) o1 ho1 _ _ _ _ _ _ _ hF hr hat1 ?_)
  · intro yy hy aa2 ww2 hat
    subst hy
    show (Cm.Wk.out (.exit 0)).goal _ _ _ [.bk 0, .sq (Cm.subAt (Cm.bodyOf Try.prog 21) [1, 1, 1]) [1, 1, 1]] _ aa2 ww2
    injection h with h; subst h
    exact Cm.to_fin mixed ⟨[], [], [], [], [], []⟩ (V := (Cm.vals [o1] [])) (n := 3000) (f := 3000) ⟨trivial, trivial, trivial, trivial, trivial⟩ trivial (R := ⟨.sym .i64 (.v 0), [], []⟩) (qs := [.num (.v 0) (.v 0)]) hF hr (by kernel_rfl) ⟨(Cm.r o1), trivial⟩ hat

def w_TicksFor_L1 (fu : Nat) (p0 : Int) (p1 : Int) (p2 : Int) : Nat → Int → Option ((Int) ⊕ (Unit))
  | 0, _ => none
  | n + 1, v3 => if v3 < (201 : Int) then (Option.bind (w_limits_farthest fu p1 p2 v3) fun r2 => if p0 ≤ r2 then (some (.inl v3)) else (w_TicksFor_L1 fu p0 p1 p2 n (IntKind.wrap .i64 (v3 + (1 : Int))))) else (some (.inr ()))

theorem w_TicksFor_L1_ok (fu : Nat) (p0 : Int) (p1 : Int) (p2 : Int) : ∀ (n : Nat) (v3 : Int) (o : (Int) ⊕ (Unit)), w_TicksFor_L1 fu p0 p1 p2 n v3 = some o → ∀ (φ0 : Cm.Phi) (w0 : World) (F : Fence) (k : Nat) (R : Exit → Act → World → Prop) (a : Act) (w : World), Cm.FW F → F.round = none → Cm.AtS (Cm.vals [p0, p1, p2, v3] []) [(1, .sym .i64 (.v 0)), (2, .ptr 0 0), (17, .sym .i64 (.v 3))] [some (.cells [.sym .i64 (.v 1), .sym .i64 (.v 2)] 23 false)] 28 0 0 φ0 w0 a w → (∀ (y : Int), o = .inl y → ∀ a' w', Cm.AtS (Cm.vals [y] []) [(4, .sym .i64 (.v 0)), (5, .int .i64 0)] [] 28 0 0 φ0 w0 a' w' → R Exit.ret a' w') → (∀ (y : Unit), o = .inr y → ∀ a' w', Cm.AtS (Cm.vals [] []) [] [] 28 0 0 φ0 w0 a' w' → R (Exit.exit 0) a' w') → Code.roundsIn F k Try.prog (Cm.subAt (Cm.bodyOf Try.prog 8) [1, 1, 1, 0, 1, 0, 0]) R n a w
  | 0, _, _, h => by cases h
  | n + 1, v3, o, h => by
    intro φ0 w0 F k R a w hF hr hat hx0 hx1
    rw [w_TicksFor_L1] at h
    refine Cm.rounds_in (p := [1, 1, 1, 0, 1, 0, 0]) ?_
    by_cases h1 : v3 < (201 : Int)
    · rw [if_pos h1] at h
      obtain ⟨r2, hr2, h⟩ := Option.bind_eq_some_iff.1 h
      have Kr2 : ∀ N M, ∃ v v' q, Cm.KE.ok Try.prog (Cm.vals ([p0, p1, p2, v3, r2] ++ N) ([] ++ M)) ⟨21, 1, [], [.agg [.sym .i64 (.v 0), .sym .i64 (.v 1)], .sym .i64 (.v 2)], [], [.num (.v 1) (.v 0), .num (.v 2) (.v 1), .num (.v 3) (.v 2)], 0, .sym .i64 (.v 0), [], .sym .i64 (.v 4), [], []⟩ v v' q := fun N M => ⟨_, _, [.num (.v 0) (.v 4)], ⟨w_limits_farthest_ok fu p1 p2 v3 r2 hr2, ⟨(Cm.r p1), (Cm.r p2), (Cm.r v3), trivial⟩, by kernel_rfl, ⟨rfl, trivial⟩⟩⟩
      by_cases h3 : p0 ≤ r2
      · rw [if_pos h3] at h
        injection h with h; subst h
        exact Cm.to_done mixed ⟨[(.lss, (.v 3), (.c 201), true), (.geq, (.v 4), (.v 0), true)], [], [], [⟨21, 1, [], [.agg [.sym .i64 (.v 0), .sym .i64 (.v 1)], .sym .i64 (.v 2)], [], [.num (.v 1) (.v 0), .num (.v 2) (.v 1), .num (.v 3) (.v 2)], 0, .sym .i64 (.v 0), [], .sym .i64 (.v 4), [], []⟩], [], []⟩ (V := (Cm.vals [p0, p1, p2, v3, r2] [])) (n := 3000) (f := 3000) (V' := (Cm.vals [v3] [])) ⟨⟨Cm.lss_t h1, Cm.geq_t h3, trivial⟩, trivial, trivial, trivial, trivial⟩ ⟨Kr2 _ _, trivial⟩ (T := ⟨[(4, .sym .i64 (.v 0)), (5, .int .i64 0)], [], []⟩) (ce := .ret) (qs := [.num (.v 3) (.v 0)]) hF hr (by kernel_rfl) ⟨(Cm.r v3), trivial⟩ (Cm.at_re (V' := (Cm.vals [p0, p1, p2, v3, r2] [])) (T := ⟨[(1, .sym .i64 (.v 0)), (2, .ptr 0 0), (17, .sym .i64 (.v 3))], [some (.cells [.sym .i64 (.v 1), .sym .i64 (.v 2)] 23 false)], [some (0, 0)]⟩) (qs := [.num (.v 0) (.v 0), .num (.v 3) (.v 3), .num (.v 1) (.v 1), .num (.v 2) (.v 2)]) hat (by kernel_rfl) ⟨rfl, rfl, rfl, rfl, trivial⟩) fun a' w' hat' => hx0 v3 rfl a' w' hat'
      · rw [if_neg h3] at h
        refine Cm.to_done mixed ⟨[(.lss, (.v 3), (.c 201), true), (.geq, (.v 4), (.v 0), false)], [], [], [⟨21, 1, [], [.agg [.sym .i64 (.v 0), .sym .i64 (.v 1)], .sym .i64 (.v 2)], [], [.num (.v 1) (.v 0), .num (.v 2) (.v 1), .num (.v 3) (.v 2)], 0, .sym .i64 (.v 0), [], .sym .i64 (.v 4), [], []⟩], [], []⟩ (V := (Cm.vals [p0, p1, p2, v3, r2] [])) (n := 3000) (f := 3000) (V' := (Cm.vals [p0, p1, p2, (IntKind.wrap .i64 (v3 + (1 : Int)))] [])) ⟨⟨Cm.lss_t h1, Cm.geq_f h3, trivial⟩, trivial, trivial, trivial, trivial⟩ ⟨Kr2 _ _, trivial⟩ (T := ⟨[(1, .sym .i64 (.v 0)), (2, .ptr 0 0), (17, .sym .i64 (.v 3))], [some (.cells [.sym .i64 (.v 1), .sym .i64 (.v 2)] 23 false)], [some (0, 0)]⟩) (ce := .normal) (qs := [.num (.v 0) (.v 0), .num (.add .i64 (.v 3) (.c 1)) (.v 3), .num (.v 1) (.v 1), .num (.v 2) (.v 2)]) hF hr (by kernel_rfl) ⟨(Cm.r p0), (Cm.r (IntKind.wrap .i64 (v3 + (1 : Int)))), (Cm.r p1), (Cm.r p2), trivial⟩ (Cm.at_re (V' := (Cm.vals [p0, p1, p2, v3, r2] [])) (T := ⟨[(1, .sym .i64 (.v 0)), (2, .ptr 0 0), (17, .sym .i64 (.v 3))], [some (.cells [.sym .i64 (.v 1), .sym .i64 (.v 2)] 23 false)], [some (0, 0)]⟩) (qs := [.num (.v 0) (.v 0), .num (.v 3) (.v 3), .num (.v 1) (.v 1), .num (.v 2) (.v 2)]) hat (by kernel_rfl) ⟨rfl, rfl, rfl, rfl, trivial⟩) fun a' w' hat' => ?_
        exact w_TicksFor_L1_ok fu p0 p1 p2 n (IntKind.wrap .i64 (v3 + (1 : Int))) o h _ _ _ _ _ _ _ hF hr hat' hx0 hx1
    · rw [if_neg h1] at h
      injection h with h; subst h
      exact Cm.to_done mixed ⟨[(.lss, (.v 3), (.c 201), false)], [], [], [], [], []⟩ (V := (Cm.vals [p0, p1, p2, v3] [])) (n := 3000) (f := 3000) (V' := (Cm.vals [] [])) ⟨⟨Cm.lss_f h1, trivial⟩, trivial, trivial, trivial, trivial⟩ trivial (T := ⟨[], [], []⟩) (ce := (.exit 0)) (qs := []) hF hr (by kernel_rfl) trivial hat fun a' w' hat' => hx1 () rfl a' w' hat'

def w_TicksFor (fu : Nat) (a0_0 : Int) (a0_1 : Int) (a1 : Int) : Option (Int × Int) := Option.bind (w_limitsError fu a0_0 a0_1) fun r1 => Option.bind (u_LimitError a1 (0 : Int) (10000 : Int)) fun r2 => Option.bind (u_FirstError fu ([r1, r2] : List (Int))) fun r3 => if r3 = (0 : Int) then (Option.bind (w_TicksFor_L1 fu a1 a0_0 a0_1 fu (0 : Int)) fun o5 => (match o5 with | .inl y6 => (some (y6, (0 : Int))) | .inr y7 => (some ((0 : Int), (8 : Int))))) else (some ((0 : Int), r3))

theorem w_TicksFor_ok (fu : Nat) (a0_0 : Int) (a0_1 : Int) (a1 : Int) (y : Int × Int) (h : w_TicksFor fu a0_0 a0_1 a1 = some y) : Cm.CallOk Try.prog 8 (Cm.vals [a0_0, a0_1, a1] []) [.agg [.sym .i64 (.v 0), .sym .i64 (.v 1)], .sym .i64 (.v 2)] [] 0 (Cm.vals [y.1, y.2] []) (.tup [.sym .i64 (.v 0), .sym .i64 (.v 1)]) [] := by
  refine Cm.fun_of (nt := 28) (by kernel_rfl) (by kernel_rfl) fun φ0 w0 a w hat => ?_
  have hF := Cm.wide_fw
  have hr : Fence.wide.round = none := rfl
  unfold w_TicksFor at h
  obtain ⟨r1, hr1, h⟩ := Option.bind_eq_some_iff.1 h
  have Kr1 : ∀ N M, ∃ v v' q, Cm.KE.ok Try.prog (Cm.vals ([a0_0, a0_1, a1, r1] ++ N) ([] ++ M)) ⟨19, 1, [], [.agg [.sym .i64 (.v 0), .sym .i64 (.v 1)]], [], [.num (.v 0) (.v 0), .num (.v 1) (.v 1)], 0, .sym .i64 (.v 0), [], .sym .i64 (.v 3), [], []⟩ v v' q := fun N M => ⟨_, _, [.num (.v 0) (.v 3)], ⟨w_limitsError_ok fu a0_0 a0_1 r1 hr1, ⟨(Cm.r a0_0), (Cm.r a0_1), trivial⟩, by kernel_rfl, ⟨rfl, trivial⟩⟩⟩
  obtain ⟨r2, hr2, h⟩ := Option.bind_eq_some_iff.1 h
  have Kr2 : ∀ N M, ∃ v v' q, Cm.KE.ok Try.prog (Cm.vals ([a0_0, a0_1, a1, r1, r2] ++ N) ([] ++ M)) ⟨20, 1, [], [.sym .i64 (.v 0), .sym .i64 (.v 1), .sym .i64 (.v 2)], [], [.num (.v 2) (.v 0), .num (.c 0) (.v 1), .num (.c 10000) (.v 2)], 0, .sym .i64 (.v 0), [], .sym .i64 (.v 4), [], []⟩ v v' q := fun N M => ⟨_, _, [.num (.v 0) (.v 4)], ⟨u_LimitError_ok a1 (0 : Int) (10000 : Int) r2 hr2, ⟨(Cm.r a1), (Cm.r (0 : Int)), (Cm.r (10000 : Int)), trivial⟩, by kernel_rfl, ⟨rfl, trivial⟩⟩⟩
  obtain ⟨r3, hr3, h⟩ := Option.bind_eq_some_iff.1 h
  have Kr3 : ∀ N M, ∃ v v' q, Cm.KE.ok Try.prog (Cm.vals ([a0_0, a0_1, a1, r1, r2, r3] ++ N) ([] ++ M)) ⟨18, 2, [some (1, 0)], [.gs 0 0 (.v 0) 1 false], [some (.rows 0 [] 30 true)], [.num (.c 2) (.v 0), .lst 0 none [.sym .i64 (.v 3), .sym .i64 (.v 4)]], 1, .sym .i64 (.v 0), [none], .sym .i64 (.v 5), [], []⟩ v v' q := fun N M => ⟨_, _, [.num (.v 0) (.v 5)], ⟨u_FirstError_ok fu ([r1, r2] : List (Int)) r3 hr3, ⟨rfl, rfl, trivial⟩, by kernel_rfl, ⟨rfl, trivial⟩⟩⟩
  by_cases h4 : r3 = (0 : Int)
  · rw [if_pos h4] at h
    obtain ⟨o5, ho5, h⟩ := Option.bind_eq_some_iff.1 h
    refine Cm.to_loop mixed ⟨[(.neq, (.v 5), (.c 0), false)], [], [], [⟨19, 1, [], [.agg [.sym .i64 (.v 0), .sym .i64 (.v 1)]], [], [.num (.v 0) (.v 0), .num (.v 1) (.v 1)], 0, .sym .i64 (.v 0), [], .sym .i64 (.v 3), [], []⟩, ⟨20, 1, [], [.sym .i64 (.v 0), .sym .i64 (.v 1), .sym .i64 (.v 2)], [], [.num (.v 2) (.v 0), .num (.c 0) (.v 1), .num (.c 10000) (.v 2)], 0, .sym .i64 (.v 0), [], .sym .i64 (.v 4), [], []⟩, ⟨18, 2, [some (1, 0)], [.gs 0 0 (.v 0) 1 false], [some (.rows 0 [] 30 true)], [.num (.c 2) (.v 0), .lst 0 none [.sym .i64 (.v 3), .sym .i64 (.v 4)]], 1, .sym .i64 (.v 0), [none], .sym .i64 (.v 5), [], []⟩], [], []⟩ (V := (Cm.vals [a0_0, a0_1, a1, r1, r2, r3] [])) (n := 3000) (f := 3000) (V' := (Cm.vals [a1, a0_0, a0_1, (0 : Int)] [])) ⟨⟨Cm.neq_f h4, trivial⟩, trivial, trivial, trivial, trivial⟩ ⟨Kr1 _ _, Kr2 _ _, Kr3 _ _, trivial⟩ (T := ⟨[(1, .sym .i64 (.v 0)), (2, .ptr 0 0), (17, .sym .i64 (.v 3))], [some (.cells [.sym .i64 (.v 1), .sym .i64 (.v 2)] 23 false)], [some (0, 0)]⟩) (B := Cm.subAt (Cm.bodyOf Try.prog 8) [1, 1, 1, 0, 1, 0, 0]) (K' := [.bk 0, .sq (Cm.subAt (Cm.bodyOf Try.prog 8) [1, 1, 1, 1]) [1, 1, 1, 1]]) (qs := [.num (.v 2) (.v 0), .num (.c 0) (.v 3), .num (.v 0) (.v 1), .num (.v 1) (.v 2)]) hF hr (by kernel_rfl) ⟨(Cm.r a1), (Cm.r (0 : Int)), (Cm.r a0_0), (Cm.r a0_1), trivial⟩ (Cm.at_re (V' := (Cm.vals [a0_0, a0_1, a1, r1, r2, r3] [])) (T := ⟨[(0, .agg [.sym .i64 (.v 0), .sym .i64 (.v 1)]), (1, .sym .i64 (.v 2))], [], []⟩) (qs := [.num (.v 0) (.v 0), .num (.v 1) (.v 1), .num (.v 2) (.v 2)]) hat (by kernel_rfl) ⟨rfl, rfl, rfl, trivial⟩) fun aa1 ww1 hat1 => Cm.loop_in (w_TicksFor_L1_ok fu a1 a0_0 a0_1 fu (0 : Int) o5 ho5 _ _ _ _ _ _ _ hF hr hat1 ?_ ?_)
    · intro y6 hy aa2 ww2 hat
      subst hy
      dsimp only at h
      show (Cm.Wk.out .ret).goal _ _ _ [.bk 0, .sq (Cm.subAt (Cm.bodyOf Try.prog 8) [1, 1, 1, 1]) [1, 1, 1, 1]] _ aa2 ww2
      injection h with h; subst h
      exact Cm.to_fin mixed ⟨[], [], [], [], [], []⟩ (V := (Cm.vals [y6] [])) (n := 3000) (f := 3000) ⟨trivial, trivial, trivial, trivial, trivial⟩ trivial (R := ⟨.tup [.sym .i64 (.v 0), .sym .i64 (.v 1)], [], []⟩) (qs := [.num (.v 0) (.v 0), .num (.c 0) (.v 1)]) hF hr (by kernel_rfl) ⟨(Cm.r y6), (Cm.r (0 : Int)), trivial⟩ hat
    · intro y7 hy aa2 ww2 hat
      subst hy
      dsimp only at h
      show (Cm.Wk.out (.exit 0)).goal _ _ _ [.bk 0, .sq (Cm.subAt (Cm.bodyOf Try.prog 8) [1, 1, 1, 1]) [1, 1, 1, 1]] _ aa2 ww2
      injection h with h; subst h
      exact Cm.to_fin mixed ⟨[], [], [], [], [], []⟩ (V := (Cm.vals [] [])) (n := 3000) (f := 3000) ⟨trivial, trivial, trivial, trivial, trivial⟩ trivial (R := ⟨.tup [.sym .i64 (.v 0), .sym .i64 (.v 1)], [], []⟩) (qs := [.num (.c 0) (.v 0), .num (.c 8) (.v 1)]) hF hr (by kernel_rfl) ⟨(Cm.r (0 : Int)), (Cm.r (8 : Int)), trivial⟩ hat
  · rw [if_neg h4] at h
    injection h with h; subst h
    exact Cm.to_fin mixed ⟨[(.neq, (.v 5), (.c 0), true)], [], [], [⟨19, 1, [], [.agg [.sym .i64 (.v 0), .sym .i64 (.v 1)]], [], [.num (.v 0) (.v 0), .num (.v 1) (.v 1)], 0, .sym .i64 (.v 0), [], .sym .i64 (.v 3), [], []⟩, ⟨20, 1, [], [.sym .i64 (.v 0), .sym .i64 (.v 1), .sym .i64 (.v 2)], [], [.num (.v 2) (.v 0), .num (.c 0) (.v 1), .num (.c 10000) (.v 2)], 0, .sym .i64 (.v 0), [], .sym .i64 (.v 4), [], []⟩, ⟨18, 2, [some (1, 0)], [.gs 0 0 (.v 0) 1 false], [some (.rows 0 [] 30 true)], [.num (.c 2) (.v 0), .lst 0 none [.sym .i64 (.v 3), .sym .i64 (.v 4)]], 1, .sym .i64 (.v 0), [none], .sym .i64 (.v 5), [], []⟩], [], []⟩ (V := (Cm.vals [a0_0, a0_1, a1, r1, r2, r3] [])) (n := 3000) (f := 3000) ⟨⟨Cm.neq_t h4, trivial⟩, trivial, trivial, trivial, trivial⟩ ⟨Kr1 _ _, Kr2 _ _, Kr3 _ _, trivial⟩ (R := ⟨.tup [.sym .i64 (.v 0), .sym .i64 (.v 1)], [], []⟩) (qs := [.num (.c 0) (.v 0), .num (.v 5) (.v 1)]) hF hr (by kernel_rfl) ⟨(Cm.r (0 : Int)), (Cm.r r3), trivial⟩ (Cm.at_re (V' := (Cm.vals [a0_0, a0_1, a1, r1, r2, r3] [])) (T := ⟨[(0, .agg [.sym .i64 (.v 0), .sym .i64 (.v 1)]), (1, .sym .i64 (.v 2))], [], []⟩) (qs := [.num (.v 0) (.v 0), .num (.v 1) (.v 1), .num (.v 2) (.v 2)]) hat (by kernel_rfl) ⟨rfl, rfl, rfl, trivial⟩)

def w_limits_stopping_L1 (fu : Nat) (p0 : Int) (p1 : Int) : Nat → Int → Int → Option ((Int))
  | 0, _, _ => none
  | n + 1, v2, v3 => if (0 : Int) < v3 then (w_limits_stopping_L1 fu p0 p1 n (IntKind.wrap .i64 (v2 + v3)) (IntKind.wrap .i64 (v3 - p1))) else (some v2)

theorem w_limits_stopping_L1_ok (fu : Nat) (p0 : Int) (p1 : Int) : ∀ (n : Nat) (v2 : Int) (v3 : Int) (o : (Int)), w_limits_stopping_L1 fu p0 p1 n v2 v3 = some o → ∀ (φ0 : Cm.Phi) (w0 : World) (F : Fence) (k : Nat) (R : Exit → Act → World → Prop) (a : Act) (w : World), Cm.FW F → F.round = none → Cm.AtS (Cm.vals [p0, p1, v2, v3] []) [(2, .ptr 0 0), (5, .sym .i64 (.v 2)), (6, .sym .i64 (.v 3))] [some (.cells [.sym .i64 (.v 0), .sym .i64 (.v 1)] 58 false)] 23 0 0 φ0 w0 a w → (∀ (y : Int), o = y → ∀ a' w', Cm.AtS (Cm.vals [y] []) [(5, .sym .i64 (.v 0))] [] 23 0 0 φ0 w0 a' w' → R (Exit.exit 0) a' w') → Code.roundsIn F k Try.prog (Cm.subAt (Cm.bodyOf Try.prog 35) [1, 1, 0, 1, 0, 0]) R n a w
  | 0, _, _, _, h => by cases h
  | n + 1, v2, v3, o, h => by
    intro φ0 w0 F k R a w hF hr hat hx0
    rw [w_limits_stopping_L1] at h
    refine Cm.rounds_in (p := [1, 1, 0, 1, 0, 0]) ?_
    by_cases h1 : (0 : Int) < v3
    · rw [if_pos h1] at h
      refine Cm.to_done mixed ⟨[(.gtr, (.v 3), (.c 0), true)], [], [], [], [], []⟩ (V := (Cm.vals [p0, p1, v2, v3] [])) (n := 3000) (f := 3000) (V' := (Cm.vals [p0, p1, (IntKind.wrap .i64 (v2 + v3)), (IntKind.wrap .i64 (v3 - p1))] [])) ⟨⟨Cm.gtr_t h1, trivial⟩, trivial, trivial, trivial, trivial⟩ trivial (T := ⟨[(2, .ptr 0 0), (5, .sym .i64 (.v 2)), (6, .sym .i64 (.v 3))], [some (.cells [.sym .i64 (.v 0), .sym .i64 (.v 1)] 58 false)], [some (0, 0)]⟩) (ce := .normal) (qs := [.num (.add .i64 (.v 2) (.v 3)) (.v 2), .num (.sub .i64 (.v 3) (.v 1)) (.v 3), .num (.v 0) (.v 0), .num (.v 1) (.v 1)]) hF hr (by kernel_rfl) ⟨(Cm.r (IntKind.wrap .i64 (v2 + v3))), (show (IntKind.wrap .i64 (v3 - p1)) = (IntKind.wrap .i64 (v3 - p1)) from rfl), (Cm.r p0), (Cm.r p1), trivial⟩ hat fun a' w' hat' => ?_
      exact w_limits_stopping_L1_ok fu p0 p1 n (IntKind.wrap .i64 (v2 + v3)) (IntKind.wrap .i64 (v3 - p1)) o h _ _ _ _ _ _ _ hF hr hat' hx0
    · rw [if_neg h1] at h
      injection h with h; subst h
      exact Cm.to_done mixed ⟨[(.gtr, (.v 3), (.c 0), false)], [], [], [], [], []⟩ (V := (Cm.vals [p0, p1, v2, v3] [])) (n := 3000) (f := 3000) (V' := (Cm.vals [v2] [])) ⟨⟨Cm.gtr_f h1, trivial⟩, trivial, trivial, trivial, trivial⟩ trivial (T := ⟨[(5, .sym .i64 (.v 0))], [], []⟩) (ce := (.exit 0)) (qs := [.num (.v 2) (.v 0)]) hF hr (by kernel_rfl) ⟨(Cm.r v2), trivial⟩ hat fun a' w' hat' => hx0 v2 rfl a' w' hat'

def w_limits_stopping (fu : Nat) (a0_0 : Int) (a0_1 : Int) (a1 : Int) : Option (Int) := Option.bind (w_limits_stopping_L1 fu a0_0 a0_1 fu (0 : Int) (IntKind.wrap .i64 (a1 - a0_1))) fun o1 => some o1

theorem w_limits_stopping_ok (fu : Nat) (a0_0 : Int) (a0_1 : Int) (a1 : Int) (y : Int) (h : w_limits_stopping fu a0_0 a0_1 a1 = some y) : Cm.CallOk Try.prog 35 (Cm.vals [a0_0, a0_1, a1] []) [.agg [.sym .i64 (.v 0), .sym .i64 (.v 1)], .sym .i64 (.v 2)] [] 0 (Cm.vals [y] []) (.sym .i64 (.v 0)) [] := by
  refine Cm.fun_of (nt := 23) (by kernel_rfl) (by kernel_rfl) fun φ0 w0 a w hat => ?_
  have hF := Cm.wide_fw
  have hr : Fence.wide.round = none := rfl
  unfold w_limits_stopping at h
  obtain ⟨o1, ho1, h⟩ := Option.bind_eq_some_iff.1 h
  refine Cm.to_loop mixed ⟨[], [], [], [], [], []⟩ (V := (Cm.vals [a0_0, a0_1, a1] [])) (n := 3000) (f := 3000) (V' := (Cm.vals [a0_0, a0_1, (0 : Int), (IntKind.wrap .i64 (a1 - a0_1))] [])) ⟨trivial, trivial, trivial, trivial, trivial⟩ trivial (T := ⟨[(2, .ptr 0 0), (5, .sym .i64 (.v 2)), (6, .sym .i64 (.v 3))], [some (.cells [.sym .i64 (.v 0), .sym .i64 (.v 1)] 58 false)], [some (0, 0)]⟩) (B := Cm.subAt (Cm.bodyOf Try.prog 35) [1, 1, 0, 1, 0, 0]) (K' := [.bk 0, .sq (Cm.subAt (Cm.bodyOf Try.prog 35) [1, 1, 1]) [1, 1, 1]]) (qs := [.num (.c 0) (.v 2), .num (.sub .i64 (.v 2) (.v 1)) (.v 3), .num (.v 0) (.v 0), .num (.v 1) (.v 1)]) hF hr (by kernel_rfl) ⟨(Cm.r (0 : Int)), (show (IntKind.wrap .i64 (a1 - a0_1)) = (IntKind.wrap .i64 (a1 - a0_1)) from rfl), (Cm.r a0_0), (Cm.r a0_1), trivial⟩ hat fun aa1 ww1 hat1 => Cm.loop_in (w_limits_stopping_L1_ok fu a0_0 a0_1 fu (0 : Int) (IntKind.wrap .i64 (a1 - a0_1)) o1 ho1 _ _ _ _ _ _ _ hF hr hat1 ?_)
  · intro yy hy aa2 ww2 hat
    subst hy
    show (Cm.Wk.out (.exit 0)).goal _ _ _ [.bk 0, .sq (Cm.subAt (Cm.bodyOf Try.prog 35) [1, 1, 1]) [1, 1, 1]] _ aa2 ww2
    injection h with h; subst h
    exact Cm.to_fin mixed ⟨[], [], [], [], [], []⟩ (V := (Cm.vals [o1] [])) (n := 3000) (f := 3000) ⟨trivial, trivial, trivial, trivial, trivial⟩ trivial (R := ⟨.sym .i64 (.v 0), [], []⟩) (qs := [.num (.v 0) (.v 0)]) hF hr (by kernel_rfl) ⟨(Cm.r o1), trivial⟩ hat

def w_limits_fastest_L1 (fu : Nat) (p0 : Int) (p1 : Int) (p2 : Int) : Nat → Int → Option ((Int))
  | 0, _ => none
  | n + 1, v3 => Option.bind (w_limits_stopping fu p1 p2 v3) fun r1 => if p0 < (IntKind.wrap .i64 (v3 + r1)) then (w_limits_fastest_L1 fu p0 p1 p2 n (IntKind.wrap .i64 (v3 - (1 : Int)))) else (some v3)

theorem w_limits_fastest_L1_ok (fu : Nat) (p0 : Int) (p1 : Int) (p2 : Int) : ∀ (n : Nat) (v3 : Int) (o : (Int)), w_limits_fastest_L1 fu p0 p1 p2 n v3 = some o → ∀ (φ0 : Cm.Phi) (w0 : World) (F : Fence) (k : Nat) (R : Exit → Act → World → Prop) (a : Act) (w : World), Cm.FW F → F.round = none → Cm.AtS (Cm.vals [p0, p1, p2, v3] []) [(2, .sym .i64 (.v 0)), (3, .ptr 0 0), (7, .sym .i64 (.v 3))] [some (.cells [.sym .i64 (.v 1), .sym .i64 (.v 2)] 58 false)] 27 0 0 φ0 w0 a w → (∀ (y : Int), o = y → ∀ a' w', Cm.AtS (Cm.vals [y] []) [(7, .sym .i64 (.v 0))] [] 27 0 0 φ0 w0 a' w' → R (Exit.exit 0) a' w') → Code.roundsIn F k Try.prog (Cm.subAt (Cm.bodyOf Try.prog 22) [1, 1, 0, 0, 0]) R n a w
  | 0, _, _, h => by cases h
  | n + 1, v3, o, h => by
    intro φ0 w0 F k R a w hF hr hat hx0
    rw [w_limits_fastest_L1] at h
    refine Cm.rounds_in (p := [1, 1, 0, 0, 0]) ?_
    obtain ⟨r1, hr1, h⟩ := Option.bind_eq_some_iff.1 h
    have Kr1 : ∀ N M, ∃ v v' q, Cm.KE.ok Try.prog (Cm.vals ([p0, p1, p2, v3, r1] ++ N) ([] ++ M)) ⟨35, 1, [], [.agg [.sym .i64 (.v 0), .sym .i64 (.v 1)], .sym .i64 (.v 2)], [], [.num (.v 1) (.v 0), .num (.v 2) (.v 1), .num (.v 3) (.v 2)], 0, .sym .i64 (.v 0), [], .sym .i64 (.v 4), [], []⟩ v v' q := fun N M => ⟨_, _, [.num (.v 0) (.v 4)], ⟨w_limits_stopping_ok fu p1 p2 v3 r1 hr1, ⟨(Cm.r p1), (Cm.r p2), (Cm.r v3), trivial⟩, by kernel_rfl, ⟨rfl, trivial⟩⟩⟩
    by_cases h2 : p0 < (IntKind.wrap .i64 (v3 + r1))
    · rw [if_pos h2] at h
      refine Cm.to_done mixed ⟨[(.gtr, (.add .i64 (.v 3) (.v 4)), (.v 0), true)], [], [], [⟨35, 1, [], [.agg [.sym .i64 (.v 0), .sym .i64 (.v 1)], .sym .i64 (.v 2)], [], [.num (.v 1) (.v 0), .num (.v 2) (.v 1), .num (.v 3) (.v 2)], 0, .sym .i64 (.v 0), [], .sym .i64 (.v 4), [], []⟩], [], []⟩ (V := (Cm.vals [p0, p1, p2, v3, r1] [])) (n := 3000) (f := 3000) (V' := (Cm.vals [p0, p1, p2, (IntKind.wrap .i64 (v3 - (1 : Int)))] [])) ⟨⟨Cm.gtr_t h2, trivial⟩, trivial, trivial, trivial, trivial⟩ ⟨Kr1 _ _, trivial⟩ (T := ⟨[(2, .sym .i64 (.v 0)), (3, .ptr 0 0), (7, .sym .i64 (.v 3))], [some (.cells [.sym .i64 (.v 1), .sym .i64 (.v 2)] 58 false)], [some (0, 0)]⟩) (ce := .normal) (qs := [.num (.v 0) (.v 0), .num (.sub .i64 (.v 3) (.c 1)) (.v 3), .num (.v 1) (.v 1), .num (.v 2) (.v 2)]) hF hr (by kernel_rfl) ⟨(Cm.r p0), (show (IntKind.wrap .i64 (v3 - (1 : Int))) = (IntKind.wrap .i64 (v3 - (1 : Int))) from rfl), (Cm.r p1), (Cm.r p2), trivial⟩ (Cm.at_re (V' := (Cm.vals [p0, p1, p2, v3, r1] [])) (T := ⟨[(2, .sym .i64 (.v 0)), (3, .ptr 0 0), (7, .sym .i64 (.v 3))], [some (.cells [.sym .i64 (.v 1), .sym .i64 (.v 2)] 58 false)], [some (0, 0)]⟩) (qs := [.num (.v 0) (.v 0), .num (.v 3) (.v 3), .num (.v 1) (.v 1), .num (.v 2) (.v 2)]) hat (by kernel_rfl) ⟨rfl, rfl, rfl, rfl, trivial⟩) fun a' w' hat' => ?_
      exact w_limits_fastest_L1_ok fu p0 p1 p2 n (IntKind.wrap .i64 (v3 - (1 : Int))) o h _ _ _ _ _ _ _ hF hr hat' hx0
    · rw [if_neg h2] at h
      injection h with h; subst h
      exact Cm.to_done mixed ⟨[(.gtr, (.add .i64 (.v 3) (.v 4)), (.v 0), false)], [], [], [⟨35, 1, [], [.agg [.sym .i64 (.v 0), .sym .i64 (.v 1)], .sym .i64 (.v 2)], [], [.num (.v 1) (.v 0), .num (.v 2) (.v 1), .num (.v 3) (.v 2)], 0, .sym .i64 (.v 0), [], .sym .i64 (.v 4), [], []⟩], [], []⟩ (V := (Cm.vals [p0, p1, p2, v3, r1] [])) (n := 3000) (f := 3000) (V' := (Cm.vals [v3] [])) ⟨⟨Cm.gtr_f h2, trivial⟩, trivial, trivial, trivial, trivial⟩ ⟨Kr1 _ _, trivial⟩ (T := ⟨[(7, .sym .i64 (.v 0))], [], []⟩) (ce := (.exit 0)) (qs := [.num (.v 3) (.v 0)]) hF hr (by kernel_rfl) ⟨(Cm.r v3), trivial⟩ (Cm.at_re (V' := (Cm.vals [p0, p1, p2, v3, r1] [])) (T := ⟨[(2, .sym .i64 (.v 0)), (3, .ptr 0 0), (7, .sym .i64 (.v 3))], [some (.cells [.sym .i64 (.v 1), .sym .i64 (.v 2)] 58 false)], [some (0, 0)]⟩) (qs := [.num (.v 0) (.v 0), .num (.v 3) (.v 3), .num (.v 1) (.v 1), .num (.v 2) (.v 2)]) hat (by kernel_rfl) ⟨rfl, rfl, rfl, rfl, trivial⟩) fun a' w' hat' => hx0 v3 rfl a' w' hat'

def w_limits_fastest (fu : Nat) (a0_0 : Int) (a0_1 : Int) (a1 : Int) (a2 : Int) : Option (Int) := if (IntKind.wrap .i64 (a1 + a0_1)) < a0_0 then (Option.bind (w_limits_fastest_L1 fu a2 a0_0 a0_1 fu (IntKind.wrap .i64 (a1 + a0_1))) fun o2 => some o2) else (Option.bind (w_limits_fastest_L1 fu a2 a0_0 a0_1 fu a0_0) fun o3 => some o3)

theorem w_limits_fastest_ok (fu : Nat) (a0_0 : Int) (a0_1 : Int) (a1 : Int) (a2 : Int) (y : Int) (h : w_limits_fastest fu a0_0 a0_1 a1 a2 = some y) : Cm.CallOk Try.prog 22 (Cm.vals [a0_0, a0_1, a1, a2] []) [.agg [.sym .i64 (.v 0), .sym .i64 (.v 1)], .sym .i64 (.v 2), .sym .i64 (.v 3)] [] 0 (Cm.vals [y] []) (.sym .i64 (.v 0)) [] := by
  refine Cm.fun_of (nt := 27) (by kernel_rfl) (by kernel_rfl) fun φ0 w0 a w hat => ?_
  have hF := Cm.wide_fw
  have hr : Fence.wide.round = none := rfl
  unfold w_limits_fastest at h
  by_cases h1 : (IntKind.wrap .i64 (a1 + a0_1)) < a0_0
  · rw [if_pos h1] at h
    obtain ⟨o2, ho2, h⟩ := Option.bind_eq_some_iff.1 h
    refine Cm.to_loop mixed ⟨[(.lss, (.add .i64 (.v 2) (.v 1)), (.v 0), true)], [], [], [], [], []⟩ (V := (Cm.vals [a0_0, a0_1, a1, a2] [])) (n := 3000) (f := 3000) (V' := (Cm.vals [a2, a0_0, a0_1, (IntKind.wrap .i64 (a1 + a0_1))] [])) ⟨⟨Cm.lss_t h1, trivial⟩, trivial, trivial, trivial, trivial⟩ trivial (T := ⟨[(2, .sym .i64 (.v 0)), (3, .ptr 0 0), (7, .sym .i64 (.v 3))], [some (.cells [.sym .i64 (.v 1), .sym .i64 (.v 2)] 58 false)], [some (0, 0)]⟩) (B := Cm.subAt (Cm.bodyOf Try.prog 22) [1, 1, 0, 0, 0]) (K' := [.bk 0, .sq (Cm.subAt (Cm.bodyOf Try.prog 22) [1, 1, 1]) [1, 1, 1]]) (qs := [.num (.v 3) (.v 0), .num (.add .i64 (.v 2) (.v 1)) (.v 3), .num (.v 0) (.v 1), .num (.v 1) (.v 2)]) hF hr (by kernel_rfl) ⟨(Cm.r a2), (Cm.r (IntKind.wrap .i64 (a1 + a0_1))), (Cm.r a0_0), (Cm.r a0_1), trivial⟩ hat fun aa1 ww1 hat1 => Cm.loop_in (w_limits_fastest_L1_ok fu a2 a0_0 a0_1 fu (IntKind.wrap .i64 (a1 + a0_1)) o2 ho2 _ _ _ _ _ _ _ hF hr hat1 ?_)
    · intro yy hy aa2 ww2 hat
      subst hy
      show (Cm.Wk.out (.exit 0)).goal _ _ _ [.bk 0, .sq (Cm.subAt (Cm.bodyOf Try.prog 22) [1, 1, 1]) [1, 1, 1]] _ aa2 ww2
      injection h with h; subst h
      exact Cm.to_fin mixed ⟨[], [], [], [], [], []⟩ (V := (Cm.vals [o2] [])) (n := 3000) (f := 3000) ⟨trivial, trivial, trivial, trivial, trivial⟩ trivial (R := ⟨.sym .i64 (.v 0), [], []⟩) (qs := [.num (.v 0) (.v 0)]) hF hr (by kernel_rfl) ⟨(Cm.r o2), trivial⟩ hat
  · rw [if_neg h1] at h
    obtain ⟨o3, ho3, h⟩ := Option.bind_eq_some_iff.1 h
    refine Cm.to_loop mixed ⟨[(.lss, (.add .i64 (.v 2) (.v 1)), (.v 0), false)], [], [], [], [], []⟩ (V := (Cm.vals [a0_0, a0_1, a1, a2] [])) (n := 3000) (f := 3000) (V' := (Cm.vals [a2, a0_0, a0_1, a0_0] [])) ⟨⟨Cm.lss_f h1, trivial⟩, trivial, trivial, trivial, trivial⟩ trivial (T := ⟨[(2, .sym .i64 (.v 0)), (3, .ptr 0 0), (7, .sym .i64 (.v 3))], [some (.cells [.sym .i64 (.v 1), .sym .i64 (.v 2)] 58 false)], [some (0, 0)]⟩) (B := Cm.subAt (Cm.bodyOf Try.prog 22) [1, 1, 0, 0, 0]) (K' := [.bk 0, .sq (Cm.subAt (Cm.bodyOf Try.prog 22) [1, 1, 1]) [1, 1, 1]]) (qs := [.num (.v 3) (.v 0), .num (.v 0) (.v 3), .num (.v 0) (.v 1), .num (.v 1) (.v 2)]) hF hr (by kernel_rfl) ⟨(Cm.r a2), (Cm.r a0_0), (Cm.r a0_0), (Cm.r a0_1), trivial⟩ hat fun aa1 ww1 hat1 => Cm.loop_in (w_limits_fastest_L1_ok fu a2 a0_0 a0_1 fu a0_0 o3 ho3 _ _ _ _ _ _ _ hF hr hat1 ?_)
    · intro yy hy aa2 ww2 hat
      subst hy
      show (Cm.Wk.out (.exit 0)).goal _ _ _ [.bk 0, .sq (Cm.subAt (Cm.bodyOf Try.prog 22) [1, 1, 1]) [1, 1, 1]] _ aa2 ww2
      injection h with h; subst h
      exact Cm.to_fin mixed ⟨[], [], [], [], [], []⟩ (V := (Cm.vals [o3] [])) (n := 3000) (f := 3000) ⟨trivial, trivial, trivial, trivial, trivial⟩ trivial (R := ⟨.sym .i64 (.v 0), [], []⟩) (qs := [.num (.v 0) (.v 0)]) hF hr (by kernel_rfl) ⟨(Cm.r o3), trivial⟩ hat

def w_ProfileFor_L1 (fu : Nat) (p1 : Int) (p2 : Int) (p5 : Int) : Nat → Int → List (Int) → Int → Int → Option ((List (Int)))
  | 0, _, _, _, _ => none
  | n + 1, v0, v3, v4, v6 => if v6 < p5 then (Option.bind (w_limits_fastest fu p1 p2 v4 v0) fun r2 => if (0 : Int) ≤ v6 then (if v6 < (v3.length : Int) then (Option.bind ((v3)[0 + (v6).toNat]?) fun e5 => w_ProfileFor_L1 fu p1 p2 p5 n (IntKind.wrap .i64 (v0 - r2)) (v3.set (0 + (v6).toNat) r2) r2 (IntKind.wrap .i64 (v6 + (1 : Int)))) else none) else none) else (some v3)

theorem w_ProfileFor_L1_ok (fu : Nat) (p1 : Int) (p2 : Int) (p5 : Int) : ∀ (n : Nat) (v0 : Int) (v3 : List (Int)) (v4 : Int) (v6 : Int) (o : (List (Int))), w_ProfileFor_L1 fu p1 p2 p5 n v0 v3 v4 v6 = some o → ∀ (φ0 : Cm.Phi) (w0 : World) (F : Fence) (k : Nat) (R : Exit → Act → World → Prop) (a : Act) (w : World), Cm.FW F → F.round = none → Cm.AtS (Cm.vals [v0, p1, p2, (v3.length : Int), v4, p5, v6] [(v3.flatMap Cm.enI)]) [(1, .sym .i64 (.v 0)), (2, .ptr 0 0), (8, .gs 1 0 (.v 3) 1 true), (9, .sym .i64 (.v 4)), (22, .sym .i64 (.v 5)), (23, .sym .i64 (.v 6))] [some (.cells [.sym .i64 (.v 1), .sym .i64 (.v 2)] 23 false), some (.rows 0 [] 3 false)] 40 0 0 φ0 w0 a w → (∀ (y : List (Int)), o = y → ∀ a' w', Cm.AtS (Cm.vals [(y.length : Int)] [(y.flatMap Cm.enI)]) [(8, .gs 0 0 (.v 0) 1 true)] [some (.rows 0 [] 3 false)] 40 0 0 φ0 w0 a' w' → R (Exit.exit 0) a' w') → Code.roundsIn F k Try.prog (Cm.subAt (Cm.bodyOf Try.prog 9) [1, 1, 1, 1, 1, 0, 1, 0, 0]) R n a w
  | 0, _, _, _, _, _, h => by cases h
  | n + 1, v0, v3, v4, v6, o, h => by
    intro φ0 w0 F k R a w hF hr hat hx0
    rw [w_ProfileFor_L1] at h
    refine Cm.rounds_in (p := [1, 1, 1, 1, 1, 0, 1, 0, 0]) ?_
    by_cases h1 : v6 < p5
    · rw [if_pos h1] at h
      obtain ⟨r2, hr2, h⟩ := Option.bind_eq_some_iff.1 h
      have Kr2 : ∀ N M, ∃ v v' q, Cm.KE.ok Try.prog (Cm.vals ([v0, p1, p2, (v3.length : Int), v4, p5, v6, r2] ++ N) ([(v3.flatMap Cm.enI)] ++ M)) ⟨22, 2, [], [.agg [.sym .i64 (.v 0), .sym .i64 (.v 1)], .sym .i64 (.v 2), .sym .i64 (.v 3)], [], [.num (.v 1) (.v 0), .num (.v 2) (.v 1), .num (.v 4) (.v 2), .num (.v 0) (.v 3)], 0, .sym .i64 (.v 0), [], .sym .i64 (.v 7), [], []⟩ v v' q := fun N M => ⟨_, _, [.num (.v 0) (.v 7)], ⟨w_limits_fastest_ok fu p1 p2 v4 v0 r2 hr2, ⟨(Cm.r p1), (Cm.r p2), (Cm.r v4), (Cm.r v0), trivial⟩, by kernel_rfl, ⟨rfl, trivial⟩⟩⟩
      by_cases h3 : (0 : Int) ≤ v6
      · rw [if_pos h3] at h
        by_cases h4 : v6 < (v3.length : Int)
        · rw [if_pos h4] at h
          obtain ⟨e5, he5, h⟩ := Option.bind_eq_some_iff.1 h
          refine Cm.to_done mixed ⟨[(.lss, (.v 6), (.v 5), true), (.leq, (.c 0), (.v 6), true), (.lss, (.v 6), (.v 3), true)], [], [(0, 1, (.v 3)), (1, 1, (.v 3))], [⟨22, 2, [], [.agg [.sym .i64 (.v 0), .sym .i64 (.v 1)], .sym .i64 (.v 2), .sym .i64 (.v 3)], [], [.num (.v 1) (.v 0), .num (.v 2) (.v 1), .num (.v 4) (.v 2), .num (.v 0) (.v 3)], 0, .sym .i64 (.v 0), [], .sym .i64 (.v 7), [], []⟩], [⟨0, 0, (.v 6), 1, 0, [.sym .i64 (.v 7)], 1⟩], []⟩ (V := (Cm.vals [v0, p1, p2, (v3.length : Int), v4, p5, v6, r2] [(v3.flatMap Cm.enI), ((v3.set (0 + (v6).toNat) r2).flatMap Cm.enI)])) (n := 3000) (f := 3000) (V' := (Cm.vals [(IntKind.wrap .i64 (v0 - r2)), p1, p2, ((v3.set (0 + (v6).toNat) r2).length : Int), r2, p5, (IntKind.wrap .i64 (v6 + (1 : Int)))] [((v3.set (0 + (v6).toNat) r2).flatMap Cm.enI)])) ⟨⟨Cm.lss_t h1, Cm.leq_t h3, Cm.lss_t h4, trivial⟩, trivial, ⟨Cm.flat_length Cm.enI_len _, Cm.flat_set_len Cm.enI_len (0 + (v6).toNat) r2 (Cm.flat_length Cm.enI_len _), trivial⟩, ⟨⟨h3, _, rfl, Cm.flat_upd Cm.enI_len (d := 0) (n := 1) rfl (by decide) rfl he5⟩, trivial⟩, trivial⟩ ⟨Kr2 _ _, trivial⟩ (T := ⟨[(1, .sym .i64 (.v 0)), (2, .ptr 0 0), (8, .gs 1 0 (.v 3) 1 true), (9, .sym .i64 (.v 4)), (22, .sym .i64 (.v 5)), (23, .sym .i64 (.v 6))], [some (.cells [.sym .i64 (.v 1), .sym .i64 (.v 2)] 23 false), some (.rows 0 [] 3 false)], [some (0, 0), some (1, 0)]⟩) (ce := .normal) (qs := [.num (.sub .i64 (.v 0) (.v 7)) (.v 0), .num (.v 3) (.v 3), .num (.v 7) (.v 4), .num (.v 5) (.v 5), .num (.add .i64 (.v 6) (.c 1)) (.v 6), .num (.v 1) (.v 1), .num (.v 2) (.v 2), .lst 0 (some 1) []]) hF hr (by kernel_rfl) ⟨(show (IntKind.wrap .i64 (v0 - r2)) = (IntKind.wrap .i64 (v0 - r2)) from rfl), (show (v3.length : Int) = ((v3.set (0 + (v6).toNat) r2).length : Int) by first | rfl | (simp only [List.length_set]; done) | (simp only [List.length_set, List.length_replicate, List.length_append, List.length_cons, List.length_nil]; omega)), (Cm.r r2), (Cm.r p5), (Cm.r (IntKind.wrap .i64 (v6 + (1 : Int)))), (Cm.r p1), (Cm.r p2), ⟨[], rfl, (List.append_nil _).symm⟩, trivial⟩ (Cm.at_re (V' := (Cm.vals [v0, p1, p2, (v3.length : Int), v4, p5, v6, r2] [(v3.flatMap Cm.enI), ((v3.set (0 + (v6).toNat) r2).flatMap Cm.enI)])) (T := ⟨[(1, .sym .i64 (.v 0)), (2, .ptr 0 0), (8, .gs 1 0 (.v 3) 1 true), (9, .sym .i64 (.v 4)), (22, .sym .i64 (.v 5)), (23, .sym .i64 (.v 6))], [some (.cells [.sym .i64 (.v 1), .sym .i64 (.v 2)] 23 false), some (.rows 0 [] 3 false)], [some (0, 0), some (1, 0)]⟩) (qs := [.num (.v 0) (.v 0), .num (.v 3) (.v 3), .num (.v 4) (.v 4), .num (.v 5) (.v 5), .num (.v 6) (.v 6), .num (.v 1) (.v 1), .num (.v 2) (.v 2), .lst 0 (some 0) []]) hat (by kernel_rfl) ⟨rfl, rfl, rfl, rfl, rfl, rfl, rfl, ⟨[], rfl, (List.append_nil _).symm⟩, trivial⟩) fun a' w' hat' => ?_
          exact w_ProfileFor_L1_ok fu p1 p2 p5 n (IntKind.wrap .i64 (v0 - r2)) (v3.set (0 + (v6).toNat) r2) r2 (IntKind.wrap .i64 (v6 + (1 : Int))) o h _ _ _ _ _ _ _ hF hr hat' hx0
        · rw [if_neg h4] at h
          cases h
      · rw [if_neg h3] at h
        cases h
    · rw [if_neg h1] at h
      injection h with h; subst h
      exact Cm.to_done mixed ⟨[(.lss, (.v 6), (.v 5), false)], [], [(0, 1, (.v 3))], [], [], []⟩ (V := (Cm.vals [v0, p1, p2, (v3.length : Int), v4, p5, v6] [(v3.flatMap Cm.enI)])) (n := 3000) (f := 3000) (V' := (Cm.vals [(v3.length : Int)] [(v3.flatMap Cm.enI)])) ⟨⟨Cm.lss_f h1, trivial⟩, trivial, ⟨Cm.flat_length Cm.enI_len _, trivial⟩, trivial, trivial⟩ trivial (T := ⟨[(8, .gs 0 0 (.v 0) 1 true)], [some (.rows 0 [] 3 false)], [some (1, 0)]⟩) (ce := (.exit 0)) (qs := [.num (.v 3) (.v 0), .lst 0 (some 0) []]) hF hr (by kernel_rfl) ⟨(Cm.r (v3.length : Int)), ⟨[], rfl, (List.append_nil _).symm⟩, trivial⟩ hat fun a' w' hat' => hx0 v3 rfl a' w' hat'

def w_ProfileFor (fu : Nat) (a0_0 : Int) (a0_1 : Int) (a1 : Int) : Option (List (Int) × Int) := Option.bind (w_TicksFor fu a0_0 a0_1 a1) fun r1 => if r1.2 = (0 : Int) then (if (0 : Int) ≤ r1.1 then (if r1.1 < (65536 : Int) then (Option.bind (w_ProfileFor_L1 fu a0_0 a0_1 r1.1 fu a1 (List.replicate (r1.1).toNat (0 : Int)) (0 : Int) (0 : Int)) fun o5 => some (o5, (0 : Int))) else none) else none) else (some (([] : List (Int)), r1.2))

theorem w_ProfileFor_ok (fu : Nat) (a0_0 : Int) (a0_1 : Int) (a1 : Int) (y : List (Int) × Int) (h : w_ProfileFor fu a0_0 a0_1 a1 = some y) : Cm.CallOk Try.prog 9 (Cm.vals [a0_0, a0_1, a1] []) [.agg [.sym .i64 (.v 0), .sym .i64 (.v 1)], .sym .i64 (.v 2)] [] 0 (Cm.vals [(y.1.length : Int), y.2] [(y.1.flatMap Cm.enI)]) (.tup [.gs 0 0 (.v 0) 1 true, .sym .i64 (.v 1)]) [some (.rows 0 [] 3 false)] := by
  refine Cm.fun_of (nt := 40) (by kernel_rfl) (by kernel_rfl) fun φ0 w0 a w hat => ?_
  have hF := Cm.wide_fw
  have hr : Fence.wide.round = none := rfl
  unfold w_ProfileFor at h
  obtain ⟨r1, hr1, h⟩ := Option.bind_eq_some_iff.1 h
  have Kr1 : ∀ N M, ∃ v v' q, Cm.KE.ok Try.prog (Cm.vals ([a0_0, a0_1, a1, r1.1, r1.2] ++ N) ([] ++ M)) ⟨8, 1, [], [.agg [.sym .i64 (.v 0), .sym .i64 (.v 1)], .sym .i64 (.v 2)], [], [.num (.v 0) (.v 0), .num (.v 1) (.v 1), .num (.v 2) (.v 2)], 0, .tup [.sym .i64 (.v 0), .sym .i64 (.v 1)], [], .tup [.sym .i64 (.v 3), .sym .i64 (.v 4)], [], []⟩ v v' q := fun N M => ⟨_, _, [.num (.v 0) (.v 3), .num (.v 1) (.v 4)], ⟨w_TicksFor_ok fu a0_0 a0_1 a1 r1 hr1, ⟨(Cm.r a0_0), (Cm.r a0_1), (Cm.r a1), trivial⟩, by kernel_rfl, ⟨rfl, rfl, trivial⟩⟩⟩
  by_cases h2 : r1.2 = (0 : Int)
  · rw [if_pos h2] at h
    by_cases h3 : (0 : Int) ≤ r1.1
    · rw [if_pos h3] at h
      by_cases h4 : r1.1 < (65536 : Int)
      · rw [if_pos h4] at h
        obtain ⟨o5, ho5, h⟩ := Option.bind_eq_some_iff.1 h
        refine Cm.to_loop mixed ⟨[(.neq, (.v 4), (.c 0), false), (.leq, (.c 0), (.v 3), true), (.lss, (.v 3), (.c 65536), true)], [], [(0, 1, (.v 3))], [⟨8, 1, [], [.agg [.sym .i64 (.v 0), .sym .i64 (.v 1)], .sym .i64 (.v 2)], [], [.num (.v 0) (.v 0), .num (.v 1) (.v 1), .num (.v 2) (.v 2)], 0, .tup [.sym .i64 (.v 0), .sym .i64 (.v 1)], [], .tup [.sym .i64 (.v 3), .sym .i64 (.v 4)], [], []⟩], [], [((.v 3), [.int .i64 0], 0)]⟩ (V := (Cm.vals [a0_0, a0_1, a1, r1.1, r1.2] [((List.replicate (r1.1).toNat (0 : Int)).flatMap Cm.enI)])) (n := 3000) (f := 3000) (V' := (Cm.vals [a1, a0_0, a0_1, ((List.replicate (r1.1).toNat (0 : Int)).length : Int), (0 : Int), r1.1, (0 : Int)] [((List.replicate (r1.1).toNat (0 : Int)).flatMap Cm.enI)])) ⟨⟨Cm.neq_f h2, Cm.leq_t h3, Cm.lss_t h4, trivial⟩, trivial, ⟨Cm.flat_made_len Cm.enI_len (0 : Int) h3, trivial⟩, trivial, ⟨⟨Cm.enI (0 : Int), rfl, Cm.flat_made _ _⟩, trivial⟩⟩ ⟨Kr1 _ _, trivial⟩ (T := ⟨[(1, .sym .i64 (.v 0)), (2, .ptr 0 0), (8, .gs 1 0 (.v 3) 1 true), (9, .sym .i64 (.v 4)), (22, .sym .i64 (.v 5)), (23, .sym .i64 (.v 6))], [some (.cells [.sym .i64 (.v 1), .sym .i64 (.v 2)] 23 false), some (.rows 0 [] 3 false)], [some (0, 0), some (1, 0)]⟩) (B := Cm.subAt (Cm.bodyOf Try.prog 9) [1, 1, 1, 1, 1, 0, 1, 0, 0]) (K' := [.bk 0, .sq (Cm.subAt (Cm.bodyOf Try.prog 9) [1, 1, 1, 1, 1, 1]) [1, 1, 1, 1, 1, 1]]) (qs := [.num (.v 2) (.v 0), .num (.v 3) (.v 3), .num (.c 0) (.v 4), .num (.v 3) (.v 5), .num (.c 0) (.v 6), .num (.v 0) (.v 1), .num (.v 1) (.v 2), .lst 0 (some 0) []]) hF hr (by kernel_rfl) ⟨(Cm.r a1), (show r1.1 = ((List.replicate (r1.1).toNat (0 : Int)).length : Int) by first | rfl | (simp only [List.length_set]; done) | (simp only [List.length_set, List.length_replicate, List.length_append, List.length_cons, List.length_nil]; omega)), (Cm.r (0 : Int)), (Cm.r r1.1), (Cm.r (0 : Int)), (Cm.r a0_0), (Cm.r a0_1), ⟨[], rfl, (List.append_nil _).symm⟩, trivial⟩ (Cm.at_re (V' := (Cm.vals [a0_0, a0_1, a1, r1.1, r1.2] [((List.replicate (r1.1).toNat (0 : Int)).flatMap Cm.enI)])) (T := ⟨[(0, .agg [.sym .i64 (.v 0), .sym .i64 (.v 1)]), (1, .sym .i64 (.v 2))], [], []⟩) (qs := [.num (.v 0) (.v 0), .num (.v 1) (.v 1), .num (.v 2) (.v 2)]) hat (by kernel_rfl) ⟨rfl, rfl, rfl, trivial⟩) fun aa1 ww1 hat1 => Cm.loop_in (w_ProfileFor_L1_ok fu a0_0 a0_1 r1.1 fu a1 (List.replicate (r1.1).toNat (0 : Int)) (0 : Int) (0 : Int) o5 ho5 _ _ _ _ _ _ _ hF hr hat1 ?_)
        · intro yy hy aa2 ww2 hat
          subst hy
          show (Cm.Wk.out (.exit 0)).goal _ _ _ [.bk 0, .sq (Cm.subAt (Cm.bodyOf Try.prog 9) [1, 1, 1, 1, 1, 1]) [1, 1, 1, 1, 1, 1]] _ aa2 ww2
          injection h with h; subst h
          exact Cm.to_fin mixed ⟨[], [], [(0, 1, (.v 0))], [], [], []⟩ (V := (Cm.vals [(o5.length : Int)] [(o5.flatMap Cm.enI)])) (n := 3000) (f := 3000) ⟨trivial, trivial, ⟨Cm.flat_length Cm.enI_len _, trivial⟩, trivial, trivial⟩ trivial (R := ⟨.tup [.gs 0 0 (.v 0) 1 true, .sym .i64 (.v 1)], [some (.rows 0 [] 3 false)], [some (0, 0)]⟩) (qs := [.num (.v 0) (.v 0), .num (.c 0) (.v 1), .lst 0 (some 0) []]) hF hr (by kernel_rfl) ⟨(Cm.r (o5.length : Int)), (Cm.r (0 : Int)), ⟨[], rfl, (List.append_nil _).symm⟩, trivial⟩ hat
      · rw [if_neg h4] at h
        cases h
    · rw [if_neg h3] at h
      cases h
  · rw [if_neg h2] at h
    injection h with h; subst h
    exact Cm.to_fin mixed ⟨[(.neq, (.v 4), (.c 0), true)], [], [], [⟨8, 1, [], [.agg [.sym .i64 (.v 0), .sym .i64 (.v 1)], .sym .i64 (.v 2)], [], [.num (.v 0) (.v 0), .num (.v 1) (.v 1), .num (.v 2) (.v 2)], 0, .tup [.sym .i64 (.v 0), .sym .i64 (.v 1)], [], .tup [.sym .i64 (.v 3), .sym .i64 (.v 4)], [], []⟩], [], []⟩ (V := (Cm.vals [a0_0, a0_1, a1, r1.1, r1.2] [])) (n := 3000) (f := 3000) ⟨⟨Cm.neq_t h2, trivial⟩, trivial, trivial, trivial, trivial⟩ ⟨Kr1 _ _, trivial⟩ (R := ⟨.tup [.gs 0 0 (.v 0) 1 true, .sym .i64 (.v 1)], [some (.rows 0 [] 3 false)], [none]⟩) (qs := [.num (.c 0) (.v 0), .num (.v 4) (.v 1)]) hF hr (by kernel_rfl) ⟨rfl, (Cm.r r1.2), trivial⟩ (Cm.at_re (V' := (Cm.vals [a0_0, a0_1, a1, r1.1, r1.2] [])) (T := ⟨[(0, .agg [.sym .i64 (.v 0), .sym .i64 (.v 1)]), (1, .sym .i64 (.v 2))], [], []⟩) (qs := [.num (.v 0) (.v 0), .num (.v 1) (.v 1), .num (.v 2) (.v 2)]) hat (by kernel_rfl) ⟨rfl, rfl, rfl, trivial⟩)

def b_Within (a0 : Int) (a1 : Int) (a2 : Int) : Option (Bool) := if a1 ≤ a0 then (if a0 ≤ a2 then (some true) else (some false)) else (some false)

theorem b_Within_ok (a0 : Int) (a1 : Int) (a2 : Int) (y : Bool) (h : b_Within a0 a1 a2 = some y) : Cm.CallOk Try.prog 7 (Cm.vals [a0, a1, a2] []) [.sym .i64 (.v 0), .sym .i64 (.v 1), .sym .i64 (.v 2)] [] 0 (Cm.vals [Cm.bI y] []) (.bs (.v 0)) [] := by
  refine Cm.fun_of (nt := 15) (by kernel_rfl) (by kernel_rfl) fun φ0 w0 a w hat => ?_
  have hF := Cm.wide_fw
  have hr : Fence.wide.round = none := rfl
  unfold b_Within at h
  by_cases h1 : a1 ≤ a0
  · rw [if_pos h1] at h
    by_cases h2 : a0 ≤ a2
    · rw [if_pos h2] at h
      injection h with h; subst h
      exact Cm.to_fin mixed ⟨[(.leq, (.v 1), (.v 0), true), (.leq, (.v 0), (.v 2), true)], [], [], [], [], []⟩ (V := (Cm.vals [a0, a1, a2] [])) (n := 3000) (f := 3000) ⟨⟨Cm.leq_t h1, Cm.leq_t h2, trivial⟩, trivial, trivial, trivial, trivial⟩ trivial (R := ⟨.bs (.v 0), [], []⟩) (qs := [.num (.c 1) (.v 0)]) hF hr (by kernel_rfl) ⟨rfl, trivial⟩ hat
    · rw [if_neg h2] at h
      injection h with h; subst h
      exact Cm.to_fin mixed ⟨[(.leq, (.v 1), (.v 0), true), (.leq, (.v 0), (.v 2), false)], [], [], [], [], []⟩ (V := (Cm.vals [a0, a1, a2] [])) (n := 3000) (f := 3000) ⟨⟨Cm.leq_t h1, Cm.leq_f h2, trivial⟩, trivial, trivial, trivial, trivial⟩ trivial (R := ⟨.bs (.v 0), [], []⟩) (qs := [.num (.c 0) (.v 0)]) hF hr (by kernel_rfl) ⟨rfl, trivial⟩ hat
  · rw [if_neg h1] at h
    injection h with h; subst h
    exact Cm.to_fin mixed ⟨[(.leq, (.v 1), (.v 0), false)], [], [], [], [], []⟩ (V := (Cm.vals [a0, a1, a2] [])) (n := 3000) (f := 3000) ⟨⟨Cm.leq_f h1, trivial⟩, trivial, trivial, trivial, trivial⟩ trivial (R := ⟨.bs (.v 0), [], []⟩) (qs := [.num (.c 0) (.v 0)]) hF hr (by kernel_rfl) ⟨rfl, trivial⟩ hat

def b_CopyInts (a0 : List (Int)) : Option (List (Int)) := if (a0.length : Int) < (65536 : Int) then (some a0) else none

theorem b_CopyInts_ok (a0 : List (Int)) (y : List (Int)) (h : b_CopyInts a0 = some y) : Cm.CallOk Try.prog 11 (Cm.vals [(a0.length : Int)] [(a0.flatMap Cm.enI)]) [.gs 0 0 (.v 0) 1 false] [some (.rows 0 [] 3 true)] 1 (Cm.vals [(y.length : Int)] [(y.flatMap Cm.enI)]) (.gs 1 0 (.v 0) 1 true) [none, some (.rows 0 [] 3 false)] := by
  refine Cm.fun_of (nt := 6) (by kernel_rfl) (by kernel_rfl) fun φ0 w0 a w hat => ?_
  have hF := Cm.wide_fw
  have hr : Fence.wide.round = none := rfl
  unfold b_CopyInts at h
  by_cases h1 : (a0.length : Int) < (65536 : Int)
  · rw [if_pos h1] at h
    injection h with h; subst h
    exact Cm.to_fin mixed ⟨[(.lss, (.v 0), (.c 65536), true)], [], [(0, 1, (.v 0))], [], [], []⟩ (V := (Cm.vals [(a0.length : Int)] [(a0.flatMap Cm.enI)])) (n := 3000) (f := 3000) ⟨⟨Cm.lss_t h1, trivial⟩, trivial, ⟨Cm.flat_length Cm.enI_len _, trivial⟩, trivial, trivial⟩ trivial (R := ⟨.gs 1 0 (.v 0) 1 true, [none, some (.rows 0 [] 3 false)], [some (0, 0), some (1, 0)]⟩) (qs := [.num (.v 0) (.v 0), .lst 0 (some 0) []]) hF hr (by kernel_rfl) ⟨(Cm.r (a0.length : Int)), ⟨[], rfl, (List.append_nil _).symm⟩, trivial⟩ hat
  · rw [if_neg h1] at h
    cases h
end Go.Proofs.Ytaclcmliacedcaa
