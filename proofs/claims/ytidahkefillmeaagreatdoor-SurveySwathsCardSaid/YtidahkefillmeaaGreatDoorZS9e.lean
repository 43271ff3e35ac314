/-
  Go functions as Lean functions (written by tools/lift.py).
-/
import Derived.Test.YtidahkefillmeaaGreatDoorZEd
import Derived.Test.YtidahkefillmeaaGreatDoorZEg
import Derived.Test.YtidahkefillmeaaGreatDoorZS9a
set_option linter.all false
namespace Go.Proofs.YtidahkefillmeaaGreatDoor
open Go Go.RowKit Cm
set_option maxRecDepth 100000
set_option maxHeartbeats 4000000
def b_Within (a0 : Int) (a1 : Int) (a2 : Int) : Option (Bool) := if a1 ≤ a0 then (if a0 ≤ a2 then (some true) else (some false)) else (some false)
theorem b_Within_ok (a0 : Int) (a1 : Int) (a2 : Int) (y : Bool) (h : b_Within a0 a1 a2 = some y) : CallOk Tryz.prog 17 (vals [a0, a1, a2] []) [(ys 0), (ys 1), (ys 2)] [] 0 (vals [bI y] []) (.bs (.v 0)) [] := by
  refine fun_of (nt := 15) (by kernel_rfl) (by kernel_rfl) fun φ0 w0 a w hat => ?_
  have hF := wide_fw
  have hr : Fence.wide.round = none := rfl
  unfold b_Within at h
  by_cases h1 : a1 ≤ a0
  · rw [if_pos h1] at h
    by_cases h2 : a0 ≤ a2
    · rw [if_pos h2] at h
      injection h with h; subst h
      exact to_fin mixed ⟨[(.leq, (.v 1), (.v 0), true), (.leq, (.v 0), (.v 2), true)], [], [], [], [], []⟩ (V := (vals [a0, a1, a2] [])) (n := 3000) (f := 3000) ⟨⟨leq_t h1, leq_t h2, trivial⟩, trivial, trivial, trivial, trivial⟩ trivial (R := ⟨.bs (.v 0), [], []⟩) (qs := [.num (.c 1) (.v 0)]) hF hr (by kernel_rfl) ⟨rfl, trivial⟩ hat
    · rw [if_neg h2] at h
      injection h with h; subst h
      exact to_fin mixed ⟨[(.leq, (.v 1), (.v 0), true), (.leq, (.v 0), (.v 2), false)], [], [], [], [], []⟩ (V := (vals [a0, a1, a2] [])) (n := 3000) (f := 3000) ⟨⟨leq_t h1, leq_f h2, trivial⟩, trivial, trivial, trivial, trivial⟩ trivial (R := ⟨.bs (.v 0), [], []⟩) (qs := [.num (.c 0) (.v 0)]) hF hr (by kernel_rfl) ⟨rfl, trivial⟩ hat
  · rw [if_neg h1] at h
    injection h with h; subst h
    exact to_fin mixed ⟨[(.leq, (.v 1), (.v 0), false)], [], [], [], [], []⟩ (V := (vals [a0, a1, a2] [])) (n := 3000) (f := 3000) ⟨⟨leq_f h1, trivial⟩, trivial, trivial, trivial, trivial⟩ trivial (R := ⟨.bs (.v 0), [], []⟩) (qs := [.num (.c 0) (.v 0)]) hF hr (by kernel_rfl) ⟨rfl, trivial⟩ hat
def r9_isAt (a0 : Int) : Option (Bool) := Option.bind (b_Within a0 (0 : Int) (100000 : Int)) fun r1 => if r1 = true then (some true) else (some false)
theorem r9_isAt_ok (a0 : Int) (y : Bool) (h : r9_isAt a0 = some y) : CallOk Tryz.prog 77 (vals [a0] []) [(ys 0)] [] 0 (vals [bI y] []) (.bs (.v 0)) [] := by
  refine fun_of (nt := 5) (by kernel_rfl) (by kernel_rfl) fun φ0 w0 a w hat => ?_
  have hF := wide_fw
  have hr : Fence.wide.round = none := rfl
  unfold r9_isAt at h
  obtain ⟨r1, hr1, h⟩ := Option.bind_eq_some_iff.1 h
  have Kr1 : KO Tryz.prog [a0, bI r1] [] ⟨17, 0, [], [(ys 0), (ys 1), (ys 2)], [], [(ns 0 0), .num (.c 0) (.v 1), .num (.c 100000) (.v 2)], 0, .bs (.v 0), [], .bs (.v 1), [], []⟩ := fun N M => ⟨_, _, [(ns 0 1)], ⟨b_Within_ok a0 (0 : Int) (100000 : Int) r1 hr1, ⟨(r a0), (r (0 : Int)), (r (100000 : Int)), trivial⟩, by kernel_rfl, ⟨rfl, trivial⟩⟩⟩
  by_cases h2 : r1 = true
  · rw [if_pos h2] at h
    injection h with h; subst h
    exact to_fin mixed ⟨[(.neq, (.v 1), (.c 0), true)], [], [], [⟨17, 0, [], [(ys 0), (ys 1), (ys 2)], [], [(ns 0 0), .num (.c 0) (.v 1), .num (.c 100000) (.v 2)], 0, .bs (.v 0), [], .bs (.v 1), [], []⟩], [], []⟩ (V := (vals [a0, bI r1] [])) (n := 3000) (f := 3000) ⟨⟨bi_t h2, trivial⟩, trivial, trivial, trivial, trivial⟩ ⟨Kr1 _ _, trivial⟩ (R := ⟨.bs (.v 0), [], []⟩) (qs := [.num (.c 1) (.v 0)]) hF hr (by kernel_rfl) ⟨rfl, trivial⟩ (at_re (V' := (vals [a0, bI r1] [])) (T := ⟨[(0, (ys 0))], [], []⟩) (qs := [(ns 0 0)]) hat (by kernel_rfl) ⟨rfl, trivial⟩)
  · rw [if_neg h2] at h
    injection h with h; subst h
    exact to_fin mixed ⟨[(.neq, (.v 1), (.c 0), false)], [], [], [⟨17, 0, [], [(ys 0), (ys 1), (ys 2)], [], [(ns 0 0), .num (.c 0) (.v 1), .num (.c 100000) (.v 2)], 0, .bs (.v 0), [], .bs (.v 1), [], []⟩], [], []⟩ (V := (vals [a0, bI r1] [])) (n := 3000) (f := 3000) ⟨⟨bi_f h2, trivial⟩, trivial, trivial, trivial, trivial⟩ ⟨Kr1 _ _, trivial⟩ (R := ⟨.bs (.v 0), [], []⟩) (qs := [.num (.c 0) (.v 0)]) hF hr (by kernel_rfl) ⟨rfl, trivial⟩ (at_re (V' := (vals [a0, bI r1] [])) (T := ⟨[(0, (ys 0))], [], []⟩) (qs := [(ns 0 0)]) hat (by kernel_rfl) ⟨rfl, trivial⟩)
def r9_SwathErr (a0_0 : Int) (a0_1 : Int) : Option (Int) := Option.bind (r9_isAt a0_0) fun r1 => if r1 = true then (Option.bind (r9_isAt a0_1) fun r3 => if r3 = true then (if a0_1 < a0_0 then (some (9 : Int)) else (some (0 : Int))) else (some (2 : Int))) else (some (2 : Int))
theorem r9_SwathErr_ok (a0_0 : Int) (a0_1 : Int) (y : Int) (h : r9_SwathErr a0_0 a0_1 = some y) : CallOk Tryz.prog 32 (vals [a0_0, a0_1] []) [.agg [(ys 0), (ys 1)]] [] 0 (vals [y] []) ((ys 0)) [] := by
  refine fun_of (nt := 18) (by kernel_rfl) (by kernel_rfl) fun φ0 w0 a w hat => ?_
  have hF := wide_fw
  have hr : Fence.wide.round = none := rfl
  unfold r9_SwathErr at h
  obtain ⟨r1, hr1, h⟩ := Option.bind_eq_some_iff.1 h
  have Kr1 : KO Tryz.prog [a0_0, a0_1, bI r1] [] ⟨77, 1, [], [(ys 0)], [], [(ns 0 0)], 0, .bs (.v 0), [], .bs (.v 2), [], []⟩ := fun N M => ⟨_, _, [(ns 0 2)], ⟨r9_isAt_ok a0_0 r1 hr1, ⟨(r a0_0), trivial⟩, by kernel_rfl, ⟨rfl, trivial⟩⟩⟩
  by_cases h2 : r1 = true
  · rw [if_pos h2] at h
    obtain ⟨r3, hr3, h⟩ := Option.bind_eq_some_iff.1 h
    have Kr3 : KO Tryz.prog [a0_0, a0_1, bI r1, bI r3] [] ⟨77, 1, [], [(ys 0)], [], [(ns 1 0)], 0, .bs (.v 0), [], .bs (.v 3), [], []⟩ := fun N M => ⟨_, _, [(ns 0 3)], ⟨r9_isAt_ok a0_1 r3 hr3, ⟨(r a0_1), trivial⟩, by kernel_rfl, ⟨rfl, trivial⟩⟩⟩
    by_cases h4 : r3 = true
    · rw [if_pos h4] at h
      by_cases h5 : a0_1 < a0_0
      · rw [if_pos h5] at h
        injection h with h; subst h
        exact to_fin mixed ⟨[(.neq, (.v 2), (.c 0), true), (.neq, (.v 3), (.c 0), true), (.gtr, (.v 0), (.v 1), true)], [], [], [⟨77, 1, [], [(ys 0)], [], [(ns 0 0)], 0, .bs (.v 0), [], .bs (.v 2), [], []⟩, ⟨77, 1, [], [(ys 0)], [], [(ns 1 0)], 0, .bs (.v 0), [], .bs (.v 3), [], []⟩], [], []⟩ (V := (vals [a0_0, a0_1, bI r1, bI r3] [])) (n := 3000) (f := 3000) ⟨⟨bi_t h2, bi_t h4, gtr_t h5, trivial⟩, trivial, trivial, trivial, trivial⟩ ⟨Kr1 _ _, Kr3 _ _, trivial⟩ (R := ⟨(ys 0), [], []⟩) (qs := [.num (.c 9) (.v 0)]) hF hr (by kernel_rfl) ⟨(r (9 : Int)), trivial⟩ (at_re (V' := (vals [a0_0, a0_1, bI r1, bI r3] [])) (T := ⟨[(0, .agg [(ys 0), (ys 1)])], [], []⟩) (qs := [(ns 0 0), (ns 1 1)]) hat (by kernel_rfl) ⟨rfl, rfl, trivial⟩)
      · rw [if_neg h5] at h
        injection h with h; subst h
        exact to_fin mixed ⟨[(.neq, (.v 2), (.c 0), true), (.neq, (.v 3), (.c 0), true), (.gtr, (.v 0), (.v 1), false)], [], [], [⟨77, 1, [], [(ys 0)], [], [(ns 0 0)], 0, .bs (.v 0), [], .bs (.v 2), [], []⟩, ⟨77, 1, [], [(ys 0)], [], [(ns 1 0)], 0, .bs (.v 0), [], .bs (.v 3), [], []⟩], [], []⟩ (V := (vals [a0_0, a0_1, bI r1, bI r3] [])) (n := 3000) (f := 3000) ⟨⟨bi_t h2, bi_t h4, gtr_f h5, trivial⟩, trivial, trivial, trivial, trivial⟩ ⟨Kr1 _ _, Kr3 _ _, trivial⟩ (R := ⟨(ys 0), [], []⟩) (qs := [.num (.c 0) (.v 0)]) hF hr (by kernel_rfl) ⟨(r (0 : Int)), trivial⟩ (at_re (V' := (vals [a0_0, a0_1, bI r1, bI r3] [])) (T := ⟨[(0, .agg [(ys 0), (ys 1)])], [], []⟩) (qs := [(ns 0 0), (ns 1 1)]) hat (by kernel_rfl) ⟨rfl, rfl, trivial⟩)
    · rw [if_neg h4] at h
      injection h with h; subst h
      exact to_fin mixed ⟨[(.neq, (.v 2), (.c 0), true), (.neq, (.v 3), (.c 0), false)], [], [], [⟨77, 1, [], [(ys 0)], [], [(ns 0 0)], 0, .bs (.v 0), [], .bs (.v 2), [], []⟩, ⟨77, 1, [], [(ys 0)], [], [(ns 1 0)], 0, .bs (.v 0), [], .bs (.v 3), [], []⟩], [], []⟩ (V := (vals [a0_0, a0_1, bI r1, bI r3] [])) (n := 3000) (f := 3000) ⟨⟨bi_t h2, bi_f h4, trivial⟩, trivial, trivial, trivial, trivial⟩ ⟨Kr1 _ _, Kr3 _ _, trivial⟩ (R := ⟨(ys 0), [], []⟩) (qs := [.num (.c 2) (.v 0)]) hF hr (by kernel_rfl) ⟨(r (2 : Int)), trivial⟩ (at_re (V' := (vals [a0_0, a0_1, bI r1, bI r3] [])) (T := ⟨[(0, .agg [(ys 0), (ys 1)])], [], []⟩) (qs := [(ns 0 0), (ns 1 1)]) hat (by kernel_rfl) ⟨rfl, rfl, trivial⟩)
  · rw [if_neg h2] at h
    injection h with h; subst h
    exact to_fin mixed ⟨[(.neq, (.v 2), (.c 0), false)], [], [], [⟨77, 1, [], [(ys 0)], [], [(ns 0 0)], 0, .bs (.v 0), [], .bs (.v 2), [], []⟩], [], []⟩ (V := (vals [a0_0, a0_1, bI r1] [])) (n := 3000) (f := 3000) ⟨⟨bi_f h2, trivial⟩, trivial, trivial, trivial, trivial⟩ ⟨Kr1 _ _, trivial⟩ (R := ⟨(ys 0), [], []⟩) (qs := [.num (.c 2) (.v 0)]) hF hr (by kernel_rfl) ⟨(r (2 : Int)), trivial⟩ (at_re (V' := (vals [a0_0, a0_1, bI r1] [])) (T := ⟨[(0, .agg [(ys 0), (ys 1)])], [], []⟩) (qs := [(ns 0 0), (ns 1 1)]) hat (by kernel_rfl) ⟨rfl, rfl, trivial⟩)
def r9_SwathsErr_L1 (fu : Nat) (p0 : List (Int × Int)) (p1 : Int) (p2 : Int) (p3 : Int) : Nat → Int → Option ((Int) ⊕ (Unit))
  | 0, _ => none
  | n + 1, v4 => if v4 < (p0.length : Int) then (if (0 : Int) ≤ v4 then (Option.bind ((p0)[0 + (v4).toNat]?) fun e3 => Option.bind (r9_SwathErr e3.1 e3.2) fun r4 => if r4 = (0 : Int) then (r9_SwathsErr_L1 fu p0 p1 p2 p3 n (IntKind.wrap .i64 (v4 + (1 : Int)))) else (some (.inl r4))) else none) else (some (.inr ()))
theorem r9_SwathsErr_L1_ok (fu : Nat) (p0 : List (Int × Int)) (p1 : Int) (p2 : Int) (p3 : Int) : ∀ (n : Nat) (v4 : Int) (o : (Int) ⊕ (Unit)), r9_SwathsErr_L1 fu p0 p1 p2 p3 n v4 = some o → ∀ (φ0 : Phi) (w0 : World) (F : Fence) (k : Nat) (R : Exit → Act → World → Prop) (a : Act) (w : World), FW F → F.round = none → AtS (vals [(p0.length : Int), p1, p2, p3, v4] [(p0.flatMap enII)]) [(0, .gs 0 0 (.v 0) 2 false), (2, (ys 1)), (4, .ptr 1 0), (7, (ys 4))] [some (.rows 0 [] 32 true), some (.cells [(ys 2), (ys 3)] 32 false)] 35 1 1 φ0 w0 a w → (∀ (y : Int), o = .inl y → ∀ a' w', AtS (vals [(p0.length : Int), y] [(p0.flatMap enII)]) [(6, (ys 1))] [some (.rows 0 [] 32 true)] 35 1 1 φ0 w0 a' w' → R Exit.ret a' w') → (∀ (y : Unit), o = .inr y → ∀ a' w', AtS (vals [(p0.length : Int), p1, p2, p3] [(p0.flatMap enII)]) [(2, (ys 1)), (4, .ptr 1 0)] [some (.rows 0 [] 32 true), some (.cells [(ys 2), (ys 3)] 32 false)] 35 1 1 φ0 w0 a' w' → R (Exit.exit 0) a' w') → Code.roundsIn F k Tryz.prog (subAt (bodyOf Tryz.prog 35) [1, 1, 0, 1, 0, 0]) R n a w
  | 0, _, _, h => by cases h
  | n + 1, v4, o, h => by
    intro φ0 w0 F k R a w hF hr hat hx0 hx1
    rw [r9_SwathsErr_L1] at h
    refine rounds_in (p := [1, 1, 0, 1, 0, 0]) ?_
    by_cases h1 : v4 < (p0.length : Int)
    · rw [if_pos h1] at h
      by_cases h2 : (0 : Int) ≤ v4
      · rw [if_pos h2] at h
        obtain ⟨e3, he3, h⟩ := Option.bind_eq_some_iff.1 h
        obtain ⟨r4, hr4, h⟩ := Option.bind_eq_some_iff.1 h
        have Kr4 : KO Tryz.prog [(p0.length : Int), p1, p2, p3, v4, e3.1, e3.2, r4] [(p0.flatMap enII)] ⟨32, 2, [], [.agg [(ys 0), (ys 1)]], [], [(ns 5 0), (ns 6 1)], 0, (ys 0), [], (ys 7), [], []⟩ := fun N M => ⟨_, _, [(ns 0 7)], ⟨r9_SwathErr_ok e3.1 e3.2 r4 hr4, ⟨(r e3.1), (r e3.2), trivial⟩, by kernel_rfl, ⟨rfl, trivial⟩⟩⟩
        by_cases h5 : r4 = (0 : Int)
        · rw [if_pos h5] at h
          refine to_done mixed ⟨[(.lss, (.v 4), (.v 0), true), (.leq, (.c 0), (.v 4), true), (.neq, (.v 7), (.c 0), false)], [(0, 0, (.v 4), [(ys 5), (ys 6)])], [(0, 2, (.v 0))], [⟨32, 2, [], [.agg [(ys 0), (ys 1)]], [], [(ns 5 0), (ns 6 1)], 0, (ys 0), [], (ys 7), [], []⟩], [], []⟩ (V := (vals [(p0.length : Int), p1, p2, p3, v4, e3.1, e3.2, r4] [(p0.flatMap enII)])) (n := 3000) (f := 3000) (V' := (vals [(p0.length : Int), p1, p2, p3, (IntKind.wrap .i64 (v4 + (1 : Int)))] [(p0.flatMap enII)])) ⟨⟨lss_t h1, leq_t h2, neq_f h5, trivial⟩, ⟨⟨h2, _, rfl, flat_row enII_len he3⟩, trivial⟩, ⟨flat_length enII_len _, trivial⟩, trivial, trivial⟩ ⟨Kr4 _ _, trivial⟩ (T := ⟨[(0, .gs 0 0 (.v 0) 2 false), (2, (ys 1)), (4, .ptr 1 0), (7, (ys 4))], [some (.rows 0 [] 32 true), some (.cells [(ys 2), (ys 3)] 32 false)], [some (0, 0), some (1, 0)]⟩) (ce := .normal) (qs := [(ns 0 0), (ns 1 1), .num (.add .i64 (.v 4) (.c 1)) (.v 4), .lst 0 (some 0) [], (ns 2 2), (ns 3 3)]) hF hr (by kernel_rfl) ⟨(r (p0.length : Int)), (r p1), (r (IntKind.wrap .i64 (v4 + (1 : Int)))), ⟨[], rfl, lnil _⟩, (r p2), (r p3), trivial⟩ (at_re (V' := (vals [(p0.length : Int), p1, p2, p3, v4, e3.1, e3.2, r4] [(p0.flatMap enII)])) (T := ⟨[(0, .gs 0 0 (.v 0) 2 false), (2, (ys 1)), (4, .ptr 1 0), (7, (ys 4))], [some (.rows 0 [] 32 true), some (.cells [(ys 2), (ys 3)] 32 false)], [some (0, 0), some (1, 0)]⟩) (qs := [(ns 0 0), (ns 1 1), (ns 4 4), .lst 0 (some 0) [], (ns 2 2), (ns 3 3)]) hat (by kernel_rfl) ⟨rfl, rfl, rfl, ⟨[], rfl, lnil _⟩, rfl, rfl, trivial⟩) fun a' w' hat' => ?_
          exact r9_SwathsErr_L1_ok fu p0 p1 p2 p3 n (IntKind.wrap .i64 (v4 + (1 : Int))) o h _ _ _ _ _ _ _ hF hr hat' hx0 hx1
        · rw [if_neg h5] at h
          injection h with h; subst h
          exact to_done mixed ⟨[(.lss, (.v 4), (.v 0), true), (.leq, (.c 0), (.v 4), true), (.neq, (.v 7), (.c 0), true)], [(0, 0, (.v 4), [(ys 5), (ys 6)])], [(0, 2, (.v 0))], [⟨32, 2, [], [.agg [(ys 0), (ys 1)]], [], [(ns 5 0), (ns 6 1)], 0, (ys 0), [], (ys 7), [], []⟩], [], []⟩ (V := (vals [(p0.length : Int), p1, p2, p3, v4, e3.1, e3.2, r4] [(p0.flatMap enII)])) (n := 3000) (f := 3000) (V' := (vals [(p0.length : Int), r4] [(p0.flatMap enII)])) ⟨⟨lss_t h1, leq_t h2, neq_t h5, trivial⟩, ⟨⟨h2, _, rfl, flat_row enII_len he3⟩, trivial⟩, ⟨flat_length enII_len _, trivial⟩, trivial, trivial⟩ ⟨Kr4 _ _, trivial⟩ (T := ⟨[(6, (ys 1))], [some (.rows 0 [] 32 true)], [some (0, 0)]⟩) (ce := .ret) (qs := [(ns 7 1), .lst 0 (some 0) []]) hF hr (by kernel_rfl) ⟨(r r4), ⟨[], rfl, lnil _⟩, trivial⟩ (at_re (V' := (vals [(p0.length : Int), p1, p2, p3, v4, e3.1, e3.2, r4] [(p0.flatMap enII)])) (T := ⟨[(0, .gs 0 0 (.v 0) 2 false), (2, (ys 1)), (4, .ptr 1 0), (7, (ys 4))], [some (.rows 0 [] 32 true), some (.cells [(ys 2), (ys 3)] 32 false)], [some (0, 0), some (1, 0)]⟩) (qs := [(ns 0 0), (ns 1 1), (ns 4 4), .lst 0 (some 0) [], (ns 2 2), (ns 3 3)]) hat (by kernel_rfl) ⟨rfl, rfl, rfl, ⟨[], rfl, lnil _⟩, rfl, rfl, trivial⟩) fun a' w' hat' => hx0 r4 rfl a' w' hat'
      · rw [if_neg h2] at h
        cases h
    · rw [if_neg h1] at h
      injection h with h; subst h
      exact to_done mixed ⟨[(.lss, (.v 4), (.v 0), false)], [], [(0, 2, (.v 0))], [], [], []⟩ (V := (vals [(p0.length : Int), p1, p2, p3, v4] [(p0.flatMap enII)])) (n := 3000) (f := 3000) (V' := (vals [(p0.length : Int), p1, p2, p3] [(p0.flatMap enII)])) ⟨⟨lss_f h1, trivial⟩, trivial, ⟨flat_length enII_len _, trivial⟩, trivial, trivial⟩ trivial (T := ⟨[(2, (ys 1)), (4, .ptr 1 0)], [some (.rows 0 [] 32 true), some (.cells [(ys 2), (ys 3)] 32 false)], [some (0, 0), some (1, 0)]⟩) (ce := (.exit 0)) (qs := [(ns 1 1), .lst 0 (some 0) [], (ns 2 2), (ns 3 3)]) hF hr (by kernel_rfl) ⟨(r p1), ⟨[], rfl, lnil _⟩, (r p2), (r p3), trivial⟩ hat fun a' w' hat' => hx1 () rfl a' w' hat'
def r9_SwathsErr (fu : Nat) (a0 : List (Int × Int)) (a1_0 : Int) (a1_1 : Int) (a2 : Int) : Option (Int) := if (12 : Int) < (a0.length : Int) then (some (8 : Int)) else (Option.bind (r9_SwathsErr_L1 fu a0 a2 a1_0 a1_1 fu (0 : Int)) fun o2 => (match o2 with | .inl y3 => (some y3) | .inr y4 => (Option.bind (r9_SwathErr a1_0 a1_1) fun r5 => if r5 = (0 : Int) then (Option.bind (b_Within a2 (1 : Int) (12 : Int)) fun r7 => if r7 = true then (some (0 : Int)) else (some (2 : Int))) else (some r5))))
theorem r9_SwathsErr_ok (fu : Nat) (a0 : List (Int × Int)) (a1_0 : Int) (a1_1 : Int) (a2 : Int) (y : Int) (h : r9_SwathsErr fu a0 a1_0 a1_1 a2 = some y) : CallOk Tryz.prog 35 (vals [(a0.length : Int), a1_0, a1_1, a2] [(a0.flatMap enII)]) [.gs 0 0 (.v 0) 2 false, .agg [(ys 1), (ys 2)], (ys 3)] [some (.rows 0 [] 32 true)] 1 (vals [y] []) ((ys 0)) [none] := by
  refine fun_of (nt := 35) (by kernel_rfl) (by kernel_rfl) fun φ0 w0 a w hat => ?_
  have hF := wide_fw
  have hr : Fence.wide.round = none := rfl
  unfold r9_SwathsErr at h
  by_cases h1 : (12 : Int) < (a0.length : Int)
  · rw [if_pos h1] at h
    injection h with h; subst h
    exact to_fin mixed ⟨[(.gtr, (.v 0), (.c 12), true)], [], [(0, 2, (.v 0))], [], [], []⟩ (V := (vals [(a0.length : Int), a1_0, a1_1, a2] [(a0.flatMap enII)])) (n := 3000) (f := 3000) ⟨⟨gtr_t h1, trivial⟩, trivial, ⟨flat_length enII_len _, trivial⟩, trivial, trivial⟩ trivial (R := ⟨(ys 0), [none], [some (0, 0)]⟩) (qs := [.num (.c 8) (.v 0)]) hF hr (by kernel_rfl) ⟨(r (8 : Int)), trivial⟩ hat
  · rw [if_neg h1] at h
    obtain ⟨o2, ho2, h⟩ := Option.bind_eq_some_iff.1 h
    refine to_loop mixed ⟨[(.gtr, (.v 0), (.c 12), false)], [], [(0, 2, (.v 0))], [], [], []⟩ (V := (vals [(a0.length : Int), a1_0, a1_1, a2] [(a0.flatMap enII)])) (n := 3000) (f := 3000) (V' := (vals [(a0.length : Int), a2, a1_0, a1_1, (0 : Int)] [(a0.flatMap enII)])) ⟨⟨gtr_f h1, trivial⟩, trivial, ⟨flat_length enII_len _, trivial⟩, trivial, trivial⟩ trivial (T := ⟨[(0, .gs 0 0 (.v 0) 2 false), (2, (ys 1)), (4, .ptr 1 0), (7, (ys 4))], [some (.rows 0 [] 32 true), some (.cells [(ys 2), (ys 3)] 32 false)], [some (0, 0), some (1, 0)]⟩) (B := subAt (bodyOf Tryz.prog 35) [1, 1, 0, 1, 0, 0]) (K' := [.bk 0, .sq (subAt (bodyOf Tryz.prog 35) [1, 1, 1]) [1, 1, 1]]) (qs := [(ns 0 0), (ns 3 1), .num (.c 0) (.v 4), .lst 0 (some 0) [], (ns 1 2), (ns 2 3)]) hF hr (by kernel_rfl) ⟨(r (a0.length : Int)), (r a2), (r (0 : Int)), ⟨[], rfl, lnil _⟩, (r a1_0), (r a1_1), trivial⟩ hat fun aa1 ww1 hat1 => loop_in (r9_SwathsErr_L1_ok fu a0 a2 a1_0 a1_1 fu (0 : Int) o2 ho2 _ _ _ _ _ _ _ hF hr hat1 ?_ ?_)
    · intro y3 hy aa2 ww2 hat
      subst hy
      dsimp only at h
      show (Wk.out .ret).goal _ _ _ [.bk 0, .sq (subAt (bodyOf Tryz.prog 35) [1, 1, 1]) [1, 1, 1]] _ aa2 ww2
      injection h with h; subst h
      exact to_fin mixed ⟨[], [], [(0, 2, (.v 0))], [], [], []⟩ (V := (vals [(a0.length : Int), y3] [(a0.flatMap enII)])) (n := 3000) (f := 3000) ⟨trivial, trivial, ⟨flat_length enII_len _, trivial⟩, trivial, trivial⟩ trivial (R := ⟨(ys 0), [none], [some (0, 0)]⟩) (qs := [(ns 1 0)]) hF hr (by kernel_rfl) ⟨(r y3), trivial⟩ hat
    · intro y4 hy aa2 ww2 hat
      subst hy
      dsimp only at h
      show (Wk.out (.exit 0)).goal _ _ _ [.bk 0, .sq (subAt (bodyOf Tryz.prog 35) [1, 1, 1]) [1, 1, 1]] _ aa2 ww2
      obtain ⟨r5, hr5, h⟩ := Option.bind_eq_some_iff.1 h
      have Kr5 : KO Tryz.prog [(a0.length : Int), a2, a1_0, a1_1, r5] [(a0.flatMap enII)] ⟨32, 2, [], [.agg [(ys 0), (ys 1)]], [], [(ns 2 0), (ns 3 1)], 0, (ys 0), [], (ys 4), [], []⟩ := fun N M => ⟨_, _, [(ns 0 4)], ⟨r9_SwathErr_ok a1_0 a1_1 r5 hr5, ⟨(r a1_0), (r a1_1), trivial⟩, by kernel_rfl, ⟨rfl, trivial⟩⟩⟩
      by_cases h6 : r5 = (0 : Int)
      · rw [if_pos h6] at h
        obtain ⟨r7, hr7, h⟩ := Option.bind_eq_some_iff.1 h
        have Kr7 : KO Tryz.prog [(a0.length : Int), a2, a1_0, a1_1, r5, bI r7] [(a0.flatMap enII)] ⟨17, 2, [], [(ys 0), (ys 1), (ys 2)], [], [(ns 1 0), .num (.c 1) (.v 1), .num (.c 12) (.v 2)], 0, .bs (.v 0), [], .bs (.v 5), [], []⟩ := fun N M => ⟨_, _, [(ns 0 5)], ⟨b_Within_ok a2 (1 : Int) (12 : Int) r7 hr7, ⟨(r a2), (r (1 : Int)), (r (12 : Int)), trivial⟩, by kernel_rfl, ⟨rfl, trivial⟩⟩⟩
        by_cases h8 : r7 = true
        · rw [if_pos h8] at h
          injection h with h; subst h
          exact to_fin mixed ⟨[(.neq, (.v 4), (.c 0), false), (.neq, (.v 5), (.c 0), true)], [], [(0, 2, (.v 0))], [⟨32, 2, [], [.agg [(ys 0), (ys 1)]], [], [(ns 2 0), (ns 3 1)], 0, (ys 0), [], (ys 4), [], []⟩, ⟨17, 2, [], [(ys 0), (ys 1), (ys 2)], [], [(ns 1 0), .num (.c 1) (.v 1), .num (.c 12) (.v 2)], 0, .bs (.v 0), [], .bs (.v 5), [], []⟩], [], []⟩ (V := (vals [(a0.length : Int), a2, a1_0, a1_1, r5, bI r7] [(a0.flatMap enII)])) (n := 3000) (f := 3000) ⟨⟨neq_f h6, bi_t h8, trivial⟩, trivial, ⟨flat_length enII_len _, trivial⟩, trivial, trivial⟩ ⟨Kr5 _ _, Kr7 _ _, trivial⟩ (R := ⟨(ys 0), [none], [some (0, 0)]⟩) (qs := [.num (.c 0) (.v 0)]) hF hr (by kernel_rfl) ⟨(r (0 : Int)), trivial⟩ (at_re (V' := (vals [(a0.length : Int), a2, a1_0, a1_1, r5, bI r7] [(a0.flatMap enII)])) (T := ⟨[(2, (ys 1)), (4, .ptr 1 0)], [some (.rows 0 [] 32 true), some (.cells [(ys 2), (ys 3)] 32 false)], [some (0, 0), some (1, 0)]⟩) (qs := [(ns 1 1), .lst 0 (some 0) [], (ns 2 2), (ns 3 3)]) hat (by kernel_rfl) ⟨rfl, ⟨[], rfl, lnil _⟩, rfl, rfl, trivial⟩)
        · rw [if_neg h8] at h
          injection h with h; subst h
          exact to_fin mixed ⟨[(.neq, (.v 4), (.c 0), false), (.neq, (.v 5), (.c 0), false)], [], [(0, 2, (.v 0))], [⟨32, 2, [], [.agg [(ys 0), (ys 1)]], [], [(ns 2 0), (ns 3 1)], 0, (ys 0), [], (ys 4), [], []⟩, ⟨17, 2, [], [(ys 0), (ys 1), (ys 2)], [], [(ns 1 0), .num (.c 1) (.v 1), .num (.c 12) (.v 2)], 0, .bs (.v 0), [], .bs (.v 5), [], []⟩], [], []⟩ (V := (vals [(a0.length : Int), a2, a1_0, a1_1, r5, bI r7] [(a0.flatMap enII)])) (n := 3000) (f := 3000) ⟨⟨neq_f h6, bi_f h8, trivial⟩, trivial, ⟨flat_length enII_len _, trivial⟩, trivial, trivial⟩ ⟨Kr5 _ _, Kr7 _ _, trivial⟩ (R := ⟨(ys 0), [none], [some (0, 0)]⟩) (qs := [.num (.c 2) (.v 0)]) hF hr (by kernel_rfl) ⟨(r (2 : Int)), trivial⟩ (at_re (V' := (vals [(a0.length : Int), a2, a1_0, a1_1, r5, bI r7] [(a0.flatMap enII)])) (T := ⟨[(2, (ys 1)), (4, .ptr 1 0)], [some (.rows 0 [] 32 true), some (.cells [(ys 2), (ys 3)] 32 false)], [some (0, 0), some (1, 0)]⟩) (qs := [(ns 1 1), .lst 0 (some 0) [], (ns 2 2), (ns 3 3)]) hat (by kernel_rfl) ⟨rfl, ⟨[], rfl, lnil _⟩, rfl, rfl, trivial⟩)
      · rw [if_neg h6] at h
        injection h with h; subst h
        exact to_fin mixed ⟨[(.neq, (.v 4), (.c 0), true)], [], [(0, 2, (.v 0))], [⟨32, 2, [], [.agg [(ys 0), (ys 1)]], [], [(ns 2 0), (ns 3 1)], 0, (ys 0), [], (ys 4), [], []⟩], [], []⟩ (V := (vals [(a0.length : Int), a2, a1_0, a1_1, r5] [(a0.flatMap enII)])) (n := 3000) (f := 3000) ⟨⟨neq_t h6, trivial⟩, trivial, ⟨flat_length enII_len _, trivial⟩, trivial, trivial⟩ ⟨Kr5 _ _, trivial⟩ (R := ⟨(ys 0), [none], [some (0, 0)]⟩) (qs := [(ns 4 0)]) hF hr (by kernel_rfl) ⟨(r r5), trivial⟩ (at_re (V' := (vals [(a0.length : Int), a2, a1_0, a1_1, r5] [(a0.flatMap enII)])) (T := ⟨[(2, (ys 1)), (4, .ptr 1 0)], [some (.rows 0 [] 32 true), some (.cells [(ys 2), (ys 3)] 32 false)], [some (0, 0), some (1, 0)]⟩) (qs := [(ns 1 1), .lst 0 (some 0) [], (ns 2 2), (ns 3 3)]) hat (by kernel_rfl) ⟨rfl, ⟨[], rfl, lnil _⟩, rfl, rfl, trivial⟩)
def r9_Covered_L1 (fu : Nat) (p0 : List (Int × Int)) (p1 : Int) : Nat → Int → Int → Option ((Int))
  | 0, _, _ => none
  | n + 1, v2, v3 => if v3 < (p0.length : Int) then (if (0 : Int) ≤ v3 then (Option.bind ((p0)[0 + (v3).toNat]?) fun e3 => Option.bind (b_Within p1 e3.1 e3.2) fun r4 => if r4 = true then (r9_Covered_L1 fu p0 p1 n (IntKind.wrap .i64 (v2 + (1 : Int))) (IntKind.wrap .i64 (v3 + (1 : Int)))) else (r9_Covered_L1 fu p0 p1 n v2 (IntKind.wrap .i64 (v3 + (1 : Int))))) else none) else (some v2)
theorem r9_Covered_L1_ok (fu : Nat) (p0 : List (Int × Int)) (p1 : Int) : ∀ (n : Nat) (v2 : Int) (v3 : Int) (o : (Int)), r9_Covered_L1 fu p0 p1 n v2 v3 = some o → ∀ (φ0 : Phi) (w0 : World) (F : Fence) (k : Nat) (R : Exit → Act → World → Prop) (a : Act) (w : World), FW F → F.round = none → AtS (vals [(p0.length : Int), p1, v2, v3] [(p0.flatMap enII)]) [(0, .gs 0 0 (.v 0) 2 false), (1, (ys 1)), (5, (ys 2)), (6, (ys 3))] [some (.rows 0 [] 32 true)] 28 1 1 φ0 w0 a w → (∀ (y : Int), o = y → ∀ a' w', AtS (vals [(p0.length : Int), y] [(p0.flatMap enII)]) [(5, (ys 1))] [some (.rows 0 [] 32 true)] 28 1 1 φ0 w0 a' w' → R (Exit.exit 0) a' w') → Code.roundsIn F k Tryz.prog (subAt (bodyOf Tryz.prog 85) [1, 1, 0, 1, 0, 0]) R n a w
  | 0, _, _, _, h => by cases h
  | n + 1, v2, v3, o, h => by
    intro φ0 w0 F k R a w hF hr hat hx0
    rw [r9_Covered_L1] at h
    refine rounds_in (p := [1, 1, 0, 1, 0, 0]) ?_
    by_cases h1 : v3 < (p0.length : Int)
    · rw [if_pos h1] at h
      by_cases h2 : (0 : Int) ≤ v3
      · rw [if_pos h2] at h
        obtain ⟨e3, he3, h⟩ := Option.bind_eq_some_iff.1 h
        obtain ⟨r4, hr4, h⟩ := Option.bind_eq_some_iff.1 h
        have Kr4 : KO Tryz.prog [(p0.length : Int), p1, v2, v3, e3.1, e3.2, bI r4] [(p0.flatMap enII)] ⟨17, 1, [], [(ys 0), (ys 1), (ys 2)], [], [(ns 1 0), (ns 4 1), (ns 5 2)], 0, .bs (.v 0), [], .bs (.v 6), [], []⟩ := fun N M => ⟨_, _, [(ns 0 6)], ⟨b_Within_ok p1 e3.1 e3.2 r4 hr4, ⟨(r p1), (r e3.1), (r e3.2), trivial⟩, by kernel_rfl, ⟨rfl, trivial⟩⟩⟩
        by_cases h5 : r4 = true
        · rw [if_pos h5] at h
          refine to_done mixed ⟨[(.lss, (.v 3), (.v 0), true), (.leq, (.c 0), (.v 3), true), (.neq, (.v 6), (.c 0), true)], [(0, 0, (.v 3), [(ys 4), (ys 5)])], [(0, 2, (.v 0))], [⟨17, 1, [], [(ys 0), (ys 1), (ys 2)], [], [(ns 1 0), (ns 4 1), (ns 5 2)], 0, .bs (.v 0), [], .bs (.v 6), [], []⟩], [], []⟩ (V := (vals [(p0.length : Int), p1, v2, v3, e3.1, e3.2, bI r4] [(p0.flatMap enII)])) (n := 3000) (f := 3000) (V' := (vals [(p0.length : Int), p1, (IntKind.wrap .i64 (v2 + (1 : Int))), (IntKind.wrap .i64 (v3 + (1 : Int)))] [(p0.flatMap enII)])) ⟨⟨lss_t h1, leq_t h2, bi_t h5, trivial⟩, ⟨⟨h2, _, rfl, flat_row enII_len he3⟩, trivial⟩, ⟨flat_length enII_len _, trivial⟩, trivial, trivial⟩ ⟨Kr4 _ _, trivial⟩ (T := ⟨[(0, .gs 0 0 (.v 0) 2 false), (1, (ys 1)), (5, (ys 2)), (6, (ys 3))], [some (.rows 0 [] 32 true)], [some (0, 0)]⟩) (ce := .normal) (qs := [(ns 0 0), (ns 1 1), .num (.add .i64 (.v 2) (.c 1)) (.v 2), .num (.add .i64 (.v 3) (.c 1)) (.v 3), .lst 0 (some 0) []]) hF hr (by kernel_rfl) ⟨(r (p0.length : Int)), (r p1), (r (IntKind.wrap .i64 (v2 + (1 : Int)))), (r (IntKind.wrap .i64 (v3 + (1 : Int)))), ⟨[], rfl, lnil _⟩, trivial⟩ (at_re (V' := (vals [(p0.length : Int), p1, v2, v3, e3.1, e3.2, bI r4] [(p0.flatMap enII)])) (T := ⟨[(0, .gs 0 0 (.v 0) 2 false), (1, (ys 1)), (5, (ys 2)), (6, (ys 3))], [some (.rows 0 [] 32 true)], [some (0, 0)]⟩) (qs := [(ns 0 0), (ns 1 1), (ns 2 2), (ns 3 3), .lst 0 (some 0) []]) hat (by kernel_rfl) ⟨rfl, rfl, rfl, rfl, ⟨[], rfl, lnil _⟩, trivial⟩) fun a' w' hat' => ?_
          exact r9_Covered_L1_ok fu p0 p1 n (IntKind.wrap .i64 (v2 + (1 : Int))) (IntKind.wrap .i64 (v3 + (1 : Int))) o h _ _ _ _ _ _ _ hF hr hat' hx0
        · rw [if_neg h5] at h
          refine to_done mixed ⟨[(.lss, (.v 3), (.v 0), true), (.leq, (.c 0), (.v 3), true), (.neq, (.v 6), (.c 0), false)], [(0, 0, (.v 3), [(ys 4), (ys 5)])], [(0, 2, (.v 0))], [⟨17, 1, [], [(ys 0), (ys 1), (ys 2)], [], [(ns 1 0), (ns 4 1), (ns 5 2)], 0, .bs (.v 0), [], .bs (.v 6), [], []⟩], [], []⟩ (V := (vals [(p0.length : Int), p1, v2, v3, e3.1, e3.2, bI r4] [(p0.flatMap enII)])) (n := 3000) (f := 3000) (V' := (vals [(p0.length : Int), p1, v2, (IntKind.wrap .i64 (v3 + (1 : Int)))] [(p0.flatMap enII)])) ⟨⟨lss_t h1, leq_t h2, bi_f h5, trivial⟩, ⟨⟨h2, _, rfl, flat_row enII_len he3⟩, trivial⟩, ⟨flat_length enII_len _, trivial⟩, trivial, trivial⟩ ⟨Kr4 _ _, trivial⟩ (T := ⟨[(0, .gs 0 0 (.v 0) 2 false), (1, (ys 1)), (5, (ys 2)), (6, (ys 3))], [some (.rows 0 [] 32 true)], [some (0, 0)]⟩) (ce := .normal) (qs := [(ns 0 0), (ns 1 1), (ns 2 2), .num (.add .i64 (.v 3) (.c 1)) (.v 3), .lst 0 (some 0) []]) hF hr (by kernel_rfl) ⟨(r (p0.length : Int)), (r p1), (r v2), (r (IntKind.wrap .i64 (v3 + (1 : Int)))), ⟨[], rfl, lnil _⟩, trivial⟩ (at_re (V' := (vals [(p0.length : Int), p1, v2, v3, e3.1, e3.2, bI r4] [(p0.flatMap enII)])) (T := ⟨[(0, .gs 0 0 (.v 0) 2 false), (1, (ys 1)), (5, (ys 2)), (6, (ys 3))], [some (.rows 0 [] 32 true)], [some (0, 0)]⟩) (qs := [(ns 0 0), (ns 1 1), (ns 2 2), (ns 3 3), .lst 0 (some 0) []]) hat (by kernel_rfl) ⟨rfl, rfl, rfl, rfl, ⟨[], rfl, lnil _⟩, trivial⟩) fun a' w' hat' => ?_
          exact r9_Covered_L1_ok fu p0 p1 n v2 (IntKind.wrap .i64 (v3 + (1 : Int))) o h _ _ _ _ _ _ _ hF hr hat' hx0
      · rw [if_neg h2] at h
        cases h
    · rw [if_neg h1] at h
      injection h with h; subst h
      exact to_done mixed ⟨[(.lss, (.v 3), (.v 0), false)], [], [(0, 2, (.v 0))], [], [], []⟩ (V := (vals [(p0.length : Int), p1, v2, v3] [(p0.flatMap enII)])) (n := 3000) (f := 3000) (V' := (vals [(p0.length : Int), v2] [(p0.flatMap enII)])) ⟨⟨lss_f h1, trivial⟩, trivial, ⟨flat_length enII_len _, trivial⟩, trivial, trivial⟩ trivial (T := ⟨[(5, (ys 1))], [some (.rows 0 [] 32 true)], [some (0, 0)]⟩) (ce := (.exit 0)) (qs := [(ns 2 1), .lst 0 (some 0) []]) hF hr (by kernel_rfl) ⟨(r v2), ⟨[], rfl, lnil _⟩, trivial⟩ hat fun a' w' hat' => hx0 v2 rfl a' w' hat'
def r9_Covered (fu : Nat) (a0 : List (Int × Int)) (a1 : Int) : Option (Int) := Option.bind (r9_Covered_L1 fu a0 a1 fu (0 : Int) (0 : Int)) fun o1 => some o1
theorem r9_Covered_ok (fu : Nat) (a0 : List (Int × Int)) (a1 : Int) (y : Int) (h : r9_Covered fu a0 a1 = some y) : CallOk Tryz.prog 85 (vals [(a0.length : Int), a1] [(a0.flatMap enII)]) [.gs 0 0 (.v 0) 2 false, (ys 1)] [some (.rows 0 [] 32 true)] 1 (vals [y] []) ((ys 0)) [none] := by
  refine fun_of (nt := 28) (by kernel_rfl) (by kernel_rfl) fun φ0 w0 a w hat => ?_
  have hF := wide_fw
  have hr : Fence.wide.round = none := rfl
  unfold r9_Covered at h
  obtain ⟨o1, ho1, h⟩ := Option.bind_eq_some_iff.1 h
  refine to_loop mixed ⟨[], [], [(0, 2, (.v 0))], [], [], []⟩ (V := (vals [(a0.length : Int), a1] [(a0.flatMap enII)])) (n := 3000) (f := 3000) (V' := (vals [(a0.length : Int), a1, (0 : Int), (0 : Int)] [(a0.flatMap enII)])) ⟨trivial, trivial, ⟨flat_length enII_len _, trivial⟩, trivial, trivial⟩ trivial (T := ⟨[(0, .gs 0 0 (.v 0) 2 false), (1, (ys 1)), (5, (ys 2)), (6, (ys 3))], [some (.rows 0 [] 32 true)], [some (0, 0)]⟩) (B := subAt (bodyOf Tryz.prog 85) [1, 1, 0, 1, 0, 0]) (K' := [.bk 0, .sq (subAt (bodyOf Tryz.prog 85) [1, 1, 1]) [1, 1, 1]]) (qs := [(ns 0 0), (ns 1 1), .num (.c 0) (.v 2), .num (.c 0) (.v 3), .lst 0 (some 0) []]) hF hr (by kernel_rfl) ⟨(r (a0.length : Int)), (r a1), (r (0 : Int)), (r (0 : Int)), ⟨[], rfl, lnil _⟩, trivial⟩ hat fun aa1 ww1 hat1 => loop_in (r9_Covered_L1_ok fu a0 a1 fu (0 : Int) (0 : Int) o1 ho1 _ _ _ _ _ _ _ hF hr hat1 ?_)
  · intro yy hy aa2 ww2 hat
    subst hy
    show (Wk.out (.exit 0)).goal _ _ _ [.bk 0, .sq (subAt (bodyOf Tryz.prog 85) [1, 1, 1]) [1, 1, 1]] _ aa2 ww2
    injection h with h; subst h
    exact to_fin mixed ⟨[], [], [(0, 2, (.v 0))], [], [], []⟩ (V := (vals [(a0.length : Int), o1] [(a0.flatMap enII)])) (n := 3000) (f := 3000) ⟨trivial, trivial, ⟨flat_length enII_len _, trivial⟩, trivial, trivial⟩ trivial (R := ⟨(ys 0), [none], [some (0, 0)]⟩) (qs := [(ns 1 0)]) hF hr (by kernel_rfl) ⟨(r o1), trivial⟩ hat
def r9_Gaps_L1 (fu : Nat) (p0 : List (Int × Int)) (p1 : Int) (p2 : Int) (p3 : Int) : Nat → List (Int × Int) → Int → Option ((List (Int × Int)))
  | 0, _, _ => none
  | n + 1, v4, v5 => if v5 ≤ p3 then (Option.bind (r9_Covered fu p0 v5) fun r2 => if p1 ≤ r2 then (r9_Gaps_L1 fu p0 p1 p2 p3 n v4 (IntKind.wrap .i64 (v5 + (1 : Int)))) else (if (0 : Int) < (v4.length : Int) then (if (0 : Int) ≤ (IntKind.wrap .i64 ((v4.length : Int) - (1 : Int))) then (if (IntKind.wrap .i64 ((v4.length : Int) - (1 : Int))) < (v4.length : Int) then (Option.bind ((v4)[0 + ((IntKind.wrap .i64 ((v4.length : Int) - (1 : Int)))).toNat]?) fun e7 => if e7.2 = (IntKind.wrap .i64 (v5 - (1 : Int))) then (Option.bind ((v4)[0 + ((IntKind.wrap .i64 ((v4.length : Int) - (1 : Int)))).toNat]?) fun e9 => r9_Gaps_L1 fu p0 p1 p2 p3 n (v4.set (0 + ((IntKind.wrap .i64 ((v4.length : Int) - (1 : Int)))).toNat) (e9.1, v5)) (IntKind.wrap .i64 (v5 + (1 : Int)))) else (if (v4.length : Int) < (65536 : Int) then (r9_Gaps_L1 fu p0 p1 p2 p3 n (v4 ++ [(v5, v5)]) (IntKind.wrap .i64 (v5 + (1 : Int)))) else none)) else none) else none) else (if (v4.length : Int) < (65536 : Int) then (r9_Gaps_L1 fu p0 p1 p2 p3 n (v4 ++ [(v5, v5)]) (IntKind.wrap .i64 (v5 + (1 : Int)))) else none))) else (some v4)
theorem r9_Gaps_L1_ok (fu : Nat) (p0 : List (Int × Int)) (p1 : Int) (p2 : Int) (p3 : Int) : ∀ (n : Nat) (v4 : List (Int × Int)) (v5 : Int) (o : (List (Int × Int))), r9_Gaps_L1 fu p0 p1 p2 p3 n v4 v5 = some o → ∀ (φ0 : Phi) (w0 : World) (F : Fence) (k : Nat) (R : Exit → Act → World → Prop) (a : Act) (w : World), FW F → F.round = none → AtS (vals [(p0.length : Int), p1, p2, p3, (v4.length : Int), v5] [(p0.flatMap enII), (v4.flatMap enII)]) [(0, .gs 0 0 (.v 0) 2 false), (2, (ys 1)), (4, .ptr 1 0), (7, .gs 2 0 (.v 4) 2 true), (8, (ys 5))] [some (.rows 0 [] 32 true), some (.cells [(ys 2), (ys 3)] 32 false), some (.rows 1 [] 32 false)] 51 1 1 φ0 w0 a w → (∀ (y : List (Int × Int)), o = y → ∀ a' w', AtS (vals [(p0.length : Int), (y.length : Int)] [(p0.flatMap enII), (y.flatMap enII)]) [(7, .gs 1 0 (.v 1) 2 true)] [some (.rows 0 [] 32 true), some (.rows 1 [] 32 false)] 51 1 1 φ0 w0 a' w' → R (Exit.exit 0) a' w') → Code.roundsIn F k Tryz.prog (subAt (bodyOf Tryz.prog 36) [1, 1, 0, 1, 0, 0]) R n a w
  | 0, _, _, _, h => by cases h
  | n + 1, v4, v5, o, h => by
    intro φ0 w0 F k R a w hF hr hat hx0
    rw [r9_Gaps_L1] at h
    refine rounds_in (p := [1, 1, 0, 1, 0, 0]) ?_
    by_cases h1 : v5 ≤ p3
    · rw [if_pos h1] at h
      obtain ⟨r2, hr2, h⟩ := Option.bind_eq_some_iff.1 h
      have Kr2 : KO Tryz.prog [(p0.length : Int), p1, p2, p3, (v4.length : Int), v5, r2] [(p0.flatMap enII), (v4.flatMap enII)] ⟨85, 3, [some (0, 0)], [.gs 0 0 (.v 0) 2 false, (ys 1)], [some (.rows 0 [] 32 true)], [(ns 0 0), (ns 5 1), .lst 0 (some 0) []], 1, (ys 0), [none], (ys 6), [], []⟩ := fun N M => ⟨_, _, [(ns 0 6)], ⟨r9_Covered_ok fu p0 v5 r2 hr2, ⟨(r (p0.length : Int)), (r v5), ⟨[], rfl, lnil _⟩, trivial⟩, by kernel_rfl, ⟨rfl, trivial⟩⟩⟩
      by_cases h3 : p1 ≤ r2
      · rw [if_pos h3] at h
        refine to_done mixed ⟨[(.leq, (.v 5), (.v 3), true), (.geq, (.v 6), (.v 1), true)], [], [(0, 2, (.v 0)), (1, 2, (.v 4))], [⟨85, 3, [some (0, 0)], [.gs 0 0 (.v 0) 2 false, (ys 1)], [some (.rows 0 [] 32 true)], [(ns 0 0), (ns 5 1), .lst 0 (some 0) []], 1, (ys 0), [none], (ys 6), [], []⟩], [], []⟩ (V := (vals [(p0.length : Int), p1, p2, p3, (v4.length : Int), v5, r2] [(p0.flatMap enII), (v4.flatMap enII)])) (n := 3000) (f := 3000) (V' := (vals [(p0.length : Int), p1, p2, p3, (v4.length : Int), (IntKind.wrap .i64 (v5 + (1 : Int)))] [(p0.flatMap enII), (v4.flatMap enII)])) ⟨⟨leq_t h1, geq_t h3, trivial⟩, trivial, ⟨flat_length enII_len _, flat_length enII_len _, trivial⟩, trivial, trivial⟩ ⟨Kr2 _ _, trivial⟩ (T := ⟨[(0, .gs 0 0 (.v 0) 2 false), (2, (ys 1)), (4, .ptr 1 0), (7, .gs 2 0 (.v 4) 2 true), (8, (ys 5))], [some (.rows 0 [] 32 true), some (.cells [(ys 2), (ys 3)] 32 false), some (.rows 1 [] 32 false)], [some (0, 0), some (1, 0), some (2, 0)]⟩) (ce := .normal) (qs := [(ns 0 0), (ns 1 1), (ns 4 4), .num (.add .i64 (.v 5) (.c 1)) (.v 5), .lst 0 (some 0) [], (ns 2 2), (ns 3 3), .lst 1 (some 1) []]) hF hr (by kernel_rfl) ⟨(r (p0.length : Int)), (r p1), (r (v4.length : Int)), (r (IntKind.wrap .i64 (v5 + (1 : Int)))), ⟨[], rfl, lnil _⟩, (r p2), (r p3), ⟨[], rfl, lnil _⟩, trivial⟩ (at_re (V' := (vals [(p0.length : Int), p1, p2, p3, (v4.length : Int), v5, r2] [(p0.flatMap enII), (v4.flatMap enII)])) (T := ⟨[(0, .gs 0 0 (.v 0) 2 false), (2, (ys 1)), (4, .ptr 1 0), (7, .gs 2 0 (.v 4) 2 true), (8, (ys 5))], [some (.rows 0 [] 32 true), some (.cells [(ys 2), (ys 3)] 32 false), some (.rows 1 [] 32 false)], [some (0, 0), some (1, 0), some (2, 0)]⟩) (qs := [(ns 0 0), (ns 1 1), (ns 4 4), (ns 5 5), .lst 0 (some 0) [], (ns 2 2), (ns 3 3), .lst 1 (some 1) []]) hat (by kernel_rfl) ⟨rfl, rfl, rfl, rfl, ⟨[], rfl, lnil _⟩, rfl, rfl, ⟨[], rfl, lnil _⟩, trivial⟩) fun a' w' hat' => ?_
        exact r9_Gaps_L1_ok fu p0 p1 p2 p3 n v4 (IntKind.wrap .i64 (v5 + (1 : Int))) o h _ _ _ _ _ _ _ hF hr hat' hx0
      · rw [if_neg h3] at h
        by_cases h4 : (0 : Int) < (v4.length : Int)
        · rw [if_pos h4] at h
          by_cases h5 : (0 : Int) ≤ (IntKind.wrap .i64 ((v4.length : Int) - (1 : Int)))
          · rw [if_pos h5] at h
            by_cases h6 : (IntKind.wrap .i64 ((v4.length : Int) - (1 : Int))) < (v4.length : Int)
            · rw [if_pos h6] at h
              obtain ⟨e7, he7, h⟩ := Option.bind_eq_some_iff.1 h
              by_cases h8 : e7.2 = (IntKind.wrap .i64 (v5 - (1 : Int)))
              · rw [if_pos h8] at h
                obtain ⟨e9, he9, h⟩ := Option.bind_eq_some_iff.1 h
                refine to_done mixed ⟨[(.leq, (.v 5), (.v 3), true), (.geq, (.v 6), (.v 1), false), (.gtr, (.v 4), (.c 0), true), (.leq, (.c 0), (.sub .i64 (.v 4) (.c 1)), true), (.lss, (.sub .i64 (.v 4) (.c 1)), (.v 4), true), (.eql, (.v 8), (.sub .i64 (.v 5) (.c 1)), true)], [(1, 0, (.sub .i64 (.v 4) (.c 1)), [(ys 7), (ys 8)])], [(0, 2, (.v 0)), (1, 2, (.v 4)), (2, 2, (.v 4))], [⟨85, 3, [some (0, 0)], [.gs 0 0 (.v 0) 2 false, (ys 1)], [some (.rows 0 [] 32 true)], [(ns 0 0), (ns 5 1), .lst 0 (some 0) []], 1, (ys 0), [none], (ys 6), [], []⟩], [⟨1, 0, (.sub .i64 (.v 4) (.c 1)), 2, 1, [(ys 5)], 2⟩], []⟩ (V := (vals [(p0.length : Int), p1, p2, p3, (v4.length : Int), v5, r2, e7.1, e7.2] [(p0.flatMap enII), (v4.flatMap enII), ((v4.set (0 + ((IntKind.wrap .i64 ((v4.length : Int) - (1 : Int)))).toNat) (e9.1, v5)).flatMap enII)])) (n := 3000) (f := 3000) (V' := (vals [(p0.length : Int), p1, p2, p3, ((v4.set (0 + ((IntKind.wrap .i64 ((v4.length : Int) - (1 : Int)))).toNat) (e9.1, v5)).length : Int), (IntKind.wrap .i64 (v5 + (1 : Int)))] [(p0.flatMap enII), ((v4.set (0 + ((IntKind.wrap .i64 ((v4.length : Int) - (1 : Int)))).toNat) (e9.1, v5)).flatMap enII)])) ⟨⟨leq_t h1, geq_f h3, gtr_t h4, leq_t h5, lss_t h6, eql_t h8, trivial⟩, ⟨⟨h5, _, rfl, flat_row enII_len he7⟩, trivial⟩, ⟨flat_length enII_len _, flat_length enII_len _, flat_set_len enII_len (0 + ((IntKind.wrap .i64 ((v4.length : Int) - (1 : Int)))).toNat) (e9.1, v5) (flat_length enII_len _), trivial⟩, ⟨⟨h5, _, rfl, flat_upd enII_len (d := 1) (n := 1) rfl (by decide) rfl he9⟩, trivial⟩, trivial⟩ ⟨Kr2 _ _, trivial⟩ (T := ⟨[(0, .gs 0 0 (.v 0) 2 false), (2, (ys 1)), (4, .ptr 1 0), (7, .gs 2 0 (.v 4) 2 true), (8, (ys 5))], [some (.rows 0 [] 32 true), some (.cells [(ys 2), (ys 3)] 32 false), some (.rows 1 [] 32 false)], [some (0, 0), some (1, 0), some (2, 0)]⟩) (ce := .normal) (qs := [(ns 0 0), (ns 1 1), (ns 4 4), .num (.add .i64 (.v 5) (.c 1)) (.v 5), .lst 0 (some 0) [], (ns 2 2), (ns 3 3), .lst 1 (some 2) []]) hF hr (by kernel_rfl) ⟨(r (p0.length : Int)), (r p1), (show (v4.length : Int) = ((v4.set (0 + ((IntKind.wrap .i64 ((v4.length : Int) - (1 : Int)))).toNat) (e9.1, v5)).length : Int) by first | rfl | (simp only [List.length_set]; done) | (simp only [List.length_set, List.length_replicate, List.length_append, List.length_cons, List.length_nil]; omega)), (r (IntKind.wrap .i64 (v5 + (1 : Int)))), ⟨[], rfl, lnil _⟩, (r p2), (r p3), ⟨[], rfl, lnil _⟩, trivial⟩ (at_re (V' := (vals [(p0.length : Int), p1, p2, p3, (v4.length : Int), v5, r2, e7.1, e7.2] [(p0.flatMap enII), (v4.flatMap enII), ((v4.set (0 + ((IntKind.wrap .i64 ((v4.length : Int) - (1 : Int)))).toNat) (e9.1, v5)).flatMap enII)])) (T := ⟨[(0, .gs 0 0 (.v 0) 2 false), (2, (ys 1)), (4, .ptr 1 0), (7, .gs 2 0 (.v 4) 2 true), (8, (ys 5))], [some (.rows 0 [] 32 true), some (.cells [(ys 2), (ys 3)] 32 false), some (.rows 1 [] 32 false)], [some (0, 0), some (1, 0), some (2, 0)]⟩) (qs := [(ns 0 0), (ns 1 1), (ns 4 4), (ns 5 5), .lst 0 (some 0) [], (ns 2 2), (ns 3 3), .lst 1 (some 1) []]) hat (by kernel_rfl) ⟨rfl, rfl, rfl, rfl, ⟨[], rfl, lnil _⟩, rfl, rfl, ⟨[], rfl, lnil _⟩, trivial⟩) fun a' w' hat' => ?_
                exact r9_Gaps_L1_ok fu p0 p1 p2 p3 n (v4.set (0 + ((IntKind.wrap .i64 ((v4.length : Int) - (1 : Int)))).toNat) (e9.1, v5)) (IntKind.wrap .i64 (v5 + (1 : Int))) o h _ _ _ _ _ _ _ hF hr hat' hx0
              · rw [if_neg h8] at h
                by_cases h10 : (v4.length : Int) < (65536 : Int)
                · rw [if_pos h10] at h
                  refine to_done mixed ⟨[(.leq, (.v 5), (.v 3), true), (.geq, (.v 6), (.v 1), false), (.gtr, (.v 4), (.c 0), true), (.leq, (.c 0), (.sub .i64 (.v 4) (.c 1)), true), (.lss, (.sub .i64 (.v 4) (.c 1)), (.v 4), true), (.eql, (.v 8), (.sub .i64 (.v 5) (.c 1)), false), (.lss, (.v 4), (.c 65536), true)], [(1, 0, (.sub .i64 (.v 4) (.c 1)), [(ys 7), (ys 8)])], [(0, 2, (.v 0)), (1, 2, (.v 4))], [⟨85, 3, [some (0, 0)], [.gs 0 0 (.v 0) 2 false, (ys 1)], [some (.rows 0 [] 32 true)], [(ns 0 0), (ns 5 1), .lst 0 (some 0) []], 1, (ys 0), [none], (ys 6), [], []⟩], [], []⟩ (V := (vals [(p0.length : Int), p1, p2, p3, (v4.length : Int), v5, r2, e7.1, e7.2] [(p0.flatMap enII), (v4.flatMap enII)])) (n := 3000) (f := 3000) (V' := (vals [(p0.length : Int), p1, p2, p3, ((v4 ++ [(v5, v5)]).length : Int), (IntKind.wrap .i64 (v5 + (1 : Int)))] [(p0.flatMap enII), ((v4 ++ [(v5, v5)]).flatMap enII)])) ⟨⟨leq_t h1, geq_f h3, gtr_t h4, leq_t h5, lss_t h6, eql_f h8, lss_t h10, trivial⟩, ⟨⟨h5, _, rfl, flat_row enII_len he7⟩, trivial⟩, ⟨flat_length enII_len _, flat_length enII_len _, trivial⟩, trivial, trivial⟩ ⟨Kr2 _ _, trivial⟩ (T := ⟨[(0, .gs 0 0 (.v 0) 2 false), (2, (ys 1)), (4, .ptr 1 0), (7, .gs 2 0 (.v 4) 2 true), (8, (ys 5))], [some (.rows 0 [] 32 true), some (.cells [(ys 2), (ys 3)] 32 false), some (.rows 1 [] 32 false)], [some (0, 0), some (1, 0), some (4, 0)]⟩) (ce := .normal) (qs := [(ns 0 0), (ns 1 1), .num (.add .i64 (.v 4) (.c 1)) (.v 4), .num (.add .i64 (.v 5) (.c 1)) (.v 5), .lst 0 (some 0) [], (ns 2 2), (ns 3 3), .lst 1 (some 1) [(ys 5), (ys 5)]]) hF hr (by kernel_rfl) ⟨(r (p0.length : Int)), (r p1), (show (IntKind.wrap .i64 ((v4.length : Int) + (1 : Int))) = ((v4 ++ [(v5, v5)]).length : Int) by first | rfl | (simp only [List.length_append, List.length_cons, List.length_nil]; rw [IntKind.wrap_i64]; omega)), (r (IntKind.wrap .i64 (v5 + (1 : Int)))), ⟨[], rfl, lnil _⟩, (r p2), (r p3), ⟨_, rfl, List.flatMap_append⟩, trivial⟩ (at_re (V' := (vals [(p0.length : Int), p1, p2, p3, (v4.length : Int), v5, r2, e7.1, e7.2] [(p0.flatMap enII), (v4.flatMap enII)])) (T := ⟨[(0, .gs 0 0 (.v 0) 2 false), (2, (ys 1)), (4, .ptr 1 0), (7, .gs 2 0 (.v 4) 2 true), (8, (ys 5))], [some (.rows 0 [] 32 true), some (.cells [(ys 2), (ys 3)] 32 false), some (.rows 1 [] 32 false)], [some (0, 0), some (1, 0), some (2, 0)]⟩) (qs := [(ns 0 0), (ns 1 1), (ns 4 4), (ns 5 5), .lst 0 (some 0) [], (ns 2 2), (ns 3 3), .lst 1 (some 1) []]) hat (by kernel_rfl) ⟨rfl, rfl, rfl, rfl, ⟨[], rfl, lnil _⟩, rfl, rfl, ⟨[], rfl, lnil _⟩, trivial⟩) fun a' w' hat' => ?_
                  exact r9_Gaps_L1_ok fu p0 p1 p2 p3 n (v4 ++ [(v5, v5)]) (IntKind.wrap .i64 (v5 + (1 : Int))) o h _ _ _ _ _ _ _ hF hr hat' hx0
                · rw [if_neg h10] at h
                  cases h
            · rw [if_neg h6] at h
              cases h
          · rw [if_neg h5] at h
            cases h
        · rw [if_neg h4] at h
          by_cases h11 : (v4.length : Int) < (65536 : Int)
          · rw [if_pos h11] at h
            refine to_done mixed ⟨[(.leq, (.v 5), (.v 3), true), (.geq, (.v 6), (.v 1), false), (.gtr, (.v 4), (.c 0), false), (.lss, (.v 4), (.c 65536), true)], [], [(0, 2, (.v 0)), (1, 2, (.v 4))], [⟨85, 3, [some (0, 0)], [.gs 0 0 (.v 0) 2 false, (ys 1)], [some (.rows 0 [] 32 true)], [(ns 0 0), (ns 5 1), .lst 0 (some 0) []], 1, (ys 0), [none], (ys 6), [], []⟩], [], []⟩ (V := (vals [(p0.length : Int), p1, p2, p3, (v4.length : Int), v5, r2] [(p0.flatMap enII), (v4.flatMap enII)])) (n := 3000) (f := 3000) (V' := (vals [(p0.length : Int), p1, p2, p3, ((v4 ++ [(v5, v5)]).length : Int), (IntKind.wrap .i64 (v5 + (1 : Int)))] [(p0.flatMap enII), ((v4 ++ [(v5, v5)]).flatMap enII)])) ⟨⟨leq_t h1, geq_f h3, gtr_f h4, lss_t h11, trivial⟩, trivial, ⟨flat_length enII_len _, flat_length enII_len _, trivial⟩, trivial, trivial⟩ ⟨Kr2 _ _, trivial⟩ (T := ⟨[(0, .gs 0 0 (.v 0) 2 false), (2, (ys 1)), (4, .ptr 1 0), (7, .gs 2 0 (.v 4) 2 true), (8, (ys 5))], [some (.rows 0 [] 32 true), some (.cells [(ys 2), (ys 3)] 32 false), some (.rows 1 [] 32 false)], [some (0, 0), some (1, 0), some (4, 0)]⟩) (ce := .normal) (qs := [(ns 0 0), (ns 1 1), .num (.add .i64 (.v 4) (.c 1)) (.v 4), .num (.add .i64 (.v 5) (.c 1)) (.v 5), .lst 0 (some 0) [], (ns 2 2), (ns 3 3), .lst 1 (some 1) [(ys 5), (ys 5)]]) hF hr (by kernel_rfl) ⟨(r (p0.length : Int)), (r p1), (show (IntKind.wrap .i64 ((v4.length : Int) + (1 : Int))) = ((v4 ++ [(v5, v5)]).length : Int) by first | rfl | (simp only [List.length_append, List.length_cons, List.length_nil]; rw [IntKind.wrap_i64]; omega)), (r (IntKind.wrap .i64 (v5 + (1 : Int)))), ⟨[], rfl, lnil _⟩, (r p2), (r p3), ⟨_, rfl, List.flatMap_append⟩, trivial⟩ (at_re (V' := (vals [(p0.length : Int), p1, p2, p3, (v4.length : Int), v5, r2] [(p0.flatMap enII), (v4.flatMap enII)])) (T := ⟨[(0, .gs 0 0 (.v 0) 2 false), (2, (ys 1)), (4, .ptr 1 0), (7, .gs 2 0 (.v 4) 2 true), (8, (ys 5))], [some (.rows 0 [] 32 true), some (.cells [(ys 2), (ys 3)] 32 false), some (.rows 1 [] 32 false)], [some (0, 0), some (1, 0), some (2, 0)]⟩) (qs := [(ns 0 0), (ns 1 1), (ns 4 4), (ns 5 5), .lst 0 (some 0) [], (ns 2 2), (ns 3 3), .lst 1 (some 1) []]) hat (by kernel_rfl) ⟨rfl, rfl, rfl, rfl, ⟨[], rfl, lnil _⟩, rfl, rfl, ⟨[], rfl, lnil _⟩, trivial⟩) fun a' w' hat' => ?_
            exact r9_Gaps_L1_ok fu p0 p1 p2 p3 n (v4 ++ [(v5, v5)]) (IntKind.wrap .i64 (v5 + (1 : Int))) o h _ _ _ _ _ _ _ hF hr hat' hx0
          · rw [if_neg h11] at h
            cases h
    · rw [if_neg h1] at h
      injection h with h; subst h
      exact to_done mixed ⟨[(.leq, (.v 5), (.v 3), false)], [], [(0, 2, (.v 0)), (1, 2, (.v 4))], [], [], []⟩ (V := (vals [(p0.length : Int), p1, p2, p3, (v4.length : Int), v5] [(p0.flatMap enII), (v4.flatMap enII)])) (n := 3000) (f := 3000) (V' := (vals [(p0.length : Int), (v4.length : Int)] [(p0.flatMap enII), (v4.flatMap enII)])) ⟨⟨leq_f h1, trivial⟩, trivial, ⟨flat_length enII_len _, flat_length enII_len _, trivial⟩, trivial, trivial⟩ trivial (T := ⟨[(7, .gs 1 0 (.v 1) 2 true)], [some (.rows 0 [] 32 true), some (.rows 1 [] 32 false)], [some (0, 0), some (2, 0)]⟩) (ce := (.exit 0)) (qs := [(ns 4 1), .lst 0 (some 0) [], .lst 1 (some 1) []]) hF hr (by kernel_rfl) ⟨(r (v4.length : Int)), ⟨[], rfl, lnil _⟩, ⟨[], rfl, lnil _⟩, trivial⟩ hat fun a' w' hat' => hx0 v4 rfl a' w' hat'
def r9_Gaps (fu : Nat) (a0 : List (Int × Int)) (a1_0 : Int) (a1_1 : Int) (a2 : Int) : Option (List (Int × Int)) := Option.bind (r9_Gaps_L1 fu a0 a2 a1_0 a1_1 fu ([] : List (Int × Int)) a1_0) fun o1 => some o1
theorem r9_Gaps_ok (fu : Nat) (a0 : List (Int × Int)) (a1_0 : Int) (a1_1 : Int) (a2 : Int) (y : List (Int × Int)) (h : r9_Gaps fu a0 a1_0 a1_1 a2 = some y) : CallOk Tryz.prog 36 (vals [(a0.length : Int), a1_0, a1_1, a2] [(a0.flatMap enII)]) [.gs 0 0 (.v 0) 2 false, .agg [(ys 1), (ys 2)], (ys 3)] [some (.rows 0 [] 32 true)] 1 (vals [(y.length : Int)] [(y.flatMap enII)]) (.gs 1 0 (.v 0) 2 true) [none, some (.rows 0 [] 32 false)] := by
  refine fun_of (nt := 51) (by kernel_rfl) (by kernel_rfl) fun φ0 w0 a w hat => ?_
  have hF := wide_fw
  have hr : Fence.wide.round = none := rfl
  unfold r9_Gaps at h
  obtain ⟨o1, ho1, h⟩ := Option.bind_eq_some_iff.1 h
  refine to_loop mixed ⟨[], [], [(0, 2, (.v 0))], [], [], []⟩ (V := (vals [(a0.length : Int), a1_0, a1_1, a2] [(a0.flatMap enII)])) (n := 3000) (f := 3000) (V' := (vals [(a0.length : Int), a2, a1_0, a1_1, (([] : List (Int × Int)).length : Int), a1_0] [(a0.flatMap enII), (([] : List (Int × Int)).flatMap enII)])) ⟨trivial, trivial, ⟨flat_length enII_len _, trivial⟩, trivial, trivial⟩ trivial (T := ⟨[(0, .gs 0 0 (.v 0) 2 false), (2, (ys 1)), (4, .ptr 1 0), (7, .gs 2 0 (.v 4) 2 true), (8, (ys 5))], [some (.rows 0 [] 32 true), some (.cells [(ys 2), (ys 3)] 32 false), some (.rows 1 [] 32 false)], [some (0, 0), some (1, 0), none]⟩) (B := subAt (bodyOf Tryz.prog 36) [1, 1, 0, 1, 0, 0]) (K' := [.bk 0, .sq (subAt (bodyOf Tryz.prog 36) [1, 1, 1]) [1, 1, 1]]) (qs := [(ns 0 0), (ns 3 1), .num (.c 0) (.v 4), (ns 1 5), .lst 0 (some 0) [], (ns 1 2), (ns 2 3)]) hF hr (by kernel_rfl) ⟨(r (a0.length : Int)), (r a2), rfl, (r a1_0), ⟨[], rfl, lnil _⟩, (r a1_0), (r a1_1), trivial⟩ hat fun aa1 ww1 hat1 => loop_in (r9_Gaps_L1_ok fu a0 a2 a1_0 a1_1 fu ([] : List (Int × Int)) a1_0 o1 ho1 _ _ _ _ _ _ _ hF hr hat1 ?_)
  · intro yy hy aa2 ww2 hat
    subst hy
    show (Wk.out (.exit 0)).goal _ _ _ [.bk 0, .sq (subAt (bodyOf Tryz.prog 36) [1, 1, 1]) [1, 1, 1]] _ aa2 ww2
    injection h with h; subst h
    exact to_fin mixed ⟨[], [], [(0, 2, (.v 0)), (1, 2, (.v 1))], [], [], []⟩ (V := (vals [(a0.length : Int), (o1.length : Int)] [(a0.flatMap enII), (o1.flatMap enII)])) (n := 3000) (f := 3000) ⟨trivial, trivial, ⟨flat_length enII_len _, flat_length enII_len _, trivial⟩, trivial, trivial⟩ trivial (R := ⟨.gs 1 0 (.v 0) 2 true, [none, some (.rows 0 [] 32 false)], [some (0, 0), some (1, 0)]⟩) (qs := [(ns 1 0), .lst 0 (some 1) []]) hF hr (by kernel_rfl) ⟨(r (o1.length : Int)), ⟨[], rfl, lnil _⟩, trivial⟩ hat
def b_CopyRanges (a0 : List (Int × Int)) : Option (List (Int × Int)) := if (a0.length : Int) < (65536 : Int) then (some a0) else none
theorem b_CopyRanges_ok (a0 : List (Int × Int)) (y : List (Int × Int)) (h : b_CopyRanges a0 = some y) : CallOk Tryz.prog 34 (vals [(a0.length : Int)] [(a0.flatMap enII)]) [.gs 0 0 (.v 0) 2 false] [some (.rows 0 [] 32 true)] 1 (vals [(y.length : Int)] [(y.flatMap enII)]) (.gs 1 0 (.v 0) 2 true) [none, some (.rows 0 [] 32 false)] := by
  refine fun_of (nt := 6) (by kernel_rfl) (by kernel_rfl) fun φ0 w0 a w hat => ?_
  have hF := wide_fw
  have hr : Fence.wide.round = none := rfl
  unfold b_CopyRanges at h
  by_cases h1 : (a0.length : Int) < (65536 : Int)
  · rw [if_pos h1] at h
    injection h with h; subst h
    exact to_fin mixed ⟨[(.lss, (.v 0), (.c 65536), true)], [], [(0, 2, (.v 0))], [], [], []⟩ (V := (vals [(a0.length : Int)] [(a0.flatMap enII)])) (n := 3000) (f := 3000) ⟨⟨lss_t h1, trivial⟩, trivial, ⟨flat_length enII_len _, trivial⟩, trivial, trivial⟩ trivial (R := ⟨.gs 1 0 (.v 0) 2 true, [none, some (.rows 0 [] 32 false)], [some (0, 0), some (1, 0)]⟩) (qs := [(ns 0 0), .lst 0 (some 0) []]) hF hr (by kernel_rfl) ⟨(r (a0.length : Int)), ⟨[], rfl, lnil _⟩, trivial⟩ hat
  · rw [if_neg h1] at h
    cases h
def b_Ranges_L1 (fu : Nat) (p0 : List (Int × Int)) (p1 : List (Int × Int)) : Nat → Int → Option ((Unit) ⊕ (Unit))
  | 0, _ => none
  | n + 1, v2 => if v2 < (p0.length : Int) then (if (0 : Int) ≤ v2 then (Option.bind ((p0)[0 + (v2).toNat]?) fun e3 => if v2 < (p1.length : Int) then (Option.bind ((p1)[0 + (v2).toNat]?) fun e5 => if e3.1 = e5.1 then (if e3.2 = e5.2 then (b_Ranges_L1 fu p0 p1 n (IntKind.wrap .i64 (v2 + (1 : Int)))) else (some (.inl ()))) else (some (.inl ()))) else none) else none) else (some (.inr ()))
theorem b_Ranges_L1_ok (fu : Nat) (p0 : List (Int × Int)) (p1 : List (Int × Int)) : ∀ (n : Nat) (v2 : Int) (o : (Unit) ⊕ (Unit)), b_Ranges_L1 fu p0 p1 n v2 = some o → ∀ (φ0 : Phi) (w0 : World) (F : Fence) (k : Nat) (R : Exit → Act → World → Prop) (a : Act) (w : World), FW F → F.round = none → AtS (vals [(p0.length : Int), (p1.length : Int), v2] [(p0.flatMap enII), (p1.flatMap enII)]) [(0, .gs 0 0 (.v 0) 2 false), (1, .gs 1 0 (.v 1) 2 false), (5, (ys 2))] [some (.rows 0 [] 32 true), some (.rows 1 [] 32 true)] 26 2 2 φ0 w0 a w → (∀ (y : Unit), o = .inl y → ∀ a' w', AtS (vals [(p0.length : Int), (p1.length : Int)] [(p0.flatMap enII), (p1.flatMap enII)]) [(4, .bool false)] [some (.rows 0 [] 32 true), some (.rows 1 [] 32 true)] 26 2 2 φ0 w0 a' w' → R Exit.ret a' w') → (∀ (y : Unit), o = .inr y → ∀ a' w', AtS (vals [(p0.length : Int), (p1.length : Int)] [(p0.flatMap enII), (p1.flatMap enII)]) [] [some (.rows 0 [] 32 true), some (.rows 1 [] 32 true)] 26 2 2 φ0 w0 a' w' → R (Exit.exit 0) a' w') → Code.roundsIn F k Tryz.prog (subAt (bodyOf Tryz.prog 27) [1, 1, 0, 1, 0, 0]) R n a w
  | 0, _, _, h => by cases h
  | n + 1, v2, o, h => by
    intro φ0 w0 F k R a w hF hr hat hx0 hx1
    rw [b_Ranges_L1] at h
    refine rounds_in (p := [1, 1, 0, 1, 0, 0]) ?_
    by_cases h1 : v2 < (p0.length : Int)
    · rw [if_pos h1] at h
      by_cases h2 : (0 : Int) ≤ v2
      · rw [if_pos h2] at h
        obtain ⟨e3, he3, h⟩ := Option.bind_eq_some_iff.1 h
        by_cases h4 : v2 < (p1.length : Int)
        · rw [if_pos h4] at h
          obtain ⟨e5, he5, h⟩ := Option.bind_eq_some_iff.1 h
          by_cases h6 : e3.1 = e5.1
          · rw [if_pos h6] at h
            by_cases h7 : e3.2 = e5.2
            · rw [if_pos h7] at h
              refine to_done mixed ⟨[(.lss, (.v 2), (.v 0), true), (.leq, (.c 0), (.v 2), true), (.lss, (.v 2), (.v 1), true), (.eql, (.v 3), (.v 5), true), (.eql, (.v 4), (.v 6), true)], [(0, 0, (.v 2), [(ys 3), (ys 4)]), (1, 0, (.v 2), [(ys 5), (ys 6)])], [(0, 2, (.v 0)), (1, 2, (.v 1))], [], [], []⟩ (V := (vals [(p0.length : Int), (p1.length : Int), v2, e3.1, e3.2, e5.1, e5.2] [(p0.flatMap enII), (p1.flatMap enII)])) (n := 3000) (f := 3000) (V' := (vals [(p0.length : Int), (p1.length : Int), (IntKind.wrap .i64 (v2 + (1 : Int)))] [(p0.flatMap enII), (p1.flatMap enII)])) ⟨⟨lss_t h1, leq_t h2, lss_t h4, eql_t h6, eql_t h7, trivial⟩, ⟨⟨h2, _, rfl, flat_row enII_len he3⟩, ⟨h2, _, rfl, flat_row enII_len he5⟩, trivial⟩, ⟨flat_length enII_len _, flat_length enII_len _, trivial⟩, trivial, trivial⟩ trivial (T := ⟨[(0, .gs 0 0 (.v 0) 2 false), (1, .gs 1 0 (.v 1) 2 false), (5, (ys 2))], [some (.rows 0 [] 32 true), some (.rows 1 [] 32 true)], [some (0, 0), some (1, 0)]⟩) (ce := .normal) (qs := [(ns 0 0), (ns 1 1), .num (.add .i64 (.v 2) (.c 1)) (.v 2), .lst 0 (some 0) [], .lst 1 (some 1) []]) hF hr (by kernel_rfl) ⟨(r (p0.length : Int)), (r (p1.length : Int)), (r (IntKind.wrap .i64 (v2 + (1 : Int)))), ⟨[], rfl, lnil _⟩, ⟨[], rfl, lnil _⟩, trivial⟩ (at_re (V' := (vals [(p0.length : Int), (p1.length : Int), v2, e3.1, e3.2, e5.1, e5.2] [(p0.flatMap enII), (p1.flatMap enII)])) (T := ⟨[(0, .gs 0 0 (.v 0) 2 false), (1, .gs 1 0 (.v 1) 2 false), (5, (ys 2))], [some (.rows 0 [] 32 true), some (.rows 1 [] 32 true)], [some (0, 0), some (1, 0)]⟩) (qs := [(ns 0 0), (ns 1 1), (ns 2 2), .lst 0 (some 0) [], .lst 1 (some 1) []]) hat (by kernel_rfl) ⟨rfl, rfl, rfl, ⟨[], rfl, lnil _⟩, ⟨[], rfl, lnil _⟩, trivial⟩) fun a' w' hat' => ?_
              exact b_Ranges_L1_ok fu p0 p1 n (IntKind.wrap .i64 (v2 + (1 : Int))) o h _ _ _ _ _ _ _ hF hr hat' hx0 hx1
            · rw [if_neg h7] at h
              injection h with h; subst h
              exact to_done mixed ⟨[(.lss, (.v 2), (.v 0), true), (.leq, (.c 0), (.v 2), true), (.lss, (.v 2), (.v 1), true), (.eql, (.v 3), (.v 5), true), (.eql, (.v 4), (.v 6), false)], [(0, 0, (.v 2), [(ys 3), (ys 4)]), (1, 0, (.v 2), [(ys 5), (ys 6)])], [(0, 2, (.v 0)), (1, 2, (.v 1))], [], [], []⟩ (V := (vals [(p0.length : Int), (p1.length : Int), v2, e3.1, e3.2, e5.1, e5.2] [(p0.flatMap enII), (p1.flatMap enII)])) (n := 3000) (f := 3000) (V' := (vals [(p0.length : Int), (p1.length : Int)] [(p0.flatMap enII), (p1.flatMap enII)])) ⟨⟨lss_t h1, leq_t h2, lss_t h4, eql_t h6, eql_f h7, trivial⟩, ⟨⟨h2, _, rfl, flat_row enII_len he3⟩, ⟨h2, _, rfl, flat_row enII_len he5⟩, trivial⟩, ⟨flat_length enII_len _, flat_length enII_len _, trivial⟩, trivial, trivial⟩ trivial (T := ⟨[(4, .bool false)], [some (.rows 0 [] 32 true), some (.rows 1 [] 32 true)], [some (0, 0), some (1, 0)]⟩) (ce := .ret) (qs := [.lst 0 (some 0) [], .lst 1 (some 1) []]) hF hr (by kernel_rfl) ⟨⟨[], rfl, lnil _⟩, ⟨[], rfl, lnil _⟩, trivial⟩ (at_re (V' := (vals [(p0.length : Int), (p1.length : Int), v2, e3.1, e3.2, e5.1, e5.2] [(p0.flatMap enII), (p1.flatMap enII)])) (T := ⟨[(0, .gs 0 0 (.v 0) 2 false), (1, .gs 1 0 (.v 1) 2 false), (5, (ys 2))], [some (.rows 0 [] 32 true), some (.rows 1 [] 32 true)], [some (0, 0), some (1, 0)]⟩) (qs := [(ns 0 0), (ns 1 1), (ns 2 2), .lst 0 (some 0) [], .lst 1 (some 1) []]) hat (by kernel_rfl) ⟨rfl, rfl, rfl, ⟨[], rfl, lnil _⟩, ⟨[], rfl, lnil _⟩, trivial⟩) fun a' w' hat' => hx0 () rfl a' w' hat'
          · rw [if_neg h6] at h
            injection h with h; subst h
            exact to_done mixed ⟨[(.lss, (.v 2), (.v 0), true), (.leq, (.c 0), (.v 2), true), (.lss, (.v 2), (.v 1), true), (.eql, (.v 3), (.v 5), false)], [(0, 0, (.v 2), [(ys 3), (ys 4)]), (1, 0, (.v 2), [(ys 5), (ys 6)])], [(0, 2, (.v 0)), (1, 2, (.v 1))], [], [], []⟩ (V := (vals [(p0.length : Int), (p1.length : Int), v2, e3.1, e3.2, e5.1, e5.2] [(p0.flatMap enII), (p1.flatMap enII)])) (n := 3000) (f := 3000) (V' := (vals [(p0.length : Int), (p1.length : Int)] [(p0.flatMap enII), (p1.flatMap enII)])) ⟨⟨lss_t h1, leq_t h2, lss_t h4, eql_f h6, trivial⟩, ⟨⟨h2, _, rfl, flat_row enII_len he3⟩, ⟨h2, _, rfl, flat_row enII_len he5⟩, trivial⟩, ⟨flat_length enII_len _, flat_length enII_len _, trivial⟩, trivial, trivial⟩ trivial (T := ⟨[(4, .bool false)], [some (.rows 0 [] 32 true), some (.rows 1 [] 32 true)], [some (0, 0), some (1, 0)]⟩) (ce := .ret) (qs := [.lst 0 (some 0) [], .lst 1 (some 1) []]) hF hr (by kernel_rfl) ⟨⟨[], rfl, lnil _⟩, ⟨[], rfl, lnil _⟩, trivial⟩ (at_re (V' := (vals [(p0.length : Int), (p1.length : Int), v2, e3.1, e3.2, e5.1, e5.2] [(p0.flatMap enII), (p1.flatMap enII)])) (T := ⟨[(0, .gs 0 0 (.v 0) 2 false), (1, .gs 1 0 (.v 1) 2 false), (5, (ys 2))], [some (.rows 0 [] 32 true), some (.rows 1 [] 32 true)], [some (0, 0), some (1, 0)]⟩) (qs := [(ns 0 0), (ns 1 1), (ns 2 2), .lst 0 (some 0) [], .lst 1 (some 1) []]) hat (by kernel_rfl) ⟨rfl, rfl, rfl, ⟨[], rfl, lnil _⟩, ⟨[], rfl, lnil _⟩, trivial⟩) fun a' w' hat' => hx0 () rfl a' w' hat'
        · rw [if_neg h4] at h
          cases h
      · rw [if_neg h2] at h
        cases h
    · rw [if_neg h1] at h
      injection h with h; subst h
      exact to_done mixed ⟨[(.lss, (.v 2), (.v 0), false)], [], [(0, 2, (.v 0)), (1, 2, (.v 1))], [], [], []⟩ (V := (vals [(p0.length : Int), (p1.length : Int), v2] [(p0.flatMap enII), (p1.flatMap enII)])) (n := 3000) (f := 3000) (V' := (vals [(p0.length : Int), (p1.length : Int)] [(p0.flatMap enII), (p1.flatMap enII)])) ⟨⟨lss_f h1, trivial⟩, trivial, ⟨flat_length enII_len _, flat_length enII_len _, trivial⟩, trivial, trivial⟩ trivial (T := ⟨[], [some (.rows 0 [] 32 true), some (.rows 1 [] 32 true)], [some (0, 0), some (1, 0)]⟩) (ce := (.exit 0)) (qs := [.lst 0 (some 0) [], .lst 1 (some 1) []]) hF hr (by kernel_rfl) ⟨⟨[], rfl, lnil _⟩, ⟨[], rfl, lnil _⟩, trivial⟩ hat fun a' w' hat' => hx1 () rfl a' w' hat'
def b_Ranges (fu : Nat) (a0 : List (Int × Int)) (a1 : List (Int × Int)) : Option (Bool) := if (a0.length : Int) = (a1.length : Int) then (Option.bind (b_Ranges_L1 fu a0 a1 fu (0 : Int)) fun o2 => (match o2 with | .inl y3 => (some false) | .inr y4 => (some true))) else (some false)
theorem b_Ranges_ok (fu : Nat) (a0 : List (Int × Int)) (a1 : List (Int × Int)) (y : Bool) (h : b_Ranges fu a0 a1 = some y) : CallOk Tryz.prog 27 (vals [(a0.length : Int), (a1.length : Int)] [(a0.flatMap enII), (a1.flatMap enII)]) [.gs 0 0 (.v 0) 2 false, .gs 1 0 (.v 1) 2 false] [some (.rows 0 [] 32 true), some (.rows 1 [] 32 true)] 2 (vals [bI y] []) (.bs (.v 0)) [none, none] := by
  refine fun_of (nt := 26) (by kernel_rfl) (by kernel_rfl) fun φ0 w0 a w hat => ?_
  have hF := wide_fw
  have hr : Fence.wide.round = none := rfl
  unfold b_Ranges at h
  by_cases h1 : (a0.length : Int) = (a1.length : Int)
  · rw [if_pos h1] at h
    obtain ⟨o2, ho2, h⟩ := Option.bind_eq_some_iff.1 h
    refine to_loop mixed ⟨[(.neq, (.v 0), (.v 1), false)], [], [(0, 2, (.v 0)), (1, 2, (.v 1))], [], [], []⟩ (V := (vals [(a0.length : Int), (a1.length : Int)] [(a0.flatMap enII), (a1.flatMap enII)])) (n := 3000) (f := 3000) (V' := (vals [(a0.length : Int), (a1.length : Int), (0 : Int)] [(a0.flatMap enII), (a1.flatMap enII)])) ⟨⟨neq_f h1, trivial⟩, trivial, ⟨flat_length enII_len _, flat_length enII_len _, trivial⟩, trivial, trivial⟩ trivial (T := ⟨[(0, .gs 0 0 (.v 0) 2 false), (1, .gs 1 0 (.v 1) 2 false), (5, (ys 2))], [some (.rows 0 [] 32 true), some (.rows 1 [] 32 true)], [some (0, 0), some (1, 0)]⟩) (B := subAt (bodyOf Tryz.prog 27) [1, 1, 0, 1, 0, 0]) (K' := [.bk 0, .sq (subAt (bodyOf Tryz.prog 27) [1, 1, 1]) [1, 1, 1]]) (qs := [(ns 0 0), (ns 1 1), .num (.c 0) (.v 2), .lst 0 (some 0) [], .lst 1 (some 1) []]) hF hr (by kernel_rfl) ⟨(r (a0.length : Int)), (r (a1.length : Int)), (r (0 : Int)), ⟨[], rfl, lnil _⟩, ⟨[], rfl, lnil _⟩, trivial⟩ hat fun aa1 ww1 hat1 => loop_in (b_Ranges_L1_ok fu a0 a1 fu (0 : Int) o2 ho2 _ _ _ _ _ _ _ hF hr hat1 ?_ ?_)
    · intro y3 hy aa2 ww2 hat
      subst hy
      dsimp only at h
      show (Wk.out .ret).goal _ _ _ [.bk 0, .sq (subAt (bodyOf Tryz.prog 27) [1, 1, 1]) [1, 1, 1]] _ aa2 ww2
      injection h with h; subst h
      exact to_fin mixed ⟨[], [], [(0, 2, (.v 0)), (1, 2, (.v 1))], [], [], []⟩ (V := (vals [(a0.length : Int), (a1.length : Int)] [(a0.flatMap enII), (a1.flatMap enII)])) (n := 3000) (f := 3000) ⟨trivial, trivial, ⟨flat_length enII_len _, flat_length enII_len _, trivial⟩, trivial, trivial⟩ trivial (R := ⟨.bs (.v 0), [none, none], [some (0, 0), some (1, 0)]⟩) (qs := [.num (.c 0) (.v 0)]) hF hr (by kernel_rfl) ⟨rfl, trivial⟩ hat
    · intro y4 hy aa2 ww2 hat
      subst hy
      dsimp only at h
      show (Wk.out (.exit 0)).goal _ _ _ [.bk 0, .sq (subAt (bodyOf Tryz.prog 27) [1, 1, 1]) [1, 1, 1]] _ aa2 ww2
      injection h with h; subst h
      exact to_fin mixed ⟨[], [], [(0, 2, (.v 0)), (1, 2, (.v 1))], [], [], []⟩ (V := (vals [(a0.length : Int), (a1.length : Int)] [(a0.flatMap enII), (a1.flatMap enII)])) (n := 3000) (f := 3000) ⟨trivial, trivial, ⟨flat_length enII_len _, flat_length enII_len _, trivial⟩, trivial, trivial⟩ trivial (R := ⟨.bs (.v 0), [none, none], [some (0, 0), some (1, 0)]⟩) (qs := [.num (.c 1) (.v 0)]) hF hr (by kernel_rfl) ⟨rfl, trivial⟩ hat
  · rw [if_neg h1] at h
    injection h with h; subst h
    exact to_fin mixed ⟨[(.neq, (.v 0), (.v 1), true)], [], [(0, 2, (.v 0)), (1, 2, (.v 1))], [], [], []⟩ (V := (vals [(a0.length : Int), (a1.length : Int)] [(a0.flatMap enII), (a1.flatMap enII)])) (n := 3000) (f := 3000) ⟨⟨neq_t h1, trivial⟩, trivial, ⟨flat_length enII_len _, flat_length enII_len _, trivial⟩, trivial, trivial⟩ trivial (R := ⟨.bs (.v 0), [none, none], [some (0, 0), some (1, 0)]⟩) (qs := [.num (.c 0) (.v 0)]) hF hr (by kernel_rfl) ⟨rfl, trivial⟩ hat
end Go.Proofs.YtidahkefillmeaaGreatDoor
