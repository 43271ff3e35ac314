/-
  Go functions as Lean functions (written by tools/lift.py).
-/
import Derived.Test.YtidahkefillmeaaGreatDoorZEd
import Derived.Test.YtidahkefillmeaaGreatDoorZEg
import Derived.Test.YtidahkefillmeaaGreatDoorZS9a
set_option linter.all false
namespace Go.Proofs.YtidahkefillmeaaGreatDoor
open Go Go.RowKit Cm
set_option maxRecDepth 100000
set_option maxHeartbeats 4000000
def b_Within (a0 : Int) (a1 : Int) (a2 : Int) : Option (Bool) := if a1 ≤ a0 then (if a0 ≤ a2 then (some true) else (some false)) else (some false)
theorem b_Within_ok (a0 : Int) (a1 : Int) (a2 : Int) (y : Bool) (h : b_Within a0 a1 a2 = some y) : CallOk Tryz.prog 17 (vals [a0, a1, a2] []) [(ys 0), (ys 1), (ys 2)] [] 0 (vals [bI y] []) (.bs (.v 0)) [] := by
  refine fun_of (nt := 15) (by kernel_rfl) (by kernel_rfl) fun φ0 w0 a w hat => ?_
  have hF := wide_fw
  have hr : Fence.wide.round = none := rfl
  unfold b_Within at h
  by_cases h1 : a1 ≤ a0
  · rw [if_pos h1] at h
    by_cases h2 : a0 ≤ a2
    · rw [if_pos h2] at h
      injection h with h; subst h
      exact to_fin mixed ⟨[(.leq, (.v 1), (.v 0), true), (.leq, (.v 0), (.v 2), true)], [], [], [], [], []⟩ (V := (vals [a0, a1, a2] [])) (n := 3000) (f := 3000) ⟨⟨leq_t h1, leq_t h2, trivial⟩, trivial, trivial, trivial, trivial⟩ trivial (R := ⟨.bs (.v 0), [], []⟩) (qs := [.num (.c 1) (.v 0)]) hF hr (by kernel_rfl) ⟨rfl, trivial⟩ hat
    · rw [if_neg h2] at h
      injection h with h; subst h
      exact to_fin mixed ⟨[(.leq, (.v 1), (.v 0), true), (.leq, (.v 0), (.v 2), false)], [], [], [], [], []⟩ (V := (vals [a0, a1, a2] [])) (n := 3000) (f := 3000) ⟨⟨leq_t h1, leq_f h2, trivial⟩, trivial, trivial, trivial, trivial⟩ trivial (R := ⟨.bs (.v 0), [], []⟩) (qs := [.num (.c 0) (.v 0)]) hF hr (by kernel_rfl) ⟨rfl, trivial⟩ hat
  · rw [if_neg h1] at h
    injection h with h; subst h
    exact to_fin mixed ⟨[(.leq, (.v 1), (.v 0), false)], [], [], [], [], []⟩ (V := (vals [a0, a1, a2] [])) (n := 3000) (f := 3000) ⟨⟨leq_f h1, trivial⟩, trivial, trivial, trivial, trivial⟩ trivial (R := ⟨.bs (.v 0), [], []⟩) (qs := [.num (.c 0) (.v 0)]) hF hr (by kernel_rfl) ⟨rfl, trivial⟩ hat
def r9_isAt (a0 : Int) : Option (Bool) := Option.bind (b_Within a0 (0 : Int) (100000 : Int)) fun r1 => if r1 = true then (some true) else (some false)
theorem r9_isAt_ok (a0 : Int) (y : Bool) (h : r9_isAt a0 = some y) : CallOk Tryz.prog 77 (vals [a0] []) [(ys 0)] [] 0 (vals [bI y] []) (.bs (.v 0)) [] := by
  refine fun_of (nt := 5) (by kernel_rfl) (by kernel_rfl) fun φ0 w0 a w hat => ?_
  have hF := wide_fw
  have hr : Fence.wide.round = none := rfl
  unfold r9_isAt at h
  obtain ⟨r1, hr1, h⟩ := Option.bind_eq_some_iff.1 h
  have Kr1 : KO Tryz.prog [a0, bI r1] [] ⟨17, 0, [], [(ys 0), (ys 1), (ys 2)], [], [(ns 0 0), .num (.c 0) (.v 1), .num (.c 100000) (.v 2)], 0, .bs (.v 0), [], .bs (.v 1), [], []⟩ := fun N M => ⟨_, _, [(ns 0 1)], ⟨b_Within_ok a0 (0 : Int) (100000 : Int) r1 hr1, ⟨(r a0), (r (0 : Int)), (r (100000 : Int)), trivial⟩, by kernel_rfl, ⟨rfl, trivial⟩⟩⟩
  by_cases h2 : r1 = true
  · rw [if_pos h2] at h
    injection h with h; subst h
    exact to_fin mixed ⟨[(.neq, (.v 1), (.c 0), true)], [], [], [⟨17, 0, [], [(ys 0), (ys 1), (ys 2)], [], [(ns 0 0), .num (.c 0) (.v 1), .num (.c 100000) (.v 2)], 0, .bs (.v 0), [], .bs (.v 1), [], []⟩], [], []⟩ (V := (vals [a0, bI r1] [])) (n := 3000) (f := 3000) ⟨⟨bi_t h2, trivial⟩, trivial, trivial, trivial, trivial⟩ ⟨Kr1 _ _, trivial⟩ (R := ⟨.bs (.v 0), [], []⟩) (qs := [.num (.c 1) (.v 0)]) hF hr (by kernel_rfl) ⟨rfl, trivial⟩ (at_re (V' := (vals [a0, bI r1] [])) (T := ⟨[(0, (ys 0))], [], []⟩) (qs := [(ns 0 0)]) hat (by kernel_rfl) ⟨rfl, trivial⟩)
  · rw [if_neg h2] at h
    injection h with h; subst h
    exact to_fin mixed ⟨[(.neq, (.v 1), (.c 0), false)], [], [], [⟨17, 0, [], [(ys 0), (ys 1), (ys 2)], [], [(ns 0 0), .num (.c 0) (.v 1), .num (.c 100000) (.v 2)], 0, .bs (.v 0), [], .bs (.v 1), [], []⟩], [], []⟩ (V := (vals [a0, bI r1] [])) (n := 3000) (f := 3000) ⟨⟨bi_f h2, trivial⟩, trivial, trivial, trivial, trivial⟩ ⟨Kr1 _ _, trivial⟩ (R := ⟨.bs (.v 0), [], []⟩) (qs := [.num (.c 0) (.v 0)]) hF hr (by kernel_rfl) ⟨rfl, trivial⟩ (at_re (V' := (vals [a0, bI r1] [])) (T := ⟨[(0, (ys 0))], [], []⟩) (qs := [(ns 0 0)]) hat (by kernel_rfl) ⟨rfl, trivial⟩)
def r9_isHeight (a0 : Int) : Option (Bool) := Option.bind (b_Within a0 (-10000 : Int) (10000 : Int)) fun r1 => if r1 = true then (some true) else (some false)
theorem r9_isHeight_ok (a0 : Int) (y : Bool) (h : r9_isHeight a0 = some y) : CallOk Tryz.prog 115 (vals [a0] []) [(ys 0)] [] 0 (vals [bI y] []) (.bs (.v 0)) [] := by
  refine fun_of (nt := 5) (by kernel_rfl) (by kernel_rfl) fun φ0 w0 a w hat => ?_
  have hF := wide_fw
  have hr : Fence.wide.round = none := rfl
  unfold r9_isHeight at h
  obtain ⟨r1, hr1, h⟩ := Option.bind_eq_some_iff.1 h
  have Kr1 : KO Tryz.prog [a0, bI r1] [] ⟨17, 0, [], [(ys 0), (ys 1), (ys 2)], [], [(ns 0 0), .num (.c (-10000)) (.v 1), .num (.c 10000) (.v 2)], 0, .bs (.v 0), [], .bs (.v 1), [], []⟩ := fun N M => ⟨_, _, [(ns 0 1)], ⟨b_Within_ok a0 (-10000 : Int) (10000 : Int) r1 hr1, ⟨(r a0), (show (-10000 : Int) = (-10000 : Int) from rfl), (r (10000 : Int)), trivial⟩, by kernel_rfl, ⟨rfl, trivial⟩⟩⟩
  by_cases h2 : r1 = true
  · rw [if_pos h2] at h
    injection h with h; subst h
    exact to_fin mixed ⟨[(.neq, (.v 1), (.c 0), true)], [], [], [⟨17, 0, [], [(ys 0), (ys 1), (ys 2)], [], [(ns 0 0), .num (.c (-10000)) (.v 1), .num (.c 10000) (.v 2)], 0, .bs (.v 0), [], .bs (.v 1), [], []⟩], [], []⟩ (V := (vals [a0, bI r1] [])) (n := 3000) (f := 3000) ⟨⟨bi_t h2, trivial⟩, trivial, trivial, trivial, trivial⟩ ⟨Kr1 _ _, trivial⟩ (R := ⟨.bs (.v 0), [], []⟩) (qs := [.num (.c 1) (.v 0)]) hF hr (by kernel_rfl) ⟨rfl, trivial⟩ (at_re (V' := (vals [a0, bI r1] [])) (T := ⟨[(0, (ys 0))], [], []⟩) (qs := [(ns 0 0)]) hat (by kernel_rfl) ⟨rfl, trivial⟩)
  · rw [if_neg h2] at h
    injection h with h; subst h
    exact to_fin mixed ⟨[(.neq, (.v 1), (.c 0), false)], [], [], [⟨17, 0, [], [(ys 0), (ys 1), (ys 2)], [], [(ns 0 0), .num (.c (-10000)) (.v 1), .num (.c 10000) (.v 2)], 0, .bs (.v 0), [], .bs (.v 1), [], []⟩], [], []⟩ (V := (vals [a0, bI r1] [])) (n := 3000) (f := 3000) ⟨⟨bi_f h2, trivial⟩, trivial, trivial, trivial, trivial⟩ ⟨Kr1 _ _, trivial⟩ (R := ⟨.bs (.v 0), [], []⟩) (qs := [.num (.c 0) (.v 0)]) hF hr (by kernel_rfl) ⟨rfl, trivial⟩ (at_re (V' := (vals [a0, bI r1] [])) (T := ⟨[(0, (ys 0))], [], []⟩) (qs := [(ns 0 0)]) hat (by kernel_rfl) ⟨rfl, trivial⟩)
def r9_HeightErr (a0_0 : Int) (a0_1 : Int) (a1_0 : Int) (a1_1 : Int) : Option (Int) := Option.bind (r9_isHeight a0_0) fun r1 => if r1 = true then (Option.bind (r9_isHeight a0_1) fun r3 => if r3 = true then (Option.bind (r9_isHeight a1_0) fun r5 => if r5 = true then (Option.bind (r9_isHeight a1_1) fun r7 => if r7 = true then (if a0_1 < a0_0 then (some (9 : Int)) else (if a1_1 < a1_0 then (some (9 : Int)) else (some (0 : Int)))) else (some (2 : Int))) else (some (2 : Int))) else (some (2 : Int))) else (some (2 : Int))
theorem r9_HeightErr_ok (a0_0 : Int) (a0_1 : Int) (a1_0 : Int) (a1_1 : Int) (y : Int) (h : r9_HeightErr a0_0 a0_1 a1_0 a1_1 = some y) : CallOk Tryz.prog 78 (vals [a0_0, a0_1, a1_0, a1_1] []) [.agg [(ys 0), (ys 1)], .agg [(ys 2), (ys 3)]] [] 0 (vals [y] []) ((ys 0)) [] := by
  refine fun_of (nt := 39) (by kernel_rfl) (by kernel_rfl) fun φ0 w0 a w hat => ?_
  have hF := wide_fw
  have hr : Fence.wide.round = none := rfl
  unfold r9_HeightErr at h
  obtain ⟨r1, hr1, h⟩ := Option.bind_eq_some_iff.1 h
  have Kr1 : KO Tryz.prog [a0_0, a0_1, a1_0, a1_1, bI r1] [] ⟨115, 2, [], [(ys 0)], [], [(ns 0 0)], 0, .bs (.v 0), [], .bs (.v 4), [], []⟩ := fun N M => ⟨_, _, [(ns 0 4)], ⟨r9_isHeight_ok a0_0 r1 hr1, ⟨(r a0_0), trivial⟩, by kernel_rfl, ⟨rfl, trivial⟩⟩⟩
  by_cases h2 : r1 = true
  · rw [if_pos h2] at h
    obtain ⟨r3, hr3, h⟩ := Option.bind_eq_some_iff.1 h
    have Kr3 : KO Tryz.prog [a0_0, a0_1, a1_0, a1_1, bI r1, bI r3] [] ⟨115, 2, [], [(ys 0)], [], [(ns 1 0)], 0, .bs (.v 0), [], .bs (.v 5), [], []⟩ := fun N M => ⟨_, _, [(ns 0 5)], ⟨r9_isHeight_ok a0_1 r3 hr3, ⟨(r a0_1), trivial⟩, by kernel_rfl, ⟨rfl, trivial⟩⟩⟩
    by_cases h4 : r3 = true
    · rw [if_pos h4] at h
      obtain ⟨r5, hr5, h⟩ := Option.bind_eq_some_iff.1 h
      have Kr5 : KO Tryz.prog [a0_0, a0_1, a1_0, a1_1, bI r1, bI r3, bI r5] [] ⟨115, 2, [], [(ys 0)], [], [(ns 2 0)], 0, .bs (.v 0), [], .bs (.v 6), [], []⟩ := fun N M => ⟨_, _, [(ns 0 6)], ⟨r9_isHeight_ok a1_0 r5 hr5, ⟨(r a1_0), trivial⟩, by kernel_rfl, ⟨rfl, trivial⟩⟩⟩
      by_cases h6 : r5 = true
      · rw [if_pos h6] at h
        obtain ⟨r7, hr7, h⟩ := Option.bind_eq_some_iff.1 h
        have Kr7 : KO Tryz.prog [a0_0, a0_1, a1_0, a1_1, bI r1, bI r3, bI r5, bI r7] [] ⟨115, 2, [], [(ys 0)], [], [(ns 3 0)], 0, .bs (.v 0), [], .bs (.v 7), [], []⟩ := fun N M => ⟨_, _, [(ns 0 7)], ⟨r9_isHeight_ok a1_1 r7 hr7, ⟨(r a1_1), trivial⟩, by kernel_rfl, ⟨rfl, trivial⟩⟩⟩
        by_cases h8 : r7 = true
        · rw [if_pos h8] at h
          by_cases h9 : a0_1 < a0_0
          · rw [if_pos h9] at h
            injection h with h; subst h
            exact to_fin mixed ⟨[(.neq, (.v 4), (.c 0), true), (.neq, (.v 5), (.c 0), true), (.neq, (.v 6), (.c 0), true), (.neq, (.v 7), (.c 0), true), (.gtr, (.v 0), (.v 1), true)], [], [], [⟨115, 2, [], [(ys 0)], [], [(ns 0 0)], 0, .bs (.v 0), [], .bs (.v 4), [], []⟩, ⟨115, 2, [], [(ys 0)], [], [(ns 1 0)], 0, .bs (.v 0), [], .bs (.v 5), [], []⟩, ⟨115, 2, [], [(ys 0)], [], [(ns 2 0)], 0, .bs (.v 0), [], .bs (.v 6), [], []⟩, ⟨115, 2, [], [(ys 0)], [], [(ns 3 0)], 0, .bs (.v 0), [], .bs (.v 7), [], []⟩], [], []⟩ (V := (vals [a0_0, a0_1, a1_0, a1_1, bI r1, bI r3, bI r5, bI r7] [])) (n := 3000) (f := 3000) ⟨⟨bi_t h2, bi_t h4, bi_t h6, bi_t h8, gtr_t h9, trivial⟩, trivial, trivial, trivial, trivial⟩ ⟨Kr1 _ _, Kr3 _ _, Kr5 _ _, Kr7 _ _, trivial⟩ (R := ⟨(ys 0), [], []⟩) (qs := [.num (.c 9) (.v 0)]) hF hr (by kernel_rfl) ⟨(r (9 : Int)), trivial⟩ (at_re (V' := (vals [a0_0, a0_1, a1_0, a1_1, bI r1, bI r3, bI r5, bI r7] [])) (T := ⟨[(0, .agg [(ys 0), (ys 1)]), (1, .agg [(ys 2), (ys 3)])], [], []⟩) (qs := [(ns 0 0), (ns 1 1), (ns 2 2), (ns 3 3)]) hat (by kernel_rfl) ⟨rfl, rfl, rfl, rfl, trivial⟩)
          · rw [if_neg h9] at h
            by_cases h10 : a1_1 < a1_0
            · rw [if_pos h10] at h
              injection h with h; subst h
              exact to_fin mixed ⟨[(.neq, (.v 4), (.c 0), true), (.neq, (.v 5), (.c 0), true), (.neq, (.v 6), (.c 0), true), (.neq, (.v 7), (.c 0), true), (.gtr, (.v 0), (.v 1), false), (.gtr, (.v 2), (.v 3), true)], [], [], [⟨115, 2, [], [(ys 0)], [], [(ns 0 0)], 0, .bs (.v 0), [], .bs (.v 4), [], []⟩, ⟨115, 2, [], [(ys 0)], [], [(ns 1 0)], 0, .bs (.v 0), [], .bs (.v 5), [], []⟩, ⟨115, 2, [], [(ys 0)], [], [(ns 2 0)], 0, .bs (.v 0), [], .bs (.v 6), [], []⟩, ⟨115, 2, [], [(ys 0)], [], [(ns 3 0)], 0, .bs (.v 0), [], .bs (.v 7), [], []⟩], [], []⟩ (V := (vals [a0_0, a0_1, a1_0, a1_1, bI r1, bI r3, bI r5, bI r7] [])) (n := 3000) (f := 3000) ⟨⟨bi_t h2, bi_t h4, bi_t h6, bi_t h8, gtr_f h9, gtr_t h10, trivial⟩, trivial, trivial, trivial, trivial⟩ ⟨Kr1 _ _, Kr3 _ _, Kr5 _ _, Kr7 _ _, trivial⟩ (R := ⟨(ys 0), [], []⟩) (qs := [.num (.c 9) (.v 0)]) hF hr (by kernel_rfl) ⟨(r (9 : Int)), trivial⟩ (at_re (V' := (vals [a0_0, a0_1, a1_0, a1_1, bI r1, bI r3, bI r5, bI r7] [])) (T := ⟨[(0, .agg [(ys 0), (ys 1)]), (1, .agg [(ys 2), (ys 3)])], [], []⟩) (qs := [(ns 0 0), (ns 1 1), (ns 2 2), (ns 3 3)]) hat (by kernel_rfl) ⟨rfl, rfl, rfl, rfl, trivial⟩)
            · rw [if_neg h10] at h
              injection h with h; subst h
              exact to_fin mixed ⟨[(.neq, (.v 4), (.c 0), true), (.neq, (.v 5), (.c 0), true), (.neq, (.v 6), (.c 0), true), (.neq, (.v 7), (.c 0), true), (.gtr, (.v 0), (.v 1), false), (.gtr, (.v 2), (.v 3), false)], [], [], [⟨115, 2, [], [(ys 0)], [], [(ns 0 0)], 0, .bs (.v 0), [], .bs (.v 4), [], []⟩, ⟨115, 2, [], [(ys 0)], [], [(ns 1 0)], 0, .bs (.v 0), [], .bs (.v 5), [], []⟩, ⟨115, 2, [], [(ys 0)], [], [(ns 2 0)], 0, .bs (.v 0), [], .bs (.v 6), [], []⟩, ⟨115, 2, [], [(ys 0)], [], [(ns 3 0)], 0, .bs (.v 0), [], .bs (.v 7), [], []⟩], [], []⟩ (V := (vals [a0_0, a0_1, a1_0, a1_1, bI r1, bI r3, bI r5, bI r7] [])) (n := 3000) (f := 3000) ⟨⟨bi_t h2, bi_t h4, bi_t h6, bi_t h8, gtr_f h9, gtr_f h10, trivial⟩, trivial, trivial, trivial, trivial⟩ ⟨Kr1 _ _, Kr3 _ _, Kr5 _ _, Kr7 _ _, trivial⟩ (R := ⟨(ys 0), [], []⟩) (qs := [.num (.c 0) (.v 0)]) hF hr (by kernel_rfl) ⟨(r (0 : Int)), trivial⟩ (at_re (V' := (vals [a0_0, a0_1, a1_0, a1_1, bI r1, bI r3, bI r5, bI r7] [])) (T := ⟨[(0, .agg [(ys 0), (ys 1)]), (1, .agg [(ys 2), (ys 3)])], [], []⟩) (qs := [(ns 0 0), (ns 1 1), (ns 2 2), (ns 3 3)]) hat (by kernel_rfl) ⟨rfl, rfl, rfl, rfl, trivial⟩)
        · rw [if_neg h8] at h
          injection h with h; subst h
          exact to_fin mixed ⟨[(.neq, (.v 4), (.c 0), true), (.neq, (.v 5), (.c 0), true), (.neq, (.v 6), (.c 0), true), (.neq, (.v 7), (.c 0), false)], [], [], [⟨115, 2, [], [(ys 0)], [], [(ns 0 0)], 0, .bs (.v 0), [], .bs (.v 4), [], []⟩, ⟨115, 2, [], [(ys 0)], [], [(ns 1 0)], 0, .bs (.v 0), [], .bs (.v 5), [], []⟩, ⟨115, 2, [], [(ys 0)], [], [(ns 2 0)], 0, .bs (.v 0), [], .bs (.v 6), [], []⟩, ⟨115, 2, [], [(ys 0)], [], [(ns 3 0)], 0, .bs (.v 0), [], .bs (.v 7), [], []⟩], [], []⟩ (V := (vals [a0_0, a0_1, a1_0, a1_1, bI r1, bI r3, bI r5, bI r7] [])) (n := 3000) (f := 3000) ⟨⟨bi_t h2, bi_t h4, bi_t h6, bi_f h8, trivial⟩, trivial, trivial, trivial, trivial⟩ ⟨Kr1 _ _, Kr3 _ _, Kr5 _ _, Kr7 _ _, trivial⟩ (R := ⟨(ys 0), [], []⟩) (qs := [.num (.c 2) (.v 0)]) hF hr (by kernel_rfl) ⟨(r (2 : Int)), trivial⟩ (at_re (V' := (vals [a0_0, a0_1, a1_0, a1_1, bI r1, bI r3, bI r5, bI r7] [])) (T := ⟨[(0, .agg [(ys 0), (ys 1)]), (1, .agg [(ys 2), (ys 3)])], [], []⟩) (qs := [(ns 0 0), (ns 1 1), (ns 2 2), (ns 3 3)]) hat (by kernel_rfl) ⟨rfl, rfl, rfl, rfl, trivial⟩)
      · rw [if_neg h6] at h
        injection h with h; subst h
        exact to_fin mixed ⟨[(.neq, (.v 4), (.c 0), true), (.neq, (.v 5), (.c 0), true), (.neq, (.v 6), (.c 0), false)], [], [], [⟨115, 2, [], [(ys 0)], [], [(ns 0 0)], 0, .bs (.v 0), [], .bs (.v 4), [], []⟩, ⟨115, 2, [], [(ys 0)], [], [(ns 1 0)], 0, .bs (.v 0), [], .bs (.v 5), [], []⟩, ⟨115, 2, [], [(ys 0)], [], [(ns 2 0)], 0, .bs (.v 0), [], .bs (.v 6), [], []⟩], [], []⟩ (V := (vals [a0_0, a0_1, a1_0, a1_1, bI r1, bI r3, bI r5] [])) (n := 3000) (f := 3000) ⟨⟨bi_t h2, bi_t h4, bi_f h6, trivial⟩, trivial, trivial, trivial, trivial⟩ ⟨Kr1 _ _, Kr3 _ _, Kr5 _ _, trivial⟩ (R := ⟨(ys 0), [], []⟩) (qs := [.num (.c 2) (.v 0)]) hF hr (by kernel_rfl) ⟨(r (2 : Int)), trivial⟩ (at_re (V' := (vals [a0_0, a0_1, a1_0, a1_1, bI r1, bI r3, bI r5] [])) (T := ⟨[(0, .agg [(ys 0), (ys 1)]), (1, .agg [(ys 2), (ys 3)])], [], []⟩) (qs := [(ns 0 0), (ns 1 1), (ns 2 2), (ns 3 3)]) hat (by kernel_rfl) ⟨rfl, rfl, rfl, rfl, trivial⟩)
    · rw [if_neg h4] at h
      injection h with h; subst h
      exact to_fin mixed ⟨[(.neq, (.v 4), (.c 0), true), (.neq, (.v 5), (.c 0), false)], [], [], [⟨115, 2, [], [(ys 0)], [], [(ns 0 0)], 0, .bs (.v 0), [], .bs (.v 4), [], []⟩, ⟨115, 2, [], [(ys 0)], [], [(ns 1 0)], 0, .bs (.v 0), [], .bs (.v 5), [], []⟩], [], []⟩ (V := (vals [a0_0, a0_1, a1_0, a1_1, bI r1, bI r3] [])) (n := 3000) (f := 3000) ⟨⟨bi_t h2, bi_f h4, trivial⟩, trivial, trivial, trivial, trivial⟩ ⟨Kr1 _ _, Kr3 _ _, trivial⟩ (R := ⟨(ys 0), [], []⟩) (qs := [.num (.c 2) (.v 0)]) hF hr (by kernel_rfl) ⟨(r (2 : Int)), trivial⟩ (at_re (V' := (vals [a0_0, a0_1, a1_0, a1_1, bI r1, bI r3] [])) (T := ⟨[(0, .agg [(ys 0), (ys 1)]), (1, .agg [(ys 2), (ys 3)])], [], []⟩) (qs := [(ns 0 0), (ns 1 1), (ns 2 2), (ns 3 3)]) hat (by kernel_rfl) ⟨rfl, rfl, rfl, rfl, trivial⟩)
  · rw [if_neg h2] at h
    injection h with h; subst h
    exact to_fin mixed ⟨[(.neq, (.v 4), (.c 0), false)], [], [], [⟨115, 2, [], [(ys 0)], [], [(ns 0 0)], 0, .bs (.v 0), [], .bs (.v 4), [], []⟩], [], []⟩ (V := (vals [a0_0, a0_1, a1_0, a1_1, bI r1] [])) (n := 3000) (f := 3000) ⟨⟨bi_f h2, trivial⟩, trivial, trivial, trivial, trivial⟩ ⟨Kr1 _ _, trivial⟩ (R := ⟨(ys 0), [], []⟩) (qs := [.num (.c 2) (.v 0)]) hF hr (by kernel_rfl) ⟨(r (2 : Int)), trivial⟩ (at_re (V' := (vals [a0_0, a0_1, a1_0, a1_1, bI r1] [])) (T := ⟨[(0, .agg [(ys 0), (ys 1)]), (1, .agg [(ys 2), (ys 3)])], [], []⟩) (qs := [(ns 0 0), (ns 1 1), (ns 2 2), (ns 3 3)]) hat (by kernel_rfl) ⟨rfl, rfl, rfl, rfl, trivial⟩)
def r9_StationErr (a0_0 : Int) (a0_1 : Int) (a0_2 : Int) (a0_3 : Int) (a0_4 : Int) : Option (Int) := Option.bind (r9_isAt a0_0) fun r1 => if r1 = true then (Option.bind (r9_HeightErr a0_1 a0_2 a0_3 a0_4) fun r3 => some r3) else (some (2 : Int))
theorem r9_StationErr_ok (a0_0 : Int) (a0_1 : Int) (a0_2 : Int) (a0_3 : Int) (a0_4 : Int) (y : Int) (h : r9_StationErr a0_0 a0_1 a0_2 a0_3 a0_4 = some y) : CallOk Tryz.prog 31 (vals [a0_0, a0_1, a0_2, a0_3, a0_4] []) [.agg [(ys 0), (ys 1), (ys 2), (ys 3), (ys 4)]] [] 0 (vals [y] []) ((ys 0)) [] := by
  refine fun_of (nt := 12) (by kernel_rfl) (by kernel_rfl) fun φ0 w0 a w hat => ?_
  have hF := wide_fw
  have hr : Fence.wide.round = none := rfl
  unfold r9_StationErr at h
  obtain ⟨r1, hr1, h⟩ := Option.bind_eq_some_iff.1 h
  have Kr1 : KO Tryz.prog [a0_0, a0_1, a0_2, a0_3, a0_4, bI r1] [] ⟨77, 1, [], [(ys 0)], [], [(ns 0 0)], 0, .bs (.v 0), [], .bs (.v 5), [], []⟩ := fun N M => ⟨_, _, [(ns 0 5)], ⟨r9_isAt_ok a0_0 r1 hr1, ⟨(r a0_0), trivial⟩, by kernel_rfl, ⟨rfl, trivial⟩⟩⟩
  by_cases h2 : r1 = true
  · rw [if_pos h2] at h
    obtain ⟨r3, hr3, h⟩ := Option.bind_eq_some_iff.1 h
    have Kr3 : KO Tryz.prog [a0_0, a0_1, a0_2, a0_3, a0_4, bI r1, r3] [] ⟨78, 1, [], [.agg [(ys 0), (ys 1)], .agg [(ys 2), (ys 3)]], [], [(ns 1 0), (ns 2 1), (ns 3 2), (ns 4 3)], 0, (ys 0), [], (ys 6), [], []⟩ := fun N M => ⟨_, _, [(ns 0 6)], ⟨r9_HeightErr_ok a0_1 a0_2 a0_3 a0_4 r3 hr3, ⟨(r a0_1), (r a0_2), (r a0_3), (r a0_4), trivial⟩, by kernel_rfl, ⟨rfl, trivial⟩⟩⟩
    injection h with h; subst h
    exact to_fin mixed ⟨[(.neq, (.v 5), (.c 0), true)], [], [], [⟨77, 1, [], [(ys 0)], [], [(ns 0 0)], 0, .bs (.v 0), [], .bs (.v 5), [], []⟩, ⟨78, 1, [], [.agg [(ys 0), (ys 1)], .agg [(ys 2), (ys 3)]], [], [(ns 1 0), (ns 2 1), (ns 3 2), (ns 4 3)], 0, (ys 0), [], (ys 6), [], []⟩], [], []⟩ (V := (vals [a0_0, a0_1, a0_2, a0_3, a0_4, bI r1, r3] [])) (n := 3000) (f := 3000) ⟨⟨bi_t h2, trivial⟩, trivial, trivial, trivial, trivial⟩ ⟨Kr1 _ _, Kr3 _ _, trivial⟩ (R := ⟨(ys 0), [], []⟩) (qs := [(ns 6 0)]) hF hr (by kernel_rfl) ⟨(r r3), trivial⟩ (at_re (V' := (vals [a0_0, a0_1, a0_2, a0_3, a0_4, bI r1, r3] [])) (T := ⟨[(0, .agg [(ys 0), (ys 1), (ys 2), (ys 3), (ys 4)])], [], []⟩) (qs := [(ns 0 0), (ns 1 1), (ns 2 2), (ns 3 3), (ns 4 4)]) hat (by kernel_rfl) ⟨rfl, rfl, rfl, rfl, rfl, trivial⟩)
  · rw [if_neg h2] at h
    injection h with h; subst h
    exact to_fin mixed ⟨[(.neq, (.v 5), (.c 0), false)], [], [], [⟨77, 1, [], [(ys 0)], [], [(ns 0 0)], 0, .bs (.v 0), [], .bs (.v 5), [], []⟩], [], []⟩ (V := (vals [a0_0, a0_1, a0_2, a0_3, a0_4, bI r1] [])) (n := 3000) (f := 3000) ⟨⟨bi_f h2, trivial⟩, trivial, trivial, trivial, trivial⟩ ⟨Kr1 _ _, trivial⟩ (R := ⟨(ys 0), [], []⟩) (qs := [.num (.c 2) (.v 0)]) hF hr (by kernel_rfl) ⟨(r (2 : Int)), trivial⟩ (at_re (V' := (vals [a0_0, a0_1, a0_2, a0_3, a0_4, bI r1] [])) (T := ⟨[(0, .agg [(ys 0), (ys 1), (ys 2), (ys 3), (ys 4)])], [], []⟩) (qs := [(ns 0 0), (ns 1 1), (ns 2 2), (ns 3 3), (ns 4 4)]) hat (by kernel_rfl) ⟨rfl, rfl, rfl, rfl, rfl, trivial⟩)
def r9_CheckStations_L1 (fu : Nat) (p0 : List (Int × Int × Int × Int × Int)) : Nat → Int → Option ((Int × Int) ⊕ (Unit))
  | 0, _ => none
  | n + 1, v1 => if v1 < (p0.length : Int) then (if (0 : Int) ≤ v1 then (Option.bind ((p0)[0 + (v1).toNat]?) fun e3 => Option.bind (r9_StationErr e3.1 e3.2.1 e3.2.2.1 e3.2.2.2.1 e3.2.2.2.2) fun r4 => if r4 = (0 : Int) then (if (0 : Int) < v1 then (if (0 : Int) ≤ (IntKind.wrap .i64 (v1 - (1 : Int))) then (if (IntKind.wrap .i64 (v1 - (1 : Int))) < (p0.length : Int) then (Option.bind ((p0)[0 + ((IntKind.wrap .i64 (v1 - (1 : Int)))).toNat]?) fun e9 => if e3.1 ≤ e9.1 then (some (.inl (v1, (9 : Int)))) else (r9_CheckStations_L1 fu p0 n (IntKind.wrap .i64 (v1 + (1 : Int))))) else none) else none) else (r9_CheckStations_L1 fu p0 n (IntKind.wrap .i64 (v1 + (1 : Int))))) else (some (.inl (v1, r4)))) else none) else (some (.inr ()))
theorem r9_CheckStations_L1_ok (fu : Nat) (p0 : List (Int × Int × Int × Int × Int)) : ∀ (n : Nat) (v1 : Int) (o : (Int × Int) ⊕ (Unit)), r9_CheckStations_L1 fu p0 n v1 = some o → ∀ (φ0 : Phi) (w0 : World) (F : Fence) (k : Nat) (R : Exit → Act → World → Prop) (a : Act) (w : World), FW F → F.round = none → AtS (vals [(p0.length : Int), v1] [(p0.flatMap enIIIII)]) [(0, .gs 0 0 (.v 0) 5 false), (4, (ys 1))] [some (.rows 0 [] 44 true)] 41 1 1 φ0 w0 a w → (∀ (y : Int × Int), o = .inl y → ∀ a' w', AtS (vals [(p0.length : Int), y.1, y.2] [(p0.flatMap enIIIII)]) [(2, (ys 1)), (3, (ys 2))] [some (.rows 0 [] 44 true)] 41 1 1 φ0 w0 a' w' → R Exit.ret a' w') → (∀ (y : Unit), o = .inr y → ∀ a' w', AtS (vals [(p0.length : Int)] [(p0.flatMap enIIIII)]) [] [some (.rows 0 [] 44 true)] 41 1 1 φ0 w0 a' w' → R (Exit.exit 0) a' w') → Code.roundsIn F k Tryz.prog (subAt (bodyOf Tryz.prog 16) [1, 1, 0, 1, 0, 0]) R n a w
  | 0, _, _, h => by cases h
  | n + 1, v1, o, h => by
    intro φ0 w0 F k R a w hF hr hat hx0 hx1
    rw [r9_CheckStations_L1] at h
    refine rounds_in (p := [1, 1, 0, 1, 0, 0]) ?_
    by_cases h1 : v1 < (p0.length : Int)
    · rw [if_pos h1] at h
      by_cases h2 : (0 : Int) ≤ v1
      · rw [if_pos h2] at h
        obtain ⟨e3, he3, h⟩ := Option.bind_eq_some_iff.1 h
        obtain ⟨r4, hr4, h⟩ := Option.bind_eq_some_iff.1 h
        have Kr4 : KO Tryz.prog [(p0.length : Int), v1, e3.1, e3.2.1, e3.2.2.1, e3.2.2.2.1, e3.2.2.2.2, r4] [(p0.flatMap enIIIII)] ⟨31, 1, [], [.agg [(ys 0), (ys 1), (ys 2), (ys 3), (ys 4)]], [], [(ns 2 0), (ns 3 1), (ns 4 2), (ns 5 3), (ns 6 4)], 0, (ys 0), [], (ys 7), [], []⟩ := fun N M => ⟨_, _, [(ns 0 7)], ⟨r9_StationErr_ok e3.1 e3.2.1 e3.2.2.1 e3.2.2.2.1 e3.2.2.2.2 r4 hr4, ⟨(r e3.1), (r e3.2.1), (r e3.2.2.1), (r e3.2.2.2.1), (r e3.2.2.2.2), trivial⟩, by kernel_rfl, ⟨rfl, trivial⟩⟩⟩
        by_cases h5 : r4 = (0 : Int)
        · rw [if_pos h5] at h
          by_cases h6 : (0 : Int) < v1
          · rw [if_pos h6] at h
            by_cases h7 : (0 : Int) ≤ (IntKind.wrap .i64 (v1 - (1 : Int)))
            · rw [if_pos h7] at h
              by_cases h8 : (IntKind.wrap .i64 (v1 - (1 : Int))) < (p0.length : Int)
              · rw [if_pos h8] at h
                obtain ⟨e9, he9, h⟩ := Option.bind_eq_some_iff.1 h
                by_cases h10 : e3.1 ≤ e9.1
                · rw [if_pos h10] at h
                  injection h with h; subst h
                  exact to_done mixed ⟨[(.lss, (.v 1), (.v 0), true), (.leq, (.c 0), (.v 1), true), (.neq, (.v 7), (.c 0), false), (.gtr, (.v 1), (.c 0), true), (.leq, (.c 0), (.sub .i64 (.v 1) (.c 1)), true), (.lss, (.sub .i64 (.v 1) (.c 1)), (.v 0), true), (.leq, (.v 2), (.v 8), true)], [(0, 0, (.v 1), [(ys 2), (ys 3), (ys 4), (ys 5), (ys 6)]), (0, 0, (.sub .i64 (.v 1) (.c 1)), [(ys 8), (ys 9), (ys 10), (ys 11), (ys 12)])], [(0, 5, (.v 0))], [⟨31, 1, [], [.agg [(ys 0), (ys 1), (ys 2), (ys 3), (ys 4)]], [], [(ns 2 0), (ns 3 1), (ns 4 2), (ns 5 3), (ns 6 4)], 0, (ys 0), [], (ys 7), [], []⟩], [], []⟩ (V := (vals [(p0.length : Int), v1, e3.1, e3.2.1, e3.2.2.1, e3.2.2.2.1, e3.2.2.2.2, r4, e9.1, e9.2.1, e9.2.2.1, e9.2.2.2.1, e9.2.2.2.2] [(p0.flatMap enIIIII)])) (n := 3000) (f := 3000) (V' := (vals [(p0.length : Int), v1, (9 : Int)] [(p0.flatMap enIIIII)])) ⟨⟨lss_t h1, leq_t h2, neq_f h5, gtr_t h6, leq_t h7, lss_t h8, leq_t h10, trivial⟩, ⟨⟨h2, _, rfl, flat_row enIIIII_len he3⟩, ⟨h7, _, rfl, flat_row enIIIII_len he9⟩, trivial⟩, ⟨flat_length enIIIII_len _, trivial⟩, trivial, trivial⟩ ⟨Kr4 _ _, trivial⟩ (T := ⟨[(2, (ys 1)), (3, (ys 2))], [some (.rows 0 [] 44 true)], [some (0, 0)]⟩) (ce := .ret) (qs := [(ns 1 1), .num (.c 9) (.v 2), .lst 0 (some 0) []]) hF hr (by kernel_rfl) ⟨(r v1), (r (9 : Int)), ⟨[], rfl, lnil _⟩, trivial⟩ (at_re (V' := (vals [(p0.length : Int), v1, e3.1, e3.2.1, e3.2.2.1, e3.2.2.2.1, e3.2.2.2.2, r4, e9.1, e9.2.1, e9.2.2.1, e9.2.2.2.1, e9.2.2.2.2] [(p0.flatMap enIIIII)])) (T := ⟨[(0, .gs 0 0 (.v 0) 5 false), (4, (ys 1))], [some (.rows 0 [] 44 true)], [some (0, 0)]⟩) (qs := [(ns 0 0), (ns 1 1), .lst 0 (some 0) []]) hat (by kernel_rfl) ⟨rfl, rfl, ⟨[], rfl, lnil _⟩, trivial⟩) fun a' w' hat' => hx0 (v1, (9 : Int)) rfl a' w' hat'
                · rw [if_neg h10] at h
                  refine to_done mixed ⟨[(.lss, (.v 1), (.v 0), true), (.leq, (.c 0), (.v 1), true), (.neq, (.v 7), (.c 0), false), (.gtr, (.v 1), (.c 0), true), (.leq, (.c 0), (.sub .i64 (.v 1) (.c 1)), true), (.lss, (.sub .i64 (.v 1) (.c 1)), (.v 0), true), (.leq, (.v 2), (.v 8), false)], [(0, 0, (.v 1), [(ys 2), (ys 3), (ys 4), (ys 5), (ys 6)]), (0, 0, (.sub .i64 (.v 1) (.c 1)), [(ys 8), (ys 9), (ys 10), (ys 11), (ys 12)])], [(0, 5, (.v 0))], [⟨31, 1, [], [.agg [(ys 0), (ys 1), (ys 2), (ys 3), (ys 4)]], [], [(ns 2 0), (ns 3 1), (ns 4 2), (ns 5 3), (ns 6 4)], 0, (ys 0), [], (ys 7), [], []⟩], [], []⟩ (V := (vals [(p0.length : Int), v1, e3.1, e3.2.1, e3.2.2.1, e3.2.2.2.1, e3.2.2.2.2, r4, e9.1, e9.2.1, e9.2.2.1, e9.2.2.2.1, e9.2.2.2.2] [(p0.flatMap enIIIII)])) (n := 3000) (f := 3000) (V' := (vals [(p0.length : Int), (IntKind.wrap .i64 (v1 + (1 : Int)))] [(p0.flatMap enIIIII)])) ⟨⟨lss_t h1, leq_t h2, neq_f h5, gtr_t h6, leq_t h7, lss_t h8, leq_f h10, trivial⟩, ⟨⟨h2, _, rfl, flat_row enIIIII_len he3⟩, ⟨h7, _, rfl, flat_row enIIIII_len he9⟩, trivial⟩, ⟨flat_length enIIIII_len _, trivial⟩, trivial, trivial⟩ ⟨Kr4 _ _, trivial⟩ (T := ⟨[(0, .gs 0 0 (.v 0) 5 false), (4, (ys 1))], [some (.rows 0 [] 44 true)], [some (0, 0)]⟩) (ce := .normal) (qs := [(ns 0 0), .num (.add .i64 (.v 1) (.c 1)) (.v 1), .lst 0 (some 0) []]) hF hr (by kernel_rfl) ⟨(r (p0.length : Int)), (r (IntKind.wrap .i64 (v1 + (1 : Int)))), ⟨[], rfl, lnil _⟩, trivial⟩ (at_re (V' := (vals [(p0.length : Int), v1, e3.1, e3.2.1, e3.2.2.1, e3.2.2.2.1, e3.2.2.2.2, r4, e9.1, e9.2.1, e9.2.2.1, e9.2.2.2.1, e9.2.2.2.2] [(p0.flatMap enIIIII)])) (T := ⟨[(0, .gs 0 0 (.v 0) 5 false), (4, (ys 1))], [some (.rows 0 [] 44 true)], [some (0, 0)]⟩) (qs := [(ns 0 0), (ns 1 1), .lst 0 (some 0) []]) hat (by kernel_rfl) ⟨rfl, rfl, ⟨[], rfl, lnil _⟩, trivial⟩) fun a' w' hat' => ?_
                  exact r9_CheckStations_L1_ok fu p0 n (IntKind.wrap .i64 (v1 + (1 : Int))) o h _ _ _ _ _ _ _ hF hr hat' hx0 hx1
              · rw [if_neg h8] at h
                cases h
            · rw [if_neg h7] at h
              cases h
          · rw [if_neg h6] at h
            refine to_done mixed ⟨[(.lss, (.v 1), (.v 0), true), (.leq, (.c 0), (.v 1), true), (.neq, (.v 7), (.c 0), false), (.gtr, (.v 1), (.c 0), false)], [(0, 0, (.v 1), [(ys 2), (ys 3), (ys 4), (ys 5), (ys 6)])], [(0, 5, (.v 0))], [⟨31, 1, [], [.agg [(ys 0), (ys 1), (ys 2), (ys 3), (ys 4)]], [], [(ns 2 0), (ns 3 1), (ns 4 2), (ns 5 3), (ns 6 4)], 0, (ys 0), [], (ys 7), [], []⟩], [], []⟩ (V := (vals [(p0.length : Int), v1, e3.1, e3.2.1, e3.2.2.1, e3.2.2.2.1, e3.2.2.2.2, r4] [(p0.flatMap enIIIII)])) (n := 3000) (f := 3000) (V' := (vals [(p0.length : Int), (IntKind.wrap .i64 (v1 + (1 : Int)))] [(p0.flatMap enIIIII)])) ⟨⟨lss_t h1, leq_t h2, neq_f h5, gtr_f h6, trivial⟩, ⟨⟨h2, _, rfl, flat_row enIIIII_len he3⟩, trivial⟩, ⟨flat_length enIIIII_len _, trivial⟩, trivial, trivial⟩ ⟨Kr4 _ _, trivial⟩ (T := ⟨[(0, .gs 0 0 (.v 0) 5 false), (4, (ys 1))], [some (.rows 0 [] 44 true)], [some (0, 0)]⟩) (ce := .normal) (qs := [(ns 0 0), .num (.add .i64 (.v 1) (.c 1)) (.v 1), .lst 0 (some 0) []]) hF hr (by kernel_rfl) ⟨(r (p0.length : Int)), (r (IntKind.wrap .i64 (v1 + (1 : Int)))), ⟨[], rfl, lnil _⟩, trivial⟩ (at_re (V' := (vals [(p0.length : Int), v1, e3.1, e3.2.1, e3.2.2.1, e3.2.2.2.1, e3.2.2.2.2, r4] [(p0.flatMap enIIIII)])) (T := ⟨[(0, .gs 0 0 (.v 0) 5 false), (4, (ys 1))], [some (.rows 0 [] 44 true)], [some (0, 0)]⟩) (qs := [(ns 0 0), (ns 1 1), .lst 0 (some 0) []]) hat (by kernel_rfl) ⟨rfl, rfl, ⟨[], rfl, lnil _⟩, trivial⟩) fun a' w' hat' => ?_
            exact r9_CheckStations_L1_ok fu p0 n (IntKind.wrap .i64 (v1 + (1 : Int))) o h _ _ _ _ _ _ _ hF hr hat' hx0 hx1
        · rw [if_neg h5] at h
          injection h with h; subst h
          exact to_done mixed ⟨[(.lss, (.v 1), (.v 0), true), (.leq, (.c 0), (.v 1), true), (.neq, (.v 7), (.c 0), true)], [(0, 0, (.v 1), [(ys 2), (ys 3), (ys 4), (ys 5), (ys 6)])], [(0, 5, (.v 0))], [⟨31, 1, [], [.agg [(ys 0), (ys 1), (ys 2), (ys 3), (ys 4)]], [], [(ns 2 0), (ns 3 1), (ns 4 2), (ns 5 3), (ns 6 4)], 0, (ys 0), [], (ys 7), [], []⟩], [], []⟩ (V := (vals [(p0.length : Int), v1, e3.1, e3.2.1, e3.2.2.1, e3.2.2.2.1, e3.2.2.2.2, r4] [(p0.flatMap enIIIII)])) (n := 3000) (f := 3000) (V' := (vals [(p0.length : Int), v1, r4] [(p0.flatMap enIIIII)])) ⟨⟨lss_t h1, leq_t h2, neq_t h5, trivial⟩, ⟨⟨h2, _, rfl, flat_row enIIIII_len he3⟩, trivial⟩, ⟨flat_length enIIIII_len _, trivial⟩, trivial, trivial⟩ ⟨Kr4 _ _, trivial⟩ (T := ⟨[(2, (ys 1)), (3, (ys 2))], [some (.rows 0 [] 44 true)], [some (0, 0)]⟩) (ce := .ret) (qs := [(ns 1 1), (ns 7 2), .lst 0 (some 0) []]) hF hr (by kernel_rfl) ⟨(r v1), (r r4), ⟨[], rfl, lnil _⟩, trivial⟩ (at_re (V' := (vals [(p0.length : Int), v1, e3.1, e3.2.1, e3.2.2.1, e3.2.2.2.1, e3.2.2.2.2, r4] [(p0.flatMap enIIIII)])) (T := ⟨[(0, .gs 0 0 (.v 0) 5 false), (4, (ys 1))], [some (.rows 0 [] 44 true)], [some (0, 0)]⟩) (qs := [(ns 0 0), (ns 1 1), .lst 0 (some 0) []]) hat (by kernel_rfl) ⟨rfl, rfl, ⟨[], rfl, lnil _⟩, trivial⟩) fun a' w' hat' => hx0 (v1, r4) rfl a' w' hat'
      · rw [if_neg h2] at h
        cases h
    · rw [if_neg h1] at h
      injection h with h; subst h
      exact to_done mixed ⟨[(.lss, (.v 1), (.v 0), false)], [], [(0, 5, (.v 0))], [], [], []⟩ (V := (vals [(p0.length : Int), v1] [(p0.flatMap enIIIII)])) (n := 3000) (f := 3000) (V' := (vals [(p0.length : Int)] [(p0.flatMap enIIIII)])) ⟨⟨lss_f h1, trivial⟩, trivial, ⟨flat_length enIIIII_len _, trivial⟩, trivial, trivial⟩ trivial (T := ⟨[], [some (.rows 0 [] 44 true)], [some (0, 0)]⟩) (ce := (.exit 0)) (qs := [.lst 0 (some 0) []]) hF hr (by kernel_rfl) ⟨⟨[], rfl, lnil _⟩, trivial⟩ hat fun a' w' hat' => hx1 () rfl a' w' hat'
def r9_CheckStations (fu : Nat) (a0 : List (Int × Int × Int × Int × Int)) : Option (Int × Int) := if (20 : Int) < (a0.length : Int) then (some ((0 : Int), (8 : Int))) else (Option.bind (r9_CheckStations_L1 fu a0 fu (0 : Int)) fun o2 => (match o2 with | .inl y3 => (some (y3.1, y3.2)) | .inr y4 => (some ((0 : Int), (0 : Int)))))
theorem r9_CheckStations_ok (fu : Nat) (a0 : List (Int × Int × Int × Int × Int)) (y : Int × Int) (h : r9_CheckStations fu a0 = some y) : CallOk Tryz.prog 16 (vals [(a0.length : Int)] [(a0.flatMap enIIIII)]) [.gs 0 0 (.v 0) 5 false] [some (.rows 0 [] 44 true)] 1 (vals [y.1, y.2] []) (.tup [(ys 0), (ys 1)]) [none] := by
  refine fun_of (nt := 41) (by kernel_rfl) (by kernel_rfl) fun φ0 w0 a w hat => ?_
  have hF := wide_fw
  have hr : Fence.wide.round = none := rfl
  unfold r9_CheckStations at h
  by_cases h1 : (20 : Int) < (a0.length : Int)
  · rw [if_pos h1] at h
    injection h with h; subst h
    exact to_fin mixed ⟨[(.gtr, (.v 0), (.c 20), true)], [], [(0, 5, (.v 0))], [], [], []⟩ (V := (vals [(a0.length : Int)] [(a0.flatMap enIIIII)])) (n := 3000) (f := 3000) ⟨⟨gtr_t h1, trivial⟩, trivial, ⟨flat_length enIIIII_len _, trivial⟩, trivial, trivial⟩ trivial (R := ⟨.tup [(ys 0), (ys 1)], [none], [some (0, 0)]⟩) (qs := [.num (.c 0) (.v 0), .num (.c 8) (.v 1)]) hF hr (by kernel_rfl) ⟨(r (0 : Int)), (r (8 : Int)), trivial⟩ hat
  · rw [if_neg h1] at h
    obtain ⟨o2, ho2, h⟩ := Option.bind_eq_some_iff.1 h
    refine to_loop mixed ⟨[(.gtr, (.v 0), (.c 20), false)], [], [(0, 5, (.v 0))], [], [], []⟩ (V := (vals [(a0.length : Int)] [(a0.flatMap enIIIII)])) (n := 3000) (f := 3000) (V' := (vals [(a0.length : Int), (0 : Int)] [(a0.flatMap enIIIII)])) ⟨⟨gtr_f h1, trivial⟩, trivial, ⟨flat_length enIIIII_len _, trivial⟩, trivial, trivial⟩ trivial (T := ⟨[(0, .gs 0 0 (.v 0) 5 false), (4, (ys 1))], [some (.rows 0 [] 44 true)], [some (0, 0)]⟩) (B := subAt (bodyOf Tryz.prog 16) [1, 1, 0, 1, 0, 0]) (K' := [.bk 0, .sq (subAt (bodyOf Tryz.prog 16) [1, 1, 1]) [1, 1, 1]]) (qs := [(ns 0 0), .num (.c 0) (.v 1), .lst 0 (some 0) []]) hF hr (by kernel_rfl) ⟨(r (a0.length : Int)), (r (0 : Int)), ⟨[], rfl, lnil _⟩, trivial⟩ hat fun aa1 ww1 hat1 => loop_in (r9_CheckStations_L1_ok fu a0 fu (0 : Int) o2 ho2 _ _ _ _ _ _ _ hF hr hat1 ?_ ?_)
    · intro y3 hy aa2 ww2 hat
      subst hy
      dsimp only at h
      show (Wk.out .ret).goal _ _ _ [.bk 0, .sq (subAt (bodyOf Tryz.prog 16) [1, 1, 1]) [1, 1, 1]] _ aa2 ww2
      injection h with h; subst h
      exact to_fin mixed ⟨[], [], [(0, 5, (.v 0))], [], [], []⟩ (V := (vals [(a0.length : Int), y3.1, y3.2] [(a0.flatMap enIIIII)])) (n := 3000) (f := 3000) ⟨trivial, trivial, ⟨flat_length enIIIII_len _, trivial⟩, trivial, trivial⟩ trivial (R := ⟨.tup [(ys 0), (ys 1)], [none], [some (0, 0)]⟩) (qs := [(ns 1 0), (ns 2 1)]) hF hr (by kernel_rfl) ⟨(r y3.1), (r y3.2), trivial⟩ hat
    · intro y4 hy aa2 ww2 hat
      subst hy
      dsimp only at h
      show (Wk.out (.exit 0)).goal _ _ _ [.bk 0, .sq (subAt (bodyOf Tryz.prog 16) [1, 1, 1]) [1, 1, 1]] _ aa2 ww2
      injection h with h; subst h
      exact to_fin mixed ⟨[], [], [(0, 5, (.v 0))], [], [], []⟩ (V := (vals [(a0.length : Int)] [(a0.flatMap enIIIII)])) (n := 3000) (f := 3000) ⟨trivial, trivial, ⟨flat_length enIIIII_len _, trivial⟩, trivial, trivial⟩ trivial (R := ⟨.tup [(ys 0), (ys 1)], [none], [some (0, 0)]⟩) (qs := [.num (.c 0) (.v 0), .num (.c 0) (.v 1)]) hF hr (by kernel_rfl) ⟨(r (0 : Int)), (r (0 : Int)), trivial⟩ hat
def r9_StationsErr (fu : Nat) (a0 : List (Int × Int × Int × Int × Int)) : Option (Int) := Option.bind (r9_CheckStations fu a0) fun r1 => some r1.2
theorem r9_StationsErr_ok (fu : Nat) (a0 : List (Int × Int × Int × Int × Int)) (y : Int) (h : r9_StationsErr fu a0 = some y) : CallOk Tryz.prog 25 (vals [(a0.length : Int)] [(a0.flatMap enIIIII)]) [.gs 0 0 (.v 0) 5 false] [some (.rows 0 [] 44 true)] 1 (vals [y] []) ((ys 0)) [none] := by
  refine fun_of (nt := 11) (by kernel_rfl) (by kernel_rfl) fun φ0 w0 a w hat => ?_
  have hF := wide_fw
  have hr : Fence.wide.round = none := rfl
  unfold r9_StationsErr at h
  obtain ⟨r1, hr1, h⟩ := Option.bind_eq_some_iff.1 h
  have Kr1 : KO Tryz.prog [(a0.length : Int), r1.1, r1.2] [(a0.flatMap enIIIII)] ⟨16, 1, [some (0, 0)], [.gs 0 0 (.v 0) 5 false], [some (.rows 0 [] 44 true)], [(ns 0 0), .lst 0 (some 0) []], 1, .tup [(ys 0), (ys 1)], [none], .tup [(ys 1), (ys 2)], [], []⟩ := fun N M => ⟨_, _, [(ns 0 1), (ns 1 2)], ⟨r9_CheckStations_ok fu a0 r1 hr1, ⟨(r (a0.length : Int)), ⟨[], rfl, lnil _⟩, trivial⟩, by kernel_rfl, ⟨rfl, rfl, trivial⟩⟩⟩
  injection h with h; subst h
  exact to_fin mixed ⟨[], [], [(0, 5, (.v 0))], [⟨16, 1, [some (0, 0)], [.gs 0 0 (.v 0) 5 false], [some (.rows 0 [] 44 true)], [(ns 0 0), .lst 0 (some 0) []], 1, .tup [(ys 0), (ys 1)], [none], .tup [(ys 1), (ys 2)], [], []⟩], [], []⟩ (V := (vals [(a0.length : Int), r1.1, r1.2] [(a0.flatMap enIIIII)])) (n := 3000) (f := 3000) ⟨trivial, trivial, ⟨flat_length enIIIII_len _, trivial⟩, trivial, trivial⟩ ⟨Kr1 _ _, trivial⟩ (R := ⟨(ys 0), [none], [some (0, 0)]⟩) (qs := [(ns 2 0)]) hF hr (by kernel_rfl) ⟨(r r1.2), trivial⟩ (at_re (V' := (vals [(a0.length : Int), r1.1, r1.2] [(a0.flatMap enIIIII)])) (T := ⟨[(0, .gs 0 0 (.v 0) 5 false)], [some (.rows 0 [] 44 true)], [some (0, 0)]⟩) (qs := [(ns 0 0), .lst 0 (some 0) []]) hat (by kernel_rfl) ⟨rfl, ⟨[], rfl, lnil _⟩, trivial⟩)
def r9_CopyStations (a0 : List (Int × Int × Int × Int × Int)) : Option (List (Int × Int × Int × Int × Int)) := if (a0.length : Int) < (65536 : Int) then (some a0) else none
theorem r9_CopyStations_ok (a0 : List (Int × Int × Int × Int × Int)) (y : List (Int × Int × Int × Int × Int)) (h : r9_CopyStations a0 = some y) : CallOk Tryz.prog 12 (vals [(a0.length : Int)] [(a0.flatMap enIIIII)]) [.gs 0 0 (.v 0) 5 false] [some (.rows 0 [] 44 true)] 1 (vals [(y.length : Int)] [(y.flatMap enIIIII)]) (.gs 1 0 (.v 0) 5 true) [none, some (.rows 0 [] 44 false)] := by
  refine fun_of (nt := 6) (by kernel_rfl) (by kernel_rfl) fun φ0 w0 a w hat => ?_
  have hF := wide_fw
  have hr : Fence.wide.round = none := rfl
  unfold r9_CopyStations at h
  by_cases h1 : (a0.length : Int) < (65536 : Int)
  · rw [if_pos h1] at h
    injection h with h; subst h
    exact to_fin mixed ⟨[(.lss, (.v 0), (.c 65536), true)], [], [(0, 5, (.v 0))], [], [], []⟩ (V := (vals [(a0.length : Int)] [(a0.flatMap enIIIII)])) (n := 3000) (f := 3000) ⟨⟨lss_t h1, trivial⟩, trivial, ⟨flat_length enIIIII_len _, trivial⟩, trivial, trivial⟩ trivial (R := ⟨.gs 1 0 (.v 0) 5 true, [none, some (.rows 0 [] 44 false)], [some (0, 0), some (1, 0)]⟩) (qs := [(ns 0 0), .lst 0 (some 0) []]) hF hr (by kernel_rfl) ⟨(r (a0.length : Int)), ⟨[], rfl, lnil _⟩, trivial⟩ hat
  · rw [if_neg h1] at h
    cases h
def b_Mod (a0 : Int) (a1 : Int) : Option (Int) := if a1 = (0 : Int) then none else (if (Int.tmod a0 a1) < (0 : Int) then (some (IntKind.wrap .i64 ((Int.tmod a0 a1) + a1))) else (some (Int.tmod a0 a1)))
theorem b_Mod_ok (a0 : Int) (a1 : Int) (y : Int) (h : b_Mod a0 a1 = some y) : CallOk Tryz.prog 29 (vals [a0, a1] []) [(ys 0), (ys 1)] [] 0 (vals [y] []) ((ys 0)) [] := by
  refine fun_of (nt := 14) (by kernel_rfl) (by kernel_rfl) fun φ0 w0 a w hat => ?_
  have hF := wide_fw
  have hr : Fence.wide.round = none := rfl
  unfold b_Mod at h
  by_cases h1 : a1 = (0 : Int)
  · rw [if_pos h1] at h
    cases h
  · rw [if_neg h1] at h
    by_cases h2 : (Int.tmod a0 a1) < (0 : Int)
    · rw [if_pos h2] at h
      injection h with h; subst h
      exact to_fin mixed ⟨[(.eql, (.v 1), (.c 0), false), (.lss, (.rem .i64 (.v 0) (.v 1)), (.c 0), true)], [], [], [], [], []⟩ (V := (vals [a0, a1] [])) (n := 3000) (f := 3000) ⟨⟨eql_f h1, lss_t h2, trivial⟩, trivial, trivial, trivial, trivial⟩ trivial (R := ⟨(ys 0), [], []⟩) (qs := [.num (.add .i64 (.rem .i64 (.v 0) (.v 1)) (.v 1)) (.v 0)]) hF hr (by kernel_rfl) ⟨(r (IntKind.wrap .i64 ((Int.tmod a0 a1) + a1))), trivial⟩ hat
    · rw [if_neg h2] at h
      injection h with h; subst h
      exact to_fin mixed ⟨[(.eql, (.v 1), (.c 0), false), (.lss, (.rem .i64 (.v 0) (.v 1)), (.c 0), false)], [], [], [], [], []⟩ (V := (vals [a0, a1] [])) (n := 3000) (f := 3000) ⟨⟨eql_f h1, lss_f h2, trivial⟩, trivial, trivial, trivial, trivial⟩ trivial (R := ⟨(ys 0), [], []⟩) (qs := [.num (.rem .i64 (.v 0) (.v 1)) (.v 0)]) hF hr (by kernel_rfl) ⟨(r (Int.tmod a0 a1)), trivial⟩ hat
end Go.Proofs.YtidahkefillmeaaGreatDoor
