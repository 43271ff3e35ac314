/-
  Go functions as Lean functions (written by tools/lift.py).
-/
import Derived.Test.YtidahkefillmeaaGreatDoorZEd
import Derived.Test.YtidahkefillmeaaGreatDoorZEg
import Derived.Test.YtidahkefillmeaaGreatDoorZS9a
set_option linter.all false
namespace Go.Proofs.YtidahkefillmeaaGreatDoor
open Go Go.RowKit Cm
set_option maxRecDepth 100000
set_option maxHeartbeats 4000000
def b_Within (a0 : Int) (a1 : Int) (a2 : Int) : Option (Bool) := if a1 ≤ a0 then (if a0 ≤ a2 then (some true) else (some false)) else (some false)
theorem b_Within_ok (a0 : Int) (a1 : Int) (a2 : Int) (y : Bool) (h : b_Within a0 a1 a2 = some y) : CallOk Tryz.prog 17 (vals [a0, a1, a2] []) [(ys 0), (ys 1), (ys 2)] [] 0 (vals [bI y] []) (.bs (.v 0)) [] := by
  refine fun_of (nt := 15) (by kernel_rfl) (by kernel_rfl) fun φ0 w0 a w hat => ?_
  have hF := wide_fw
  have hr : Fence.wide.round = none := rfl
  unfold b_Within at h
  by_cases h1 : a1 ≤ a0
  · rw [if_pos h1] at h
    by_cases h2 : a0 ≤ a2
    · rw [if_pos h2] at h
      injection h with h; subst h
      exact to_fin mixed ⟨[(.leq, (.v 1), (.v 0), true), (.leq, (.v 0), (.v 2), true)], [], [], [], [], []⟩ (V := (vals [a0, a1, a2] [])) (n := 3000) (f := 3000) ⟨⟨leq_t h1, leq_t h2, trivial⟩, trivial, trivial, trivial, trivial⟩ trivial (R := ⟨.bs (.v 0), [], []⟩) (qs := [.num (.c 1) (.v 0)]) hF hr (by kernel_rfl) ⟨rfl, trivial⟩ hat
    · rw [if_neg h2] at h
      injection h with h; subst h
      exact to_fin mixed ⟨[(.leq, (.v 1), (.v 0), true), (.leq, (.v 0), (.v 2), false)], [], [], [], [], []⟩ (V := (vals [a0, a1, a2] [])) (n := 3000) (f := 3000) ⟨⟨leq_t h1, leq_f h2, trivial⟩, trivial, trivial, trivial, trivial⟩ trivial (R := ⟨.bs (.v 0), [], []⟩) (qs := [.num (.c 0) (.v 0)]) hF hr (by kernel_rfl) ⟨rfl, trivial⟩ hat
  · rw [if_neg h1] at h
    injection h with h; subst h
    exact to_fin mixed ⟨[(.leq, (.v 1), (.v 0), false)], [], [], [], [], []⟩ (V := (vals [a0, a1, a2] [])) (n := 3000) (f := 3000) ⟨⟨leq_f h1, trivial⟩, trivial, trivial, trivial, trivial⟩ trivial (R := ⟨.bs (.v 0), [], []⟩) (qs := [.num (.c 0) (.v 0)]) hF hr (by kernel_rfl) ⟨rfl, trivial⟩ hat
def r9_isHeight (a0 : Int) : Option (Bool) := Option.bind (b_Within a0 (-10000 : Int) (10000 : Int)) fun r1 => if r1 = true then (some true) else (some false)
theorem r9_isHeight_ok (a0 : Int) (y : Bool) (h : r9_isHeight a0 = some y) : CallOk Tryz.prog 115 (vals [a0] []) [(ys 0)] [] 0 (vals [bI y] []) (.bs (.v 0)) [] := by
  refine fun_of (nt := 5) (by kernel_rfl) (by kernel_rfl) fun φ0 w0 a w hat => ?_
  have hF := wide_fw
  have hr : Fence.wide.round = none := rfl
  unfold r9_isHeight at h
  obtain ⟨r1, hr1, h⟩ := Option.bind_eq_some_iff.1 h
  have Kr1 : KO Tryz.prog [a0, bI r1] [] ⟨17, 0, [], [(ys 0), (ys 1), (ys 2)], [], [(ns 0 0), .num (.c (-10000)) (.v 1), .num (.c 10000) (.v 2)], 0, .bs (.v 0), [], .bs (.v 1), [], []⟩ := fun N M => ⟨_, _, [(ns 0 1)], ⟨b_Within_ok a0 (-10000 : Int) (10000 : Int) r1 hr1, ⟨(r a0), (show (-10000 : Int) = (-10000 : Int) from rfl), (r (10000 : Int)), trivial⟩, by kernel_rfl, ⟨rfl, trivial⟩⟩⟩
  by_cases h2 : r1 = true
  · rw [if_pos h2] at h
    injection h with h; subst h
    exact to_fin mixed ⟨[(.neq, (.v 1), (.c 0), true)], [], [], [⟨17, 0, [], [(ys 0), (ys 1), (ys 2)], [], [(ns 0 0), .num (.c (-10000)) (.v 1), .num (.c 10000) (.v 2)], 0, .bs (.v 0), [], .bs (.v 1), [], []⟩], [], []⟩ (V := (vals [a0, bI r1] [])) (n := 3000) (f := 3000) ⟨⟨bi_t h2, trivial⟩, trivial, trivial, trivial, trivial⟩ ⟨Kr1 _ _, trivial⟩ (R := ⟨.bs (.v 0), [], []⟩) (qs := [.num (.c 1) (.v 0)]) hF hr (by kernel_rfl) ⟨rfl, trivial⟩ (at_re (V' := (vals [a0, bI r1] [])) (T := ⟨[(0, (ys 0))], [], []⟩) (qs := [(ns 0 0)]) hat (by kernel_rfl) ⟨rfl, trivial⟩)
  · rw [if_neg h2] at h
    injection h with h; subst h
    exact to_fin mixed ⟨[(.neq, (.v 1), (.c 0), false)], [], [], [⟨17, 0, [], [(ys 0), (ys 1), (ys 2)], [], [(ns 0 0), .num (.c (-10000)) (.v 1), .num (.c 10000) (.v 2)], 0, .bs (.v 0), [], .bs (.v 1), [], []⟩], [], []⟩ (V := (vals [a0, bI r1] [])) (n := 3000) (f := 3000) ⟨⟨bi_f h2, trivial⟩, trivial, trivial, trivial, trivial⟩ ⟨Kr1 _ _, trivial⟩ (R := ⟨.bs (.v 0), [], []⟩) (qs := [.num (.c 0) (.v 0)]) hF hr (by kernel_rfl) ⟨rfl, trivial⟩ (at_re (V' := (vals [a0, bI r1] [])) (T := ⟨[(0, (ys 0))], [], []⟩) (qs := [(ns 0 0)]) hat (by kernel_rfl) ⟨rfl, trivial⟩)
def r9_HeightErr (a0_0 : Int) (a0_1 : Int) (a1_0 : Int) (a1_1 : Int) : Option (Int) := Option.bind (r9_isHeight a0_0) fun r1 => if r1 = true then (Option.bind (r9_isHeight a0_1) fun r3 => if r3 = true then (Option.bind (r9_isHeight a1_0) fun r5 => if r5 = true then (Option.bind (r9_isHeight a1_1) fun r7 => if r7 = true then (if a0_1 < a0_0 then (some (9 : Int)) else (if a1_1 < a1_0 then (some (9 : Int)) else (some (0 : Int)))) else (some (2 : Int))) else (some (2 : Int))) else (some (2 : Int))) else (some (2 : Int))
theorem r9_HeightErr_ok (a0_0 : Int) (a0_1 : Int) (a1_0 : Int) (a1_1 : Int) (y : Int) (h : r9_HeightErr a0_0 a0_1 a1_0 a1_1 = some y) : CallOk Tryz.prog 78 (vals [a0_0, a0_1, a1_0, a1_1] []) [.agg [(ys 0), (ys 1)], .agg [(ys 2), (ys 3)]] [] 0 (vals [y] []) ((ys 0)) [] := by
  refine fun_of (nt := 39) (by kernel_rfl) (by kernel_rfl) fun φ0 w0 a w hat => ?_
  have hF := wide_fw
  have hr : Fence.wide.round = none := rfl
  unfold r9_HeightErr at h
  obtain ⟨r1, hr1, h⟩ := Option.bind_eq_some_iff.1 h
  have Kr1 : KO Tryz.prog [a0_0, a0_1, a1_0, a1_1, bI r1] [] ⟨115, 2, [], [(ys 0)], [], [(ns 0 0)], 0, .bs (.v 0), [], .bs (.v 4), [], []⟩ := fun N M => ⟨_, _, [(ns 0 4)], ⟨r9_isHeight_ok a0_0 r1 hr1, ⟨(r a0_0), trivial⟩, by kernel_rfl, ⟨rfl, trivial⟩⟩⟩
  by_cases h2 : r1 = true
  · rw [if_pos h2] at h
    obtain ⟨r3, hr3, h⟩ := Option.bind_eq_some_iff.1 h
    have Kr3 : KO Tryz.prog [a0_0, a0_1, a1_0, a1_1, bI r1, bI r3] [] ⟨115, 2, [], [(ys 0)], [], [(ns 1 0)], 0, .bs (.v 0), [], .bs (.v 5), [], []⟩ := fun N M => ⟨_, _, [(ns 0 5)], ⟨r9_isHeight_ok a0_1 r3 hr3, ⟨(r a0_1), trivial⟩, by kernel_rfl, ⟨rfl, trivial⟩⟩⟩
    by_cases h4 : r3 = true
    · rw [if_pos h4] at h
      obtain ⟨r5, hr5, h⟩ := Option.bind_eq_some_iff.1 h
      have Kr5 : KO Tryz.prog [a0_0, a0_1, a1_0, a1_1, bI r1, bI r3, bI r5] [] ⟨115, 2, [], [(ys 0)], [], [(ns 2 0)], 0, .bs (.v 0), [], .bs (.v 6), [], []⟩ := fun N M => ⟨_, _, [(ns 0 6)], ⟨r9_isHeight_ok a1_0 r5 hr5, ⟨(r a1_0), trivial⟩, by kernel_rfl, ⟨rfl, trivial⟩⟩⟩
      by_cases h6 : r5 = true
      · rw [if_pos h6] at h
        obtain ⟨r7, hr7, h⟩ := Option.bind_eq_some_iff.1 h
        have Kr7 : KO Tryz.prog [a0_0, a0_1, a1_0, a1_1, bI r1, bI r3, bI r5, bI r7] [] ⟨115, 2, [], [(ys 0)], [], [(ns 3 0)], 0, .bs (.v 0), [], .bs (.v 7), [], []⟩ := fun N M => ⟨_, _, [(ns 0 7)], ⟨r9_isHeight_ok a1_1 r7 hr7, ⟨(r a1_1), trivial⟩, by kernel_rfl, ⟨rfl, trivial⟩⟩⟩
        by_cases h8 : r7 = true
        · rw [if_pos h8] at h
          by_cases h9 : a0_1 < a0_0
          · rw [if_pos h9] at h
            injection h with h; subst h
            exact to_fin mixed ⟨[(.neq, (.v 4), (.c 0), true), (.neq, (.v 5), (.c 0), true), (.neq, (.v 6), (.c 0), true), (.neq, (.v 7), (.c 0), true), (.gtr, (.v 0), (.v 1), true)], [], [], [⟨115, 2, [], [(ys 0)], [], [(ns 0 0)], 0, .bs (.v 0), [], .bs (.v 4), [], []⟩, ⟨115, 2, [], [(ys 0)], [], [(ns 1 0)], 0, .bs (.v 0), [], .bs (.v 5), [], []⟩, ⟨115, 2, [], [(ys 0)], [], [(ns 2 0)], 0, .bs (.v 0), [], .bs (.v 6), [], []⟩, ⟨115, 2, [], [(ys 0)], [], [(ns 3 0)], 0, .bs (.v 0), [], .bs (.v 7), [], []⟩], [], []⟩ (V := (vals [a0_0, a0_1, a1_0, a1_1, bI r1, bI r3, bI r5, bI r7] [])) (n := 3000) (f := 3000) ⟨⟨bi_t h2, bi_t h4, bi_t h6, bi_t h8, gtr_t h9, trivial⟩, trivial, trivial, trivial, trivial⟩ ⟨Kr1 _ _, Kr3 _ _, Kr5 _ _, Kr7 _ _, trivial⟩ (R := ⟨(ys 0), [], []⟩) (qs := [.num (.c 9) (.v 0)]) hF hr (by kernel_rfl) ⟨(r (9 : Int)), trivial⟩ (at_re (V' := (vals [a0_0, a0_1, a1_0, a1_1, bI r1, bI r3, bI r5, bI r7] [])) (T := ⟨[(0, .agg [(ys 0), (ys 1)]), (1, .agg [(ys 2), (ys 3)])], [], []⟩) (qs := [(ns 0 0), (ns 1 1), (ns 2 2), (ns 3 3)]) hat (by kernel_rfl) ⟨rfl, rfl, rfl, rfl, trivial⟩)
          · rw [if_neg h9] at h
            by_cases h10 : a1_1 < a1_0
            · rw [if_pos h10] at h
              injection h with h; subst h
              exact to_fin mixed ⟨[(.neq, (.v 4), (.c 0), true), (.neq, (.v 5), (.c 0), true), (.neq, (.v 6), (.c 0), true), (.neq, (.v 7), (.c 0), true), (.gtr, (.v 0), (.v 1), false), (.gtr, (.v 2), (.v 3), true)], [], [], [⟨115, 2, [], [(ys 0)], [], [(ns 0 0)], 0, .bs (.v 0), [], .bs (.v 4), [], []⟩, ⟨115, 2, [], [(ys 0)], [], [(ns 1 0)], 0, .bs (.v 0), [], .bs (.v 5), [], []⟩, ⟨115, 2, [], [(ys 0)], [], [(ns 2 0)], 0, .bs (.v 0), [], .bs (.v 6), [], []⟩, ⟨115, 2, [], [(ys 0)], [], [(ns 3 0)], 0, .bs (.v 0), [], .bs (.v 7), [], []⟩], [], []⟩ (V := (vals [a0_0, a0_1, a1_0, a1_1, bI r1, bI r3, bI r5, bI r7] [])) (n := 3000) (f := 3000) ⟨⟨bi_t h2, bi_t h4, bi_t h6, bi_t h8, gtr_f h9, gtr_t h10, trivial⟩, trivial, trivial, trivial, trivial⟩ ⟨Kr1 _ _, Kr3 _ _, Kr5 _ _, Kr7 _ _, trivial⟩ (R := ⟨(ys 0), [], []⟩) (qs := [.num (.c 9) (.v 0)]) hF hr (by kernel_rfl) ⟨(r (9 : Int)), trivial⟩ (at_re (V' := (vals [a0_0, a0_1, a1_0, a1_1, bI r1, bI r3, bI r5, bI r7] [])) (T := ⟨[(0, .agg [(ys 0), (ys 1)]), (1, .agg [(ys 2), (ys 3)])], [], []⟩) (qs := [(ns 0 0), (ns 1 1), (ns 2 2), (ns 3 3)]) hat (by kernel_rfl) ⟨rfl, rfl, rfl, rfl, trivial⟩)
            · rw [if_neg h10] at h
              injection h with h; subst h
              exact to_fin mixed ⟨[(.neq, (.v 4), (.c 0), true), (.neq, (.v 5), (.c 0), true), (.neq, (.v 6), (.c 0), true), (.neq, (.v 7), (.c 0), true), (.gtr, (.v 0), (.v 1), false), (.gtr, (.v 2), (.v 3), false)], [], [], [⟨115, 2, [], [(ys 0)], [], [(ns 0 0)], 0, .bs (.v 0), [], .bs (.v 4), [], []⟩, ⟨115, 2, [], [(ys 0)], [], [(ns 1 0)], 0, .bs (.v 0), [], .bs (.v 5), [], []⟩, ⟨115, 2, [], [(ys 0)], [], [(ns 2 0)], 0, .bs (.v 0), [], .bs (.v 6), [], []⟩, ⟨115, 2, [], [(ys 0)], [], [(ns 3 0)], 0, .bs (.v 0), [], .bs (.v 7), [], []⟩], [], []⟩ (V := (vals [a0_0, a0_1, a1_0, a1_1, bI r1, bI r3, bI r5, bI r7] [])) (n := 3000) (f := 3000) ⟨⟨bi_t h2, bi_t h4, bi_t h6, bi_t h8, gtr_f h9, gtr_f h10, trivial⟩, trivial, trivial, trivial, trivial⟩ ⟨Kr1 _ _, Kr3 _ _, Kr5 _ _, Kr7 _ _, trivial⟩ (R := ⟨(ys 0), [], []⟩) (qs := [.num (.c 0) (.v 0)]) hF hr (by kernel_rfl) ⟨(r (0 : Int)), trivial⟩ (at_re (V' := (vals [a0_0, a0_1, a1_0, a1_1, bI r1, bI r3, bI r5, bI r7] [])) (T := ⟨[(0, .agg [(ys 0), (ys 1)]), (1, .agg [(ys 2), (ys 3)])], [], []⟩) (qs := [(ns 0 0), (ns 1 1), (ns 2 2), (ns 3 3)]) hat (by kernel_rfl) ⟨rfl, rfl, rfl, rfl, trivial⟩)
        · rw [if_neg h8] at h
          injection h with h; subst h
          exact to_fin mixed ⟨[(.neq, (.v 4), (.c 0), true), (.neq, (.v 5), (.c 0), true), (.neq, (.v 6), (.c 0), true), (.neq, (.v 7), (.c 0), false)], [], [], [⟨115, 2, [], [(ys 0)], [], [(ns 0 0)], 0, .bs (.v 0), [], .bs (.v 4), [], []⟩, ⟨115, 2, [], [(ys 0)], [], [(ns 1 0)], 0, .bs (.v 0), [], .bs (.v 5), [], []⟩, ⟨115, 2, [], [(ys 0)], [], [(ns 2 0)], 0, .bs (.v 0), [], .bs (.v 6), [], []⟩, ⟨115, 2, [], [(ys 0)], [], [(ns 3 0)], 0, .bs (.v 0), [], .bs (.v 7), [], []⟩], [], []⟩ (V := (vals [a0_0, a0_1, a1_0, a1_1, bI r1, bI r3, bI r5, bI r7] [])) (n := 3000) (f := 3000) ⟨⟨bi_t h2, bi_t h4, bi_t h6, bi_f h8, trivial⟩, trivial, trivial, trivial, trivial⟩ ⟨Kr1 _ _, Kr3 _ _, Kr5 _ _, Kr7 _ _, trivial⟩ (R := ⟨(ys 0), [], []⟩) (qs := [.num (.c 2) (.v 0)]) hF hr (by kernel_rfl) ⟨(r (2 : Int)), trivial⟩ (at_re (V' := (vals [a0_0, a0_1, a1_0, a1_1, bI r1, bI r3, bI r5, bI r7] [])) (T := ⟨[(0, .agg [(ys 0), (ys 1)]), (1, .agg [(ys 2), (ys 3)])], [], []⟩) (qs := [(ns 0 0), (ns 1 1), (ns 2 2), (ns 3 3)]) hat (by kernel_rfl) ⟨rfl, rfl, rfl, rfl, trivial⟩)
      · rw [if_neg h6] at h
        injection h with h; subst h
        exact to_fin mixed ⟨[(.neq, (.v 4), (.c 0), true), (.neq, (.v 5), (.c 0), true), (.neq, (.v 6), (.c 0), false)], [], [], [⟨115, 2, [], [(ys 0)], [], [(ns 0 0)], 0, .bs (.v 0), [], .bs (.v 4), [], []⟩, ⟨115, 2, [], [(ys 0)], [], [(ns 1 0)], 0, .bs (.v 0), [], .bs (.v 5), [], []⟩, ⟨115, 2, [], [(ys 0)], [], [(ns 2 0)], 0, .bs (.v 0), [], .bs (.v 6), [], []⟩], [], []⟩ (V := (vals [a0_0, a0_1, a1_0, a1_1, bI r1, bI r3, bI r5] [])) (n := 3000) (f := 3000) ⟨⟨bi_t h2, bi_t h4, bi_f h6, trivial⟩, trivial, trivial, trivial, trivial⟩ ⟨Kr1 _ _, Kr3 _ _, Kr5 _ _, trivial⟩ (R := ⟨(ys 0), [], []⟩) (qs := [.num (.c 2) (.v 0)]) hF hr (by kernel_rfl) ⟨(r (2 : Int)), trivial⟩ (at_re (V' := (vals [a0_0, a0_1, a1_0, a1_1, bI r1, bI r3, bI r5] [])) (T := ⟨[(0, .agg [(ys 0), (ys 1)]), (1, .agg [(ys 2), (ys 3)])], [], []⟩) (qs := [(ns 0 0), (ns 1 1), (ns 2 2), (ns 3 3)]) hat (by kernel_rfl) ⟨rfl, rfl, rfl, rfl, trivial⟩)
    · rw [if_neg h4] at h
      injection h with h; subst h
      exact to_fin mixed ⟨[(.neq, (.v 4), (.c 0), true), (.neq, (.v 5), (.c 0), false)], [], [], [⟨115, 2, [], [(ys 0)], [], [(ns 0 0)], 0, .bs (.v 0), [], .bs (.v 4), [], []⟩, ⟨115, 2, [], [(ys 0)], [], [(ns 1 0)], 0, .bs (.v 0), [], .bs (.v 5), [], []⟩], [], []⟩ (V := (vals [a0_0, a0_1, a1_0, a1_1, bI r1, bI r3] [])) (n := 3000) (f := 3000) ⟨⟨bi_t h2, bi_f h4, trivial⟩, trivial, trivial, trivial, trivial⟩ ⟨Kr1 _ _, Kr3 _ _, trivial⟩ (R := ⟨(ys 0), [], []⟩) (qs := [.num (.c 2) (.v 0)]) hF hr (by kernel_rfl) ⟨(r (2 : Int)), trivial⟩ (at_re (V' := (vals [a0_0, a0_1, a1_0, a1_1, bI r1, bI r3] [])) (T := ⟨[(0, .agg [(ys 0), (ys 1)]), (1, .agg [(ys 2), (ys 3)])], [], []⟩) (qs := [(ns 0 0), (ns 1 1), (ns 2 2), (ns 3 3)]) hat (by kernel_rfl) ⟨rfl, rfl, rfl, rfl, trivial⟩)
  · rw [if_neg h2] at h
    injection h with h; subst h
    exact to_fin mixed ⟨[(.neq, (.v 4), (.c 0), false)], [], [], [⟨115, 2, [], [(ys 0)], [], [(ns 0 0)], 0, .bs (.v 0), [], .bs (.v 4), [], []⟩], [], []⟩ (V := (vals [a0_0, a0_1, a1_0, a1_1, bI r1] [])) (n := 3000) (f := 3000) ⟨⟨bi_f h2, trivial⟩, trivial, trivial, trivial, trivial⟩ ⟨Kr1 _ _, trivial⟩ (R := ⟨(ys 0), [], []⟩) (qs := [.num (.c 2) (.v 0)]) hF hr (by kernel_rfl) ⟨(r (2 : Int)), trivial⟩ (at_re (V' := (vals [a0_0, a0_1, a1_0, a1_1, bI r1] [])) (T := ⟨[(0, .agg [(ys 0), (ys 1)]), (1, .agg [(ys 2), (ys 3)])], [], []⟩) (qs := [(ns 0 0), (ns 1 1), (ns 2 2), (ns 3 3)]) hat (by kernel_rfl) ⟨rfl, rfl, rfl, rfl, trivial⟩)
def b_Mod (a0 : Int) (a1 : Int) : Option (Int) := if a1 = (0 : Int) then none else (if (Int.tmod a0 a1) < (0 : Int) then (some (IntKind.wrap .i64 ((Int.tmod a0 a1) + a1))) else (some (Int.tmod a0 a1)))
theorem b_Mod_ok (a0 : Int) (a1 : Int) (y : Int) (h : b_Mod a0 a1 = some y) : CallOk Tryz.prog 29 (vals [a0, a1] []) [(ys 0), (ys 1)] [] 0 (vals [y] []) ((ys 0)) [] := by
  refine fun_of (nt := 14) (by kernel_rfl) (by kernel_rfl) fun φ0 w0 a w hat => ?_
  have hF := wide_fw
  have hr : Fence.wide.round = none := rfl
  unfold b_Mod at h
  by_cases h1 : a1 = (0 : Int)
  · rw [if_pos h1] at h
    cases h
  · rw [if_neg h1] at h
    by_cases h2 : (Int.tmod a0 a1) < (0 : Int)
    · rw [if_pos h2] at h
      injection h with h; subst h
      exact to_fin mixed ⟨[(.eql, (.v 1), (.c 0), false), (.lss, (.rem .i64 (.v 0) (.v 1)), (.c 0), true)], [], [], [], [], []⟩ (V := (vals [a0, a1] [])) (n := 3000) (f := 3000) ⟨⟨eql_f h1, lss_t h2, trivial⟩, trivial, trivial, trivial, trivial⟩ trivial (R := ⟨(ys 0), [], []⟩) (qs := [.num (.add .i64 (.rem .i64 (.v 0) (.v 1)) (.v 1)) (.v 0)]) hF hr (by kernel_rfl) ⟨(r (IntKind.wrap .i64 ((Int.tmod a0 a1) + a1))), trivial⟩ hat
    · rw [if_neg h2] at h
      injection h with h; subst h
      exact to_fin mixed ⟨[(.eql, (.v 1), (.c 0), false), (.lss, (.rem .i64 (.v 0) (.v 1)), (.c 0), false)], [], [], [], [], []⟩ (V := (vals [a0, a1] [])) (n := 3000) (f := 3000) ⟨⟨eql_f h1, lss_f h2, trivial⟩, trivial, trivial, trivial, trivial⟩ trivial (R := ⟨(ys 0), [], []⟩) (qs := [.num (.rem .i64 (.v 0) (.v 1)) (.v 0)]) hF hr (by kernel_rfl) ⟨(r (Int.tmod a0 a1)), trivial⟩ hat
end Go.Proofs.YtidahkefillmeaaGreatDoor
