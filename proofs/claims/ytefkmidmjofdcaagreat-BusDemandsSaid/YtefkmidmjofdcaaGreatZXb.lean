/-
  Go functions as Lean functions (written by tools/lift.py).
-/
import Derived.Test.YtefkmidmjofdcaaGreatZEd
import Derived.Test.YtefkmidmjofdcaaGreatZEg
set_option linter.all false
namespace Go.Proofs.YtefkmidmjofdcaaGreat
open Go Go.RowKit
set_option maxRecDepth 100000
set_option maxHeartbeats 4000000

@[reducible] def xb_k1 : Cm.KE := ⟨116, 0, [], [.sym .u8 (.v 0)], [], [.num (.sat (.v 0) (.v 2)) (.v 0)], 0, .bs (.v 0), [], .bs (.v 3), [], []⟩
@[reducible] def xb_k2 : Cm.KE := ⟨117, 0, [], [.sym .u8 (.v 0)], [], [.num (.sat (.v 0) (.v 2)) (.v 0)], 0, .bs (.v 0), [], .bs (.v 4), [], []⟩
@[reducible] def xb_k3 : Cm.KE := ⟨116, 0, [], [.sym .u8 (.v 0)], [], [.num (.sat (.v 0) (.c 0)) (.v 0)], 0, .bs (.v 0), [], .bs (.v 1), [], []⟩
@[reducible] def xb_k4 : Cm.KE := ⟨109, 0, [], [.ss (.v 0)], [], [.num (.v 0) (.v 0)], 0, .bs (.v 0), [], .bs (.v 1), [], []⟩
@[reducible] def xb_k5 : Cm.KE := ⟨110, 1, [some (0, 0)], [.gs 0 0 (.v 0) 1 false, .ss (.v 1)], [some (.rows 0 [] 9 true)], [.num (.v 0) (.v 0), .num (.v 1) (.v 1), .lst 0 (some 0) []], 1, .sym .i64 (.v 0), [none], .sym .i64 (.v 2), [], []⟩
@[reducible] def xb_k6 : Cm.KE := ⟨100, 2, [], [.ss (.v 0)], [], [.num (.v 0) (.v 0)], 0, .sym .i64 (.v 0), [], .sym .i64 (.v 2), [], []⟩
@[reducible] def xb_k7 : Cm.KE := ⟨101, 2, [none], [.gs 0 0 (.v 0) 1 false, .ss (.v 1)], [some (.rows 0 [] 9 true)], [.num (.c 0) (.v 0), .num (.v 0) (.v 1)], 1, .bs (.v 0), [none], .bs (.v 3), [], []⟩
@[reducible] def xb_k8 : Cm.KE := ⟨100, 3, [], [.ss (.v 0)], [], [.num (.v 0) (.v 0)], 0, .sym .i64 (.v 0), [], .sym .i64 (.v 3), [], []⟩
@[reducible] def xb_k9 : Cm.KE := ⟨101, 3, [some (1, 0)], [.gs 0 0 (.v 0) 1 false, .ss (.v 1)], [some (.rows 0 [] 9 true)], [.num (.v 1) (.v 0), .num (.v 0) (.v 1), .lst 0 (some 0) []], 1, .bs (.v 0), [none], .bs (.v 4), [], []⟩
@[reducible] def xb_k10 : Cm.KE := ⟨78, 6, [some (1, 0), some (2, 0), some (4, 0), some (3, 0)], [.agg [.ss (.v 0), .sym .i64 (.v 1), .sym .i64 (.v 2), .sym .i64 (.v 3)], .ptr 0 0], [some (.cells [.fn 99 [] [.ptr 1 0, .ptr 3 0]] 121 false), some (.cells [.gs 2 0 (.v 4) 1 true] 59 false), some (.rows 0 [] 9 false), some (.cells [.sym .i64 (.v 5)] 28 false)], [.num (.v 5) (.v 0), .num (.v 6) (.v 1), .num (.v 7) (.v 2), .num (.v 8) (.v 3), .num (.v 1) (.v 4), .lst 0 (some 1) [], .num (.v 2) (.v 5)], 0, .sym .i64 (.v 0), [some (.cells [.fn 99 [] [.ptr 1 0, .ptr 3 0]] 121 false), some (.cells [.gs 4 0 (.v 1) 1 true] 59 false), none, some (.cells [.sym .i64 (.v 2)] 28 false), some (.rows 0 [] 9 false)], .sym .i64 (.v 10), [some (.rows 2 [] 9 false)], [(1, some (.cells [.fn 99 [] [.ptr 2 0, .ptr 3 0]] 121 false)), (2, some (.cells [.gs 6 0 (.v 9) 1 true] 59 false)), (4, none), (3, some (.cells [.sym .i64 (.v 2)] 28 false))]⟩
@[reducible] def xb_k11 : Cm.KE := ⟨40, 1, [some (0, 0)], [.gs 0 0 (.v 0) 4 false], [some (.rows 0 [] 79 true)], [.num (.v 0) (.v 0), .lst 0 (some 0) []], 1, .sym .i64 (.v 0), [none], .sym .i64 (.v 2), [], []⟩
@[reducible] def xb_k12 : Cm.KE := ⟨34, 1, [], [.sym .i64 (.v 0), .sym .i64 (.v 1), .sym .i64 (.v 2)], [], [.num (.v 1) (.v 0), .num (.c 0) (.v 1), .num (.c 10000) (.v 2)], 0, .sym .i64 (.v 0), [], .sym .i64 (.v 3), [], []⟩
@[reducible] def xb_k13 : Cm.KE := ⟨33, 2, [some (1, 0)], [.gs 0 0 (.v 0) 1 false], [some (.rows 0 [] 28 true)], [.num (.c 2) (.v 0), .lst 0 none [.sym .i64 (.v 2), .sym .i64 (.v 3)]], 1, .sym .i64 (.v 0), [none], .sym .i64 (.v 4), [], []⟩
@[reducible] def xb_k14 : Cm.KE := ⟨41, 1, [some (0, 0)], [.gs 0 0 (.v 0) 4 false, .sym .i64 (.v 1)], [some (.rows 0 [] 79 true)], [.num (.v 0) (.v 0), .num (.v 2) (.v 1), .lst 0 (some 0) []], 1, .sym .i64 (.v 0), [none], .sym .i64 (.v 3), [], []⟩
@[reducible] def xb_k15 : Cm.KE := ⟨40, 1, [some (0, 0)], [.gs 0 0 (.v 0) 4 false], [some (.rows 0 [] 79 true)], [.num (.v 0) (.v 0), .lst 0 (some 0) []], 1, .sym .i64 (.v 0), [none], .sym .i64 (.v 1), [], []⟩
@[reducible] def xb_k16 : Cm.KE := ⟨42, 1, [some (0, 0)], [.gs 0 0 (.v 0) 4 false], [some (.rows 0 [] 79 true)], [.num (.v 0) (.v 0), .lst 0 (some 0) []], 1, .sym .i64 (.v 0), [none], .sym .i64 (.v 2), [], []⟩
@[reducible] def xb_k17 : Cm.KE := ⟨60, 2, [], [.ss (.v 0)], [], [.num (.v 2) (.v 0)], 0, .bs (.v 0), [], .bs (.v 6), [], []⟩
@[reducible] def xb_k18 : Cm.KE := ⟨21, 2, [], [.sym .i64 (.v 0), .sym .i64 (.v 1), .sym .i64 (.v 2)], [], [.num (.v 3) (.v 0), .num (.c 1) (.v 1), .num (.c 60) (.v 2)], 0, .bs (.v 0), [], .bs (.v 6), [], []⟩
@[reducible] def xb_k19 : Cm.KE := ⟨21, 2, [], [.sym .i64 (.v 0), .sym .i64 (.v 1), .sym .i64 (.v 2)], [], [.num (.v 4) (.v 0), .num (.c 1) (.v 1), .num (.v 3) (.v 2)], 0, .bs (.v 0), [], .bs (.v 7), [], []⟩
@[reducible] def xb_k20 : Cm.KE := ⟨21, 2, [], [.sym .i64 (.v 0), .sym .i64 (.v 1), .sym .i64 (.v 2)], [], [.num (.v 5) (.v 0), .num (.c 1) (.v 1), .num (.c 20) (.v 2)], 0, .bs (.v 0), [], .bs (.v 8), [], []⟩
@[reducible] def xb_k21 : Cm.KE := ⟨45, 1, [], [.sym .i64 (.v 0), .sym .i64 (.v 1)], [], [.num (.v 1) (.v 0), .num (.v 4) (.v 1)], 0, .sym .i64 (.v 0), [], .sym .i64 (.v 7), [], []⟩
@[reducible] def xb_k22 : Cm.KE := ⟨22, 1, [some (0, 0)], [.gs 0 0 (.v 0) 4 false, .sym .i64 (.v 1)], [some (.rows 0 [] 79 true)], [.num (.v 0) (.v 0), .num (.v 2) (.v 1), .lst 0 (some 0) []], 1, .sym .i64 (.v 0), [none], .sym .i64 (.v 3), [], []⟩

def u_isLetter (a0 : Int) : Option (Bool) := if (97 : Int) ≤ a0 then (if a0 ≤ (122 : Int) then (some true) else (if (65 : Int) ≤ a0 then (if a0 ≤ (90 : Int) then (some true) else (some false)) else (some false))) else (if (65 : Int) ≤ a0 then (if a0 ≤ (90 : Int) then (some true) else (some false)) else (some false))

theorem u_isLetter_ok (a0 : Int) (y : Bool) (h : u_isLetter a0 = some y) : Cm.CallOk Tryz.prog 116 (Cm.vals [a0] []) [.sym .u8 (.v 0)] [] 0 (Cm.vals [Cm.bI y] []) (.bs (.v 0)) [] := by
  refine Cm.fun_of (nt := 17) (by kernel_rfl) (by kernel_rfl) fun φ0 w0 a w hat => ?_
  have hF := Cm.wide_fw
  have hr : Fence.wide.round = none := rfl
  unfold u_isLetter at h
  by_cases h1 : (97 : Int) ≤ a0
  · rw [if_pos h1] at h
    by_cases h2 : a0 ≤ (122 : Int)
    · rw [if_pos h2] at h
      injection h with h; subst h
      exact Cm.to_fin mixed ⟨[(.leq, (.c 97), (.v 0), true), (.leq, (.v 0), (.c 122), true)], [], [], [], [], []⟩ (V := (Cm.vals [a0] [])) (n := 3000) (f := 3000) ⟨⟨Cm.leq_t h1, Cm.leq_t h2, trivial⟩, trivial, trivial, trivial, trivial⟩ trivial (R := ⟨.bs (.v 0), [], []⟩) (qs := [.num (.c 1) (.v 0)]) hF hr (by kernel_rfl) ⟨rfl, trivial⟩ hat
    · rw [if_neg h2] at h
      by_cases h3 : (65 : Int) ≤ a0
      · rw [if_pos h3] at h
        by_cases h4 : a0 ≤ (90 : Int)
        · rw [if_pos h4] at h
          injection h with h; subst h
          exact Cm.to_fin mixed ⟨[(.leq, (.c 97), (.v 0), true), (.leq, (.v 0), (.c 122), false), (.leq, (.c 65), (.v 0), true), (.leq, (.v 0), (.c 90), true)], [], [], [], [], []⟩ (V := (Cm.vals [a0] [])) (n := 3000) (f := 3000) ⟨⟨Cm.leq_t h1, Cm.leq_f h2, Cm.leq_t h3, Cm.leq_t h4, trivial⟩, trivial, trivial, trivial, trivial⟩ trivial (R := ⟨.bs (.v 0), [], []⟩) (qs := [.num (.c 1) (.v 0)]) hF hr (by kernel_rfl) ⟨rfl, trivial⟩ hat
        · rw [if_neg h4] at h
          injection h with h; subst h
          exact Cm.to_fin mixed ⟨[(.leq, (.c 97), (.v 0), true), (.leq, (.v 0), (.c 122), false), (.leq, (.c 65), (.v 0), true), (.leq, (.v 0), (.c 90), false)], [], [], [], [], []⟩ (V := (Cm.vals [a0] [])) (n := 3000) (f := 3000) ⟨⟨Cm.leq_t h1, Cm.leq_f h2, Cm.leq_t h3, Cm.leq_f h4, trivial⟩, trivial, trivial, trivial, trivial⟩ trivial (R := ⟨.bs (.v 0), [], []⟩) (qs := [.num (.c 0) (.v 0)]) hF hr (by kernel_rfl) ⟨rfl, trivial⟩ hat
      · rw [if_neg h3] at h
        injection h with h; subst h
        exact Cm.to_fin mixed ⟨[(.leq, (.c 97), (.v 0), true), (.leq, (.v 0), (.c 122), false), (.leq, (.c 65), (.v 0), false)], [], [], [], [], []⟩ (V := (Cm.vals [a0] [])) (n := 3000) (f := 3000) ⟨⟨Cm.leq_t h1, Cm.leq_f h2, Cm.leq_f h3, trivial⟩, trivial, trivial, trivial, trivial⟩ trivial (R := ⟨.bs (.v 0), [], []⟩) (qs := [.num (.c 0) (.v 0)]) hF hr (by kernel_rfl) ⟨rfl, trivial⟩ hat
  · rw [if_neg h1] at h
    by_cases h5 : (65 : Int) ≤ a0
    · rw [if_pos h5] at h
      by_cases h6 : a0 ≤ (90 : Int)
      · rw [if_pos h6] at h
        injection h with h; subst h
        exact Cm.to_fin mixed ⟨[(.leq, (.c 97), (.v 0), false), (.leq, (.c 65), (.v 0), true), (.leq, (.v 0), (.c 90), true)], [], [], [], [], []⟩ (V := (Cm.vals [a0] [])) (n := 3000) (f := 3000) ⟨⟨Cm.leq_f h1, Cm.leq_t h5, Cm.leq_t h6, trivial⟩, trivial, trivial, trivial, trivial⟩ trivial (R := ⟨.bs (.v 0), [], []⟩) (qs := [.num (.c 1) (.v 0)]) hF hr (by kernel_rfl) ⟨rfl, trivial⟩ hat
      · rw [if_neg h6] at h
        injection h with h; subst h
        exact Cm.to_fin mixed ⟨[(.leq, (.c 97), (.v 0), false), (.leq, (.c 65), (.v 0), true), (.leq, (.v 0), (.c 90), false)], [], [], [], [], []⟩ (V := (Cm.vals [a0] [])) (n := 3000) (f := 3000) ⟨⟨Cm.leq_f h1, Cm.leq_t h5, Cm.leq_f h6, trivial⟩, trivial, trivial, trivial, trivial⟩ trivial (R := ⟨.bs (.v 0), [], []⟩) (qs := [.num (.c 0) (.v 0)]) hF hr (by kernel_rfl) ⟨rfl, trivial⟩ hat
    · rw [if_neg h5] at h
      injection h with h; subst h
      exact Cm.to_fin mixed ⟨[(.leq, (.c 97), (.v 0), false), (.leq, (.c 65), (.v 0), false)], [], [], [], [], []⟩ (V := (Cm.vals [a0] [])) (n := 3000) (f := 3000) ⟨⟨Cm.leq_f h1, Cm.leq_f h5, trivial⟩, trivial, trivial, trivial, trivial⟩ trivial (R := ⟨.bs (.v 0), [], []⟩) (qs := [.num (.c 0) (.v 0)]) hF hr (by kernel_rfl) ⟨rfl, trivial⟩ hat

def u_isDigit (a0 : Int) : Option (Bool) := if (48 : Int) ≤ a0 then (if a0 ≤ (57 : Int) then (some true) else (some false)) else (some false)

theorem u_isDigit_ok (a0 : Int) (y : Bool) (h : u_isDigit a0 = some y) : Cm.CallOk Tryz.prog 117 (Cm.vals [a0] []) [.sym .u8 (.v 0)] [] 0 (Cm.vals [Cm.bI y] []) (.bs (.v 0)) [] := by
  refine Cm.fun_of (nt := 9) (by kernel_rfl) (by kernel_rfl) fun φ0 w0 a w hat => ?_
  have hF := Cm.wide_fw
  have hr : Fence.wide.round = none := rfl
  unfold u_isDigit at h
  by_cases h1 : (48 : Int) ≤ a0
  · rw [if_pos h1] at h
    by_cases h2 : a0 ≤ (57 : Int)
    · rw [if_pos h2] at h
      injection h with h; subst h
      exact Cm.to_fin mixed ⟨[(.leq, (.c 48), (.v 0), true), (.leq, (.v 0), (.c 57), true)], [], [], [], [], []⟩ (V := (Cm.vals [a0] [])) (n := 3000) (f := 3000) ⟨⟨Cm.leq_t h1, Cm.leq_t h2, trivial⟩, trivial, trivial, trivial, trivial⟩ trivial (R := ⟨.bs (.v 0), [], []⟩) (qs := [.num (.c 1) (.v 0)]) hF hr (by kernel_rfl) ⟨rfl, trivial⟩ hat
    · rw [if_neg h2] at h
      injection h with h; subst h
      exact Cm.to_fin mixed ⟨[(.leq, (.c 48), (.v 0), true), (.leq, (.v 0), (.c 57), false)], [], [], [], [], []⟩ (V := (Cm.vals [a0] [])) (n := 3000) (f := 3000) ⟨⟨Cm.leq_t h1, Cm.leq_f h2, trivial⟩, trivial, trivial, trivial, trivial⟩ trivial (R := ⟨.bs (.v 0), [], []⟩) (qs := [.num (.c 0) (.v 0)]) hF hr (by kernel_rfl) ⟨rfl, trivial⟩ hat
  · rw [if_neg h1] at h
    injection h with h; subst h
    exact Cm.to_fin mixed ⟨[(.leq, (.c 48), (.v 0), false)], [], [], [], [], []⟩ (V := (Cm.vals [a0] [])) (n := 3000) (f := 3000) ⟨⟨Cm.leq_f h1, trivial⟩, trivial, trivial, trivial, trivial⟩ trivial (R := ⟨.bs (.v 0), [], []⟩) (qs := [.num (.c 0) (.v 0)]) hF hr (by kernel_rfl) ⟨rfl, trivial⟩ hat

def u_isName_L1 (fu : Nat) (p0 : Int) (p1 : Int) : Nat → Int → Option ((Unit) ⊕ (Unit))
  | 0, _ => none
  | n + 1, v2 => if v2 < p1 then (if (0 : Int) ≤ v2 then (if v2 < (Cm.sln p0) then (Option.bind (u_isLetter (Cm.sat p0 v2)) fun r4 => if r4 = true then (u_isName_L1 fu p0 p1 n (IntKind.wrap .i64 (v2 + (1 : Int)))) else (Option.bind (u_isDigit (Cm.sat p0 v2)) fun r6 => if r6 = true then (u_isName_L1 fu p0 p1 n (IntKind.wrap .i64 (v2 + (1 : Int)))) else (if (Cm.sat p0 v2) = (45 : Int) then (u_isName_L1 fu p0 p1 n (IntKind.wrap .i64 (v2 + (1 : Int)))) else (some (.inl ()))))) else none) else none) else (some (.inr ()))

theorem u_isName_L1_ok (fu : Nat) (p0 : Int) (p1 : Int) : ∀ (n : Nat) (v2 : Int) (o : (Unit) ⊕ (Unit)), u_isName_L1 fu p0 p1 n v2 = some o → ∀ (φ0 : Cm.Phi) (w0 : World) (F : Fence) (k : Nat) (R : Exit → Act → World → Prop) (a : Act) (w : World), Cm.FW F → F.round = none → Cm.AtS (Cm.vals [p0, p1, v2] []) [(0, .ss (.v 0)), (19, .sym .i64 (.v 1)), (20, .sym .i64 (.v 2))] [] 39 0 0 φ0 w0 a w → (∀ (y : Unit), o = .inl y → ∀ a' w', Cm.AtS (Cm.vals [] []) [(2, .bool false)] [] 39 0 0 φ0 w0 a' w' → R Exit.ret a' w') → (∀ (y : Unit), o = .inr y → ∀ a' w', Cm.AtS (Cm.vals [] []) [] [] 39 0 0 φ0 w0 a' w' → R (Exit.exit 0) a' w') → Code.roundsIn F k Tryz.prog (Cm.subAt (Cm.bodyOf Tryz.prog 109) [1, 1, 0, 1, 0, 0]) R n a w
  | 0, _, _, h => by cases h
  | n + 1, v2, o, h => by
    intro φ0 w0 F k R a w hF hr hat hx0 hx1
    rw [u_isName_L1] at h
    refine Cm.rounds_in (p := [1, 1, 0, 1, 0, 0]) ?_
    by_cases h1 : v2 < p1
    · rw [if_pos h1] at h
      by_cases h2 : (0 : Int) ≤ v2
      · rw [if_pos h2] at h
        by_cases h3 : v2 < (Cm.sln p0)
        · rw [if_pos h3] at h
          obtain ⟨r4, hr4, h⟩ := Option.bind_eq_some_iff.1 h
          have Kr4 : ∀ N M, ∃ v v' q, Cm.KE.ok Tryz.prog (Cm.vals ([p0, p1, v2, Cm.bI r4] ++ N) ([] ++ M)) xb_k1 v v' q := fun N M => ⟨_, _, [.num (.v 0) (.v 3)], ⟨u_isLetter_ok (Cm.sat p0 v2) r4 hr4, ⟨(Cm.r (Cm.sat p0 v2)), trivial⟩, by kernel_rfl, ⟨rfl, trivial⟩⟩⟩
          by_cases h5 : r4 = true
          · rw [if_pos h5] at h
            refine Cm.to_done mixed ⟨[(.lss, (.v 2), (.v 1), true), (.leq, (.c 0), (.v 2), true), (.lss, (.v 2), (.sln (.v 0)), true), (.neq, (.v 3), (.c 0), true)], [], [], [xb_k1], [], []⟩ (V := (Cm.vals [p0, p1, v2, Cm.bI r4] [])) (n := 3000) (f := 3000) (V' := (Cm.vals [p0, p1, (IntKind.wrap .i64 (v2 + (1 : Int)))] [])) ⟨⟨Cm.lss_t h1, Cm.leq_t h2, Cm.lss_t h3, Cm.bi_t h5, trivial⟩, trivial, trivial, trivial, trivial⟩ ⟨Kr4 _ _, trivial⟩ (T := ⟨[(0, .ss (.v 0)), (19, .sym .i64 (.v 1)), (20, .sym .i64 (.v 2))], [], []⟩) (ce := .normal) (qs := [.num (.v 0) (.v 0), .num (.v 1) (.v 1), .num (.add .i64 (.v 2) (.c 1)) (.v 2)]) hF hr (by kernel_rfl) ⟨(Cm.r p0), (Cm.r p1), (Cm.r (IntKind.wrap .i64 (v2 + (1 : Int)))), trivial⟩ (Cm.at_re (V' := (Cm.vals [p0, p1, v2, Cm.bI r4] [])) (T := ⟨[(0, .ss (.v 0)), (19, .sym .i64 (.v 1)), (20, .sym .i64 (.v 2))], [], []⟩) (qs := [.num (.v 0) (.v 0), .num (.v 1) (.v 1), .num (.v 2) (.v 2)]) hat (by kernel_rfl) ⟨rfl, rfl, rfl, trivial⟩) fun a' w' hat' => ?_
            exact u_isName_L1_ok fu p0 p1 n (IntKind.wrap .i64 (v2 + (1 : Int))) o h _ _ _ _ _ _ _ hF hr hat' hx0 hx1
          · rw [if_neg h5] at h
            obtain ⟨r6, hr6, h⟩ := Option.bind_eq_some_iff.1 h
            have Kr6 : ∀ N M, ∃ v v' q, Cm.KE.ok Tryz.prog (Cm.vals ([p0, p1, v2, Cm.bI r4, Cm.bI r6] ++ N) ([] ++ M)) xb_k2 v v' q := fun N M => ⟨_, _, [.num (.v 0) (.v 4)], ⟨u_isDigit_ok (Cm.sat p0 v2) r6 hr6, ⟨(Cm.r (Cm.sat p0 v2)), trivial⟩, by kernel_rfl, ⟨rfl, trivial⟩⟩⟩
            by_cases h7 : r6 = true
            · rw [if_pos h7] at h
              refine Cm.to_done mixed ⟨[(.lss, (.v 2), (.v 1), true), (.leq, (.c 0), (.v 2), true), (.lss, (.v 2), (.sln (.v 0)), true), (.neq, (.v 3), (.c 0), false), (.neq, (.v 4), (.c 0), true)], [], [], [xb_k1, xb_k2], [], []⟩ (V := (Cm.vals [p0, p1, v2, Cm.bI r4, Cm.bI r6] [])) (n := 3000) (f := 3000) (V' := (Cm.vals [p0, p1, (IntKind.wrap .i64 (v2 + (1 : Int)))] [])) ⟨⟨Cm.lss_t h1, Cm.leq_t h2, Cm.lss_t h3, Cm.bi_f h5, Cm.bi_t h7, trivial⟩, trivial, trivial, trivial, trivial⟩ ⟨Kr4 _ _, Kr6 _ _, trivial⟩ (T := ⟨[(0, .ss (.v 0)), (19, .sym .i64 (.v 1)), (20, .sym .i64 (.v 2))], [], []⟩) (ce := .normal) (qs := [.num (.v 0) (.v 0), .num (.v 1) (.v 1), .num (.add .i64 (.v 2) (.c 1)) (.v 2)]) hF hr (by kernel_rfl) ⟨(Cm.r p0), (Cm.r p1), (Cm.r (IntKind.wrap .i64 (v2 + (1 : Int)))), trivial⟩ (Cm.at_re (V' := (Cm.vals [p0, p1, v2, Cm.bI r4, Cm.bI r6] [])) (T := ⟨[(0, .ss (.v 0)), (19, .sym .i64 (.v 1)), (20, .sym .i64 (.v 2))], [], []⟩) (qs := [.num (.v 0) (.v 0), .num (.v 1) (.v 1), .num (.v 2) (.v 2)]) hat (by kernel_rfl) ⟨rfl, rfl, rfl, trivial⟩) fun a' w' hat' => ?_
              exact u_isName_L1_ok fu p0 p1 n (IntKind.wrap .i64 (v2 + (1 : Int))) o h _ _ _ _ _ _ _ hF hr hat' hx0 hx1
            · rw [if_neg h7] at h
              by_cases h8 : (Cm.sat p0 v2) = (45 : Int)
              · rw [if_pos h8] at h
                refine Cm.to_done mixed ⟨[(.lss, (.v 2), (.v 1), true), (.leq, (.c 0), (.v 2), true), (.lss, (.v 2), (.sln (.v 0)), true), (.neq, (.v 3), (.c 0), false), (.neq, (.v 4), (.c 0), false), (.neq, (.sat (.v 0) (.v 2)), (.c 45), false)], [], [], [xb_k1, xb_k2], [], []⟩ (V := (Cm.vals [p0, p1, v2, Cm.bI r4, Cm.bI r6] [])) (n := 3000) (f := 3000) (V' := (Cm.vals [p0, p1, (IntKind.wrap .i64 (v2 + (1 : Int)))] [])) ⟨⟨Cm.lss_t h1, Cm.leq_t h2, Cm.lss_t h3, Cm.bi_f h5, Cm.bi_f h7, Cm.neq_f h8, trivial⟩, trivial, trivial, trivial, trivial⟩ ⟨Kr4 _ _, Kr6 _ _, trivial⟩ (T := ⟨[(0, .ss (.v 0)), (19, .sym .i64 (.v 1)), (20, .sym .i64 (.v 2))], [], []⟩) (ce := .normal) (qs := [.num (.v 0) (.v 0), .num (.v 1) (.v 1), .num (.add .i64 (.v 2) (.c 1)) (.v 2)]) hF hr (by kernel_rfl) ⟨(Cm.r p0), (Cm.r p1), (Cm.r (IntKind.wrap .i64 (v2 + (1 : Int)))), trivial⟩ (Cm.at_re (V' := (Cm.vals [p0, p1, v2, Cm.bI r4, Cm.bI r6] [])) (T := ⟨[(0, .ss (.v 0)), (19, .sym .i64 (.v 1)), (20, .sym .i64 (.v 2))], [], []⟩) (qs := [.num (.v 0) (.v 0), .num (.v 1) (.v 1), .num (.v 2) (.v 2)]) hat (by kernel_rfl) ⟨rfl, rfl, rfl, trivial⟩) fun a' w' hat' => ?_
                exact u_isName_L1_ok fu p0 p1 n (IntKind.wrap .i64 (v2 + (1 : Int))) o h _ _ _ _ _ _ _ hF hr hat' hx0 hx1
              · rw [if_neg h8] at h
                injection h with h; subst h
                exact Cm.to_done mixed ⟨[(.lss, (.v 2), (.v 1), true), (.leq, (.c 0), (.v 2), true), (.lss, (.v 2), (.sln (.v 0)), true), (.neq, (.v 3), (.c 0), false), (.neq, (.v 4), (.c 0), false), (.neq, (.sat (.v 0) (.v 2)), (.c 45), true)], [], [], [xb_k1, xb_k2], [], []⟩ (V := (Cm.vals [p0, p1, v2, Cm.bI r4, Cm.bI r6] [])) (n := 3000) (f := 3000) (V' := (Cm.vals [] [])) ⟨⟨Cm.lss_t h1, Cm.leq_t h2, Cm.lss_t h3, Cm.bi_f h5, Cm.bi_f h7, Cm.neq_t h8, trivial⟩, trivial, trivial, trivial, trivial⟩ ⟨Kr4 _ _, Kr6 _ _, trivial⟩ (T := ⟨[(2, .bool false)], [], []⟩) (ce := .ret) (qs := []) hF hr (by kernel_rfl) trivial (Cm.at_re (V' := (Cm.vals [p0, p1, v2, Cm.bI r4, Cm.bI r6] [])) (T := ⟨[(0, .ss (.v 0)), (19, .sym .i64 (.v 1)), (20, .sym .i64 (.v 2))], [], []⟩) (qs := [.num (.v 0) (.v 0), .num (.v 1) (.v 1), .num (.v 2) (.v 2)]) hat (by kernel_rfl) ⟨rfl, rfl, rfl, trivial⟩) fun a' w' hat' => hx0 () rfl a' w' hat'
        · rw [if_neg h3] at h
          cases h
      · rw [if_neg h2] at h
        cases h
    · rw [if_neg h1] at h
      injection h with h; subst h
      exact Cm.to_done mixed ⟨[(.lss, (.v 2), (.v 1), false)], [], [], [], [], []⟩ (V := (Cm.vals [p0, p1, v2] [])) (n := 3000) (f := 3000) (V' := (Cm.vals [] [])) ⟨⟨Cm.lss_f h1, trivial⟩, trivial, trivial, trivial, trivial⟩ trivial (T := ⟨[], [], []⟩) (ce := (.exit 0)) (qs := []) hF hr (by kernel_rfl) trivial hat fun a' w' hat' => hx1 () rfl a' w' hat'

def u_isName (fu : Nat) (a0 : Int) : Option (Bool) := if a0 = (0 : Int) then (some false) else (if (12 : Int) < (Cm.sln a0) then (some false) else (if (0 : Int) < (Cm.sln a0) then (Option.bind (u_isLetter (Cm.sat a0 (0 : Int))) fun r4 => if r4 = true then (Option.bind (u_isName_L1 fu a0 (Cm.sln a0) fu (0 : Int)) fun o6 => (match o6 with | .inl y7 => (some false) | .inr y8 => (some true))) else (some false)) else none))

theorem u_isName_ok (fu : Nat) (a0 : Int) (y : Bool) (h : u_isName fu a0 = some y) : Cm.CallOk Tryz.prog 109 (Cm.vals [a0] []) [.ss (.v 0)] [] 0 (Cm.vals [Cm.bI y] []) (.bs (.v 0)) [] := by
  refine Cm.fun_of (nt := 39) (by kernel_rfl) (by kernel_rfl) fun φ0 w0 a w hat => ?_
  have hF := Cm.wide_fw
  have hr : Fence.wide.round = none := rfl
  unfold u_isName at h
  by_cases h1 : a0 = (0 : Int)
  · rw [if_pos h1] at h
    injection h with h; subst h
    exact Cm.to_fin mixed ⟨[(.eql, (.v 0), (.c 0), true)], [], [], [], [], []⟩ (V := (Cm.vals [a0] [])) (n := 3000) (f := 3000) ⟨⟨Cm.eql_t h1, trivial⟩, trivial, trivial, trivial, trivial⟩ trivial (R := ⟨.bs (.v 0), [], []⟩) (qs := [.num (.c 0) (.v 0)]) hF hr (by kernel_rfl) ⟨rfl, trivial⟩ hat
  · rw [if_neg h1] at h
    by_cases h2 : (12 : Int) < (Cm.sln a0)
    · rw [if_pos h2] at h
      injection h with h; subst h
      exact Cm.to_fin mixed ⟨[(.eql, (.v 0), (.c 0), false), (.gtr, (.sln (.v 0)), (.c 12), true)], [], [], [], [], []⟩ (V := (Cm.vals [a0] [])) (n := 3000) (f := 3000) ⟨⟨Cm.eql_f h1, Cm.gtr_t h2, trivial⟩, trivial, trivial, trivial, trivial⟩ trivial (R := ⟨.bs (.v 0), [], []⟩) (qs := [.num (.c 0) (.v 0)]) hF hr (by kernel_rfl) ⟨rfl, trivial⟩ hat
    · rw [if_neg h2] at h
      by_cases h3 : (0 : Int) < (Cm.sln a0)
      · rw [if_pos h3] at h
        obtain ⟨r4, hr4, h⟩ := Option.bind_eq_some_iff.1 h
        have Kr4 : ∀ N M, ∃ v v' q, Cm.KE.ok Tryz.prog (Cm.vals ([a0, Cm.bI r4] ++ N) ([] ++ M)) xb_k3 v v' q := fun N M => ⟨_, _, [.num (.v 0) (.v 1)], ⟨u_isLetter_ok (Cm.sat a0 (0 : Int)) r4 hr4, ⟨(Cm.r (Cm.sat a0 (0 : Int))), trivial⟩, by kernel_rfl, ⟨rfl, trivial⟩⟩⟩
        by_cases h5 : r4 = true
        · rw [if_pos h5] at h
          obtain ⟨o6, ho6, h⟩ := Option.bind_eq_some_iff.1 h
          refine Cm.to_loop mixed ⟨[(.eql, (.v 0), (.c 0), false), (.gtr, (.sln (.v 0)), (.c 12), false), (.lss, (.c 0), (.sln (.v 0)), true), (.neq, (.v 1), (.c 0), true)], [], [], [xb_k3], [], []⟩ (V := (Cm.vals [a0, Cm.bI r4] [])) (n := 3000) (f := 3000) (V' := (Cm.vals [a0, (Cm.sln a0), (0 : Int)] [])) ⟨⟨Cm.eql_f h1, Cm.gtr_f h2, Cm.lss_t h3, Cm.bi_t h5, trivial⟩, trivial, trivial, trivial, trivial⟩ ⟨Kr4 _ _, trivial⟩ (T := ⟨[(0, .ss (.v 0)), (19, .sym .i64 (.v 1)), (20, .sym .i64 (.v 2))], [], []⟩) (B := Cm.subAt (Cm.bodyOf Tryz.prog 109) [1, 1, 0, 1, 0, 0]) (K' := [.bk 0, .sq (Cm.subAt (Cm.bodyOf Tryz.prog 109) [1, 1, 1]) [1, 1, 1]]) (qs := [.num (.v 0) (.v 0), .num (.sln (.v 0)) (.v 1), .num (.c 0) (.v 2)]) hF hr (by kernel_rfl) ⟨(Cm.r a0), (Cm.r (Cm.sln a0)), (Cm.r (0 : Int)), trivial⟩ (Cm.at_re (V' := (Cm.vals [a0, Cm.bI r4] [])) (T := ⟨[(0, .ss (.v 0))], [], []⟩) (qs := [.num (.v 0) (.v 0)]) hat (by kernel_rfl) ⟨rfl, trivial⟩) fun aa1 ww1 hat1 => Cm.loop_in (u_isName_L1_ok fu a0 (Cm.sln a0) fu (0 : Int) o6 ho6 _ _ _ _ _ _ _ hF hr hat1 ?_ ?_)
          · intro y7 hy aa2 ww2 hat
            subst hy
            dsimp only at h
            show (Cm.Wk.out .ret).goal _ _ _ [.bk 0, .sq (Cm.subAt (Cm.bodyOf Tryz.prog 109) [1, 1, 1]) [1, 1, 1]] _ aa2 ww2
            injection h with h; subst h
            exact Cm.to_fin mixed ⟨[], [], [], [], [], []⟩ (V := (Cm.vals [] [])) (n := 3000) (f := 3000) ⟨trivial, trivial, trivial, trivial, trivial⟩ trivial (R := ⟨.bs (.v 0), [], []⟩) (qs := [.num (.c 0) (.v 0)]) hF hr (by kernel_rfl) ⟨rfl, trivial⟩ hat
          · intro y8 hy aa2 ww2 hat
            subst hy
            dsimp only at h
            show (Cm.Wk.out (.exit 0)).goal _ _ _ [.bk 0, .sq (Cm.subAt (Cm.bodyOf Tryz.prog 109) [1, 1, 1]) [1, 1, 1]] _ aa2 ww2
            injection h with h; subst h
            exact Cm.to_fin mixed ⟨[], [], [], [], [], []⟩ (V := (Cm.vals [] [])) (n := 3000) (f := 3000) ⟨trivial, trivial, trivial, trivial, trivial⟩ trivial (R := ⟨.bs (.v 0), [], []⟩) (qs := [.num (.c 1) (.v 0)]) hF hr (by kernel_rfl) ⟨rfl, trivial⟩ hat
        · rw [if_neg h5] at h
          injection h with h; subst h
          exact Cm.to_fin mixed ⟨[(.eql, (.v 0), (.c 0), false), (.gtr, (.sln (.v 0)), (.c 12), false), (.lss, (.c 0), (.sln (.v 0)), true), (.neq, (.v 1), (.c 0), false)], [], [], [xb_k3], [], []⟩ (V := (Cm.vals [a0, Cm.bI r4] [])) (n := 3000) (f := 3000) ⟨⟨Cm.eql_f h1, Cm.gtr_f h2, Cm.lss_t h3, Cm.bi_f h5, trivial⟩, trivial, trivial, trivial, trivial⟩ ⟨Kr4 _ _, trivial⟩ (R := ⟨.bs (.v 0), [], []⟩) (qs := [.num (.c 0) (.v 0)]) hF hr (by kernel_rfl) ⟨rfl, trivial⟩ (Cm.at_re (V' := (Cm.vals [a0, Cm.bI r4] [])) (T := ⟨[(0, .ss (.v 0))], [], []⟩) (qs := [.num (.v 0) (.v 0)]) hat (by kernel_rfl) ⟨rfl, trivial⟩)
      · rw [if_neg h3] at h
        cases h

def u_NameError (fu : Nat) (a0 : Int) : Option (Int) := Option.bind (u_isName fu a0) fun r1 => if r1 = true then (some (0 : Int)) else (some (4 : Int))

theorem u_NameError_ok (fu : Nat) (a0 : Int) (y : Int) (h : u_NameError fu a0 = some y) : Cm.CallOk Tryz.prog 100 (Cm.vals [a0] []) [.ss (.v 0)] [] 0 (Cm.vals [y] []) (.sym .i64 (.v 0)) [] := by
  refine Cm.fun_of (nt := 6) (by kernel_rfl) (by kernel_rfl) fun φ0 w0 a w hat => ?_
  have hF := Cm.wide_fw
  have hr : Fence.wide.round = none := rfl
  unfold u_NameError at h
  obtain ⟨r1, hr1, h⟩ := Option.bind_eq_some_iff.1 h
  have Kr1 : ∀ N M, ∃ v v' q, Cm.KE.ok Tryz.prog (Cm.vals ([a0, Cm.bI r1] ++ N) ([] ++ M)) xb_k4 v v' q := fun N M => ⟨_, _, [.num (.v 0) (.v 1)], ⟨u_isName_ok fu a0 r1 hr1, ⟨(Cm.r a0), trivial⟩, by kernel_rfl, ⟨rfl, trivial⟩⟩⟩
  by_cases h2 : r1 = true
  · rw [if_pos h2] at h
    injection h with h; subst h
    exact Cm.to_fin mixed ⟨[(.neq, (.v 1), (.c 0), true)], [], [], [xb_k4], [], []⟩ (V := (Cm.vals [a0, Cm.bI r1] [])) (n := 3000) (f := 3000) ⟨⟨Cm.bi_t h2, trivial⟩, trivial, trivial, trivial, trivial⟩ ⟨Kr1 _ _, trivial⟩ (R := ⟨.sym .i64 (.v 0), [], []⟩) (qs := [.num (.c 0) (.v 0)]) hF hr (by kernel_rfl) ⟨(Cm.r (0 : Int)), trivial⟩ (Cm.at_re (V' := (Cm.vals [a0, Cm.bI r1] [])) (T := ⟨[(0, .ss (.v 0))], [], []⟩) (qs := [.num (.v 0) (.v 0)]) hat (by kernel_rfl) ⟨rfl, trivial⟩)
  · rw [if_neg h2] at h
    injection h with h; subst h
    exact Cm.to_fin mixed ⟨[(.neq, (.v 1), (.c 0), false)], [], [], [xb_k4], [], []⟩ (V := (Cm.vals [a0, Cm.bI r1] [])) (n := 3000) (f := 3000) ⟨⟨Cm.bi_f h2, trivial⟩, trivial, trivial, trivial, trivial⟩ ⟨Kr1 _ _, trivial⟩ (R := ⟨.sym .i64 (.v 0), [], []⟩) (qs := [.num (.c 4) (.v 0)]) hF hr (by kernel_rfl) ⟨(Cm.r (4 : Int)), trivial⟩ (Cm.at_re (V' := (Cm.vals [a0, Cm.bI r1] [])) (T := ⟨[(0, .ss (.v 0))], [], []⟩) (qs := [.num (.v 0) (.v 0)]) hat (by kernel_rfl) ⟨rfl, trivial⟩)

def slices_Index_string_string_L1 (fu : Nat) (p0 : List (Int)) (p1 : Int) (p2 : Int) : Nat → Int → Option ((Int) ⊕ (Unit))
  | 0, _ => none
  | n + 1, v3 => if v3 < p2 then (if (0 : Int) ≤ v3 then (if v3 < (p0.length : Int) then (Option.bind ((p0)[0 + (v3).toNat]?) fun e4 => if p1 = e4 then (some (.inl v3)) else (slices_Index_string_string_L1 fu p0 p1 p2 n (IntKind.wrap .i64 (v3 + (1 : Int))))) else none) else none) else (some (.inr ()))

theorem slices_Index_string_string_L1_ok (fu : Nat) (p0 : List (Int)) (p1 : Int) (p2 : Int) : ∀ (n : Nat) (v3 : Int) (o : (Int) ⊕ (Unit)), slices_Index_string_string_L1 fu p0 p1 p2 n v3 = some o → ∀ (φ0 : Cm.Phi) (w0 : World) (F : Fence) (k : Nat) (R : Exit → Act → World → Prop) (a : Act) (w : World), Cm.FW F → F.round = none → Cm.AtS (Cm.vals [(p0.length : Int), p1, p2, v3] [(p0.flatMap Cm.enS)]) [(0, .gs 0 0 (.v 0) 1 false), (1, .ss (.v 1)), (7, .sym .i64 (.v 2)), (8, .sym .i64 (.v 3))] [some (.rows 0 [] 9 true)] 19 1 1 φ0 w0 a w → (∀ (y : Int), o = .inl y → ∀ a' w', Cm.AtS (Cm.vals [(p0.length : Int), y] [(p0.flatMap Cm.enS)]) [(4, .sym .i64 (.v 1))] [some (.rows 0 [] 9 true)] 19 1 1 φ0 w0 a' w' → R Exit.ret a' w') → (∀ (y : Unit), o = .inr y → ∀ a' w', Cm.AtS (Cm.vals [(p0.length : Int)] [(p0.flatMap Cm.enS)]) [] [some (.rows 0 [] 9 true)] 19 1 1 φ0 w0 a' w' → R (Exit.exit 0) a' w') → Code.roundsIn F k Tryz.prog (Cm.subAt (Cm.bodyOf Tryz.prog 110) [1, 0, 1, 0, 0]) R n a w
  | 0, _, _, h => by cases h
  | n + 1, v3, o, h => by
    intro φ0 w0 F k R a w hF hr hat hx0 hx1
    rw [slices_Index_string_string_L1] at h
    refine Cm.rounds_in (p := [1, 0, 1, 0, 0]) ?_
    by_cases h1 : v3 < p2
    · rw [if_pos h1] at h
      by_cases h2 : (0 : Int) ≤ v3
      · rw [if_pos h2] at h
        by_cases h3 : v3 < (p0.length : Int)
        · rw [if_pos h3] at h
          obtain ⟨e4, he4, h⟩ := Option.bind_eq_some_iff.1 h
          by_cases h5 : p1 = e4
          · rw [if_pos h5] at h
            injection h with h; subst h
            exact Cm.to_done mixed ⟨[(.lss, (.v 3), (.v 2), true), (.leq, (.c 0), (.v 3), true), (.lss, (.v 3), (.v 0), true), (.eql, (.v 1), (.v 4), true)], [(0, 0, (.v 3), [.ss (.v 4)])], [(0, 1, (.v 0))], [], [], []⟩ (V := (Cm.vals [(p0.length : Int), p1, p2, v3, e4] [(p0.flatMap Cm.enS)])) (n := 3000) (f := 3000) (V' := (Cm.vals [(p0.length : Int), v3] [(p0.flatMap Cm.enS)])) ⟨⟨Cm.lss_t h1, Cm.leq_t h2, Cm.lss_t h3, Cm.eql_t h5, trivial⟩, ⟨⟨h2, _, rfl, Cm.flat_row Cm.enS_len he4⟩, trivial⟩, ⟨Cm.flat_length Cm.enS_len _, trivial⟩, trivial, trivial⟩ trivial (T := ⟨[(4, .sym .i64 (.v 1))], [some (.rows 0 [] 9 true)], [some (0, 0)]⟩) (ce := .ret) (qs := [.num (.v 3) (.v 1), .lst 0 (some 0) []]) hF hr (by kernel_rfl) ⟨(Cm.r v3), ⟨[], rfl, (List.append_nil _).symm⟩, trivial⟩ (Cm.at_re (V' := (Cm.vals [(p0.length : Int), p1, p2, v3, e4] [(p0.flatMap Cm.enS)])) (T := ⟨[(0, .gs 0 0 (.v 0) 1 false), (1, .ss (.v 1)), (7, .sym .i64 (.v 2)), (8, .sym .i64 (.v 3))], [some (.rows 0 [] 9 true)], [some (0, 0)]⟩) (qs := [.num (.v 0) (.v 0), .num (.v 1) (.v 1), .num (.v 2) (.v 2), .num (.v 3) (.v 3), .lst 0 (some 0) []]) hat (by kernel_rfl) ⟨rfl, rfl, rfl, rfl, ⟨[], rfl, (List.append_nil _).symm⟩, trivial⟩) fun a' w' hat' => hx0 v3 rfl a' w' hat'
          · rw [if_neg h5] at h
            refine Cm.to_done mixed ⟨[(.lss, (.v 3), (.v 2), true), (.leq, (.c 0), (.v 3), true), (.lss, (.v 3), (.v 0), true), (.eql, (.v 1), (.v 4), false)], [(0, 0, (.v 3), [.ss (.v 4)])], [(0, 1, (.v 0))], [], [], []⟩ (V := (Cm.vals [(p0.length : Int), p1, p2, v3, e4] [(p0.flatMap Cm.enS)])) (n := 3000) (f := 3000) (V' := (Cm.vals [(p0.length : Int), p1, p2, (IntKind.wrap .i64 (v3 + (1 : Int)))] [(p0.flatMap Cm.enS)])) ⟨⟨Cm.lss_t h1, Cm.leq_t h2, Cm.lss_t h3, Cm.eql_f h5, trivial⟩, ⟨⟨h2, _, rfl, Cm.flat_row Cm.enS_len he4⟩, trivial⟩, ⟨Cm.flat_length Cm.enS_len _, trivial⟩, trivial, trivial⟩ trivial (T := ⟨[(0, .gs 0 0 (.v 0) 1 false), (1, .ss (.v 1)), (7, .sym .i64 (.v 2)), (8, .sym .i64 (.v 3))], [some (.rows 0 [] 9 true)], [some (0, 0)]⟩) (ce := .normal) (qs := [.num (.v 0) (.v 0), .num (.v 1) (.v 1), .num (.v 2) (.v 2), .num (.add .i64 (.v 3) (.c 1)) (.v 3), .lst 0 (some 0) []]) hF hr (by kernel_rfl) ⟨(Cm.r (p0.length : Int)), (Cm.r p1), (Cm.r p2), (Cm.r (IntKind.wrap .i64 (v3 + (1 : Int)))), ⟨[], rfl, (List.append_nil _).symm⟩, trivial⟩ (Cm.at_re (V' := (Cm.vals [(p0.length : Int), p1, p2, v3, e4] [(p0.flatMap Cm.enS)])) (T := ⟨[(0, .gs 0 0 (.v 0) 1 false), (1, .ss (.v 1)), (7, .sym .i64 (.v 2)), (8, .sym .i64 (.v 3))], [some (.rows 0 [] 9 true)], [some (0, 0)]⟩) (qs := [.num (.v 0) (.v 0), .num (.v 1) (.v 1), .num (.v 2) (.v 2), .num (.v 3) (.v 3), .lst 0 (some 0) []]) hat (by kernel_rfl) ⟨rfl, rfl, rfl, rfl, ⟨[], rfl, (List.append_nil _).symm⟩, trivial⟩) fun a' w' hat' => ?_
            exact slices_Index_string_string_L1_ok fu p0 p1 p2 n (IntKind.wrap .i64 (v3 + (1 : Int))) o h _ _ _ _ _ _ _ hF hr hat' hx0 hx1
        · rw [if_neg h3] at h
          cases h
      · rw [if_neg h2] at h
        cases h
    · rw [if_neg h1] at h
      injection h with h; subst h
      exact Cm.to_done mixed ⟨[(.lss, (.v 3), (.v 2), false)], [], [(0, 1, (.v 0))], [], [], []⟩ (V := (Cm.vals [(p0.length : Int), p1, p2, v3] [(p0.flatMap Cm.enS)])) (n := 3000) (f := 3000) (V' := (Cm.vals [(p0.length : Int)] [(p0.flatMap Cm.enS)])) ⟨⟨Cm.lss_f h1, trivial⟩, trivial, ⟨Cm.flat_length Cm.enS_len _, trivial⟩, trivial, trivial⟩ trivial (T := ⟨[], [some (.rows 0 [] 9 true)], [some (0, 0)]⟩) (ce := (.exit 0)) (qs := [.lst 0 (some 0) []]) hF hr (by kernel_rfl) ⟨⟨[], rfl, (List.append_nil _).symm⟩, trivial⟩ hat fun a' w' hat' => hx1 () rfl a' w' hat'

def slices_Index_string_string (fu : Nat) (a0 : List (Int)) (a1 : Int) : Option (Int) := Option.bind (slices_Index_string_string_L1 fu a0 a1 (a0.length : Int) fu (0 : Int)) fun o1 => (match o1 with | .inl y2 => (some y2) | .inr y3 => (some (-1 : Int)))

theorem slices_Index_string_string_ok (fu : Nat) (a0 : List (Int)) (a1 : Int) (y : Int) (h : slices_Index_string_string fu a0 a1 = some y) : Cm.CallOk Tryz.prog 110 (Cm.vals [(a0.length : Int), a1] [(a0.flatMap Cm.enS)]) [.gs 0 0 (.v 0) 1 false, .ss (.v 1)] [some (.rows 0 [] 9 true)] 1 (Cm.vals [y] []) (.sym .i64 (.v 0)) [none] := by
  refine Cm.fun_of (nt := 19) (by kernel_rfl) (by kernel_rfl) fun φ0 w0 a w hat => ?_
  have hF := Cm.wide_fw
  have hr : Fence.wide.round = none := rfl
  unfold slices_Index_string_string at h
  obtain ⟨o1, ho1, h⟩ := Option.bind_eq_some_iff.1 h
  refine Cm.to_loop mixed ⟨[], [], [(0, 1, (.v 0))], [], [], []⟩ (V := (Cm.vals [(a0.length : Int), a1] [(a0.flatMap Cm.enS)])) (n := 3000) (f := 3000) (V' := (Cm.vals [(a0.length : Int), a1, (a0.length : Int), (0 : Int)] [(a0.flatMap Cm.enS)])) ⟨trivial, trivial, ⟨Cm.flat_length Cm.enS_len _, trivial⟩, trivial, trivial⟩ trivial (T := ⟨[(0, .gs 0 0 (.v 0) 1 false), (1, .ss (.v 1)), (7, .sym .i64 (.v 2)), (8, .sym .i64 (.v 3))], [some (.rows 0 [] 9 true)], [some (0, 0)]⟩) (B := Cm.subAt (Cm.bodyOf Tryz.prog 110) [1, 0, 1, 0, 0]) (K' := [.bk 0, .sq (Cm.subAt (Cm.bodyOf Tryz.prog 110) [1, 1]) [1, 1]]) (qs := [.num (.v 0) (.v 0), .num (.v 1) (.v 1), .num (.v 0) (.v 2), .num (.c 0) (.v 3), .lst 0 (some 0) []]) hF hr (by kernel_rfl) ⟨(Cm.r (a0.length : Int)), (Cm.r a1), (Cm.r (a0.length : Int)), (Cm.r (0 : Int)), ⟨[], rfl, (List.append_nil _).symm⟩, trivial⟩ hat fun aa1 ww1 hat1 => Cm.loop_in (slices_Index_string_string_L1_ok fu a0 a1 (a0.length : Int) fu (0 : Int) o1 ho1 _ _ _ _ _ _ _ hF hr hat1 ?_ ?_)
  · intro y2 hy aa2 ww2 hat
    subst hy
    dsimp only at h
    show (Cm.Wk.out .ret).goal _ _ _ [.bk 0, .sq (Cm.subAt (Cm.bodyOf Tryz.prog 110) [1, 1]) [1, 1]] _ aa2 ww2
    injection h with h; subst h
    exact Cm.to_fin mixed ⟨[], [], [(0, 1, (.v 0))], [], [], []⟩ (V := (Cm.vals [(a0.length : Int), y2] [(a0.flatMap Cm.enS)])) (n := 3000) (f := 3000) ⟨trivial, trivial, ⟨Cm.flat_length Cm.enS_len _, trivial⟩, trivial, trivial⟩ trivial (R := ⟨.sym .i64 (.v 0), [none], [some (0, 0)]⟩) (qs := [.num (.v 1) (.v 0)]) hF hr (by kernel_rfl) ⟨(Cm.r y2), trivial⟩ hat
  · intro y3 hy aa2 ww2 hat
    subst hy
    dsimp only at h
    show (Cm.Wk.out (.exit 0)).goal _ _ _ [.bk 0, .sq (Cm.subAt (Cm.bodyOf Tryz.prog 110) [1, 1]) [1, 1]] _ aa2 ww2
    injection h with h; subst h
    exact Cm.to_fin mixed ⟨[], [], [(0, 1, (.v 0))], [], [], []⟩ (V := (Cm.vals [(a0.length : Int)] [(a0.flatMap Cm.enS)])) (n := 3000) (f := 3000) ⟨trivial, trivial, ⟨Cm.flat_length Cm.enS_len _, trivial⟩, trivial, trivial⟩ trivial (R := ⟨.sym .i64 (.v 0), [none], [some (0, 0)]⟩) (qs := [.num (.c (-1)) (.v 0)]) hF hr (by kernel_rfl) ⟨(show (-1 : Int) = (-1 : Int) from rfl), trivial⟩ hat

def slices_Contains_string_string (fu : Nat) (a0 : List (Int)) (a1 : Int) : Option (Bool) := Option.bind (slices_Index_string_string fu a0 a1) fun r1 => if (0 : Int) ≤ r1 then (some true) else (some false)

theorem slices_Contains_string_string_ok (fu : Nat) (a0 : List (Int)) (a1 : Int) (y : Bool) (h : slices_Contains_string_string fu a0 a1 = some y) : Cm.CallOk Tryz.prog 101 (Cm.vals [(a0.length : Int), a1] [(a0.flatMap Cm.enS)]) [.gs 0 0 (.v 0) 1 false, .ss (.v 1)] [some (.rows 0 [] 9 true)] 1 (Cm.vals [Cm.bI y] []) (.bs (.v 0)) [none] := by
  refine Cm.fun_of (nt := 9) (by kernel_rfl) (by kernel_rfl) fun φ0 w0 a w hat => ?_
  have hF := Cm.wide_fw
  have hr : Fence.wide.round = none := rfl
  unfold slices_Contains_string_string at h
  obtain ⟨r1, hr1, h⟩ := Option.bind_eq_some_iff.1 h
  have Kr1 : ∀ N M, ∃ v v' q, Cm.KE.ok Tryz.prog (Cm.vals ([(a0.length : Int), a1, r1] ++ N) ([(a0.flatMap Cm.enS)] ++ M)) xb_k5 v v' q := fun N M => ⟨_, _, [.num (.v 0) (.v 2)], ⟨slices_Index_string_string_ok fu a0 a1 r1 hr1, ⟨(Cm.r (a0.length : Int)), (Cm.r a1), ⟨[], rfl, (List.append_nil _).symm⟩, trivial⟩, by kernel_rfl, ⟨rfl, trivial⟩⟩⟩
  by_cases h2 : (0 : Int) ≤ r1
  · rw [if_pos h2] at h
    injection h with h; subst h
    exact Cm.to_fin mixed ⟨[(.geq, (.v 2), (.c 0), true)], [], [(0, 1, (.v 0))], [xb_k5], [], []⟩ (V := (Cm.vals [(a0.length : Int), a1, r1] [(a0.flatMap Cm.enS)])) (n := 3000) (f := 3000) ⟨⟨Cm.geq_t h2, trivial⟩, trivial, ⟨Cm.flat_length Cm.enS_len _, trivial⟩, trivial, trivial⟩ ⟨Kr1 _ _, trivial⟩ (R := ⟨.bs (.v 0), [none], [some (0, 0)]⟩) (qs := [.num (.c 1) (.v 0)]) hF hr (by kernel_rfl) ⟨rfl, trivial⟩ (Cm.at_re (V' := (Cm.vals [(a0.length : Int), a1, r1] [(a0.flatMap Cm.enS)])) (T := ⟨[(0, .gs 0 0 (.v 0) 1 false), (1, .ss (.v 1))], [some (.rows 0 [] 9 true)], [some (0, 0)]⟩) (qs := [.num (.v 0) (.v 0), .num (.v 1) (.v 1), .lst 0 (some 0) []]) hat (by kernel_rfl) ⟨rfl, rfl, ⟨[], rfl, (List.append_nil _).symm⟩, trivial⟩)
  · rw [if_neg h2] at h
    injection h with h; subst h
    exact Cm.to_fin mixed ⟨[(.geq, (.v 2), (.c 0), false)], [], [(0, 1, (.v 0))], [xb_k5], [], []⟩ (V := (Cm.vals [(a0.length : Int), a1, r1] [(a0.flatMap Cm.enS)])) (n := 3000) (f := 3000) ⟨⟨Cm.geq_f h2, trivial⟩, trivial, ⟨Cm.flat_length Cm.enS_len _, trivial⟩, trivial, trivial⟩ ⟨Kr1 _ _, trivial⟩ (R := ⟨.bs (.v 0), [none], [some (0, 0)]⟩) (qs := [.num (.c 0) (.v 0)]) hF hr (by kernel_rfl) ⟨rfl, trivial⟩ (Cm.at_re (V' := (Cm.vals [(a0.length : Int), a1, r1] [(a0.flatMap Cm.enS)])) (T := ⟨[(0, .gs 0 0 (.v 0) 1 false), (1, .ss (.v 1))], [some (.rows 0 [] 9 true)], [some (0, 0)]⟩) (qs := [.num (.v 0) (.v 0), .num (.v 1) (.v 1), .lst 0 (some 0) []]) hat (by kernel_rfl) ⟨rfl, rfl, ⟨[], rfl, (List.append_nil _).symm⟩, trivial⟩)

def u_NameErrors_1 (fu : Nat) (a0 : Int) (a2_0 : Int) : Option (Int × List (Int)) := Option.bind (u_NameError fu a0) fun r1 => if r1 = (0 : Int) then (Option.bind (slices_Contains_string_string fu ([] : List (Int)) a0) fun r3 => if r3 = true then (some (a2_0, ([] : List (Int)))) else (some ((0 : Int), ([a0] : List (Int))))) else (some (r1, ([] : List (Int))))

theorem u_NameErrors_1_ok (fu : Nat) (a0 : Int) (a2_0 : Int) (y : Int × List (Int)) (h : u_NameErrors_1 fu a0 a2_0 = some y) : Cm.CallOk Tryz.prog 99 (Cm.vals [a0, a2_0] []) [.ss (.v 0), .ptr 0 0, .ptr 1 0] [some (.cells [.nils] 59 false), some (.cells [.sym .i64 (.v 1)] 28 false)] 0 (Cm.vals [y.1, (y.2.length : Int), a2_0] [(y.2.flatMap Cm.enS)]) (.sym .i64 (.v 0)) [some (.cells [.gs 2 0 (.v 1) 1 true] 59 false), some (.cells [.sym .i64 (.v 2)] 28 false), some (.rows 0 [] 9 false)] := by
  refine Cm.fun_of (nt := 19) (by kernel_rfl) (by kernel_rfl) fun φ0 w0 a w hat => ?_
  have hF := Cm.wide_fw
  have hr : Fence.wide.round = none := rfl
  unfold u_NameErrors_1 at h
  obtain ⟨r1, hr1, h⟩ := Option.bind_eq_some_iff.1 h
  have Kr1 : ∀ N M, ∃ v v' q, Cm.KE.ok Tryz.prog (Cm.vals ([a0, a2_0, r1] ++ N) ([] ++ M)) xb_k6 v v' q := fun N M => ⟨_, _, [.num (.v 0) (.v 2)], ⟨u_NameError_ok fu a0 r1 hr1, ⟨(Cm.r a0), trivial⟩, by kernel_rfl, ⟨rfl, trivial⟩⟩⟩
  by_cases h2 : r1 = (0 : Int)
  · rw [if_pos h2] at h
    obtain ⟨r3, hr3, h⟩ := Option.bind_eq_some_iff.1 h
    have Kr3 : ∀ N M, ∃ v v' q, Cm.KE.ok Tryz.prog (Cm.vals ([a0, a2_0, r1, Cm.bI r3] ++ N) ([] ++ M)) xb_k7 v v' q := fun N M => ⟨_, _, [.num (.v 0) (.v 3)], ⟨slices_Contains_string_string_ok fu ([] : List (Int)) a0 r3 hr3, ⟨rfl, (Cm.r a0), trivial⟩, by kernel_rfl, ⟨rfl, trivial⟩⟩⟩
    by_cases h4 : r3 = true
    · rw [if_pos h4] at h
      injection h with h; subst h
      exact Cm.to_fin mixed ⟨[(.neq, (.v 2), (.c 0), false), (.neq, (.v 3), (.c 0), true)], [], [], [xb_k6, xb_k7], [], []⟩ (V := (Cm.vals [a0, a2_0, r1, Cm.bI r3] [])) (n := 3000) (f := 3000) ⟨⟨Cm.neq_f h2, Cm.bi_t h4, trivial⟩, trivial, trivial, trivial, trivial⟩ ⟨Kr1 _ _, Kr3 _ _, trivial⟩ (R := ⟨.sym .i64 (.v 0), [some (.cells [.gs 2 0 (.v 1) 1 true] 59 false), some (.cells [.sym .i64 (.v 2)] 28 false), some (.rows 0 [] 9 false)], [some (0, 0), some (1, 0), none]⟩) (qs := [.num (.v 1) (.v 0), .num (.c 0) (.v 1), .num (.v 1) (.v 2)]) hF hr (by kernel_rfl) ⟨(Cm.r a2_0), rfl, (Cm.r a2_0), trivial⟩ (Cm.at_re (V' := (Cm.vals [a0, a2_0, r1, Cm.bI r3] [])) (T := ⟨[(0, .ss (.v 0)), (1, .ptr 0 0), (2, .ptr 1 0)], [some (.cells [.nils] 59 false), some (.cells [.sym .i64 (.v 1)] 28 false)], [some (0, 0), some (1, 0)]⟩) (qs := [.num (.v 0) (.v 0), .num (.v 1) (.v 1)]) hat (by kernel_rfl) ⟨rfl, rfl, trivial⟩)
    · rw [if_neg h4] at h
      injection h with h; subst h
      exact Cm.to_fin mixed ⟨[(.neq, (.v 2), (.c 0), false), (.neq, (.v 3), (.c 0), false)], [], [], [xb_k6, xb_k7], [], []⟩ (V := (Cm.vals [a0, a2_0, r1, Cm.bI r3] [])) (n := 3000) (f := 3000) ⟨⟨Cm.neq_f h2, Cm.bi_f h4, trivial⟩, trivial, trivial, trivial, trivial⟩ ⟨Kr1 _ _, Kr3 _ _, trivial⟩ (R := ⟨.sym .i64 (.v 0), [some (.cells [.gs 2 0 (.v 1) 1 true] 59 false), some (.cells [.sym .i64 (.v 2)] 28 false), some (.rows 0 [] 9 false)], [some (0, 0), some (1, 0), some (3, 0)]⟩) (qs := [.num (.c 0) (.v 0), .num (.c 1) (.v 1), .num (.v 1) (.v 2), .lst 0 none [.ss (.v 0)]]) hF hr (by kernel_rfl) ⟨(Cm.r (0 : Int)), rfl, (Cm.r a2_0), rfl, trivial⟩ (Cm.at_re (V' := (Cm.vals [a0, a2_0, r1, Cm.bI r3] [])) (T := ⟨[(0, .ss (.v 0)), (1, .ptr 0 0), (2, .ptr 1 0)], [some (.cells [.nils] 59 false), some (.cells [.sym .i64 (.v 1)] 28 false)], [some (0, 0), some (1, 0)]⟩) (qs := [.num (.v 0) (.v 0), .num (.v 1) (.v 1)]) hat (by kernel_rfl) ⟨rfl, rfl, trivial⟩)
  · rw [if_neg h2] at h
    injection h with h; subst h
    exact Cm.to_fin mixed ⟨[(.neq, (.v 2), (.c 0), true)], [], [], [xb_k6], [], []⟩ (V := (Cm.vals [a0, a2_0, r1] [])) (n := 3000) (f := 3000) ⟨⟨Cm.neq_t h2, trivial⟩, trivial, trivial, trivial, trivial⟩ ⟨Kr1 _ _, trivial⟩ (R := ⟨.sym .i64 (.v 0), [some (.cells [.gs 2 0 (.v 1) 1 true] 59 false), some (.cells [.sym .i64 (.v 2)] 28 false), some (.rows 0 [] 9 false)], [some (0, 0), some (1, 0), none]⟩) (qs := [.num (.v 2) (.v 0), .num (.c 0) (.v 1), .num (.v 1) (.v 2)]) hF hr (by kernel_rfl) ⟨(Cm.r r1), rfl, (Cm.r a2_0), trivial⟩ (Cm.at_re (V' := (Cm.vals [a0, a2_0, r1] [])) (T := ⟨[(0, .ss (.v 0)), (1, .ptr 0 0), (2, .ptr 1 0)], [some (.cells [.nils] 59 false), some (.cells [.sym .i64 (.v 1)] 28 false)], [some (0, 0), some (1, 0)]⟩) (qs := [.num (.v 0) (.v 0), .num (.v 1) (.v 1)]) hat (by kernel_rfl) ⟨rfl, rfl, trivial⟩)

def u_LimitError (a0 : Int) (a1 : Int) (a2 : Int) : Option (Int) := if a0 < a1 then (some (2 : Int)) else (if a2 < a0 then (some (2 : Int)) else (some (0 : Int)))

theorem u_LimitError_ok (a0 : Int) (a1 : Int) (a2 : Int) (y : Int) (h : u_LimitError a0 a1 a2 = some y) : Cm.CallOk Tryz.prog 34 (Cm.vals [a0, a1, a2] []) [.sym .i64 (.v 0), .sym .i64 (.v 1), .sym .i64 (.v 2)] [] 0 (Cm.vals [y] []) (.sym .i64 (.v 0)) [] := by
  refine Cm.fun_of (nt := 15) (by kernel_rfl) (by kernel_rfl) fun φ0 w0 a w hat => ?_
  have hF := Cm.wide_fw
  have hr : Fence.wide.round = none := rfl
  unfold u_LimitError at h
  by_cases h1 : a0 < a1
  · rw [if_pos h1] at h
    injection h with h; subst h
    exact Cm.to_fin mixed ⟨[(.lss, (.v 0), (.v 1), true)], [], [], [], [], []⟩ (V := (Cm.vals [a0, a1, a2] [])) (n := 3000) (f := 3000) ⟨⟨Cm.lss_t h1, trivial⟩, trivial, trivial, trivial, trivial⟩ trivial (R := ⟨.sym .i64 (.v 0), [], []⟩) (qs := [.num (.c 2) (.v 0)]) hF hr (by kernel_rfl) ⟨(Cm.r (2 : Int)), trivial⟩ hat
  · rw [if_neg h1] at h
    by_cases h2 : a2 < a0
    · rw [if_pos h2] at h
      injection h with h; subst h
      exact Cm.to_fin mixed ⟨[(.lss, (.v 0), (.v 1), false), (.gtr, (.v 0), (.v 2), true)], [], [], [], [], []⟩ (V := (Cm.vals [a0, a1, a2] [])) (n := 3000) (f := 3000) ⟨⟨Cm.lss_f h1, Cm.gtr_t h2, trivial⟩, trivial, trivial, trivial, trivial⟩ trivial (R := ⟨.sym .i64 (.v 0), [], []⟩) (qs := [.num (.c 2) (.v 0)]) hF hr (by kernel_rfl) ⟨(Cm.r (2 : Int)), trivial⟩ hat
    · rw [if_neg h2] at h
      injection h with h; subst h
      exact Cm.to_fin mixed ⟨[(.lss, (.v 0), (.v 1), false), (.gtr, (.v 0), (.v 2), false)], [], [], [], [], []⟩ (V := (Cm.vals [a0, a1, a2] [])) (n := 3000) (f := 3000) ⟨⟨Cm.lss_f h1, Cm.gtr_f h2, trivial⟩, trivial, trivial, trivial, trivial⟩ trivial (R := ⟨.sym .i64 (.v 0), [], []⟩) (qs := [.num (.c 0) (.v 0)]) hF hr (by kernel_rfl) ⟨(Cm.r (0 : Int)), trivial⟩ hat

def u_FirstError_L1 (fu : Nat) (p0 : List (Int)) (p1 : Int) : Nat → Int → Option ((Int) ⊕ (Unit))
  | 0, _ => none
  | n + 1, v2 => if v2 < p1 then (if (0 : Int) ≤ v2 then (if v2 < (p0.length : Int) then (Option.bind ((p0)[0 + (v2).toNat]?) fun e4 => if e4 = (0 : Int) then (u_FirstError_L1 fu p0 p1 n (IntKind.wrap .i64 (v2 + (1 : Int)))) else (some (.inl e4))) else none) else none) else (some (.inr ()))

theorem u_FirstError_L1_ok (fu : Nat) (p0 : List (Int)) (p1 : Int) : ∀ (n : Nat) (v2 : Int) (o : (Int) ⊕ (Unit)), u_FirstError_L1 fu p0 p1 n v2 = some o → ∀ (φ0 : Cm.Phi) (w0 : World) (F : Fence) (k : Nat) (R : Exit → Act → World → Prop) (a : Act) (w : World), Cm.FW F → F.round = none → Cm.AtS (Cm.vals [(p0.length : Int), p1, v2] [(p0.flatMap Cm.enI)]) [(5, .gs 0 0 (.v 0) 1 false), (6, .sym .i64 (.v 1)), (7, .sym .i64 (.v 2))] [some (.rows 0 [] 28 true)] 15 1 1 φ0 w0 a w → (∀ (y : Int), o = .inl y → ∀ a' w', Cm.AtS (Cm.vals [(p0.length : Int), y] [(p0.flatMap Cm.enI)]) [(2, .sym .i64 (.v 1))] [some (.rows 0 [] 28 true)] 15 1 1 φ0 w0 a' w' → R Exit.ret a' w') → (∀ (y : Unit), o = .inr y → ∀ a' w', Cm.AtS (Cm.vals [(p0.length : Int)] [(p0.flatMap Cm.enI)]) [] [some (.rows 0 [] 28 true)] 15 1 1 φ0 w0 a' w' → R (Exit.exit 0) a' w') → Code.roundsIn F k Tryz.prog (Cm.subAt (Cm.bodyOf Tryz.prog 33) [1, 0, 1, 0, 0]) R n a w
  | 0, _, _, h => by cases h
  | n + 1, v2, o, h => by
    intro φ0 w0 F k R a w hF hr hat hx0 hx1
    rw [u_FirstError_L1] at h
    refine Cm.rounds_in (p := [1, 0, 1, 0, 0]) ?_
    by_cases h1 : v2 < p1
    · rw [if_pos h1] at h
      by_cases h2 : (0 : Int) ≤ v2
      · rw [if_pos h2] at h
        by_cases h3 : v2 < (p0.length : Int)
        · rw [if_pos h3] at h
          obtain ⟨e4, he4, h⟩ := Option.bind_eq_some_iff.1 h
          by_cases h5 : e4 = (0 : Int)
          · rw [if_pos h5] at h
            refine Cm.to_done mixed ⟨[(.lss, (.v 2), (.v 1), true), (.leq, (.c 0), (.v 2), true), (.lss, (.v 2), (.v 0), true), (.neq, (.v 3), (.c 0), false)], [(0, 0, (.v 2), [.sym .i64 (.v 3)])], [(0, 1, (.v 0))], [], [], []⟩ (V := (Cm.vals [(p0.length : Int), p1, v2, e4] [(p0.flatMap Cm.enI)])) (n := 3000) (f := 3000) (V' := (Cm.vals [(p0.length : Int), p1, (IntKind.wrap .i64 (v2 + (1 : Int)))] [(p0.flatMap Cm.enI)])) ⟨⟨Cm.lss_t h1, Cm.leq_t h2, Cm.lss_t h3, Cm.neq_f h5, trivial⟩, ⟨⟨h2, _, rfl, Cm.flat_row Cm.enI_len he4⟩, trivial⟩, ⟨Cm.flat_length Cm.enI_len _, trivial⟩, trivial, trivial⟩ trivial (T := ⟨[(5, .gs 0 0 (.v 0) 1 false), (6, .sym .i64 (.v 1)), (7, .sym .i64 (.v 2))], [some (.rows 0 [] 28 true)], [some (0, 0)]⟩) (ce := .normal) (qs := [.num (.v 0) (.v 0), .num (.v 1) (.v 1), .num (.add .i64 (.v 2) (.c 1)) (.v 2), .lst 0 (some 0) []]) hF hr (by kernel_rfl) ⟨(Cm.r (p0.length : Int)), (Cm.r p1), (Cm.r (IntKind.wrap .i64 (v2 + (1 : Int)))), ⟨[], rfl, (List.append_nil _).symm⟩, trivial⟩ (Cm.at_re (V' := (Cm.vals [(p0.length : Int), p1, v2, e4] [(p0.flatMap Cm.enI)])) (T := ⟨[(5, .gs 0 0 (.v 0) 1 false), (6, .sym .i64 (.v 1)), (7, .sym .i64 (.v 2))], [some (.rows 0 [] 28 true)], [some (0, 0)]⟩) (qs := [.num (.v 0) (.v 0), .num (.v 1) (.v 1), .num (.v 2) (.v 2), .lst 0 (some 0) []]) hat (by kernel_rfl) ⟨rfl, rfl, rfl, ⟨[], rfl, (List.append_nil _).symm⟩, trivial⟩) fun a' w' hat' => ?_
            exact u_FirstError_L1_ok fu p0 p1 n (IntKind.wrap .i64 (v2 + (1 : Int))) o h _ _ _ _ _ _ _ hF hr hat' hx0 hx1
          · rw [if_neg h5] at h
            injection h with h; subst h
            exact Cm.to_done mixed ⟨[(.lss, (.v 2), (.v 1), true), (.leq, (.c 0), (.v 2), true), (.lss, (.v 2), (.v 0), true), (.neq, (.v 3), (.c 0), true)], [(0, 0, (.v 2), [.sym .i64 (.v 3)])], [(0, 1, (.v 0))], [], [], []⟩ (V := (Cm.vals [(p0.length : Int), p1, v2, e4] [(p0.flatMap Cm.enI)])) (n := 3000) (f := 3000) (V' := (Cm.vals [(p0.length : Int), e4] [(p0.flatMap Cm.enI)])) ⟨⟨Cm.lss_t h1, Cm.leq_t h2, Cm.lss_t h3, Cm.neq_t h5, trivial⟩, ⟨⟨h2, _, rfl, Cm.flat_row Cm.enI_len he4⟩, trivial⟩, ⟨Cm.flat_length Cm.enI_len _, trivial⟩, trivial, trivial⟩ trivial (T := ⟨[(2, .sym .i64 (.v 1))], [some (.rows 0 [] 28 true)], [some (0, 0)]⟩) (ce := .ret) (qs := [.num (.v 3) (.v 1), .lst 0 (some 0) []]) hF hr (by kernel_rfl) ⟨(Cm.r e4), ⟨[], rfl, (List.append_nil _).symm⟩, trivial⟩ (Cm.at_re (V' := (Cm.vals [(p0.length : Int), p1, v2, e4] [(p0.flatMap Cm.enI)])) (T := ⟨[(5, .gs 0 0 (.v 0) 1 false), (6, .sym .i64 (.v 1)), (7, .sym .i64 (.v 2))], [some (.rows 0 [] 28 true)], [some (0, 0)]⟩) (qs := [.num (.v 0) (.v 0), .num (.v 1) (.v 1), .num (.v 2) (.v 2), .lst 0 (some 0) []]) hat (by kernel_rfl) ⟨rfl, rfl, rfl, ⟨[], rfl, (List.append_nil _).symm⟩, trivial⟩) fun a' w' hat' => hx0 e4 rfl a' w' hat'
        · rw [if_neg h3] at h
          cases h
      · rw [if_neg h2] at h
        cases h
    · rw [if_neg h1] at h
      injection h with h; subst h
      exact Cm.to_done mixed ⟨[(.lss, (.v 2), (.v 1), false)], [], [(0, 1, (.v 0))], [], [], []⟩ (V := (Cm.vals [(p0.length : Int), p1, v2] [(p0.flatMap Cm.enI)])) (n := 3000) (f := 3000) (V' := (Cm.vals [(p0.length : Int)] [(p0.flatMap Cm.enI)])) ⟨⟨Cm.lss_f h1, trivial⟩, trivial, ⟨Cm.flat_length Cm.enI_len _, trivial⟩, trivial, trivial⟩ trivial (T := ⟨[], [some (.rows 0 [] 28 true)], [some (0, 0)]⟩) (ce := (.exit 0)) (qs := [.lst 0 (some 0) []]) hF hr (by kernel_rfl) ⟨⟨[], rfl, (List.append_nil _).symm⟩, trivial⟩ hat fun a' w' hat' => hx1 () rfl a' w' hat'

def u_FirstError (fu : Nat) (a0 : List (Int)) : Option (Int) := Option.bind (u_FirstError_L1 fu a0 (a0.length : Int) fu (0 : Int)) fun o1 => (match o1 with | .inl y2 => (some y2) | .inr y3 => (some (0 : Int)))

theorem u_FirstError_ok (fu : Nat) (a0 : List (Int)) (y : Int) (h : u_FirstError fu a0 = some y) : Cm.CallOk Tryz.prog 33 (Cm.vals [(a0.length : Int)] [(a0.flatMap Cm.enI)]) [.gs 0 0 (.v 0) 1 false] [some (.rows 0 [] 28 true)] 1 (Cm.vals [y] []) (.sym .i64 (.v 0)) [none] := by
  refine Cm.fun_of (nt := 15) (by kernel_rfl) (by kernel_rfl) fun φ0 w0 a w hat => ?_
  have hF := Cm.wide_fw
  have hr : Fence.wide.round = none := rfl
  unfold u_FirstError at h
  obtain ⟨o1, ho1, h⟩ := Option.bind_eq_some_iff.1 h
  refine Cm.to_loop mixed ⟨[], [], [(0, 1, (.v 0))], [], [], []⟩ (V := (Cm.vals [(a0.length : Int)] [(a0.flatMap Cm.enI)])) (n := 3000) (f := 3000) (V' := (Cm.vals [(a0.length : Int), (a0.length : Int), (0 : Int)] [(a0.flatMap Cm.enI)])) ⟨trivial, trivial, ⟨Cm.flat_length Cm.enI_len _, trivial⟩, trivial, trivial⟩ trivial (T := ⟨[(5, .gs 0 0 (.v 0) 1 false), (6, .sym .i64 (.v 1)), (7, .sym .i64 (.v 2))], [some (.rows 0 [] 28 true)], [some (0, 0)]⟩) (B := Cm.subAt (Cm.bodyOf Tryz.prog 33) [1, 0, 1, 0, 0]) (K' := [.bk 0, .sq (Cm.subAt (Cm.bodyOf Tryz.prog 33) [1, 1]) [1, 1]]) (qs := [.num (.v 0) (.v 0), .num (.v 0) (.v 1), .num (.c 0) (.v 2), .lst 0 (some 0) []]) hF hr (by kernel_rfl) ⟨(Cm.r (a0.length : Int)), (Cm.r (a0.length : Int)), (Cm.r (0 : Int)), ⟨[], rfl, (List.append_nil _).symm⟩, trivial⟩ hat fun aa1 ww1 hat1 => Cm.loop_in (u_FirstError_L1_ok fu a0 (a0.length : Int) fu (0 : Int) o1 ho1 _ _ _ _ _ _ _ hF hr hat1 ?_ ?_)
  · intro y2 hy aa2 ww2 hat
    subst hy
    dsimp only at h
    show (Cm.Wk.out .ret).goal _ _ _ [.bk 0, .sq (Cm.subAt (Cm.bodyOf Tryz.prog 33) [1, 1]) [1, 1]] _ aa2 ww2
    injection h with h; subst h
    exact Cm.to_fin mixed ⟨[], [], [(0, 1, (.v 0))], [], [], []⟩ (V := (Cm.vals [(a0.length : Int), y2] [(a0.flatMap Cm.enI)])) (n := 3000) (f := 3000) ⟨trivial, trivial, ⟨Cm.flat_length Cm.enI_len _, trivial⟩, trivial, trivial⟩ trivial (R := ⟨.sym .i64 (.v 0), [none], [some (0, 0)]⟩) (qs := [.num (.v 1) (.v 0)]) hF hr (by kernel_rfl) ⟨(Cm.r y2), trivial⟩ hat
  · intro y3 hy aa2 ww2 hat
    subst hy
    dsimp only at h
    show (Cm.Wk.out (.exit 0)).goal _ _ _ [.bk 0, .sq (Cm.subAt (Cm.bodyOf Tryz.prog 33) [1, 1]) [1, 1]] _ aa2 ww2
    injection h with h; subst h
    exact Cm.to_fin mixed ⟨[], [], [(0, 1, (.v 0))], [], [], []⟩ (V := (Cm.vals [(a0.length : Int)] [(a0.flatMap Cm.enI)])) (n := 3000) (f := 3000) ⟨trivial, trivial, ⟨Cm.flat_length Cm.enI_len _, trivial⟩, trivial, trivial⟩ trivial (R := ⟨.sym .i64 (.v 0), [none], [some (0, 0)]⟩) (qs := [.num (.c 0) (.v 0)]) hF hr (by kernel_rfl) ⟨(Cm.r (0 : Int)), trivial⟩ hat

def bus_CheckStreams_1 (fu : Nat) (a0_0 : Int) (a0_1 : Int) (a0_2 : Int) (a0_3 : Int) (a1_0_c1_0 : Int) : Option (Int × List (Int)) := Option.bind (u_NameErrors_1 fu a0_0 a1_0_c1_0) fun r1 => Option.bind (u_LimitError a0_1 (1 : Int) (60 : Int)) fun r2 => Option.bind (u_LimitError a0_2 (1 : Int) a0_1) fun r3 => Option.bind (u_LimitError a0_3 (1 : Int) (20 : Int)) fun r4 => Option.bind (u_FirstError fu ([r1.1, r2, r3, r4] : List (Int))) fun r5 => some (r5, r1.2)

theorem bus_CheckStreams_1_ok (fu : Nat) (a0_0 : Int) (a0_1 : Int) (a0_2 : Int) (a0_3 : Int) (a1_0_c1_0 : Int) (y : Int × List (Int)) (h : bus_CheckStreams_1 fu a0_0 a0_1 a0_2 a0_3 a1_0_c1_0 = some y) : Cm.CallOk Tryz.prog 78 (Cm.vals [a0_0, a0_1, a0_2, a0_3, a1_0_c1_0] []) [.agg [.ss (.v 0), .sym .i64 (.v 1), .sym .i64 (.v 2), .sym .i64 (.v 3)], .ptr 0 0] [some (.cells [.fn 99 [] [.ptr 1 0, .ptr 2 0]] 121 false), some (.cells [.nils] 59 false), some (.cells [.sym .i64 (.v 4)] 28 false)] 0 (Cm.vals [y.1, (y.2.length : Int), a1_0_c1_0] [(y.2.flatMap Cm.enS)]) (.sym .i64 (.v 0)) [some (.cells [.fn 99 [] [.ptr 1 0, .ptr 2 0]] 121 false), some (.cells [.gs 3 0 (.v 1) 1 true] 59 false), some (.cells [.sym .i64 (.v 2)] 28 false), some (.rows 0 [] 9 false)] := by
  refine Cm.fun_of (nt := 21) (by kernel_rfl) (by kernel_rfl) fun φ0 w0 a w hat => ?_
  have hF := Cm.wide_fw
  have hr : Fence.wide.round = none := rfl
  unfold bus_CheckStreams_1 at h
  obtain ⟨r1, hr1, h⟩ := Option.bind_eq_some_iff.1 h
  have Kr1 : ∀ N M, ∃ v v' q, Cm.KE.ok Tryz.prog (Cm.vals ([a0_0, a0_1, a0_2, a0_3, a1_0_c1_0, (r1.2.length : Int), r1.1] ++ N) ([(r1.2.flatMap Cm.enS)] ++ M)) ⟨99, 4, [some (1, 0), some (2, 0)], [.ss (.v 0), .ptr 0 0, .ptr 1 0], [some (.cells [.nils] 59 false), some (.cells [.sym .i64 (.v 1)] 28 false)], [.num (.v 0) (.v 0), .num (.v 4) (.v 1)], 0, .sym .i64 (.v 0), [some (.cells [.gs 2 0 (.v 1) 1 true] 59 false), some (.cells [.sym .i64 (.v 2)] 28 false), some (.rows 0 [] 9 false)], .sym .i64 (.v 6), [some (.rows 0 [] 9 false)], [(1, some (.cells [.gs 4 0 (.v 5) 1 true] 59 false)), (2, some (.cells [.sym .i64 (.v 4)] 28 false))]⟩ v v' q := fun N M => ⟨_, _, [.num (.v 0) (.v 6), .lst 0 (some 0) [], .num (.v 1) (.v 5), .num (.v 2) (.v 4)], ⟨u_NameErrors_1_ok fu a0_0 a1_0_c1_0 r1 hr1, ⟨(Cm.r a0_0), (Cm.r a1_0_c1_0), trivial⟩, by kernel_rfl, ⟨rfl, ⟨[], rfl, (List.append_nil _).symm⟩, rfl, rfl, trivial⟩⟩⟩
  obtain ⟨r2, hr2, h⟩ := Option.bind_eq_some_iff.1 h
  have Kr2 : ∀ N M, ∃ v v' q, Cm.KE.ok Tryz.prog (Cm.vals ([a0_0, a0_1, a0_2, a0_3, a1_0_c1_0, (r1.2.length : Int), r1.1, r2] ++ N) ([(r1.2.flatMap Cm.enS)] ++ M)) ⟨34, 5, [], [.sym .i64 (.v 0), .sym .i64 (.v 1), .sym .i64 (.v 2)], [], [.num (.v 1) (.v 0), .num (.c 1) (.v 1), .num (.c 60) (.v 2)], 0, .sym .i64 (.v 0), [], .sym .i64 (.v 7), [], []⟩ v v' q := fun N M => ⟨_, _, [.num (.v 0) (.v 7)], ⟨u_LimitError_ok a0_1 (1 : Int) (60 : Int) r2 hr2, ⟨(Cm.r a0_1), (Cm.r (1 : Int)), (Cm.r (60 : Int)), trivial⟩, by kernel_rfl, ⟨rfl, trivial⟩⟩⟩
  obtain ⟨r3, hr3, h⟩ := Option.bind_eq_some_iff.1 h
  have Kr3 : ∀ N M, ∃ v v' q, Cm.KE.ok Tryz.prog (Cm.vals ([a0_0, a0_1, a0_2, a0_3, a1_0_c1_0, (r1.2.length : Int), r1.1, r2, r3] ++ N) ([(r1.2.flatMap Cm.enS)] ++ M)) ⟨34, 5, [], [.sym .i64 (.v 0), .sym .i64 (.v 1), .sym .i64 (.v 2)], [], [.num (.v 2) (.v 0), .num (.c 1) (.v 1), .num (.v 1) (.v 2)], 0, .sym .i64 (.v 0), [], .sym .i64 (.v 8), [], []⟩ v v' q := fun N M => ⟨_, _, [.num (.v 0) (.v 8)], ⟨u_LimitError_ok a0_2 (1 : Int) a0_1 r3 hr3, ⟨(Cm.r a0_2), (Cm.r (1 : Int)), (Cm.r a0_1), trivial⟩, by kernel_rfl, ⟨rfl, trivial⟩⟩⟩
  obtain ⟨r4, hr4, h⟩ := Option.bind_eq_some_iff.1 h
  have Kr4 : ∀ N M, ∃ v v' q, Cm.KE.ok Tryz.prog (Cm.vals ([a0_0, a0_1, a0_2, a0_3, a1_0_c1_0, (r1.2.length : Int), r1.1, r2, r3, r4] ++ N) ([(r1.2.flatMap Cm.enS)] ++ M)) ⟨34, 5, [], [.sym .i64 (.v 0), .sym .i64 (.v 1), .sym .i64 (.v 2)], [], [.num (.v 3) (.v 0), .num (.c 1) (.v 1), .num (.c 20) (.v 2)], 0, .sym .i64 (.v 0), [], .sym .i64 (.v 9), [], []⟩ v v' q := fun N M => ⟨_, _, [.num (.v 0) (.v 9)], ⟨u_LimitError_ok a0_3 (1 : Int) (20 : Int) r4 hr4, ⟨(Cm.r a0_3), (Cm.r (1 : Int)), (Cm.r (20 : Int)), trivial⟩, by kernel_rfl, ⟨rfl, trivial⟩⟩⟩
  obtain ⟨r5, hr5, h⟩ := Option.bind_eq_some_iff.1 h
  have Kr5 : ∀ N M, ∃ v v' q, Cm.KE.ok Tryz.prog (Cm.vals ([a0_0, a0_1, a0_2, a0_3, a1_0_c1_0, (r1.2.length : Int), r1.1, r2, r3, r4, r5] ++ N) ([(r1.2.flatMap Cm.enS)] ++ M)) ⟨33, 6, [some (5, 0)], [.gs 0 0 (.v 0) 1 false], [some (.rows 0 [] 28 true)], [.num (.c 4) (.v 0), .lst 0 none [.sym .i64 (.v 6), .sym .i64 (.v 7), .sym .i64 (.v 8), .sym .i64 (.v 9)]], 1, .sym .i64 (.v 0), [none], .sym .i64 (.v 10), [], []⟩ v v' q := fun N M => ⟨_, _, [.num (.v 0) (.v 10)], ⟨u_FirstError_ok fu ([r1.1, r2, r3, r4] : List (Int)) r5 hr5, ⟨rfl, rfl, trivial⟩, by kernel_rfl, ⟨rfl, trivial⟩⟩⟩
  injection h with h; subst h
  exact Cm.to_fin mixed ⟨[], [], [(0, 1, (.v 5))], [⟨99, 4, [some (1, 0), some (2, 0)], [.ss (.v 0), .ptr 0 0, .ptr 1 0], [some (.cells [.nils] 59 false), some (.cells [.sym .i64 (.v 1)] 28 false)], [.num (.v 0) (.v 0), .num (.v 4) (.v 1)], 0, .sym .i64 (.v 0), [some (.cells [.gs 2 0 (.v 1) 1 true] 59 false), some (.cells [.sym .i64 (.v 2)] 28 false), some (.rows 0 [] 9 false)], .sym .i64 (.v 6), [some (.rows 0 [] 9 false)], [(1, some (.cells [.gs 4 0 (.v 5) 1 true] 59 false)), (2, some (.cells [.sym .i64 (.v 4)] 28 false))]⟩, ⟨34, 5, [], [.sym .i64 (.v 0), .sym .i64 (.v 1), .sym .i64 (.v 2)], [], [.num (.v 1) (.v 0), .num (.c 1) (.v 1), .num (.c 60) (.v 2)], 0, .sym .i64 (.v 0), [], .sym .i64 (.v 7), [], []⟩, ⟨34, 5, [], [.sym .i64 (.v 0), .sym .i64 (.v 1), .sym .i64 (.v 2)], [], [.num (.v 2) (.v 0), .num (.c 1) (.v 1), .num (.v 1) (.v 2)], 0, .sym .i64 (.v 0), [], .sym .i64 (.v 8), [], []⟩, ⟨34, 5, [], [.sym .i64 (.v 0), .sym .i64 (.v 1), .sym .i64 (.v 2)], [], [.num (.v 3) (.v 0), .num (.c 1) (.v 1), .num (.c 20) (.v 2)], 0, .sym .i64 (.v 0), [], .sym .i64 (.v 9), [], []⟩, ⟨33, 6, [some (5, 0)], [.gs 0 0 (.v 0) 1 false], [some (.rows 0 [] 28 true)], [.num (.c 4) (.v 0), .lst 0 none [.sym .i64 (.v 6), .sym .i64 (.v 7), .sym .i64 (.v 8), .sym .i64 (.v 9)]], 1, .sym .i64 (.v 0), [none], .sym .i64 (.v 10), [], []⟩], [], []⟩ (V := (Cm.vals [a0_0, a0_1, a0_2, a0_3, a1_0_c1_0, (r1.2.length : Int), r1.1, r2, r3, r4, r5] [(r1.2.flatMap Cm.enS)])) (n := 3000) (f := 3000) ⟨trivial, trivial, ⟨Cm.flat_length Cm.enS_len _, trivial⟩, trivial, trivial⟩ ⟨Kr1 _ _, Kr2 _ _, Kr3 _ _, Kr4 _ _, Kr5 _ _, trivial⟩ (R := ⟨.sym .i64 (.v 0), [some (.cells [.fn 99 [] [.ptr 1 0, .ptr 2 0]] 121 false), some (.cells [.gs 3 0 (.v 1) 1 true] 59 false), some (.cells [.sym .i64 (.v 2)] 28 false), some (.rows 0 [] 9 false)], [some (0, 0), some (1, 0), some (2, 0), some (4, 0)]⟩) (qs := [.num (.v 10) (.v 0), .num (.v 5) (.v 1), .num (.v 4) (.v 2), .lst 0 (some 0) []]) hF hr (by kernel_rfl) ⟨(Cm.r r5), (Cm.r (r1.2.length : Int)), (Cm.r a1_0_c1_0), ⟨[], rfl, (List.append_nil _).symm⟩, trivial⟩ (Cm.at_re (V' := (Cm.vals [a0_0, a0_1, a0_2, a0_3, a1_0_c1_0, (r1.2.length : Int), r1.1, r2, r3, r4, r5] [(r1.2.flatMap Cm.enS)])) (T := ⟨[(0, .agg [.ss (.v 0), .sym .i64 (.v 1), .sym .i64 (.v 2), .sym .i64 (.v 3)]), (1, .ptr 0 0)], [some (.cells [.fn 99 [] [.ptr 1 0, .ptr 2 0]] 121 false), some (.cells [.nils] 59 false), some (.cells [.sym .i64 (.v 4)] 28 false)], [some (0, 0), some (1, 0), some (2, 0)]⟩) (qs := [.num (.v 0) (.v 0), .num (.v 1) (.v 1), .num (.v 2) (.v 2), .num (.v 3) (.v 3), .num (.v 4) (.v 4)]) hat (by kernel_rfl) ⟨rfl, rfl, rfl, rfl, rfl, trivial⟩)

def u_NameErrors_1_2 (fu : Nat) (a0 : Int) (a1_0 : List (Int)) (a2_0 : Int) : Option (Int × List (Int)) := Option.bind (u_NameError fu a0) fun r1 => if r1 = (0 : Int) then (Option.bind (slices_Contains_string_string fu a1_0 a0) fun r3 => if r3 = true then (some (a2_0, a1_0)) else (if (a1_0.length : Int) < (65536 : Int) then (some ((0 : Int), (a1_0 ++ [a0]))) else none)) else (some (r1, a1_0))

theorem u_NameErrors_1_2_ok (fu : Nat) (a0 : Int) (a1_0 : List (Int)) (a2_0 : Int) (y : Int × List (Int)) (h : u_NameErrors_1_2 fu a0 a1_0 a2_0 = some y) : Cm.CallOk Tryz.prog 99 (Cm.vals [a0, (a1_0.length : Int), a2_0] [(a1_0.flatMap Cm.enS)]) [.ss (.v 0), .ptr 0 0, .ptr 2 0] [some (.cells [.gs 1 0 (.v 1) 1 true] 59 false), some (.rows 0 [] 9 false), some (.cells [.sym .i64 (.v 2)] 28 false)] 0 (Cm.vals [y.1, (y.2.length : Int), a2_0] [(y.2.flatMap Cm.enS)]) (.sym .i64 (.v 0)) [some (.cells [.gs 3 0 (.v 1) 1 true] 59 false), none, some (.cells [.sym .i64 (.v 2)] 28 false), some (.rows 0 [] 9 false)] := by
  refine Cm.fun_of (nt := 19) (by kernel_rfl) (by kernel_rfl) fun φ0 w0 a w hat => ?_
  have hF := Cm.wide_fw
  have hr : Fence.wide.round = none := rfl
  unfold u_NameErrors_1_2 at h
  obtain ⟨r1, hr1, h⟩ := Option.bind_eq_some_iff.1 h
  have Kr1 : ∀ N M, ∃ v v' q, Cm.KE.ok Tryz.prog (Cm.vals ([a0, (a1_0.length : Int), a2_0, r1] ++ N) ([(a1_0.flatMap Cm.enS)] ++ M)) xb_k8 v v' q := fun N M => ⟨_, _, [.num (.v 0) (.v 3)], ⟨u_NameError_ok fu a0 r1 hr1, ⟨(Cm.r a0), trivial⟩, by kernel_rfl, ⟨rfl, trivial⟩⟩⟩
  by_cases h2 : r1 = (0 : Int)
  · rw [if_pos h2] at h
    obtain ⟨r3, hr3, h⟩ := Option.bind_eq_some_iff.1 h
    have Kr3 : ∀ N M, ∃ v v' q, Cm.KE.ok Tryz.prog (Cm.vals ([a0, (a1_0.length : Int), a2_0, r1, Cm.bI r3] ++ N) ([(a1_0.flatMap Cm.enS)] ++ M)) xb_k9 v v' q := fun N M => ⟨_, _, [.num (.v 0) (.v 4)], ⟨slices_Contains_string_string_ok fu a1_0 a0 r3 hr3, ⟨(Cm.r (a1_0.length : Int)), (Cm.r a0), ⟨[], rfl, (List.append_nil _).symm⟩, trivial⟩, by kernel_rfl, ⟨rfl, trivial⟩⟩⟩
    by_cases h4 : r3 = true
    · rw [if_pos h4] at h
      injection h with h; subst h
      exact Cm.to_fin mixed ⟨[(.neq, (.v 3), (.c 0), false), (.neq, (.v 4), (.c 0), true)], [], [(0, 1, (.v 1))], [xb_k8, xb_k9], [], []⟩ (V := (Cm.vals [a0, (a1_0.length : Int), a2_0, r1, Cm.bI r3] [(a1_0.flatMap Cm.enS)])) (n := 3000) (f := 3000) ⟨⟨Cm.neq_f h2, Cm.bi_t h4, trivial⟩, trivial, ⟨Cm.flat_length Cm.enS_len _, trivial⟩, trivial, trivial⟩ ⟨Kr1 _ _, Kr3 _ _, trivial⟩ (R := ⟨.sym .i64 (.v 0), [some (.cells [.gs 3 0 (.v 1) 1 true] 59 false), none, some (.cells [.sym .i64 (.v 2)] 28 false), some (.rows 0 [] 9 false)], [some (0, 0), some (1, 0), some (2, 0), some (1, 0)]⟩) (qs := [.num (.v 2) (.v 0), .num (.v 1) (.v 1), .num (.v 2) (.v 2), .lst 0 (some 0) []]) hF hr (by kernel_rfl) ⟨(Cm.r a2_0), (Cm.r (a1_0.length : Int)), (Cm.r a2_0), ⟨[], rfl, (List.append_nil _).symm⟩, trivial⟩ (Cm.at_re (V' := (Cm.vals [a0, (a1_0.length : Int), a2_0, r1, Cm.bI r3] [(a1_0.flatMap Cm.enS)])) (T := ⟨[(0, .ss (.v 0)), (1, .ptr 0 0), (2, .ptr 2 0)], [some (.cells [.gs 1 0 (.v 1) 1 true] 59 false), some (.rows 0 [] 9 false), some (.cells [.sym .i64 (.v 2)] 28 false)], [some (0, 0), some (1, 0), some (2, 0)]⟩) (qs := [.num (.v 0) (.v 0), .num (.v 1) (.v 1), .lst 0 (some 0) [], .num (.v 2) (.v 2)]) hat (by kernel_rfl) ⟨rfl, rfl, ⟨[], rfl, (List.append_nil _).symm⟩, rfl, trivial⟩)
    · rw [if_neg h4] at h
      by_cases h5 : (a1_0.length : Int) < (65536 : Int)
      · rw [if_pos h5] at h
        injection h with h; subst h
        exact Cm.to_fin mixed ⟨[(.neq, (.v 3), (.c 0), false), (.neq, (.v 4), (.c 0), false), (.lss, (.v 1), (.c 65536), true)], [], [(0, 1, (.v 1))], [xb_k8, xb_k9], [], []⟩ (V := (Cm.vals [a0, (a1_0.length : Int), a2_0, r1, Cm.bI r3] [(a1_0.flatMap Cm.enS)])) (n := 3000) (f := 3000) ⟨⟨Cm.neq_f h2, Cm.bi_f h4, Cm.lss_t h5, trivial⟩, trivial, ⟨Cm.flat_length Cm.enS_len _, trivial⟩, trivial, trivial⟩ ⟨Kr1 _ _, Kr3 _ _, trivial⟩ (R := ⟨.sym .i64 (.v 0), [some (.cells [.gs 3 0 (.v 1) 1 true] 59 false), none, some (.cells [.sym .i64 (.v 2)] 28 false), some (.rows 0 [] 9 false)], [some (0, 0), some (1, 0), some (2, 0), some (4, 0)]⟩) (qs := [.num (.c 0) (.v 0), .num (.add .i64 (.v 1) (.c 1)) (.v 1), .num (.v 2) (.v 2), .lst 0 (some 0) [.ss (.v 0)]]) hF hr (by kernel_rfl) ⟨(Cm.r (0 : Int)), (show (IntKind.wrap .i64 ((a1_0.length : Int) + (1 : Int))) = ((a1_0 ++ [a0]).length : Int) by first | rfl | (simp only [List.length_append, List.length_cons, List.length_nil]; rw [IntKind.wrap_i64]; omega)), (Cm.r a2_0), ⟨_, rfl, List.flatMap_append⟩, trivial⟩ (Cm.at_re (V' := (Cm.vals [a0, (a1_0.length : Int), a2_0, r1, Cm.bI r3] [(a1_0.flatMap Cm.enS)])) (T := ⟨[(0, .ss (.v 0)), (1, .ptr 0 0), (2, .ptr 2 0)], [some (.cells [.gs 1 0 (.v 1) 1 true] 59 false), some (.rows 0 [] 9 false), some (.cells [.sym .i64 (.v 2)] 28 false)], [some (0, 0), some (1, 0), some (2, 0)]⟩) (qs := [.num (.v 0) (.v 0), .num (.v 1) (.v 1), .lst 0 (some 0) [], .num (.v 2) (.v 2)]) hat (by kernel_rfl) ⟨rfl, rfl, ⟨[], rfl, (List.append_nil _).symm⟩, rfl, trivial⟩)
      · rw [if_neg h5] at h
        cases h
  · rw [if_neg h2] at h
    injection h with h; subst h
    exact Cm.to_fin mixed ⟨[(.neq, (.v 3), (.c 0), true)], [], [(0, 1, (.v 1))], [xb_k8], [], []⟩ (V := (Cm.vals [a0, (a1_0.length : Int), a2_0, r1] [(a1_0.flatMap Cm.enS)])) (n := 3000) (f := 3000) ⟨⟨Cm.neq_t h2, trivial⟩, trivial, ⟨Cm.flat_length Cm.enS_len _, trivial⟩, trivial, trivial⟩ ⟨Kr1 _ _, trivial⟩ (R := ⟨.sym .i64 (.v 0), [some (.cells [.gs 3 0 (.v 1) 1 true] 59 false), none, some (.cells [.sym .i64 (.v 2)] 28 false), some (.rows 0 [] 9 false)], [some (0, 0), some (1, 0), some (2, 0), some (1, 0)]⟩) (qs := [.num (.v 3) (.v 0), .num (.v 1) (.v 1), .num (.v 2) (.v 2), .lst 0 (some 0) []]) hF hr (by kernel_rfl) ⟨(Cm.r r1), (Cm.r (a1_0.length : Int)), (Cm.r a2_0), ⟨[], rfl, (List.append_nil _).symm⟩, trivial⟩ (Cm.at_re (V' := (Cm.vals [a0, (a1_0.length : Int), a2_0, r1] [(a1_0.flatMap Cm.enS)])) (T := ⟨[(0, .ss (.v 0)), (1, .ptr 0 0), (2, .ptr 2 0)], [some (.cells [.gs 1 0 (.v 1) 1 true] 59 false), some (.rows 0 [] 9 false), some (.cells [.sym .i64 (.v 2)] 28 false)], [some (0, 0), some (1, 0), some (2, 0)]⟩) (qs := [.num (.v 0) (.v 0), .num (.v 1) (.v 1), .lst 0 (some 0) [], .num (.v 2) (.v 2)]) hat (by kernel_rfl) ⟨rfl, rfl, ⟨[], rfl, (List.append_nil _).symm⟩, rfl, trivial⟩)

def bus_CheckStreams_1_2 (fu : Nat) (a0_0 : Int) (a0_1 : Int) (a0_2 : Int) (a0_3 : Int) (a1_0_c0_0 : List (Int)) (a1_0_c1_0 : Int) : Option (Int × List (Int)) := Option.bind (u_NameErrors_1_2 fu a0_0 a1_0_c0_0 a1_0_c1_0) fun r1 => Option.bind (u_LimitError a0_1 (1 : Int) (60 : Int)) fun r2 => Option.bind (u_LimitError a0_2 (1 : Int) a0_1) fun r3 => Option.bind (u_LimitError a0_3 (1 : Int) (20 : Int)) fun r4 => Option.bind (u_FirstError fu ([r1.1, r2, r3, r4] : List (Int))) fun r5 => some (r5, r1.2)

theorem bus_CheckStreams_1_2_ok (fu : Nat) (a0_0 : Int) (a0_1 : Int) (a0_2 : Int) (a0_3 : Int) (a1_0_c0_0 : List (Int)) (a1_0_c1_0 : Int) (y : Int × List (Int)) (h : bus_CheckStreams_1_2 fu a0_0 a0_1 a0_2 a0_3 a1_0_c0_0 a1_0_c1_0 = some y) : Cm.CallOk Tryz.prog 78 (Cm.vals [a0_0, a0_1, a0_2, a0_3, (a1_0_c0_0.length : Int), a1_0_c1_0] [(a1_0_c0_0.flatMap Cm.enS)]) [.agg [.ss (.v 0), .sym .i64 (.v 1), .sym .i64 (.v 2), .sym .i64 (.v 3)], .ptr 0 0] [some (.cells [.fn 99 [] [.ptr 1 0, .ptr 3 0]] 121 false), some (.cells [.gs 2 0 (.v 4) 1 true] 59 false), some (.rows 0 [] 9 false), some (.cells [.sym .i64 (.v 5)] 28 false)] 0 (Cm.vals [y.1, (y.2.length : Int), a1_0_c1_0] [(y.2.flatMap Cm.enS)]) (.sym .i64 (.v 0)) [some (.cells [.fn 99 [] [.ptr 1 0, .ptr 3 0]] 121 false), some (.cells [.gs 4 0 (.v 1) 1 true] 59 false), none, some (.cells [.sym .i64 (.v 2)] 28 false), some (.rows 0 [] 9 false)] := by
  refine Cm.fun_of (nt := 21) (by kernel_rfl) (by kernel_rfl) fun φ0 w0 a w hat => ?_
  have hF := Cm.wide_fw
  have hr : Fence.wide.round = none := rfl
  unfold bus_CheckStreams_1_2 at h
  obtain ⟨r1, hr1, h⟩ := Option.bind_eq_some_iff.1 h
  have Kr1 : ∀ N M, ∃ v v' q, Cm.KE.ok Tryz.prog (Cm.vals ([a0_0, a0_1, a0_2, a0_3, (a1_0_c0_0.length : Int), a1_0_c1_0, (r1.2.length : Int), r1.1] ++ N) ([(a1_0_c0_0.flatMap Cm.enS), (r1.2.flatMap Cm.enS)] ++ M)) ⟨99, 5, [some (1, 0), some (2, 0), some (3, 0)], [.ss (.v 0), .ptr 0 0, .ptr 2 0], [some (.cells [.gs 1 0 (.v 1) 1 true] 59 false), some (.rows 0 [] 9 false), some (.cells [.sym .i64 (.v 2)] 28 false)], [.num (.v 0) (.v 0), .num (.v 4) (.v 1), .lst 0 (some 0) [], .num (.v 5) (.v 2)], 0, .sym .i64 (.v 0), [some (.cells [.gs 3 0 (.v 1) 1 true] 59 false), none, some (.cells [.sym .i64 (.v 2)] 28 false), some (.rows 0 [] 9 false)], .sym .i64 (.v 7), [some (.rows 1 [] 9 false)], [(1, some (.cells [.gs 5 0 (.v 6) 1 true] 59 false)), (2, none), (3, some (.cells [.sym .i64 (.v 5)] 28 false))]⟩ v v' q := fun N M => ⟨_, _, [.num (.v 0) (.v 7), .lst 1 (some 0) [], .num (.v 1) (.v 6), .num (.v 2) (.v 5)], ⟨u_NameErrors_1_2_ok fu a0_0 a1_0_c0_0 a1_0_c1_0 r1 hr1, ⟨(Cm.r a0_0), (Cm.r (a1_0_c0_0.length : Int)), ⟨[], rfl, (List.append_nil _).symm⟩, (Cm.r a1_0_c1_0), trivial⟩, by kernel_rfl, ⟨rfl, ⟨[], rfl, (List.append_nil _).symm⟩, rfl, rfl, trivial⟩⟩⟩
  obtain ⟨r2, hr2, h⟩ := Option.bind_eq_some_iff.1 h
  have Kr2 : ∀ N M, ∃ v v' q, Cm.KE.ok Tryz.prog (Cm.vals ([a0_0, a0_1, a0_2, a0_3, (a1_0_c0_0.length : Int), a1_0_c1_0, (r1.2.length : Int), r1.1, r2] ++ N) ([(a1_0_c0_0.flatMap Cm.enS), (r1.2.flatMap Cm.enS)] ++ M)) ⟨34, 6, [], [.sym .i64 (.v 0), .sym .i64 (.v 1), .sym .i64 (.v 2)], [], [.num (.v 1) (.v 0), .num (.c 1) (.v 1), .num (.c 60) (.v 2)], 0, .sym .i64 (.v 0), [], .sym .i64 (.v 8), [], []⟩ v v' q := fun N M => ⟨_, _, [.num (.v 0) (.v 8)], ⟨u_LimitError_ok a0_1 (1 : Int) (60 : Int) r2 hr2, ⟨(Cm.r a0_1), (Cm.r (1 : Int)), (Cm.r (60 : Int)), trivial⟩, by kernel_rfl, ⟨rfl, trivial⟩⟩⟩
  obtain ⟨r3, hr3, h⟩ := Option.bind_eq_some_iff.1 h
  have Kr3 : ∀ N M, ∃ v v' q, Cm.KE.ok Tryz.prog (Cm.vals ([a0_0, a0_1, a0_2, a0_3, (a1_0_c0_0.length : Int), a1_0_c1_0, (r1.2.length : Int), r1.1, r2, r3] ++ N) ([(a1_0_c0_0.flatMap Cm.enS), (r1.2.flatMap Cm.enS)] ++ M)) ⟨34, 6, [], [.sym .i64 (.v 0), .sym .i64 (.v 1), .sym .i64 (.v 2)], [], [.num (.v 2) (.v 0), .num (.c 1) (.v 1), .num (.v 1) (.v 2)], 0, .sym .i64 (.v 0), [], .sym .i64 (.v 9), [], []⟩ v v' q := fun N M => ⟨_, _, [.num (.v 0) (.v 9)], ⟨u_LimitError_ok a0_2 (1 : Int) a0_1 r3 hr3, ⟨(Cm.r a0_2), (Cm.r (1 : Int)), (Cm.r a0_1), trivial⟩, by kernel_rfl, ⟨rfl, trivial⟩⟩⟩
  obtain ⟨r4, hr4, h⟩ := Option.bind_eq_some_iff.1 h
  have Kr4 : ∀ N M, ∃ v v' q, Cm.KE.ok Tryz.prog (Cm.vals ([a0_0, a0_1, a0_2, a0_3, (a1_0_c0_0.length : Int), a1_0_c1_0, (r1.2.length : Int), r1.1, r2, r3, r4] ++ N) ([(a1_0_c0_0.flatMap Cm.enS), (r1.2.flatMap Cm.enS)] ++ M)) ⟨34, 6, [], [.sym .i64 (.v 0), .sym .i64 (.v 1), .sym .i64 (.v 2)], [], [.num (.v 3) (.v 0), .num (.c 1) (.v 1), .num (.c 20) (.v 2)], 0, .sym .i64 (.v 0), [], .sym .i64 (.v 10), [], []⟩ v v' q := fun N M => ⟨_, _, [.num (.v 0) (.v 10)], ⟨u_LimitError_ok a0_3 (1 : Int) (20 : Int) r4 hr4, ⟨(Cm.r a0_3), (Cm.r (1 : Int)), (Cm.r (20 : Int)), trivial⟩, by kernel_rfl, ⟨rfl, trivial⟩⟩⟩
  obtain ⟨r5, hr5, h⟩ := Option.bind_eq_some_iff.1 h
  have Kr5 : ∀ N M, ∃ v v' q, Cm.KE.ok Tryz.prog (Cm.vals ([a0_0, a0_1, a0_2, a0_3, (a1_0_c0_0.length : Int), a1_0_c1_0, (r1.2.length : Int), r1.1, r2, r3, r4, r5] ++ N) ([(a1_0_c0_0.flatMap Cm.enS), (r1.2.flatMap Cm.enS)] ++ M)) ⟨33, 7, [some (6, 0)], [.gs 0 0 (.v 0) 1 false], [some (.rows 0 [] 28 true)], [.num (.c 4) (.v 0), .lst 0 none [.sym .i64 (.v 7), .sym .i64 (.v 8), .sym .i64 (.v 9), .sym .i64 (.v 10)]], 1, .sym .i64 (.v 0), [none], .sym .i64 (.v 11), [], []⟩ v v' q := fun N M => ⟨_, _, [.num (.v 0) (.v 11)], ⟨u_FirstError_ok fu ([r1.1, r2, r3, r4] : List (Int)) r5 hr5, ⟨rfl, rfl, trivial⟩, by kernel_rfl, ⟨rfl, trivial⟩⟩⟩
  injection h with h; subst h
  exact Cm.to_fin mixed ⟨[], [], [(0, 1, (.v 4)), (1, 1, (.v 6))], [⟨99, 5, [some (1, 0), some (2, 0), some (3, 0)], [.ss (.v 0), .ptr 0 0, .ptr 2 0], [some (.cells [.gs 1 0 (.v 1) 1 true] 59 false), some (.rows 0 [] 9 false), some (.cells [.sym .i64 (.v 2)] 28 false)], [.num (.v 0) (.v 0), .num (.v 4) (.v 1), .lst 0 (some 0) [], .num (.v 5) (.v 2)], 0, .sym .i64 (.v 0), [some (.cells [.gs 3 0 (.v 1) 1 true] 59 false), none, some (.cells [.sym .i64 (.v 2)] 28 false), some (.rows 0 [] 9 false)], .sym .i64 (.v 7), [some (.rows 1 [] 9 false)], [(1, some (.cells [.gs 5 0 (.v 6) 1 true] 59 false)), (2, none), (3, some (.cells [.sym .i64 (.v 5)] 28 false))]⟩, ⟨34, 6, [], [.sym .i64 (.v 0), .sym .i64 (.v 1), .sym .i64 (.v 2)], [], [.num (.v 1) (.v 0), .num (.c 1) (.v 1), .num (.c 60) (.v 2)], 0, .sym .i64 (.v 0), [], .sym .i64 (.v 8), [], []⟩, ⟨34, 6, [], [.sym .i64 (.v 0), .sym .i64 (.v 1), .sym .i64 (.v 2)], [], [.num (.v 2) (.v 0), .num (.c 1) (.v 1), .num (.v 1) (.v 2)], 0, .sym .i64 (.v 0), [], .sym .i64 (.v 9), [], []⟩, ⟨34, 6, [], [.sym .i64 (.v 0), .sym .i64 (.v 1), .sym .i64 (.v 2)], [], [.num (.v 3) (.v 0), .num (.c 1) (.v 1), .num (.c 20) (.v 2)], 0, .sym .i64 (.v 0), [], .sym .i64 (.v 10), [], []⟩, ⟨33, 7, [some (6, 0)], [.gs 0 0 (.v 0) 1 false], [some (.rows 0 [] 28 true)], [.num (.c 4) (.v 0), .lst 0 none [.sym .i64 (.v 7), .sym .i64 (.v 8), .sym .i64 (.v 9), .sym .i64 (.v 10)]], 1, .sym .i64 (.v 0), [none], .sym .i64 (.v 11), [], []⟩], [], []⟩ (V := (Cm.vals [a0_0, a0_1, a0_2, a0_3, (a1_0_c0_0.length : Int), a1_0_c1_0, (r1.2.length : Int), r1.1, r2, r3, r4, r5] [(a1_0_c0_0.flatMap Cm.enS), (r1.2.flatMap Cm.enS)])) (n := 3000) (f := 3000) ⟨trivial, trivial, ⟨Cm.flat_length Cm.enS_len _, Cm.flat_length Cm.enS_len _, trivial⟩, trivial, trivial⟩ ⟨Kr1 _ _, Kr2 _ _, Kr3 _ _, Kr4 _ _, Kr5 _ _, trivial⟩ (R := ⟨.sym .i64 (.v 0), [some (.cells [.fn 99 [] [.ptr 1 0, .ptr 3 0]] 121 false), some (.cells [.gs 4 0 (.v 1) 1 true] 59 false), none, some (.cells [.sym .i64 (.v 2)] 28 false), some (.rows 0 [] 9 false)], [some (0, 0), some (1, 0), some (2, 0), some (3, 0), some (5, 0)]⟩) (qs := [.num (.v 11) (.v 0), .num (.v 6) (.v 1), .num (.v 5) (.v 2), .lst 0 (some 1) []]) hF hr (by kernel_rfl) ⟨(Cm.r r5), (Cm.r (r1.2.length : Int)), (Cm.r a1_0_c1_0), ⟨[], rfl, (List.append_nil _).symm⟩, trivial⟩ (Cm.at_re (V' := (Cm.vals [a0_0, a0_1, a0_2, a0_3, (a1_0_c0_0.length : Int), a1_0_c1_0, (r1.2.length : Int), r1.1, r2, r3, r4, r5] [(a1_0_c0_0.flatMap Cm.enS), (r1.2.flatMap Cm.enS)])) (T := ⟨[(0, .agg [.ss (.v 0), .sym .i64 (.v 1), .sym .i64 (.v 2), .sym .i64 (.v 3)]), (1, .ptr 0 0)], [some (.cells [.fn 99 [] [.ptr 1 0, .ptr 3 0]] 121 false), some (.cells [.gs 2 0 (.v 4) 1 true] 59 false), some (.rows 0 [] 9 false), some (.cells [.sym .i64 (.v 5)] 28 false)], [some (0, 0), some (1, 0), some (2, 0), some (3, 0)]⟩) (qs := [.num (.v 0) (.v 0), .num (.v 1) (.v 1), .num (.v 2) (.v 2), .num (.v 3) (.v 3), .num (.v 4) (.v 4), .lst 0 (some 0) [], .num (.v 5) (.v 5)]) hat (by kernel_rfl) ⟨rfl, rfl, rfl, rfl, rfl, ⟨[], rfl, (List.append_nil _).symm⟩, rfl, trivial⟩)

def u_FirstBad_BusStream_CheckStreams_1_L1 (fu : Nat) (p0 : List (Int × Int × Int × Int)) (p2 : Int) (p3 : Int) : Nat → List (Int) → Int → Option ((List (Int) × Int × Int) ⊕ (List (Int)))
  | 0, _, _ => none
  | n + 1, v1, v4 => if v4 < p3 then (if (0 : Int) ≤ v4 then (if v4 < (p0.length : Int) then (Option.bind ((p0)[0 + (v4).toNat]?) fun e4 => Option.bind (bus_CheckStreams_1_2 fu e4.1 e4.2.1 e4.2.2.1 e4.2.2.2 v1 p2) fun r5 => if r5.1 = (0 : Int) then (u_FirstBad_BusStream_CheckStreams_1_L1 fu p0 p2 p3 n r5.2 (IntKind.wrap .i64 (v4 + (1 : Int)))) else (some (.inl (r5.2, v4, r5.1)))) else none) else none) else (some (.inr v1))

theorem u_FirstBad_BusStream_CheckStreams_1_L1_ok (fu : Nat) (p0 : List (Int × Int × Int × Int)) (p2 : Int) (p3 : Int) : ∀ (n : Nat) (v1 : List (Int)) (v4 : Int) (o : (List (Int) × Int × Int) ⊕ (List (Int))), u_FirstBad_BusStream_CheckStreams_1_L1 fu p0 p2 p3 n v1 v4 = some o → ∀ (φ0 : Cm.Phi) (w0 : World) (F : Fence) (k : Nat) (R : Exit → Act → World → Prop) (a : Act) (w : World), Cm.FW F → F.round = none → Cm.AtS (Cm.vals [(p0.length : Int), (v1.length : Int), p2, p3, v4] [(p0.flatMap Cm.enSIII), (v1.flatMap Cm.enS)]) [(1, .fn 78 [] [.ptr 1 0]), (9, .gs 0 0 (.v 0) 4 false), (10, .sym .i64 (.v 3)), (11, .sym .i64 (.v 4))] [some (.rows 0 [] 79 true), some (.cells [.fn 99 [] [.ptr 2 0, .ptr 3 0]] 121 false), some (.cells [.gs 4 0 (.v 1) 1 true] 59 false), some (.cells [.sym .i64 (.v 2)] 28 false), some (.rows 1 [] 9 false)] 24 4 1 φ0 w0 a w → (∀ (y : List (Int) × Int × Int), o = .inl y → ∀ a' w', Cm.AtS (Cm.vals [(p0.length : Int), (y.1.length : Int), p2, y.2.1, y.2.2] [(p0.flatMap Cm.enSIII), (y.1.flatMap Cm.enS)]) [(4, .sym .i64 (.v 3)), (5, .sym .i64 (.v 4))] [some (.rows 0 [] 79 true), some (.cells [.fn 99 [] [.ptr 2 0, .ptr 3 0]] 121 false), some (.cells [.gs 4 0 (.v 1) 1 true] 59 false), some (.cells [.sym .i64 (.v 2)] 28 false), some (.rows 1 [] 9 false)] 24 4 1 φ0 w0 a' w' → R Exit.ret a' w') → (∀ (y : List (Int)), o = .inr y → ∀ a' w', Cm.AtS (Cm.vals [(p0.length : Int), (y.length : Int), p2] [(p0.flatMap Cm.enSIII), (y.flatMap Cm.enS)]) [] [some (.rows 0 [] 79 true), some (.cells [.fn 99 [] [.ptr 2 0, .ptr 3 0]] 121 false), some (.cells [.gs 4 0 (.v 1) 1 true] 59 false), some (.cells [.sym .i64 (.v 2)] 28 false), some (.rows 1 [] 9 false)] 24 4 1 φ0 w0 a' w' → R (Exit.exit 0) a' w') → Code.roundsIn F k Tryz.prog (Cm.subAt (Cm.bodyOf Tryz.prog 102) [1, 0, 1, 0, 0]) R n a w
  | 0, _, _, _, h => by cases h
  | n + 1, v1, v4, o, h => by
    intro φ0 w0 F k R a w hF hr hat hx0 hx1
    rw [u_FirstBad_BusStream_CheckStreams_1_L1] at h
    refine Cm.rounds_in (p := [1, 0, 1, 0, 0]) ?_
    by_cases h1 : v4 < p3
    · rw [if_pos h1] at h
      by_cases h2 : (0 : Int) ≤ v4
      · rw [if_pos h2] at h
        by_cases h3 : v4 < (p0.length : Int)
        · rw [if_pos h3] at h
          obtain ⟨e4, he4, h⟩ := Option.bind_eq_some_iff.1 h
          obtain ⟨r5, hr5, h⟩ := Option.bind_eq_some_iff.1 h
          have Kr5 : ∀ N M, ∃ v v' q, Cm.KE.ok Tryz.prog (Cm.vals ([(p0.length : Int), (v1.length : Int), p2, p3, v4, e4.1, e4.2.1, e4.2.2.1, e4.2.2.2, (r5.2.length : Int), r5.1] ++ N) ([(p0.flatMap Cm.enSIII), (v1.flatMap Cm.enS), (r5.2.flatMap Cm.enS)] ++ M)) xb_k10 v v' q := fun N M => ⟨_, _, [.num (.v 0) (.v 10), .lst 2 (some 0) [], .num (.v 1) (.v 9), .num (.v 2) (.v 2)], ⟨bus_CheckStreams_1_2_ok fu e4.1 e4.2.1 e4.2.2.1 e4.2.2.2 v1 p2 r5 hr5, ⟨(Cm.r e4.1), (Cm.r e4.2.1), (Cm.r e4.2.2.1), (Cm.r e4.2.2.2), (Cm.r (v1.length : Int)), ⟨[], rfl, (List.append_nil _).symm⟩, (Cm.r p2), trivial⟩, by kernel_rfl, ⟨rfl, ⟨[], rfl, (List.append_nil _).symm⟩, rfl, rfl, trivial⟩⟩⟩
          by_cases h6 : r5.1 = (0 : Int)
          · rw [if_pos h6] at h
            refine Cm.to_done mixed ⟨[(.lss, (.v 4), (.v 3), true), (.leq, (.c 0), (.v 4), true), (.lss, (.v 4), (.v 0), true), (.neq, (.v 10), (.c 0), false)], [(0, 0, (.v 4), [.ss (.v 5), .sym .i64 (.v 6), .sym .i64 (.v 7), .sym .i64 (.v 8)])], [(0, 4, (.v 0)), (1, 1, (.v 1)), (2, 1, (.v 9))], [xb_k10], [], []⟩ (V := (Cm.vals [(p0.length : Int), (v1.length : Int), p2, p3, v4, e4.1, e4.2.1, e4.2.2.1, e4.2.2.2, (r5.2.length : Int), r5.1] [(p0.flatMap Cm.enSIII), (v1.flatMap Cm.enS), (r5.2.flatMap Cm.enS)])) (n := 3000) (f := 3000) (V' := (Cm.vals [(p0.length : Int), (r5.2.length : Int), p2, p3, (IntKind.wrap .i64 (v4 + (1 : Int)))] [(p0.flatMap Cm.enSIII), (r5.2.flatMap Cm.enS)])) ⟨⟨Cm.lss_t h1, Cm.leq_t h2, Cm.lss_t h3, Cm.neq_f h6, trivial⟩, ⟨⟨h2, _, rfl, Cm.flat_row Cm.enSIII_len he4⟩, trivial⟩, ⟨Cm.flat_length Cm.enSIII_len _, Cm.flat_length Cm.enS_len _, Cm.flat_length Cm.enS_len _, trivial⟩, trivial, trivial⟩ ⟨Kr5 _ _, trivial⟩ (T := ⟨[(1, .fn 78 [] [.ptr 1 0]), (9, .gs 0 0 (.v 0) 4 false), (10, .sym .i64 (.v 3)), (11, .sym .i64 (.v 4))], [some (.rows 0 [] 79 true), some (.cells [.fn 99 [] [.ptr 2 0, .ptr 3 0]] 121 false), some (.cells [.gs 4 0 (.v 1) 1 true] 59 false), some (.cells [.sym .i64 (.v 2)] 28 false), some (.rows 1 [] 9 false)], [some (0, 0), some (1, 0), some (2, 0), some (3, 0), some (6, 0)]⟩) (ce := .normal) (qs := [.num (.v 0) (.v 0), .num (.v 3) (.v 3), .num (.add .i64 (.v 4) (.c 1)) (.v 4), .lst 0 (some 0) [], .num (.v 9) (.v 1), .num (.v 2) (.v 2), .lst 1 (some 2) []]) hF hr (by kernel_rfl) ⟨(Cm.r (p0.length : Int)), (Cm.r p3), (Cm.r (IntKind.wrap .i64 (v4 + (1 : Int)))), ⟨[], rfl, (List.append_nil _).symm⟩, (Cm.r (r5.2.length : Int)), (Cm.r p2), ⟨[], rfl, (List.append_nil _).symm⟩, trivial⟩ (Cm.at_re (V' := (Cm.vals [(p0.length : Int), (v1.length : Int), p2, p3, v4, e4.1, e4.2.1, e4.2.2.1, e4.2.2.2, (r5.2.length : Int), r5.1] [(p0.flatMap Cm.enSIII), (v1.flatMap Cm.enS), (r5.2.flatMap Cm.enS)])) (T := ⟨[(1, .fn 78 [] [.ptr 1 0]), (9, .gs 0 0 (.v 0) 4 false), (10, .sym .i64 (.v 3)), (11, .sym .i64 (.v 4))], [some (.rows 0 [] 79 true), some (.cells [.fn 99 [] [.ptr 2 0, .ptr 3 0]] 121 false), some (.cells [.gs 4 0 (.v 1) 1 true] 59 false), some (.cells [.sym .i64 (.v 2)] 28 false), some (.rows 1 [] 9 false)], [some (0, 0), some (1, 0), some (2, 0), some (3, 0), some (4, 0)]⟩) (qs := [.num (.v 0) (.v 0), .num (.v 3) (.v 3), .num (.v 4) (.v 4), .lst 0 (some 0) [], .num (.v 1) (.v 1), .num (.v 2) (.v 2), .lst 1 (some 1) []]) hat (by kernel_rfl) ⟨rfl, rfl, rfl, ⟨[], rfl, (List.append_nil _).symm⟩, rfl, rfl, ⟨[], rfl, (List.append_nil _).symm⟩, trivial⟩) fun a' w' hat' => ?_
            exact u_FirstBad_BusStream_CheckStreams_1_L1_ok fu p0 p2 p3 n r5.2 (IntKind.wrap .i64 (v4 + (1 : Int))) o h _ _ _ _ _ _ _ hF hr hat' hx0 hx1
          · rw [if_neg h6] at h
            injection h with h; subst h
            exact Cm.to_done mixed ⟨[(.lss, (.v 4), (.v 3), true), (.leq, (.c 0), (.v 4), true), (.lss, (.v 4), (.v 0), true), (.neq, (.v 10), (.c 0), true)], [(0, 0, (.v 4), [.ss (.v 5), .sym .i64 (.v 6), .sym .i64 (.v 7), .sym .i64 (.v 8)])], [(0, 4, (.v 0)), (1, 1, (.v 1)), (2, 1, (.v 9))], [xb_k10], [], []⟩ (V := (Cm.vals [(p0.length : Int), (v1.length : Int), p2, p3, v4, e4.1, e4.2.1, e4.2.2.1, e4.2.2.2, (r5.2.length : Int), r5.1] [(p0.flatMap Cm.enSIII), (v1.flatMap Cm.enS), (r5.2.flatMap Cm.enS)])) (n := 3000) (f := 3000) (V' := (Cm.vals [(p0.length : Int), (r5.2.length : Int), p2, v4, r5.1] [(p0.flatMap Cm.enSIII), (r5.2.flatMap Cm.enS)])) ⟨⟨Cm.lss_t h1, Cm.leq_t h2, Cm.lss_t h3, Cm.neq_t h6, trivial⟩, ⟨⟨h2, _, rfl, Cm.flat_row Cm.enSIII_len he4⟩, trivial⟩, ⟨Cm.flat_length Cm.enSIII_len _, Cm.flat_length Cm.enS_len _, Cm.flat_length Cm.enS_len _, trivial⟩, trivial, trivial⟩ ⟨Kr5 _ _, trivial⟩ (T := ⟨[(4, .sym .i64 (.v 3)), (5, .sym .i64 (.v 4))], [some (.rows 0 [] 79 true), some (.cells [.fn 99 [] [.ptr 2 0, .ptr 3 0]] 121 false), some (.cells [.gs 4 0 (.v 1) 1 true] 59 false), some (.cells [.sym .i64 (.v 2)] 28 false), some (.rows 1 [] 9 false)], [some (0, 0), some (1, 0), some (2, 0), some (3, 0), some (6, 0)]⟩) (ce := .ret) (qs := [.num (.v 4) (.v 3), .num (.v 10) (.v 4), .lst 0 (some 0) [], .num (.v 9) (.v 1), .num (.v 2) (.v 2), .lst 1 (some 2) []]) hF hr (by kernel_rfl) ⟨(Cm.r v4), (Cm.r r5.1), ⟨[], rfl, (List.append_nil _).symm⟩, (Cm.r (r5.2.length : Int)), (Cm.r p2), ⟨[], rfl, (List.append_nil _).symm⟩, trivial⟩ (Cm.at_re (V' := (Cm.vals [(p0.length : Int), (v1.length : Int), p2, p3, v4, e4.1, e4.2.1, e4.2.2.1, e4.2.2.2, (r5.2.length : Int), r5.1] [(p0.flatMap Cm.enSIII), (v1.flatMap Cm.enS), (r5.2.flatMap Cm.enS)])) (T := ⟨[(1, .fn 78 [] [.ptr 1 0]), (9, .gs 0 0 (.v 0) 4 false), (10, .sym .i64 (.v 3)), (11, .sym .i64 (.v 4))], [some (.rows 0 [] 79 true), some (.cells [.fn 99 [] [.ptr 2 0, .ptr 3 0]] 121 false), some (.cells [.gs 4 0 (.v 1) 1 true] 59 false), some (.cells [.sym .i64 (.v 2)] 28 false), some (.rows 1 [] 9 false)], [some (0, 0), some (1, 0), some (2, 0), some (3, 0), some (4, 0)]⟩) (qs := [.num (.v 0) (.v 0), .num (.v 3) (.v 3), .num (.v 4) (.v 4), .lst 0 (some 0) [], .num (.v 1) (.v 1), .num (.v 2) (.v 2), .lst 1 (some 1) []]) hat (by kernel_rfl) ⟨rfl, rfl, rfl, ⟨[], rfl, (List.append_nil _).symm⟩, rfl, rfl, ⟨[], rfl, (List.append_nil _).symm⟩, trivial⟩) fun a' w' hat' => hx0 (r5.2, v4, r5.1) rfl a' w' hat'
        · rw [if_neg h3] at h
          cases h
      · rw [if_neg h2] at h
        cases h
    · rw [if_neg h1] at h
      injection h with h; subst h
      exact Cm.to_done mixed ⟨[(.lss, (.v 4), (.v 3), false)], [], [(0, 4, (.v 0)), (1, 1, (.v 1))], [], [], []⟩ (V := (Cm.vals [(p0.length : Int), (v1.length : Int), p2, p3, v4] [(p0.flatMap Cm.enSIII), (v1.flatMap Cm.enS)])) (n := 3000) (f := 3000) (V' := (Cm.vals [(p0.length : Int), (v1.length : Int), p2] [(p0.flatMap Cm.enSIII), (v1.flatMap Cm.enS)])) ⟨⟨Cm.lss_f h1, trivial⟩, trivial, ⟨Cm.flat_length Cm.enSIII_len _, Cm.flat_length Cm.enS_len _, trivial⟩, trivial, trivial⟩ trivial (T := ⟨[], [some (.rows 0 [] 79 true), some (.cells [.fn 99 [] [.ptr 2 0, .ptr 3 0]] 121 false), some (.cells [.gs 4 0 (.v 1) 1 true] 59 false), some (.cells [.sym .i64 (.v 2)] 28 false), some (.rows 1 [] 9 false)], [some (0, 0), some (1, 0), some (2, 0), some (3, 0), some (4, 0)]⟩) (ce := (.exit 0)) (qs := [.lst 0 (some 0) [], .num (.v 1) (.v 1), .num (.v 2) (.v 2), .lst 1 (some 1) []]) hF hr (by kernel_rfl) ⟨⟨[], rfl, (List.append_nil _).symm⟩, (Cm.r (v1.length : Int)), (Cm.r p2), ⟨[], rfl, (List.append_nil _).symm⟩, trivial⟩ hat fun a' w' hat' => hx1 v1 rfl a' w' hat'

def u_FirstBad_BusStream_CheckStreams_1 (fu : Nat) (a0 : List (Int × Int × Int × Int)) (a1_c0_0_c1_0 : Int) : Option (Int × Int × List (Int)) := Option.bind (u_FirstBad_BusStream_CheckStreams_1_L1 fu a0 a1_c0_0_c1_0 (a0.length : Int) fu ([] : List (Int)) (0 : Int)) fun o1 => (match o1 with | .inl y2 => (some (y2.2.1, y2.2.2, y2.1)) | .inr y3 => (some ((0 : Int), (0 : Int), y3)))

theorem u_FirstBad_BusStream_CheckStreams_1_ok (fu : Nat) (a0 : List (Int × Int × Int × Int)) (a1_c0_0_c1_0 : Int) (y : Int × Int × List (Int)) (h : u_FirstBad_BusStream_CheckStreams_1 fu a0 a1_c0_0_c1_0 = some y) : Cm.CallOk Tryz.prog 102 (Cm.vals [(a0.length : Int), a1_c0_0_c1_0] [(a0.flatMap Cm.enSIII)]) [.gs 0 0 (.v 0) 4 false, .fn 78 [] [.ptr 1 0]] [some (.rows 0 [] 79 true), some (.cells [.fn 99 [] [.ptr 2 0, .ptr 3 0]] 121 false), some (.cells [.nils] 59 false), some (.cells [.sym .i64 (.v 1)] 28 false)] 1 (Cm.vals [y.1, y.2.1, (y.2.2.length : Int), a1_c0_0_c1_0] [(y.2.2.flatMap Cm.enS)]) (.tup [.sym .i64 (.v 0), .sym .i64 (.v 1)]) [none, some (.cells [.fn 99 [] [.ptr 2 0, .ptr 3 0]] 121 false), some (.cells [.gs 4 0 (.v 2) 1 true] 59 false), some (.cells [.sym .i64 (.v 3)] 28 false), some (.rows 0 [] 9 false)] := by
  refine Cm.fun_of (nt := 24) (by kernel_rfl) (by kernel_rfl) fun φ0 w0 a w hat => ?_
  have hF := Cm.wide_fw
  have hr : Fence.wide.round = none := rfl
  unfold u_FirstBad_BusStream_CheckStreams_1 at h
  obtain ⟨o1, ho1, h⟩ := Option.bind_eq_some_iff.1 h
  refine Cm.to_loop mixed ⟨[], [], [(0, 4, (.v 0))], [], [], []⟩ (V := (Cm.vals [(a0.length : Int), a1_c0_0_c1_0] [(a0.flatMap Cm.enSIII)])) (n := 3000) (f := 3000) (V' := (Cm.vals [(a0.length : Int), (([] : List (Int)).length : Int), a1_c0_0_c1_0, (a0.length : Int), (0 : Int)] [(a0.flatMap Cm.enSIII), (([] : List (Int)).flatMap Cm.enS)])) ⟨trivial, trivial, ⟨Cm.flat_length Cm.enSIII_len _, trivial⟩, trivial, trivial⟩ trivial (T := ⟨[(1, .fn 78 [] [.ptr 1 0]), (9, .gs 0 0 (.v 0) 4 false), (10, .sym .i64 (.v 3)), (11, .sym .i64 (.v 4))], [some (.rows 0 [] 79 true), some (.cells [.fn 99 [] [.ptr 2 0, .ptr 3 0]] 121 false), some (.cells [.gs 4 0 (.v 1) 1 true] 59 false), some (.cells [.sym .i64 (.v 2)] 28 false), some (.rows 1 [] 9 false)], [some (0, 0), some (1, 0), some (2, 0), some (3, 0), none]⟩) (B := Cm.subAt (Cm.bodyOf Tryz.prog 102) [1, 0, 1, 0, 0]) (K' := [.bk 0, .sq (Cm.subAt (Cm.bodyOf Tryz.prog 102) [1, 1]) [1, 1]]) (qs := [.num (.v 0) (.v 0), .num (.v 0) (.v 3), .num (.c 0) (.v 4), .lst 0 (some 0) [], .num (.c 0) (.v 1), .num (.v 1) (.v 2)]) hF hr (by kernel_rfl) ⟨(Cm.r (a0.length : Int)), (Cm.r (a0.length : Int)), (Cm.r (0 : Int)), ⟨[], rfl, (List.append_nil _).symm⟩, rfl, (Cm.r a1_c0_0_c1_0), trivial⟩ hat fun aa1 ww1 hat1 => Cm.loop_in (u_FirstBad_BusStream_CheckStreams_1_L1_ok fu a0 a1_c0_0_c1_0 (a0.length : Int) fu ([] : List (Int)) (0 : Int) o1 ho1 _ _ _ _ _ _ _ hF hr hat1 ?_ ?_)
  · intro y2 hy aa2 ww2 hat
    subst hy
    dsimp only at h
    show (Cm.Wk.out .ret).goal _ _ _ [.bk 0, .sq (Cm.subAt (Cm.bodyOf Tryz.prog 102) [1, 1]) [1, 1]] _ aa2 ww2
    injection h with h; subst h
    exact Cm.to_fin mixed ⟨[], [], [(0, 4, (.v 0)), (1, 1, (.v 1))], [], [], []⟩ (V := (Cm.vals [(a0.length : Int), (y2.1.length : Int), a1_c0_0_c1_0, y2.2.1, y2.2.2] [(a0.flatMap Cm.enSIII), (y2.1.flatMap Cm.enS)])) (n := 3000) (f := 3000) ⟨trivial, trivial, ⟨Cm.flat_length Cm.enSIII_len _, Cm.flat_length Cm.enS_len _, trivial⟩, trivial, trivial⟩ trivial (R := ⟨.tup [.sym .i64 (.v 0), .sym .i64 (.v 1)], [none, some (.cells [.fn 99 [] [.ptr 2 0, .ptr 3 0]] 121 false), some (.cells [.gs 4 0 (.v 2) 1 true] 59 false), some (.cells [.sym .i64 (.v 3)] 28 false), some (.rows 0 [] 9 false)], [some (0, 0), some (1, 0), some (2, 0), some (3, 0), some (4, 0)]⟩) (qs := [.num (.v 3) (.v 0), .num (.v 4) (.v 1), .num (.v 1) (.v 2), .num (.v 2) (.v 3), .lst 0 (some 1) []]) hF hr (by kernel_rfl) ⟨(Cm.r y2.2.1), (Cm.r y2.2.2), (Cm.r (y2.1.length : Int)), (Cm.r a1_c0_0_c1_0), ⟨[], rfl, (List.append_nil _).symm⟩, trivial⟩ hat
  · intro y3 hy aa2 ww2 hat
    subst hy
    dsimp only at h
    show (Cm.Wk.out (.exit 0)).goal _ _ _ [.bk 0, .sq (Cm.subAt (Cm.bodyOf Tryz.prog 102) [1, 1]) [1, 1]] _ aa2 ww2
    injection h with h; subst h
    exact Cm.to_fin mixed ⟨[], [], [(0, 4, (.v 0)), (1, 1, (.v 1))], [], [], []⟩ (V := (Cm.vals [(a0.length : Int), (y3.length : Int), a1_c0_0_c1_0] [(a0.flatMap Cm.enSIII), (y3.flatMap Cm.enS)])) (n := 3000) (f := 3000) ⟨trivial, trivial, ⟨Cm.flat_length Cm.enSIII_len _, Cm.flat_length Cm.enS_len _, trivial⟩, trivial, trivial⟩ trivial (R := ⟨.tup [.sym .i64 (.v 0), .sym .i64 (.v 1)], [none, some (.cells [.fn 99 [] [.ptr 2 0, .ptr 3 0]] 121 false), some (.cells [.gs 4 0 (.v 2) 1 true] 59 false), some (.cells [.sym .i64 (.v 3)] 28 false), some (.rows 0 [] 9 false)], [some (0, 0), some (1, 0), some (2, 0), some (3, 0), some (4, 0)]⟩) (qs := [.num (.c 0) (.v 0), .num (.c 0) (.v 1), .num (.v 1) (.v 2), .num (.v 2) (.v 3), .lst 0 (some 1) []]) hF hr (by kernel_rfl) ⟨(Cm.r (0 : Int)), (Cm.r (0 : Int)), (Cm.r (y3.length : Int)), (Cm.r a1_c0_0_c1_0), ⟨[], rfl, (List.append_nil _).symm⟩, trivial⟩ hat

def u_CheckList_BusStream_CheckStreams_1 (fu : Nat) (a0 : List (Int × Int × Int × Int)) (a1 : Int) (a2 : Int) (a3_c0_0_c1_0 : Int) : Option (Int × Int × List (Int)) := if (a0.length : Int) < a1 then (some ((0 : Int), (10 : Int), ([] : List (Int)))) else (if a2 < (a0.length : Int) then (some ((0 : Int), (8 : Int), ([] : List (Int)))) else (Option.bind (u_FirstBad_BusStream_CheckStreams_1 fu a0 a3_c0_0_c1_0) fun r3 => some (r3.1, r3.2.1, r3.2.2)))

theorem u_CheckList_BusStream_CheckStreams_1_ok (fu : Nat) (a0 : List (Int × Int × Int × Int)) (a1 : Int) (a2 : Int) (a3_c0_0_c1_0 : Int) (y : Int × Int × List (Int)) (h : u_CheckList_BusStream_CheckStreams_1 fu a0 a1 a2 a3_c0_0_c1_0 = some y) : Cm.CallOk Tryz.prog 77 (Cm.vals [(a0.length : Int), a1, a2, a3_c0_0_c1_0] [(a0.flatMap Cm.enSIII)]) [.gs 0 0 (.v 0) 4 false, .sym .i64 (.v 1), .sym .i64 (.v 2), .fn 78 [] [.ptr 1 0]] [some (.rows 0 [] 79 true), some (.cells [.fn 99 [] [.ptr 2 0, .ptr 3 0]] 121 false), some (.cells [.nils] 59 false), some (.cells [.sym .i64 (.v 3)] 28 false)] 1 (Cm.vals [y.1, y.2.1, (y.2.2.length : Int), a3_c0_0_c1_0] [(y.2.2.flatMap Cm.enS)]) (.tup [.sym .i64 (.v 0), .sym .i64 (.v 1)]) [none, some (.cells [.fn 99 [] [.ptr 2 0, .ptr 3 0]] 121 false), some (.cells [.gs 4 0 (.v 2) 1 true] 59 false), some (.cells [.sym .i64 (.v 3)] 28 false), some (.rows 0 [] 9 false)] := by
  refine Cm.fun_of (nt := 23) (by kernel_rfl) (by kernel_rfl) fun φ0 w0 a w hat => ?_
  have hF := Cm.wide_fw
  have hr : Fence.wide.round = none := rfl
  unfold u_CheckList_BusStream_CheckStreams_1 at h
  by_cases h1 : (a0.length : Int) < a1
  · rw [if_pos h1] at h
    injection h with h; subst h
    exact Cm.to_fin mixed ⟨[(.lss, (.v 0), (.v 1), true)], [], [(0, 4, (.v 0))], [], [], []⟩ (V := (Cm.vals [(a0.length : Int), a1, a2, a3_c0_0_c1_0] [(a0.flatMap Cm.enSIII)])) (n := 3000) (f := 3000) ⟨⟨Cm.lss_t h1, trivial⟩, trivial, ⟨Cm.flat_length Cm.enSIII_len _, trivial⟩, trivial, trivial⟩ trivial (R := ⟨.tup [.sym .i64 (.v 0), .sym .i64 (.v 1)], [none, some (.cells [.fn 99 [] [.ptr 2 0, .ptr 3 0]] 121 false), some (.cells [.gs 4 0 (.v 2) 1 true] 59 false), some (.cells [.sym .i64 (.v 3)] 28 false), some (.rows 0 [] 9 false)], [some (0, 0), some (1, 0), some (2, 0), some (3, 0), none]⟩) (qs := [.num (.c 0) (.v 0), .num (.c 10) (.v 1), .num (.c 0) (.v 2), .num (.v 3) (.v 3)]) hF hr (by kernel_rfl) ⟨(Cm.r (0 : Int)), (Cm.r (10 : Int)), rfl, (Cm.r a3_c0_0_c1_0), trivial⟩ hat
  · rw [if_neg h1] at h
    by_cases h2 : a2 < (a0.length : Int)
    · rw [if_pos h2] at h
      injection h with h; subst h
      exact Cm.to_fin mixed ⟨[(.lss, (.v 0), (.v 1), false), (.gtr, (.v 0), (.v 2), true)], [], [(0, 4, (.v 0))], [], [], []⟩ (V := (Cm.vals [(a0.length : Int), a1, a2, a3_c0_0_c1_0] [(a0.flatMap Cm.enSIII)])) (n := 3000) (f := 3000) ⟨⟨Cm.lss_f h1, Cm.gtr_t h2, trivial⟩, trivial, ⟨Cm.flat_length Cm.enSIII_len _, trivial⟩, trivial, trivial⟩ trivial (R := ⟨.tup [.sym .i64 (.v 0), .sym .i64 (.v 1)], [none, some (.cells [.fn 99 [] [.ptr 2 0, .ptr 3 0]] 121 false), some (.cells [.gs 4 0 (.v 2) 1 true] 59 false), some (.cells [.sym .i64 (.v 3)] 28 false), some (.rows 0 [] 9 false)], [some (0, 0), some (1, 0), some (2, 0), some (3, 0), none]⟩) (qs := [.num (.c 0) (.v 0), .num (.c 8) (.v 1), .num (.c 0) (.v 2), .num (.v 3) (.v 3)]) hF hr (by kernel_rfl) ⟨(Cm.r (0 : Int)), (Cm.r (8 : Int)), rfl, (Cm.r a3_c0_0_c1_0), trivial⟩ hat
    · rw [if_neg h2] at h
      obtain ⟨r3, hr3, h⟩ := Option.bind_eq_some_iff.1 h
      have Kr3 : ∀ N M, ∃ v v' q, Cm.KE.ok Tryz.prog (Cm.vals ([(a0.length : Int), a1, a2, a3_c0_0_c1_0, (r3.2.2.length : Int), r3.1, r3.2.1] ++ N) ([(a0.flatMap Cm.enSIII), (r3.2.2.flatMap Cm.enS)] ++ M)) ⟨102, 4, [some (0, 0), some (1, 0), some (2, 0), some (3, 0)], [.gs 0 0 (.v 0) 4 false, .fn 78 [] [.ptr 1 0]], [some (.rows 0 [] 79 true), some (.cells [.fn 99 [] [.ptr 2 0, .ptr 3 0]] 121 false), some (.cells [.nils] 59 false), some (.cells [.sym .i64 (.v 1)] 28 false)], [.num (.v 0) (.v 0), .lst 0 (some 0) [], .num (.v 3) (.v 1)], 1, .tup [.sym .i64 (.v 0), .sym .i64 (.v 1)], [none, some (.cells [.fn 99 [] [.ptr 2 0, .ptr 3 0]] 121 false), some (.cells [.gs 4 0 (.v 2) 1 true] 59 false), some (.cells [.sym .i64 (.v 3)] 28 false), some (.rows 0 [] 9 false)], .tup [.sym .i64 (.v 5), .sym .i64 (.v 6)], [some (.rows 1 [] 9 false)], [(1, some (.cells [.fn 99 [] [.ptr 2 0, .ptr 3 0]] 121 false)), (2, some (.cells [.gs 4 0 (.v 4) 1 true] 59 false)), (3, some (.cells [.sym .i64 (.v 3)] 28 false))]⟩ v v' q := fun N M => ⟨_, _, [.num (.v 0) (.v 5), .num (.v 1) (.v 6), .lst 1 (some 0) [], .num (.v 2) (.v 4), .num (.v 3) (.v 3)], ⟨u_FirstBad_BusStream_CheckStreams_1_ok fu a0 a3_c0_0_c1_0 r3 hr3, ⟨(Cm.r (a0.length : Int)), ⟨[], rfl, (List.append_nil _).symm⟩, (Cm.r a3_c0_0_c1_0), trivial⟩, by kernel_rfl, ⟨rfl, rfl, ⟨[], rfl, (List.append_nil _).symm⟩, rfl, rfl, trivial⟩⟩⟩
      injection h with h; subst h
      exact Cm.to_fin mixed ⟨[(.lss, (.v 0), (.v 1), false), (.gtr, (.v 0), (.v 2), false)], [], [(0, 4, (.v 0)), (1, 1, (.v 4))], [⟨102, 4, [some (0, 0), some (1, 0), some (2, 0), some (3, 0)], [.gs 0 0 (.v 0) 4 false, .fn 78 [] [.ptr 1 0]], [some (.rows 0 [] 79 true), some (.cells [.fn 99 [] [.ptr 2 0, .ptr 3 0]] 121 false), some (.cells [.nils] 59 false), some (.cells [.sym .i64 (.v 1)] 28 false)], [.num (.v 0) (.v 0), .lst 0 (some 0) [], .num (.v 3) (.v 1)], 1, .tup [.sym .i64 (.v 0), .sym .i64 (.v 1)], [none, some (.cells [.fn 99 [] [.ptr 2 0, .ptr 3 0]] 121 false), some (.cells [.gs 4 0 (.v 2) 1 true] 59 false), some (.cells [.sym .i64 (.v 3)] 28 false), some (.rows 0 [] 9 false)], .tup [.sym .i64 (.v 5), .sym .i64 (.v 6)], [some (.rows 1 [] 9 false)], [(1, some (.cells [.fn 99 [] [.ptr 2 0, .ptr 3 0]] 121 false)), (2, some (.cells [.gs 4 0 (.v 4) 1 true] 59 false)), (3, some (.cells [.sym .i64 (.v 3)] 28 false))]⟩], [], []⟩ (V := (Cm.vals [(a0.length : Int), a1, a2, a3_c0_0_c1_0, (r3.2.2.length : Int), r3.1, r3.2.1] [(a0.flatMap Cm.enSIII), (r3.2.2.flatMap Cm.enS)])) (n := 3000) (f := 3000) ⟨⟨Cm.lss_f h1, Cm.gtr_f h2, trivial⟩, trivial, ⟨Cm.flat_length Cm.enSIII_len _, Cm.flat_length Cm.enS_len _, trivial⟩, trivial, trivial⟩ ⟨Kr3 _ _, trivial⟩ (R := ⟨.tup [.sym .i64 (.v 0), .sym .i64 (.v 1)], [none, some (.cells [.fn 99 [] [.ptr 2 0, .ptr 3 0]] 121 false), some (.cells [.gs 4 0 (.v 2) 1 true] 59 false), some (.cells [.sym .i64 (.v 3)] 28 false), some (.rows 0 [] 9 false)], [some (0, 0), some (1, 0), some (2, 0), some (3, 0), some (4, 0)]⟩) (qs := [.num (.v 5) (.v 0), .num (.v 6) (.v 1), .num (.v 4) (.v 2), .num (.v 3) (.v 3), .lst 0 (some 1) []]) hF hr (by kernel_rfl) ⟨(Cm.r r3.1), (Cm.r r3.2.1), (Cm.r (r3.2.2.length : Int)), (Cm.r a3_c0_0_c1_0), ⟨[], rfl, (List.append_nil _).symm⟩, trivial⟩ (Cm.at_re (V' := (Cm.vals [(a0.length : Int), a1, a2, a3_c0_0_c1_0, (r3.2.2.length : Int), r3.1, r3.2.1] [(a0.flatMap Cm.enSIII), (r3.2.2.flatMap Cm.enS)])) (T := ⟨[(0, .gs 0 0 (.v 0) 4 false), (1, .sym .i64 (.v 1)), (2, .sym .i64 (.v 2)), (3, .fn 78 [] [.ptr 1 0])], [some (.rows 0 [] 79 true), some (.cells [.fn 99 [] [.ptr 2 0, .ptr 3 0]] 121 false), some (.cells [.nils] 59 false), some (.cells [.sym .i64 (.v 3)] 28 false)], [some (0, 0), some (1, 0), some (2, 0), some (3, 0)]⟩) (qs := [.num (.v 0) (.v 0), .num (.v 1) (.v 1), .num (.v 2) (.v 2), .lst 0 (some 0) [], .num (.v 3) (.v 3)]) hat (by kernel_rfl) ⟨rfl, rfl, rfl, ⟨[], rfl, (List.append_nil _).symm⟩, rfl, trivial⟩)

def bus_CheckStreams (fu : Nat) (a0 : List (Int × Int × Int × Int)) : Option (Int × Int) := Option.bind (u_CheckList_BusStream_CheckStreams_1 fu a0 (1 : Int) (6 : Int) (5 : Int)) fun r1 => some (r1.1, r1.2.1)

theorem bus_CheckStreams_ok (fu : Nat) (a0 : List (Int × Int × Int × Int)) (y : Int × Int) (h : bus_CheckStreams fu a0 = some y) : Cm.CallOk Tryz.prog 58 (Cm.vals [(a0.length : Int)] [(a0.flatMap Cm.enSIII)]) [.gs 0 0 (.v 0) 4 false] [some (.rows 0 [] 79 true)] 1 (Cm.vals [y.1, y.2] []) (.tup [.sym .i64 (.v 0), .sym .i64 (.v 1)]) [none] := by
  refine Cm.fun_of (nt := 11) (by kernel_rfl) (by kernel_rfl) fun φ0 w0 a w hat => ?_
  have hF := Cm.wide_fw
  have hr : Fence.wide.round = none := rfl
  unfold bus_CheckStreams at h
  obtain ⟨r1, hr1, h⟩ := Option.bind_eq_some_iff.1 h
  have Kr1 : ∀ N M, ∃ v v' q, Cm.KE.ok Tryz.prog (Cm.vals ([(a0.length : Int), (r1.2.2.length : Int), r1.1, r1.2.1] ++ N) ([(a0.flatMap Cm.enSIII), (r1.2.2.flatMap Cm.enS)] ++ M)) ⟨77, 4, [some (0, 0), some (3, 0), some (2, 0), some (1, 0)], [.gs 0 0 (.v 0) 4 false, .sym .i64 (.v 1), .sym .i64 (.v 2), .fn 78 [] [.ptr 1 0]], [some (.rows 0 [] 79 true), some (.cells [.fn 99 [] [.ptr 2 0, .ptr 3 0]] 121 false), some (.cells [.nils] 59 false), some (.cells [.sym .i64 (.v 3)] 28 false)], [.num (.v 0) (.v 0), .num (.c 1) (.v 1), .num (.c 6) (.v 2), .lst 0 (some 0) [], .num (.c 5) (.v 3)], 1, .tup [.sym .i64 (.v 0), .sym .i64 (.v 1)], [none, some (.cells [.fn 99 [] [.ptr 2 0, .ptr 3 0]] 121 false), some (.cells [.gs 4 0 (.v 2) 1 true] 59 false), some (.cells [.sym .i64 (.v 3)] 28 false), some (.rows 0 [] 9 false)], .tup [.sym .i64 (.v 2), .sym .i64 (.v 3)], [some (.rows 1 [] 9 false)], [(3, some (.cells [.fn 99 [] [.ptr 2 0, .ptr 1 0]] 121 false)), (2, some (.cells [.gs 4 0 (.v 1) 1 true] 59 false)), (1, some (.cells [.int .i64 5] 28 false))]⟩ v v' q := fun N M => ⟨_, _, [.num (.v 0) (.v 2), .num (.v 1) (.v 3), .lst 1 (some 0) [], .num (.v 2) (.v 1), .num (.v 3) (.c 5)], ⟨u_CheckList_BusStream_CheckStreams_1_ok fu a0 (1 : Int) (6 : Int) (5 : Int) r1 hr1, ⟨(Cm.r (a0.length : Int)), (Cm.r (1 : Int)), (Cm.r (6 : Int)), ⟨[], rfl, (List.append_nil _).symm⟩, (Cm.r (5 : Int)), trivial⟩, by kernel_rfl, ⟨rfl, rfl, ⟨[], rfl, (List.append_nil _).symm⟩, rfl, rfl, trivial⟩⟩⟩
  injection h with h; subst h
  exact Cm.to_fin mixed ⟨[], [], [(0, 4, (.v 0)), (1, 1, (.v 1))], [⟨77, 4, [some (0, 0), some (3, 0), some (2, 0), some (1, 0)], [.gs 0 0 (.v 0) 4 false, .sym .i64 (.v 1), .sym .i64 (.v 2), .fn 78 [] [.ptr 1 0]], [some (.rows 0 [] 79 true), some (.cells [.fn 99 [] [.ptr 2 0, .ptr 3 0]] 121 false), some (.cells [.nils] 59 false), some (.cells [.sym .i64 (.v 3)] 28 false)], [.num (.v 0) (.v 0), .num (.c 1) (.v 1), .num (.c 6) (.v 2), .lst 0 (some 0) [], .num (.c 5) (.v 3)], 1, .tup [.sym .i64 (.v 0), .sym .i64 (.v 1)], [none, some (.cells [.fn 99 [] [.ptr 2 0, .ptr 3 0]] 121 false), some (.cells [.gs 4 0 (.v 2) 1 true] 59 false), some (.cells [.sym .i64 (.v 3)] 28 false), some (.rows 0 [] 9 false)], .tup [.sym .i64 (.v 2), .sym .i64 (.v 3)], [some (.rows 1 [] 9 false)], [(3, some (.cells [.fn 99 [] [.ptr 2 0, .ptr 1 0]] 121 false)), (2, some (.cells [.gs 4 0 (.v 1) 1 true] 59 false)), (1, some (.cells [.int .i64 5] 28 false))]⟩], [], []⟩ (V := (Cm.vals [(a0.length : Int), (r1.2.2.length : Int), r1.1, r1.2.1] [(a0.flatMap Cm.enSIII), (r1.2.2.flatMap Cm.enS)])) (n := 3000) (f := 3000) ⟨trivial, trivial, ⟨Cm.flat_length Cm.enSIII_len _, Cm.flat_length Cm.enS_len _, trivial⟩, trivial, trivial⟩ ⟨Kr1 _ _, trivial⟩ (R := ⟨.tup [.sym .i64 (.v 0), .sym .i64 (.v 1)], [none], [some (0, 0)]⟩) (qs := [.num (.v 2) (.v 0), .num (.v 3) (.v 1)]) hF hr (by kernel_rfl) ⟨(Cm.r r1.1), (Cm.r r1.2.1), trivial⟩ (Cm.at_re (V' := (Cm.vals [(a0.length : Int), (r1.2.2.length : Int), r1.1, r1.2.1] [(a0.flatMap Cm.enSIII), (r1.2.2.flatMap Cm.enS)])) (T := ⟨[(0, .gs 0 0 (.v 0) 4 false)], [some (.rows 0 [] 79 true)], [some (0, 0)]⟩) (qs := [.num (.v 0) (.v 0), .lst 0 (some 0) []]) hat (by kernel_rfl) ⟨rfl, ⟨[], rfl, (List.append_nil _).symm⟩, trivial⟩)

def bus_streamsError (fu : Nat) (a0 : List (Int × Int × Int × Int)) : Option (Int) := Option.bind (bus_CheckStreams fu a0) fun r1 => some r1.2

theorem bus_streamsError_ok (fu : Nat) (a0 : List (Int × Int × Int × Int)) (y : Int) (h : bus_streamsError fu a0 = some y) : Cm.CallOk Tryz.prog 40 (Cm.vals [(a0.length : Int)] [(a0.flatMap Cm.enSIII)]) [.gs 0 0 (.v 0) 4 false] [some (.rows 0 [] 79 true)] 1 (Cm.vals [y] []) (.sym .i64 (.v 0)) [none] := by
  refine Cm.fun_of (nt := 11) (by kernel_rfl) (by kernel_rfl) fun φ0 w0 a w hat => ?_
  have hF := Cm.wide_fw
  have hr : Fence.wide.round = none := rfl
  unfold bus_streamsError at h
  obtain ⟨r1, hr1, h⟩ := Option.bind_eq_some_iff.1 h
  have Kr1 : ∀ N M, ∃ v v' q, Cm.KE.ok Tryz.prog (Cm.vals ([(a0.length : Int), r1.1, r1.2] ++ N) ([(a0.flatMap Cm.enSIII)] ++ M)) ⟨58, 1, [some (0, 0)], [.gs 0 0 (.v 0) 4 false], [some (.rows 0 [] 79 true)], [.num (.v 0) (.v 0), .lst 0 (some 0) []], 1, .tup [.sym .i64 (.v 0), .sym .i64 (.v 1)], [none], .tup [.sym .i64 (.v 1), .sym .i64 (.v 2)], [], []⟩ v v' q := fun N M => ⟨_, _, [.num (.v 0) (.v 1), .num (.v 1) (.v 2)], ⟨bus_CheckStreams_ok fu a0 r1 hr1, ⟨(Cm.r (a0.length : Int)), ⟨[], rfl, (List.append_nil _).symm⟩, trivial⟩, by kernel_rfl, ⟨rfl, rfl, trivial⟩⟩⟩
  injection h with h; subst h
  exact Cm.to_fin mixed ⟨[], [], [(0, 4, (.v 0))], [⟨58, 1, [some (0, 0)], [.gs 0 0 (.v 0) 4 false], [some (.rows 0 [] 79 true)], [.num (.v 0) (.v 0), .lst 0 (some 0) []], 1, .tup [.sym .i64 (.v 0), .sym .i64 (.v 1)], [none], .tup [.sym .i64 (.v 1), .sym .i64 (.v 2)], [], []⟩], [], []⟩ (V := (Cm.vals [(a0.length : Int), r1.1, r1.2] [(a0.flatMap Cm.enSIII)])) (n := 3000) (f := 3000) ⟨trivial, trivial, ⟨Cm.flat_length Cm.enSIII_len _, trivial⟩, trivial, trivial⟩ ⟨Kr1 _ _, trivial⟩ (R := ⟨.sym .i64 (.v 0), [none], [some (0, 0)]⟩) (qs := [.num (.v 2) (.v 0)]) hF hr (by kernel_rfl) ⟨(Cm.r r1.2), trivial⟩ (Cm.at_re (V' := (Cm.vals [(a0.length : Int), r1.1, r1.2] [(a0.flatMap Cm.enSIII)])) (T := ⟨[(0, .gs 0 0 (.v 0) 4 false)], [some (.rows 0 [] 79 true)], [some (0, 0)]⟩) (qs := [.num (.v 0) (.v 0), .lst 0 (some 0) []]) hat (by kernel_rfl) ⟨rfl, ⟨[], rfl, (List.append_nil _).symm⟩, trivial⟩)

def bus_demand_L1 (fu : Nat) (p0 : List (Int × Int × Int × Int)) (p1 : Int) (p3 : Int) : Nat → Int → Int → Option ((Int))
  | 0, _, _ => none
  | n + 1, v2, v4 => if v4 < p3 then (if (0 : Int) ≤ v4 then (if v4 < (p0.length : Int) then (Option.bind ((p0)[0 + (v4).toNat]?) fun e4 => if e4.2.2.1 ≤ p1 then (if e4.2.1 = (0 : Int) then none else (bus_demand_L1 fu p0 p1 p3 n (IntKind.wrap .i64 (v2 + (IntKind.wrap .i64 (e4.2.2.2 * (IntKind.wrap .i64 ((1 : Int) + (IntKind.wrap .i64 (Int.tdiv (IntKind.wrap .i64 (p1 - e4.2.2.1)) e4.2.1)))))))) (IntKind.wrap .i64 (v4 + (1 : Int))))) else (bus_demand_L1 fu p0 p1 p3 n v2 (IntKind.wrap .i64 (v4 + (1 : Int))))) else none) else none) else (some v2)

theorem bus_demand_L1_ok (fu : Nat) (p0 : List (Int × Int × Int × Int)) (p1 : Int) (p3 : Int) : ∀ (n : Nat) (v2 : Int) (v4 : Int) (o : (Int)), bus_demand_L1 fu p0 p1 p3 n v2 v4 = some o → ∀ (φ0 : Cm.Phi) (w0 : World) (F : Fence) (k : Nat) (R : Exit → Act → World → Prop) (a : Act) (w : World), Cm.FW F → F.round = none → Cm.AtS (Cm.vals [(p0.length : Int), p1, v2, p3, v4] [(p0.flatMap Cm.enSIII)]) [(1, .sym .i64 (.v 1)), (5, .sym .i64 (.v 2)), (8, .gs 0 0 (.v 0) 4 false), (9, .sym .i64 (.v 3)), (10, .sym .i64 (.v 4))] [some (.rows 0 [] 79 true)] 33 1 1 φ0 w0 a w → (∀ (y : Int), o = y → ∀ a' w', Cm.AtS (Cm.vals [(p0.length : Int), y] [(p0.flatMap Cm.enSIII)]) [(5, .sym .i64 (.v 1))] [some (.rows 0 [] 79 true)] 33 1 1 φ0 w0 a' w' → R (Exit.exit 0) a' w') → Code.roundsIn F k Tryz.prog (Cm.subAt (Cm.bodyOf Tryz.prog 41) [1, 1, 0, 1, 0, 0]) R n a w
  | 0, _, _, _, h => by cases h
  | n + 1, v2, v4, o, h => by
    intro φ0 w0 F k R a w hF hr hat hx0
    rw [bus_demand_L1] at h
    refine Cm.rounds_in (p := [1, 1, 0, 1, 0, 0]) ?_
    by_cases h1 : v4 < p3
    · rw [if_pos h1] at h
      by_cases h2 : (0 : Int) ≤ v4
      · rw [if_pos h2] at h
        by_cases h3 : v4 < (p0.length : Int)
        · rw [if_pos h3] at h
          obtain ⟨e4, he4, h⟩ := Option.bind_eq_some_iff.1 h
          by_cases h5 : e4.2.2.1 ≤ p1
          · rw [if_pos h5] at h
            by_cases h6 : e4.2.1 = (0 : Int)
            · rw [if_pos h6] at h
              cases h
            · rw [if_neg h6] at h
              refine Cm.to_done mixed ⟨[(.lss, (.v 4), (.v 3), true), (.leq, (.c 0), (.v 4), true), (.lss, (.v 4), (.v 0), true), (.leq, (.v 7), (.v 1), true), (.eql, (.v 6), (.c 0), false)], [(0, 0, (.v 4), [.ss (.v 5), .sym .i64 (.v 6), .sym .i64 (.v 7), .sym .i64 (.v 8)])], [(0, 4, (.v 0))], [], [], []⟩ (V := (Cm.vals [(p0.length : Int), p1, v2, p3, v4, e4.1, e4.2.1, e4.2.2.1, e4.2.2.2] [(p0.flatMap Cm.enSIII)])) (n := 3000) (f := 3000) (V' := (Cm.vals [(p0.length : Int), p1, (IntKind.wrap .i64 (v2 + (IntKind.wrap .i64 (e4.2.2.2 * (IntKind.wrap .i64 ((1 : Int) + (IntKind.wrap .i64 (Int.tdiv (IntKind.wrap .i64 (p1 - e4.2.2.1)) e4.2.1)))))))), p3, (IntKind.wrap .i64 (v4 + (1 : Int)))] [(p0.flatMap Cm.enSIII)])) ⟨⟨Cm.lss_t h1, Cm.leq_t h2, Cm.lss_t h3, Cm.leq_t h5, Cm.eql_f h6, trivial⟩, ⟨⟨h2, _, rfl, Cm.flat_row Cm.enSIII_len he4⟩, trivial⟩, ⟨Cm.flat_length Cm.enSIII_len _, trivial⟩, trivial, trivial⟩ trivial (T := ⟨[(1, .sym .i64 (.v 1)), (5, .sym .i64 (.v 2)), (8, .gs 0 0 (.v 0) 4 false), (9, .sym .i64 (.v 3)), (10, .sym .i64 (.v 4))], [some (.rows 0 [] 79 true)], [some (0, 0)]⟩) (ce := .normal) (qs := [.num (.v 1) (.v 1), .num (.add .i64 (.v 2) (.mul .i64 (.v 8) (.add .i64 (.c 1) (.quo .i64 (.sub .i64 (.v 1) (.v 7)) (.v 6))))) (.v 2), .num (.v 0) (.v 0), .num (.v 3) (.v 3), .num (.add .i64 (.v 4) (.c 1)) (.v 4), .lst 0 (some 0) []]) hF hr (by kernel_rfl) ⟨(Cm.r p1), (show (IntKind.wrap .i64 (v2 + (IntKind.wrap .i64 (e4.2.2.2 * (IntKind.wrap .i64 ((1 : Int) + (IntKind.wrap .i64 (Int.tdiv (IntKind.wrap .i64 (p1 - e4.2.2.1)) e4.2.1)))))))) = (IntKind.wrap .i64 (v2 + (IntKind.wrap .i64 (e4.2.2.2 * (IntKind.wrap .i64 ((1 : Int) + (IntKind.wrap .i64 (Int.tdiv (IntKind.wrap .i64 (p1 - e4.2.2.1)) e4.2.1)))))))) from rfl), (Cm.r (p0.length : Int)), (Cm.r p3), (Cm.r (IntKind.wrap .i64 (v4 + (1 : Int)))), ⟨[], rfl, (List.append_nil _).symm⟩, trivial⟩ (Cm.at_re (V' := (Cm.vals [(p0.length : Int), p1, v2, p3, v4, e4.1, e4.2.1, e4.2.2.1, e4.2.2.2] [(p0.flatMap Cm.enSIII)])) (T := ⟨[(1, .sym .i64 (.v 1)), (5, .sym .i64 (.v 2)), (8, .gs 0 0 (.v 0) 4 false), (9, .sym .i64 (.v 3)), (10, .sym .i64 (.v 4))], [some (.rows 0 [] 79 true)], [some (0, 0)]⟩) (qs := [.num (.v 1) (.v 1), .num (.v 2) (.v 2), .num (.v 0) (.v 0), .num (.v 3) (.v 3), .num (.v 4) (.v 4), .lst 0 (some 0) []]) hat (by kernel_rfl) ⟨rfl, rfl, rfl, rfl, rfl, ⟨[], rfl, (List.append_nil _).symm⟩, trivial⟩) fun a' w' hat' => ?_
              exact bus_demand_L1_ok fu p0 p1 p3 n (IntKind.wrap .i64 (v2 + (IntKind.wrap .i64 (e4.2.2.2 * (IntKind.wrap .i64 ((1 : Int) + (IntKind.wrap .i64 (Int.tdiv (IntKind.wrap .i64 (p1 - e4.2.2.1)) e4.2.1)))))))) (IntKind.wrap .i64 (v4 + (1 : Int))) o h _ _ _ _ _ _ _ hF hr hat' hx0
          · rw [if_neg h5] at h
            refine Cm.to_done mixed ⟨[(.lss, (.v 4), (.v 3), true), (.leq, (.c 0), (.v 4), true), (.lss, (.v 4), (.v 0), true), (.leq, (.v 7), (.v 1), false)], [(0, 0, (.v 4), [.ss (.v 5), .sym .i64 (.v 6), .sym .i64 (.v 7), .sym .i64 (.v 8)])], [(0, 4, (.v 0))], [], [], []⟩ (V := (Cm.vals [(p0.length : Int), p1, v2, p3, v4, e4.1, e4.2.1, e4.2.2.1, e4.2.2.2] [(p0.flatMap Cm.enSIII)])) (n := 3000) (f := 3000) (V' := (Cm.vals [(p0.length : Int), p1, v2, p3, (IntKind.wrap .i64 (v4 + (1 : Int)))] [(p0.flatMap Cm.enSIII)])) ⟨⟨Cm.lss_t h1, Cm.leq_t h2, Cm.lss_t h3, Cm.leq_f h5, trivial⟩, ⟨⟨h2, _, rfl, Cm.flat_row Cm.enSIII_len he4⟩, trivial⟩, ⟨Cm.flat_length Cm.enSIII_len _, trivial⟩, trivial, trivial⟩ trivial (T := ⟨[(1, .sym .i64 (.v 1)), (5, .sym .i64 (.v 2)), (8, .gs 0 0 (.v 0) 4 false), (9, .sym .i64 (.v 3)), (10, .sym .i64 (.v 4))], [some (.rows 0 [] 79 true)], [some (0, 0)]⟩) (ce := .normal) (qs := [.num (.v 1) (.v 1), .num (.v 2) (.v 2), .num (.v 0) (.v 0), .num (.v 3) (.v 3), .num (.add .i64 (.v 4) (.c 1)) (.v 4), .lst 0 (some 0) []]) hF hr (by kernel_rfl) ⟨(Cm.r p1), (Cm.r v2), (Cm.r (p0.length : Int)), (Cm.r p3), (Cm.r (IntKind.wrap .i64 (v4 + (1 : Int)))), ⟨[], rfl, (List.append_nil _).symm⟩, trivial⟩ (Cm.at_re (V' := (Cm.vals [(p0.length : Int), p1, v2, p3, v4, e4.1, e4.2.1, e4.2.2.1, e4.2.2.2] [(p0.flatMap Cm.enSIII)])) (T := ⟨[(1, .sym .i64 (.v 1)), (5, .sym .i64 (.v 2)), (8, .gs 0 0 (.v 0) 4 false), (9, .sym .i64 (.v 3)), (10, .sym .i64 (.v 4))], [some (.rows 0 [] 79 true)], [some (0, 0)]⟩) (qs := [.num (.v 1) (.v 1), .num (.v 2) (.v 2), .num (.v 0) (.v 0), .num (.v 3) (.v 3), .num (.v 4) (.v 4), .lst 0 (some 0) []]) hat (by kernel_rfl) ⟨rfl, rfl, rfl, rfl, rfl, ⟨[], rfl, (List.append_nil _).symm⟩, trivial⟩) fun a' w' hat' => ?_
            exact bus_demand_L1_ok fu p0 p1 p3 n v2 (IntKind.wrap .i64 (v4 + (1 : Int))) o h _ _ _ _ _ _ _ hF hr hat' hx0
        · rw [if_neg h3] at h
          cases h
      · rw [if_neg h2] at h
        cases h
    · rw [if_neg h1] at h
      injection h with h; subst h
      exact Cm.to_done mixed ⟨[(.lss, (.v 4), (.v 3), false)], [], [(0, 4, (.v 0))], [], [], []⟩ (V := (Cm.vals [(p0.length : Int), p1, v2, p3, v4] [(p0.flatMap Cm.enSIII)])) (n := 3000) (f := 3000) (V' := (Cm.vals [(p0.length : Int), v2] [(p0.flatMap Cm.enSIII)])) ⟨⟨Cm.lss_f h1, trivial⟩, trivial, ⟨Cm.flat_length Cm.enSIII_len _, trivial⟩, trivial, trivial⟩ trivial (T := ⟨[(5, .sym .i64 (.v 1))], [some (.rows 0 [] 79 true)], [some (0, 0)]⟩) (ce := (.exit 0)) (qs := [.num (.v 2) (.v 1), .lst 0 (some 0) []]) hF hr (by kernel_rfl) ⟨(Cm.r v2), ⟨[], rfl, (List.append_nil _).symm⟩, trivial⟩ hat fun a' w' hat' => hx0 v2 rfl a' w' hat'

def bus_demand (fu : Nat) (a0 : List (Int × Int × Int × Int)) (a1 : Int) : Option (Int) := Option.bind (bus_demand_L1 fu a0 a1 (a0.length : Int) fu (0 : Int) (0 : Int)) fun o1 => some o1

theorem bus_demand_ok (fu : Nat) (a0 : List (Int × Int × Int × Int)) (a1 : Int) (y : Int) (h : bus_demand fu a0 a1 = some y) : Cm.CallOk Tryz.prog 41 (Cm.vals [(a0.length : Int), a1] [(a0.flatMap Cm.enSIII)]) [.gs 0 0 (.v 0) 4 false, .sym .i64 (.v 1)] [some (.rows 0 [] 79 true)] 1 (Cm.vals [y] []) (.sym .i64 (.v 0)) [none] := by
  refine Cm.fun_of (nt := 33) (by kernel_rfl) (by kernel_rfl) fun φ0 w0 a w hat => ?_
  have hF := Cm.wide_fw
  have hr : Fence.wide.round = none := rfl
  unfold bus_demand at h
  obtain ⟨o1, ho1, h⟩ := Option.bind_eq_some_iff.1 h
  refine Cm.to_loop mixed ⟨[], [], [(0, 4, (.v 0))], [], [], []⟩ (V := (Cm.vals [(a0.length : Int), a1] [(a0.flatMap Cm.enSIII)])) (n := 3000) (f := 3000) (V' := (Cm.vals [(a0.length : Int), a1, (0 : Int), (a0.length : Int), (0 : Int)] [(a0.flatMap Cm.enSIII)])) ⟨trivial, trivial, ⟨Cm.flat_length Cm.enSIII_len _, trivial⟩, trivial, trivial⟩ trivial (T := ⟨[(1, .sym .i64 (.v 1)), (5, .sym .i64 (.v 2)), (8, .gs 0 0 (.v 0) 4 false), (9, .sym .i64 (.v 3)), (10, .sym .i64 (.v 4))], [some (.rows 0 [] 79 true)], [some (0, 0)]⟩) (B := Cm.subAt (Cm.bodyOf Tryz.prog 41) [1, 1, 0, 1, 0, 0]) (K' := [.bk 0, .sq (Cm.subAt (Cm.bodyOf Tryz.prog 41) [1, 1, 1]) [1, 1, 1]]) (qs := [.num (.v 1) (.v 1), .num (.c 0) (.v 2), .num (.v 0) (.v 0), .num (.v 0) (.v 3), .num (.c 0) (.v 4), .lst 0 (some 0) []]) hF hr (by kernel_rfl) ⟨(Cm.r a1), (Cm.r (0 : Int)), (Cm.r (a0.length : Int)), (Cm.r (a0.length : Int)), (Cm.r (0 : Int)), ⟨[], rfl, (List.append_nil _).symm⟩, trivial⟩ hat fun aa1 ww1 hat1 => Cm.loop_in (bus_demand_L1_ok fu a0 a1 (a0.length : Int) fu (0 : Int) (0 : Int) o1 ho1 _ _ _ _ _ _ _ hF hr hat1 ?_)
  · intro yy hy aa2 ww2 hat
    subst hy
    show (Cm.Wk.out (.exit 0)).goal _ _ _ [.bk 0, .sq (Cm.subAt (Cm.bodyOf Tryz.prog 41) [1, 1, 1]) [1, 1, 1]] _ aa2 ww2
    injection h with h; subst h
    exact Cm.to_fin mixed ⟨[], [], [(0, 4, (.v 0))], [], [], []⟩ (V := (Cm.vals [(a0.length : Int), o1] [(a0.flatMap Cm.enSIII)])) (n := 3000) (f := 3000) ⟨trivial, trivial, ⟨Cm.flat_length Cm.enSIII_len _, trivial⟩, trivial, trivial⟩ trivial (R := ⟨.sym .i64 (.v 0), [none], [some (0, 0)]⟩) (qs := [.num (.v 1) (.v 0)]) hF hr (by kernel_rfl) ⟨(Cm.r o1), trivial⟩ hat

def bus_DemandIn (fu : Nat) (a0 : List (Int × Int × Int × Int)) (a1 : Int) : Option (Int × Int) := Option.bind (bus_streamsError fu a0) fun r1 => Option.bind (u_LimitError a1 (0 : Int) (10000 : Int)) fun r2 => Option.bind (u_FirstError fu ([r1, r2] : List (Int))) fun r3 => if r3 = (0 : Int) then (Option.bind (bus_demand fu a0 a1) fun r5 => some (r5, (0 : Int))) else (some ((0 : Int), r3))

theorem bus_DemandIn_ok (fu : Nat) (a0 : List (Int × Int × Int × Int)) (a1 : Int) (y : Int × Int) (h : bus_DemandIn fu a0 a1 = some y) : Cm.CallOk Tryz.prog 17 (Cm.vals [(a0.length : Int), a1] [(a0.flatMap Cm.enSIII)]) [.gs 0 0 (.v 0) 4 false, .sym .i64 (.v 1)] [some (.rows 0 [] 79 true)] 1 (Cm.vals [y.1, y.2] []) (.tup [.sym .i64 (.v 0), .sym .i64 (.v 1)]) [none] := by
  refine Cm.fun_of (nt := 19) (by kernel_rfl) (by kernel_rfl) fun φ0 w0 a w hat => ?_
  have hF := Cm.wide_fw
  have hr : Fence.wide.round = none := rfl
  unfold bus_DemandIn at h
  obtain ⟨r1, hr1, h⟩ := Option.bind_eq_some_iff.1 h
  have Kr1 : ∀ N M, ∃ v v' q, Cm.KE.ok Tryz.prog (Cm.vals ([(a0.length : Int), a1, r1] ++ N) ([(a0.flatMap Cm.enSIII)] ++ M)) xb_k11 v v' q := fun N M => ⟨_, _, [.num (.v 0) (.v 2)], ⟨bus_streamsError_ok fu a0 r1 hr1, ⟨(Cm.r (a0.length : Int)), ⟨[], rfl, (List.append_nil _).symm⟩, trivial⟩, by kernel_rfl, ⟨rfl, trivial⟩⟩⟩
  obtain ⟨r2, hr2, h⟩ := Option.bind_eq_some_iff.1 h
  have Kr2 : ∀ N M, ∃ v v' q, Cm.KE.ok Tryz.prog (Cm.vals ([(a0.length : Int), a1, r1, r2] ++ N) ([(a0.flatMap Cm.enSIII)] ++ M)) xb_k12 v v' q := fun N M => ⟨_, _, [.num (.v 0) (.v 3)], ⟨u_LimitError_ok a1 (0 : Int) (10000 : Int) r2 hr2, ⟨(Cm.r a1), (Cm.r (0 : Int)), (Cm.r (10000 : Int)), trivial⟩, by kernel_rfl, ⟨rfl, trivial⟩⟩⟩
  obtain ⟨r3, hr3, h⟩ := Option.bind_eq_some_iff.1 h
  have Kr3 : ∀ N M, ∃ v v' q, Cm.KE.ok Tryz.prog (Cm.vals ([(a0.length : Int), a1, r1, r2, r3] ++ N) ([(a0.flatMap Cm.enSIII)] ++ M)) xb_k13 v v' q := fun N M => ⟨_, _, [.num (.v 0) (.v 4)], ⟨u_FirstError_ok fu ([r1, r2] : List (Int)) r3 hr3, ⟨rfl, rfl, trivial⟩, by kernel_rfl, ⟨rfl, trivial⟩⟩⟩
  by_cases h4 : r3 = (0 : Int)
  · rw [if_pos h4] at h
    obtain ⟨r5, hr5, h⟩ := Option.bind_eq_some_iff.1 h
    have Kr5 : ∀ N M, ∃ v v' q, Cm.KE.ok Tryz.prog (Cm.vals ([(a0.length : Int), a1, r1, r2, r3, r5] ++ N) ([(a0.flatMap Cm.enSIII)] ++ M)) ⟨41, 2, [some (0, 0)], [.gs 0 0 (.v 0) 4 false, .sym .i64 (.v 1)], [some (.rows 0 [] 79 true)], [.num (.v 0) (.v 0), .num (.v 1) (.v 1), .lst 0 (some 0) []], 1, .sym .i64 (.v 0), [none], .sym .i64 (.v 5), [], []⟩ v v' q := fun N M => ⟨_, _, [.num (.v 0) (.v 5)], ⟨bus_demand_ok fu a0 a1 r5 hr5, ⟨(Cm.r (a0.length : Int)), (Cm.r a1), ⟨[], rfl, (List.append_nil _).symm⟩, trivial⟩, by kernel_rfl, ⟨rfl, trivial⟩⟩⟩
    injection h with h; subst h
    exact Cm.to_fin mixed ⟨[(.neq, (.v 4), (.c 0), false)], [], [(0, 4, (.v 0))], [xb_k11, xb_k12, xb_k13, ⟨41, 2, [some (0, 0)], [.gs 0 0 (.v 0) 4 false, .sym .i64 (.v 1)], [some (.rows 0 [] 79 true)], [.num (.v 0) (.v 0), .num (.v 1) (.v 1), .lst 0 (some 0) []], 1, .sym .i64 (.v 0), [none], .sym .i64 (.v 5), [], []⟩], [], []⟩ (V := (Cm.vals [(a0.length : Int), a1, r1, r2, r3, r5] [(a0.flatMap Cm.enSIII)])) (n := 3000) (f := 3000) ⟨⟨Cm.neq_f h4, trivial⟩, trivial, ⟨Cm.flat_length Cm.enSIII_len _, trivial⟩, trivial, trivial⟩ ⟨Kr1 _ _, Kr2 _ _, Kr3 _ _, Kr5 _ _, trivial⟩ (R := ⟨.tup [.sym .i64 (.v 0), .sym .i64 (.v 1)], [none], [some (0, 0)]⟩) (qs := [.num (.v 5) (.v 0), .num (.c 0) (.v 1)]) hF hr (by kernel_rfl) ⟨(Cm.r r5), (Cm.r (0 : Int)), trivial⟩ (Cm.at_re (V' := (Cm.vals [(a0.length : Int), a1, r1, r2, r3, r5] [(a0.flatMap Cm.enSIII)])) (T := ⟨[(0, .gs 0 0 (.v 0) 4 false), (1, .sym .i64 (.v 1))], [some (.rows 0 [] 79 true)], [some (0, 0)]⟩) (qs := [.num (.v 0) (.v 0), .num (.v 1) (.v 1), .lst 0 (some 0) []]) hat (by kernel_rfl) ⟨rfl, rfl, ⟨[], rfl, (List.append_nil _).symm⟩, trivial⟩)
  · rw [if_neg h4] at h
    injection h with h; subst h
    exact Cm.to_fin mixed ⟨[(.neq, (.v 4), (.c 0), true)], [], [(0, 4, (.v 0))], [xb_k11, xb_k12, xb_k13], [], []⟩ (V := (Cm.vals [(a0.length : Int), a1, r1, r2, r3] [(a0.flatMap Cm.enSIII)])) (n := 3000) (f := 3000) ⟨⟨Cm.neq_t h4, trivial⟩, trivial, ⟨Cm.flat_length Cm.enSIII_len _, trivial⟩, trivial, trivial⟩ ⟨Kr1 _ _, Kr2 _ _, Kr3 _ _, trivial⟩ (R := ⟨.tup [.sym .i64 (.v 0), .sym .i64 (.v 1)], [none], [some (0, 0)]⟩) (qs := [.num (.c 0) (.v 0), .num (.v 4) (.v 1)]) hF hr (by kernel_rfl) ⟨(Cm.r (0 : Int)), (Cm.r r3), trivial⟩ (Cm.at_re (V' := (Cm.vals [(a0.length : Int), a1, r1, r2, r3] [(a0.flatMap Cm.enSIII)])) (T := ⟨[(0, .gs 0 0 (.v 0) 4 false), (1, .sym .i64 (.v 1))], [some (.rows 0 [] 79 true)], [some (0, 0)]⟩) (qs := [.num (.v 0) (.v 0), .num (.v 1) (.v 1), .lst 0 (some 0) []]) hat (by kernel_rfl) ⟨rfl, rfl, ⟨[], rfl, (List.append_nil _).symm⟩, trivial⟩)

def u_Divisor_L1 (fu : Nat) (p0 : List (Int)) (p3 : Int) (p4 : Int) : Nat → Int → Int → Option ((Int))
  | 0, _, _ => none
  | n + 1, v1, v2 => if v2 = (0 : Int) then (some v1) else (u_Divisor_L1 fu p0 p3 p4 n v2 (Int.tmod v1 v2))

theorem u_Divisor_L1_ok (fu : Nat) (p0 : List (Int)) (p3 : Int) (p4 : Int) : ∀ (n : Nat) (v1 : Int) (v2 : Int) (o : (Int)), u_Divisor_L1 fu p0 p3 p4 n v1 v2 = some o → ∀ (φ0 : Cm.Phi) (w0 : World) (F : Fence) (k : Nat) (R : Exit → Act → World → Prop) (a : Act) (w : World), Cm.FW F → F.round = none → Cm.AtS (Cm.vals [(p0.length : Int), v1, v2, p3, p4] [(p0.flatMap Cm.enI)]) [(3, .sym .i64 (.v 1)), (5, .sym .i64 (.v 2)), (6, .gs 0 0 (.v 0) 1 false), (7, .sym .i64 (.v 3)), (8, .sym .i64 (.v 4))] [some (.rows 0 [] 3 true)] 23 1 1 φ0 w0 a w → (∀ (y : Int), o = y → ∀ a' w', Cm.AtS (Cm.vals [(p0.length : Int), y, p3, p4] [(p0.flatMap Cm.enI)]) [(3, .sym .i64 (.v 1)), (6, .gs 0 0 (.v 0) 1 false), (7, .sym .i64 (.v 2)), (8, .sym .i64 (.v 3))] [some (.rows 0 [] 3 true)] 23 1 1 φ0 w0 a' w' → R (Exit.exit 2) a' w') → Code.roundsIn F k Tryz.prog (Cm.subAt (Cm.bodyOf Tryz.prog 59) [1, 1, 0, 1, 0, 0, 1, 1, 0, 0, 1, 0, 0]) R n a w
  | 0, _, _, _, h => by cases h
  | n + 1, v1, v2, o, h => by
    intro φ0 w0 F k R a w hF hr hat hx0
    rw [u_Divisor_L1] at h
    refine Cm.rounds_in (p := [1, 1, 0, 1, 0, 0, 1, 1, 0, 0, 1, 0, 0]) ?_
    by_cases h1 : v2 = (0 : Int)
    · rw [if_pos h1] at h
      injection h with h; subst h
      exact Cm.to_done mixed ⟨[(.neq, (.v 2), (.c 0), false)], [], [(0, 1, (.v 0))], [], [], []⟩ (V := (Cm.vals [(p0.length : Int), v1, v2, p3, p4] [(p0.flatMap Cm.enI)])) (n := 3000) (f := 3000) (V' := (Cm.vals [(p0.length : Int), v1, p3, p4] [(p0.flatMap Cm.enI)])) ⟨⟨Cm.neq_f h1, trivial⟩, trivial, ⟨Cm.flat_length Cm.enI_len _, trivial⟩, trivial, trivial⟩ trivial (T := ⟨[(3, .sym .i64 (.v 1)), (6, .gs 0 0 (.v 0) 1 false), (7, .sym .i64 (.v 2)), (8, .sym .i64 (.v 3))], [some (.rows 0 [] 3 true)], [some (0, 0)]⟩) (ce := (.exit 2)) (qs := [.num (.v 1) (.v 1), .num (.v 0) (.v 0), .num (.v 3) (.v 2), .num (.v 4) (.v 3), .lst 0 (some 0) []]) hF hr (by kernel_rfl) ⟨(Cm.r v1), (Cm.r (p0.length : Int)), (Cm.r p3), (Cm.r p4), ⟨[], rfl, (List.append_nil _).symm⟩, trivial⟩ hat fun a' w' hat' => hx0 v1 rfl a' w' hat'
    · rw [if_neg h1] at h
      refine Cm.to_done mixed ⟨[(.neq, (.v 2), (.c 0), true), (.eql, (.v 2), (.c 0), false)], [], [(0, 1, (.v 0))], [], [], []⟩ (V := (Cm.vals [(p0.length : Int), v1, v2, p3, p4] [(p0.flatMap Cm.enI)])) (n := 3000) (f := 3000) (V' := (Cm.vals [(p0.length : Int), v2, (Int.tmod v1 v2), p3, p4] [(p0.flatMap Cm.enI)])) ⟨⟨Cm.neq_t h1, Cm.eql_f (a := v2) (b := (0 : Int)) (by omega), trivial⟩, trivial, ⟨Cm.flat_length Cm.enI_len _, trivial⟩, trivial, trivial⟩ trivial (T := ⟨[(3, .sym .i64 (.v 1)), (5, .sym .i64 (.v 2)), (6, .gs 0 0 (.v 0) 1 false), (7, .sym .i64 (.v 3)), (8, .sym .i64 (.v 4))], [some (.rows 0 [] 3 true)], [some (0, 0)]⟩) (ce := .normal) (qs := [.num (.v 2) (.v 1), .num (.rem .i64 (.v 1) (.v 2)) (.v 2), .num (.v 0) (.v 0), .num (.v 3) (.v 3), .num (.v 4) (.v 4), .lst 0 (some 0) []]) hF hr (by kernel_rfl) ⟨(Cm.r v2), (Cm.r (Int.tmod v1 v2)), (Cm.r (p0.length : Int)), (Cm.r p3), (Cm.r p4), ⟨[], rfl, (List.append_nil _).symm⟩, trivial⟩ hat fun a' w' hat' => ?_
      exact u_Divisor_L1_ok fu p0 p3 p4 n v2 (Int.tmod v1 v2) o h _ _ _ _ _ _ _ hF hr hat' hx0

def u_Divisor_L2 (fu : Nat) (p0 : List (Int)) (p2 : Int) : Nat → Int → Int → Option ((Int))
  | 0, _, _ => none
  | n + 1, v1, v3 => if v3 < p2 then (if (0 : Int) ≤ v3 then (if v3 < (p0.length : Int) then (Option.bind ((p0)[0 + (v3).toNat]?) fun e4 => Option.bind (u_Divisor_L1 fu p0 p2 v3 fu v1 e4) fun o5 => u_Divisor_L2 fu p0 p2 n o5 (IntKind.wrap .i64 (v3 + (1 : Int)))) else none) else none) else (some v1)

theorem u_Divisor_L2_ok (fu : Nat) (p0 : List (Int)) (p2 : Int) : ∀ (n : Nat) (v1 : Int) (v3 : Int) (o : (Int)), u_Divisor_L2 fu p0 p2 n v1 v3 = some o → ∀ (φ0 : Cm.Phi) (w0 : World) (F : Fence) (k : Nat) (R : Exit → Act → World → Prop) (a : Act) (w : World), Cm.FW F → F.round = none → Cm.AtS (Cm.vals [(p0.length : Int), v1, p2, v3] [(p0.flatMap Cm.enI)]) [(3, .sym .i64 (.v 1)), (6, .gs 0 0 (.v 0) 1 false), (7, .sym .i64 (.v 2)), (8, .sym .i64 (.v 3))] [some (.rows 0 [] 3 true)] 23 1 1 φ0 w0 a w → (∀ (y : Int), o = y → ∀ a' w', Cm.AtS (Cm.vals [(p0.length : Int), y] [(p0.flatMap Cm.enI)]) [(3, .sym .i64 (.v 1))] [some (.rows 0 [] 3 true)] 23 1 1 φ0 w0 a' w' → R (Exit.exit 0) a' w') → Code.roundsIn F k Tryz.prog (Cm.subAt (Cm.bodyOf Tryz.prog 59) [1, 1, 0, 1, 0, 0]) R n a w
  | 0, _, _, _, h => by cases h
  | n + 1, v1, v3, o, h => by
    intro φ0 w0 F k R a w hF hr hat hx0
    rw [u_Divisor_L2] at h
    refine Cm.rounds_in (p := [1, 1, 0, 1, 0, 0]) ?_
    by_cases h1 : v3 < p2
    · rw [if_pos h1] at h
      by_cases h2 : (0 : Int) ≤ v3
      · rw [if_pos h2] at h
        by_cases h3 : v3 < (p0.length : Int)
        · rw [if_pos h3] at h
          obtain ⟨e4, he4, h⟩ := Option.bind_eq_some_iff.1 h
          obtain ⟨o5, ho5, h⟩ := Option.bind_eq_some_iff.1 h
          refine Cm.to_loop mixed ⟨[(.lss, (.v 3), (.v 2), true), (.leq, (.c 0), (.v 3), true), (.lss, (.v 3), (.v 0), true)], [(0, 0, (.v 3), [.sym .i64 (.v 4)])], [(0, 1, (.v 0))], [], [], []⟩ (V := (Cm.vals [(p0.length : Int), v1, p2, v3, e4] [(p0.flatMap Cm.enI)])) (n := 3000) (f := 3000) (V' := (Cm.vals [(p0.length : Int), v1, e4, p2, v3] [(p0.flatMap Cm.enI)])) ⟨⟨Cm.lss_t h1, Cm.leq_t h2, Cm.lss_t h3, trivial⟩, ⟨⟨h2, _, rfl, Cm.flat_row Cm.enI_len he4⟩, trivial⟩, ⟨Cm.flat_length Cm.enI_len _, trivial⟩, trivial, trivial⟩ trivial (T := ⟨[(3, .sym .i64 (.v 1)), (5, .sym .i64 (.v 2)), (6, .gs 0 0 (.v 0) 1 false), (7, .sym .i64 (.v 3)), (8, .sym .i64 (.v 4))], [some (.rows 0 [] 3 true)], [some (0, 0)]⟩) (B := Cm.subAt (Cm.bodyOf Tryz.prog 59) [1, 1, 0, 1, 0, 0, 1, 1, 0, 0, 1, 0, 0]) (K' := [.bk 2, .bk 1, .sq (Cm.subAt (Cm.bodyOf Tryz.prog 59) [1, 1, 0, 1, 0, 0, 1, 1, 1]) [1, 1, 0, 1, 0, 0, 1, 1, 1]]) (qs := [.num (.v 1) (.v 1), .num (.v 4) (.v 2), .num (.v 0) (.v 0), .num (.v 2) (.v 3), .num (.v 3) (.v 4), .lst 0 (some 0) []]) hF hr (by kernel_rfl) ⟨(Cm.r v1), (Cm.r e4), (Cm.r (p0.length : Int)), (Cm.r p2), (Cm.r v3), ⟨[], rfl, (List.append_nil _).symm⟩, trivial⟩ (Cm.at_re (V' := (Cm.vals [(p0.length : Int), v1, p2, v3, e4] [(p0.flatMap Cm.enI)])) (T := ⟨[(3, .sym .i64 (.v 1)), (6, .gs 0 0 (.v 0) 1 false), (7, .sym .i64 (.v 2)), (8, .sym .i64 (.v 3))], [some (.rows 0 [] 3 true)], [some (0, 0)]⟩) (qs := [.num (.v 1) (.v 1), .num (.v 0) (.v 0), .num (.v 2) (.v 2), .num (.v 3) (.v 3), .lst 0 (some 0) []]) hat (by kernel_rfl) ⟨rfl, rfl, rfl, rfl, ⟨[], rfl, (List.append_nil _).symm⟩, trivial⟩) fun aa1 ww1 hat1 => Cm.loop_in (u_Divisor_L1_ok fu p0 p2 v3 fu v1 e4 o5 ho5 _ _ _ _ _ _ _ hF hr hat1 ?_)
          · intro yy hy aa2 ww2 hat
            subst hy
            show (Cm.Wk.out (.exit 2)).goal _ _ _ [.bk 2, .bk 1, .sq (Cm.subAt (Cm.bodyOf Tryz.prog 59) [1, 1, 0, 1, 0, 0, 1, 1, 1]) [1, 1, 0, 1, 0, 0, 1, 1, 1]] _ aa2 ww2
            refine Cm.to_done mixed ⟨[], [], [(0, 1, (.v 0))], [], [], []⟩ (V := (Cm.vals [(p0.length : Int), o5, p2, v3] [(p0.flatMap Cm.enI)])) (n := 3000) (f := 3000) (V' := (Cm.vals [(p0.length : Int), o5, p2, (IntKind.wrap .i64 (v3 + (1 : Int)))] [(p0.flatMap Cm.enI)])) ⟨trivial, trivial, ⟨Cm.flat_length Cm.enI_len _, trivial⟩, trivial, trivial⟩ trivial (T := ⟨[(3, .sym .i64 (.v 1)), (6, .gs 0 0 (.v 0) 1 false), (7, .sym .i64 (.v 2)), (8, .sym .i64 (.v 3))], [some (.rows 0 [] 3 true)], [some (0, 0)]⟩) (ce := .normal) (qs := [.num (.v 1) (.v 1), .num (.v 0) (.v 0), .num (.v 2) (.v 2), .num (.add .i64 (.v 3) (.c 1)) (.v 3), .lst 0 (some 0) []]) hF hr (by kernel_rfl) ⟨(Cm.r o5), (Cm.r (p0.length : Int)), (Cm.r p2), (Cm.r (IntKind.wrap .i64 (v3 + (1 : Int)))), ⟨[], rfl, (List.append_nil _).symm⟩, trivial⟩ hat fun a' w' hat' => ?_
            exact u_Divisor_L2_ok fu p0 p2 n o5 (IntKind.wrap .i64 (v3 + (1 : Int))) o h _ _ _ _ _ _ _ hF hr hat' hx0
        · rw [if_neg h3] at h
          cases h
      · rw [if_neg h2] at h
        cases h
    · rw [if_neg h1] at h
      injection h with h; subst h
      exact Cm.to_done mixed ⟨[(.lss, (.v 3), (.v 2), false)], [], [(0, 1, (.v 0))], [], [], []⟩ (V := (Cm.vals [(p0.length : Int), v1, p2, v3] [(p0.flatMap Cm.enI)])) (n := 3000) (f := 3000) (V' := (Cm.vals [(p0.length : Int), v1] [(p0.flatMap Cm.enI)])) ⟨⟨Cm.lss_f h1, trivial⟩, trivial, ⟨Cm.flat_length Cm.enI_len _, trivial⟩, trivial, trivial⟩ trivial (T := ⟨[(3, .sym .i64 (.v 1))], [some (.rows 0 [] 3 true)], [some (0, 0)]⟩) (ce := (.exit 0)) (qs := [.num (.v 1) (.v 1), .lst 0 (some 0) []]) hF hr (by kernel_rfl) ⟨(Cm.r v1), ⟨[], rfl, (List.append_nil _).symm⟩, trivial⟩ hat fun a' w' hat' => hx0 v1 rfl a' w' hat'

def u_Divisor (fu : Nat) (a0 : List (Int)) : Option (Int) := Option.bind (u_Divisor_L2 fu a0 (a0.length : Int) fu (0 : Int) (0 : Int)) fun o1 => if o1 < (IntKind.wrap .i64 ((0 : Int) - o1)) then (some (IntKind.wrap .i64 ((0 : Int) - o1))) else (some o1)

theorem u_Divisor_ok (fu : Nat) (a0 : List (Int)) (y : Int) (h : u_Divisor fu a0 = some y) : Cm.CallOk Tryz.prog 59 (Cm.vals [(a0.length : Int)] [(a0.flatMap Cm.enI)]) [.gs 0 0 (.v 0) 1 false] [some (.rows 0 [] 3 true)] 1 (Cm.vals [y] []) (.sym .i64 (.v 0)) [none] := by
  refine Cm.fun_of (nt := 23) (by kernel_rfl) (by kernel_rfl) fun φ0 w0 a w hat => ?_
  have hF := Cm.wide_fw
  have hr : Fence.wide.round = none := rfl
  unfold u_Divisor at h
  obtain ⟨o1, ho1, h⟩ := Option.bind_eq_some_iff.1 h
  refine Cm.to_loop mixed ⟨[], [], [(0, 1, (.v 0))], [], [], []⟩ (V := (Cm.vals [(a0.length : Int)] [(a0.flatMap Cm.enI)])) (n := 3000) (f := 3000) (V' := (Cm.vals [(a0.length : Int), (0 : Int), (a0.length : Int), (0 : Int)] [(a0.flatMap Cm.enI)])) ⟨trivial, trivial, ⟨Cm.flat_length Cm.enI_len _, trivial⟩, trivial, trivial⟩ trivial (T := ⟨[(3, .sym .i64 (.v 1)), (6, .gs 0 0 (.v 0) 1 false), (7, .sym .i64 (.v 2)), (8, .sym .i64 (.v 3))], [some (.rows 0 [] 3 true)], [some (0, 0)]⟩) (B := Cm.subAt (Cm.bodyOf Tryz.prog 59) [1, 1, 0, 1, 0, 0]) (K' := [.bk 0, .sq (Cm.subAt (Cm.bodyOf Tryz.prog 59) [1, 1, 1]) [1, 1, 1]]) (qs := [.num (.c 0) (.v 1), .num (.v 0) (.v 0), .num (.v 0) (.v 2), .num (.c 0) (.v 3), .lst 0 (some 0) []]) hF hr (by kernel_rfl) ⟨(Cm.r (0 : Int)), (Cm.r (a0.length : Int)), (Cm.r (a0.length : Int)), (Cm.r (0 : Int)), ⟨[], rfl, (List.append_nil _).symm⟩, trivial⟩ hat fun aa1 ww1 hat1 => Cm.loop_in (u_Divisor_L2_ok fu a0 (a0.length : Int) fu (0 : Int) (0 : Int) o1 ho1 _ _ _ _ _ _ _ hF hr hat1 ?_)
  · intro yy hy aa2 ww2 hat
    subst hy
    show (Cm.Wk.out (.exit 0)).goal _ _ _ [.bk 0, .sq (Cm.subAt (Cm.bodyOf Tryz.prog 59) [1, 1, 1]) [1, 1, 1]] _ aa2 ww2
    by_cases h2 : o1 < (IntKind.wrap .i64 ((0 : Int) - o1))
    · rw [if_pos h2] at h
      injection h with h; subst h
      exact Cm.to_fin mixed ⟨[(.lss, (.v 1), (.sub .i64 (.c 0) (.v 1)), true)], [], [(0, 1, (.v 0))], [], [], []⟩ (V := (Cm.vals [(a0.length : Int), o1] [(a0.flatMap Cm.enI)])) (n := 3000) (f := 3000) ⟨⟨Cm.lss_t h2, trivial⟩, trivial, ⟨Cm.flat_length Cm.enI_len _, trivial⟩, trivial, trivial⟩ trivial (R := ⟨.sym .i64 (.v 0), [none], [some (0, 0)]⟩) (qs := [.num (.sub .i64 (.c 0) (.v 1)) (.v 0)]) hF hr (by kernel_rfl) ⟨(show (IntKind.wrap .i64 ((0 : Int) - o1)) = (IntKind.wrap .i64 ((0 : Int) - o1)) from rfl), trivial⟩ hat
    · rw [if_neg h2] at h
      injection h with h; subst h
      exact Cm.to_fin mixed ⟨[(.lss, (.v 1), (.sub .i64 (.c 0) (.v 1)), false)], [], [(0, 1, (.v 0))], [], [], []⟩ (V := (Cm.vals [(a0.length : Int), o1] [(a0.flatMap Cm.enI)])) (n := 3000) (f := 3000) ⟨⟨Cm.lss_f h2, trivial⟩, trivial, ⟨Cm.flat_length Cm.enI_len _, trivial⟩, trivial, trivial⟩ trivial (R := ⟨.sym .i64 (.v 0), [none], [some (0, 0)]⟩) (qs := [.num (.v 1) (.v 0)]) hF hr (by kernel_rfl) ⟨(Cm.r o1), trivial⟩ hat

def bus_cycle_L1 (fu : Nat) (p0 : List (Int × Int × Int × Int)) (p2 : Int) : Nat → Int → Int → Option ((Int))
  | 0, _, _ => none
  | n + 1, v1, v3 => if v3 < p2 then (if (0 : Int) ≤ v3 then (if v3 < (p0.length : Int) then (Option.bind ((p0)[0 + (v3).toNat]?) fun e4 => Option.bind (u_Divisor fu ([v1, e4.2.1] : List (Int))) fun r5 => if r5 = (0 : Int) then none else (bus_cycle_L1 fu p0 p2 n (IntKind.wrap .i64 (v1 * (IntKind.wrap .i64 (Int.tdiv e4.2.1 r5)))) (IntKind.wrap .i64 (v3 + (1 : Int))))) else none) else none) else (some v1)

theorem bus_cycle_L1_ok (fu : Nat) (p0 : List (Int × Int × Int × Int)) (p2 : Int) : ∀ (n : Nat) (v1 : Int) (v3 : Int) (o : (Int)), bus_cycle_L1 fu p0 p2 n v1 v3 = some o → ∀ (φ0 : Cm.Phi) (w0 : World) (F : Fence) (k : Nat) (R : Exit → Act → World → Prop) (a : Act) (w : World), Cm.FW F → F.round = none → Cm.AtS (Cm.vals [(p0.length : Int), v1, p2, v3] [(p0.flatMap Cm.enSIII)]) [(3, .sym .i64 (.v 1)), (6, .gs 0 0 (.v 0) 4 false), (7, .sym .i64 (.v 2)), (8, .sym .i64 (.v 3))] [some (.rows 0 [] 79 true)] 24 1 1 φ0 w0 a w → (∀ (y : Int), o = y → ∀ a' w', Cm.AtS (Cm.vals [(p0.length : Int), y] [(p0.flatMap Cm.enSIII)]) [(3, .sym .i64 (.v 1))] [some (.rows 0 [] 79 true)] 24 1 1 φ0 w0 a' w' → R (Exit.exit 0) a' w') → Code.roundsIn F k Tryz.prog (Cm.subAt (Cm.bodyOf Tryz.prog 42) [1, 1, 0, 1, 0, 0]) R n a w
  | 0, _, _, _, h => by cases h
  | n + 1, v1, v3, o, h => by
    intro φ0 w0 F k R a w hF hr hat hx0
    rw [bus_cycle_L1] at h
    refine Cm.rounds_in (p := [1, 1, 0, 1, 0, 0]) ?_
    by_cases h1 : v3 < p2
    · rw [if_pos h1] at h
      by_cases h2 : (0 : Int) ≤ v3
      · rw [if_pos h2] at h
        by_cases h3 : v3 < (p0.length : Int)
        · rw [if_pos h3] at h
          obtain ⟨e4, he4, h⟩ := Option.bind_eq_some_iff.1 h
          obtain ⟨r5, hr5, h⟩ := Option.bind_eq_some_iff.1 h
          have Kr5 : ∀ N M, ∃ v v' q, Cm.KE.ok Tryz.prog (Cm.vals ([(p0.length : Int), v1, p2, v3, e4.1, e4.2.1, e4.2.2.1, e4.2.2.2, r5] ++ N) ([(p0.flatMap Cm.enSIII)] ++ M)) ⟨59, 3, [some (2, 0)], [.gs 0 0 (.v 0) 1 false], [some (.rows 0 [] 3 true)], [.num (.c 2) (.v 0), .lst 0 none [.sym .i64 (.v 1), .sym .i64 (.v 5)]], 1, .sym .i64 (.v 0), [none], .sym .i64 (.v 8), [], []⟩ v v' q := fun N M => ⟨_, _, [.num (.v 0) (.v 8)], ⟨u_Divisor_ok fu ([v1, e4.2.1] : List (Int)) r5 hr5, ⟨rfl, rfl, trivial⟩, by kernel_rfl, ⟨rfl, trivial⟩⟩⟩
          by_cases h6 : r5 = (0 : Int)
          · rw [if_pos h6] at h
            cases h
          · rw [if_neg h6] at h
            refine Cm.to_done mixed ⟨[(.lss, (.v 3), (.v 2), true), (.leq, (.c 0), (.v 3), true), (.lss, (.v 3), (.v 0), true), (.eql, (.v 8), (.c 0), false)], [(0, 0, (.v 3), [.ss (.v 4), .sym .i64 (.v 5), .sym .i64 (.v 6), .sym .i64 (.v 7)])], [(0, 4, (.v 0))], [⟨59, 3, [some (2, 0)], [.gs 0 0 (.v 0) 1 false], [some (.rows 0 [] 3 true)], [.num (.c 2) (.v 0), .lst 0 none [.sym .i64 (.v 1), .sym .i64 (.v 5)]], 1, .sym .i64 (.v 0), [none], .sym .i64 (.v 8), [], []⟩], [], []⟩ (V := (Cm.vals [(p0.length : Int), v1, p2, v3, e4.1, e4.2.1, e4.2.2.1, e4.2.2.2, r5] [(p0.flatMap Cm.enSIII)])) (n := 3000) (f := 3000) (V' := (Cm.vals [(p0.length : Int), (IntKind.wrap .i64 (v1 * (IntKind.wrap .i64 (Int.tdiv e4.2.1 r5)))), p2, (IntKind.wrap .i64 (v3 + (1 : Int)))] [(p0.flatMap Cm.enSIII)])) ⟨⟨Cm.lss_t h1, Cm.leq_t h2, Cm.lss_t h3, Cm.eql_f h6, trivial⟩, ⟨⟨h2, _, rfl, Cm.flat_row Cm.enSIII_len he4⟩, trivial⟩, ⟨Cm.flat_length Cm.enSIII_len _, trivial⟩, trivial, trivial⟩ ⟨Kr5 _ _, trivial⟩ (T := ⟨[(3, .sym .i64 (.v 1)), (6, .gs 0 0 (.v 0) 4 false), (7, .sym .i64 (.v 2)), (8, .sym .i64 (.v 3))], [some (.rows 0 [] 79 true)], [some (0, 0)]⟩) (ce := .normal) (qs := [.num (.mul .i64 (.v 1) (.quo .i64 (.v 5) (.v 8))) (.v 1), .num (.v 0) (.v 0), .num (.v 2) (.v 2), .num (.add .i64 (.v 3) (.c 1)) (.v 3), .lst 0 (some 0) []]) hF hr (by kernel_rfl) ⟨rfl, (Cm.r (p0.length : Int)), (Cm.r p2), (Cm.r (IntKind.wrap .i64 (v3 + (1 : Int)))), ⟨[], rfl, (List.append_nil _).symm⟩, trivial⟩ (Cm.at_re (V' := (Cm.vals [(p0.length : Int), v1, p2, v3, e4.1, e4.2.1, e4.2.2.1, e4.2.2.2, r5] [(p0.flatMap Cm.enSIII)])) (T := ⟨[(3, .sym .i64 (.v 1)), (6, .gs 0 0 (.v 0) 4 false), (7, .sym .i64 (.v 2)), (8, .sym .i64 (.v 3))], [some (.rows 0 [] 79 true)], [some (0, 0)]⟩) (qs := [.num (.v 1) (.v 1), .num (.v 0) (.v 0), .num (.v 2) (.v 2), .num (.v 3) (.v 3), .lst 0 (some 0) []]) hat (by kernel_rfl) ⟨rfl, rfl, rfl, rfl, ⟨[], rfl, (List.append_nil _).symm⟩, trivial⟩) fun a' w' hat' => ?_
            exact bus_cycle_L1_ok fu p0 p2 n (IntKind.wrap .i64 (v1 * (IntKind.wrap .i64 (Int.tdiv e4.2.1 r5)))) (IntKind.wrap .i64 (v3 + (1 : Int))) o h _ _ _ _ _ _ _ hF hr hat' hx0
        · rw [if_neg h3] at h
          cases h
      · rw [if_neg h2] at h
        cases h
    · rw [if_neg h1] at h
      injection h with h; subst h
      exact Cm.to_done mixed ⟨[(.lss, (.v 3), (.v 2), false)], [], [(0, 4, (.v 0))], [], [], []⟩ (V := (Cm.vals [(p0.length : Int), v1, p2, v3] [(p0.flatMap Cm.enSIII)])) (n := 3000) (f := 3000) (V' := (Cm.vals [(p0.length : Int), v1] [(p0.flatMap Cm.enSIII)])) ⟨⟨Cm.lss_f h1, trivial⟩, trivial, ⟨Cm.flat_length Cm.enSIII_len _, trivial⟩, trivial, trivial⟩ trivial (T := ⟨[(3, .sym .i64 (.v 1))], [some (.rows 0 [] 79 true)], [some (0, 0)]⟩) (ce := (.exit 0)) (qs := [.num (.v 1) (.v 1), .lst 0 (some 0) []]) hF hr (by kernel_rfl) ⟨(Cm.r v1), ⟨[], rfl, (List.append_nil _).symm⟩, trivial⟩ hat fun a' w' hat' => hx0 v1 rfl a' w' hat'

def bus_cycle (fu : Nat) (a0 : List (Int × Int × Int × Int)) : Option (Int) := Option.bind (bus_cycle_L1 fu a0 (a0.length : Int) fu (1 : Int) (0 : Int)) fun o1 => some o1

theorem bus_cycle_ok (fu : Nat) (a0 : List (Int × Int × Int × Int)) (y : Int) (h : bus_cycle fu a0 = some y) : Cm.CallOk Tryz.prog 42 (Cm.vals [(a0.length : Int)] [(a0.flatMap Cm.enSIII)]) [.gs 0 0 (.v 0) 4 false] [some (.rows 0 [] 79 true)] 1 (Cm.vals [y] []) (.sym .i64 (.v 0)) [none] := by
  refine Cm.fun_of (nt := 24) (by kernel_rfl) (by kernel_rfl) fun φ0 w0 a w hat => ?_
  have hF := Cm.wide_fw
  have hr : Fence.wide.round = none := rfl
  unfold bus_cycle at h
  obtain ⟨o1, ho1, h⟩ := Option.bind_eq_some_iff.1 h
  refine Cm.to_loop mixed ⟨[], [], [(0, 4, (.v 0))], [], [], []⟩ (V := (Cm.vals [(a0.length : Int)] [(a0.flatMap Cm.enSIII)])) (n := 3000) (f := 3000) (V' := (Cm.vals [(a0.length : Int), (1 : Int), (a0.length : Int), (0 : Int)] [(a0.flatMap Cm.enSIII)])) ⟨trivial, trivial, ⟨Cm.flat_length Cm.enSIII_len _, trivial⟩, trivial, trivial⟩ trivial (T := ⟨[(3, .sym .i64 (.v 1)), (6, .gs 0 0 (.v 0) 4 false), (7, .sym .i64 (.v 2)), (8, .sym .i64 (.v 3))], [some (.rows 0 [] 79 true)], [some (0, 0)]⟩) (B := Cm.subAt (Cm.bodyOf Tryz.prog 42) [1, 1, 0, 1, 0, 0]) (K' := [.bk 0, .sq (Cm.subAt (Cm.bodyOf Tryz.prog 42) [1, 1, 1]) [1, 1, 1]]) (qs := [.num (.c 1) (.v 1), .num (.v 0) (.v 0), .num (.v 0) (.v 2), .num (.c 0) (.v 3), .lst 0 (some 0) []]) hF hr (by kernel_rfl) ⟨(Cm.r (1 : Int)), (Cm.r (a0.length : Int)), (Cm.r (a0.length : Int)), (Cm.r (0 : Int)), ⟨[], rfl, (List.append_nil _).symm⟩, trivial⟩ hat fun aa1 ww1 hat1 => Cm.loop_in (bus_cycle_L1_ok fu a0 (a0.length : Int) fu (1 : Int) (0 : Int) o1 ho1 _ _ _ _ _ _ _ hF hr hat1 ?_)
  · intro yy hy aa2 ww2 hat
    subst hy
    show (Cm.Wk.out (.exit 0)).goal _ _ _ [.bk 0, .sq (Cm.subAt (Cm.bodyOf Tryz.prog 42) [1, 1, 1]) [1, 1, 1]] _ aa2 ww2
    injection h with h; subst h
    exact Cm.to_fin mixed ⟨[], [], [(0, 4, (.v 0))], [], [], []⟩ (V := (Cm.vals [(a0.length : Int), o1] [(a0.flatMap Cm.enSIII)])) (n := 3000) (f := 3000) ⟨trivial, trivial, ⟨Cm.flat_length Cm.enSIII_len _, trivial⟩, trivial, trivial⟩ trivial (R := ⟨.sym .i64 (.v 0), [none], [some (0, 0)]⟩) (qs := [.num (.v 1) (.v 0)]) hF hr (by kernel_rfl) ⟨(Cm.r o1), trivial⟩ hat

def bus_OverloadIn_L1 (fu : Nat) (p0 : List (Int × Int × Int × Int)) (p1 : Int) : Nat → Int → Option ((Int) ⊕ (Unit))
  | 0, _ => none
  | n + 1, v2 => if v2 ≤ p1 then (Option.bind (bus_demand fu p0 v2) fun r2 => if v2 < r2 then (some (.inl v2)) else (bus_OverloadIn_L1 fu p0 p1 n (IntKind.wrap .i64 (v2 + (1 : Int))))) else (some (.inr ()))

theorem bus_OverloadIn_L1_ok (fu : Nat) (p0 : List (Int × Int × Int × Int)) (p1 : Int) : ∀ (n : Nat) (v2 : Int) (o : (Int) ⊕ (Unit)), bus_OverloadIn_L1 fu p0 p1 n v2 = some o → ∀ (φ0 : Cm.Phi) (w0 : World) (F : Fence) (k : Nat) (R : Exit → Act → World → Prop) (a : Act) (w : World), Cm.FW F → F.round = none → Cm.AtS (Cm.vals [(p0.length : Int), p1, v2] [(p0.flatMap Cm.enSIII)]) [(0, .gs 0 0 (.v 0) 4 false), (5, .sym .i64 (.v 1)), (6, .sym .i64 (.v 2))] [some (.rows 0 [] 79 true)] 27 1 1 φ0 w0 a w → (∀ (y : Int), o = .inl y → ∀ a' w', Cm.AtS (Cm.vals [(p0.length : Int), y] [(p0.flatMap Cm.enSIII)]) [(2, .sym .i64 (.v 1)), (3, .int .i64 0)] [some (.rows 0 [] 79 true)] 27 1 1 φ0 w0 a' w' → R Exit.ret a' w') → (∀ (y : Unit), o = .inr y → ∀ a' w', Cm.AtS (Cm.vals [(p0.length : Int)] [(p0.flatMap Cm.enSIII)]) [] [some (.rows 0 [] 79 true)] 27 1 1 φ0 w0 a' w' → R (Exit.exit 0) a' w') → Code.roundsIn F k Tryz.prog (Cm.subAt (Cm.bodyOf Tryz.prog 19) [1, 1, 1, 1, 0, 1, 0, 0]) R n a w
  | 0, _, _, h => by cases h
  | n + 1, v2, o, h => by
    intro φ0 w0 F k R a w hF hr hat hx0 hx1
    rw [bus_OverloadIn_L1] at h
    refine Cm.rounds_in (p := [1, 1, 1, 1, 0, 1, 0, 0]) ?_
    by_cases h1 : v2 ≤ p1
    · rw [if_pos h1] at h
      obtain ⟨r2, hr2, h⟩ := Option.bind_eq_some_iff.1 h
      have Kr2 : ∀ N M, ∃ v v' q, Cm.KE.ok Tryz.prog (Cm.vals ([(p0.length : Int), p1, v2, r2] ++ N) ([(p0.flatMap Cm.enSIII)] ++ M)) xb_k14 v v' q := fun N M => ⟨_, _, [.num (.v 0) (.v 3)], ⟨bus_demand_ok fu p0 v2 r2 hr2, ⟨(Cm.r (p0.length : Int)), (Cm.r v2), ⟨[], rfl, (List.append_nil _).symm⟩, trivial⟩, by kernel_rfl, ⟨rfl, trivial⟩⟩⟩
      by_cases h3 : v2 < r2
      · rw [if_pos h3] at h
        injection h with h; subst h
        exact Cm.to_done mixed ⟨[(.leq, (.v 2), (.v 1), true), (.gtr, (.v 3), (.v 2), true)], [], [(0, 4, (.v 0))], [xb_k14], [], []⟩ (V := (Cm.vals [(p0.length : Int), p1, v2, r2] [(p0.flatMap Cm.enSIII)])) (n := 3000) (f := 3000) (V' := (Cm.vals [(p0.length : Int), v2] [(p0.flatMap Cm.enSIII)])) ⟨⟨Cm.leq_t h1, Cm.gtr_t h3, trivial⟩, trivial, ⟨Cm.flat_length Cm.enSIII_len _, trivial⟩, trivial, trivial⟩ ⟨Kr2 _ _, trivial⟩ (T := ⟨[(2, .sym .i64 (.v 1)), (3, .int .i64 0)], [some (.rows 0 [] 79 true)], [some (0, 0)]⟩) (ce := .ret) (qs := [.num (.v 2) (.v 1), .lst 0 (some 0) []]) hF hr (by kernel_rfl) ⟨(Cm.r v2), ⟨[], rfl, (List.append_nil _).symm⟩, trivial⟩ (Cm.at_re (V' := (Cm.vals [(p0.length : Int), p1, v2, r2] [(p0.flatMap Cm.enSIII)])) (T := ⟨[(0, .gs 0 0 (.v 0) 4 false), (5, .sym .i64 (.v 1)), (6, .sym .i64 (.v 2))], [some (.rows 0 [] 79 true)], [some (0, 0)]⟩) (qs := [.num (.v 0) (.v 0), .num (.v 1) (.v 1), .num (.v 2) (.v 2), .lst 0 (some 0) []]) hat (by kernel_rfl) ⟨rfl, rfl, rfl, ⟨[], rfl, (List.append_nil _).symm⟩, trivial⟩) fun a' w' hat' => hx0 v2 rfl a' w' hat'
      · rw [if_neg h3] at h
        refine Cm.to_done mixed ⟨[(.leq, (.v 2), (.v 1), true), (.gtr, (.v 3), (.v 2), false)], [], [(0, 4, (.v 0))], [xb_k14], [], []⟩ (V := (Cm.vals [(p0.length : Int), p1, v2, r2] [(p0.flatMap Cm.enSIII)])) (n := 3000) (f := 3000) (V' := (Cm.vals [(p0.length : Int), p1, (IntKind.wrap .i64 (v2 + (1 : Int)))] [(p0.flatMap Cm.enSIII)])) ⟨⟨Cm.leq_t h1, Cm.gtr_f h3, trivial⟩, trivial, ⟨Cm.flat_length Cm.enSIII_len _, trivial⟩, trivial, trivial⟩ ⟨Kr2 _ _, trivial⟩ (T := ⟨[(0, .gs 0 0 (.v 0) 4 false), (5, .sym .i64 (.v 1)), (6, .sym .i64 (.v 2))], [some (.rows 0 [] 79 true)], [some (0, 0)]⟩) (ce := .normal) (qs := [.num (.v 0) (.v 0), .num (.v 1) (.v 1), .num (.add .i64 (.v 2) (.c 1)) (.v 2), .lst 0 (some 0) []]) hF hr (by kernel_rfl) ⟨(Cm.r (p0.length : Int)), (Cm.r p1), (Cm.r (IntKind.wrap .i64 (v2 + (1 : Int)))), ⟨[], rfl, (List.append_nil _).symm⟩, trivial⟩ (Cm.at_re (V' := (Cm.vals [(p0.length : Int), p1, v2, r2] [(p0.flatMap Cm.enSIII)])) (T := ⟨[(0, .gs 0 0 (.v 0) 4 false), (5, .sym .i64 (.v 1)), (6, .sym .i64 (.v 2))], [some (.rows 0 [] 79 true)], [some (0, 0)]⟩) (qs := [.num (.v 0) (.v 0), .num (.v 1) (.v 1), .num (.v 2) (.v 2), .lst 0 (some 0) []]) hat (by kernel_rfl) ⟨rfl, rfl, rfl, ⟨[], rfl, (List.append_nil _).symm⟩, trivial⟩) fun a' w' hat' => ?_
        exact bus_OverloadIn_L1_ok fu p0 p1 n (IntKind.wrap .i64 (v2 + (1 : Int))) o h _ _ _ _ _ _ _ hF hr hat' hx0 hx1
    · rw [if_neg h1] at h
      injection h with h; subst h
      exact Cm.to_done mixed ⟨[(.leq, (.v 2), (.v 1), false)], [], [(0, 4, (.v 0))], [], [], []⟩ (V := (Cm.vals [(p0.length : Int), p1, v2] [(p0.flatMap Cm.enSIII)])) (n := 3000) (f := 3000) (V' := (Cm.vals [(p0.length : Int)] [(p0.flatMap Cm.enSIII)])) ⟨⟨Cm.leq_f h1, trivial⟩, trivial, ⟨Cm.flat_length Cm.enSIII_len _, trivial⟩, trivial, trivial⟩ trivial (T := ⟨[], [some (.rows 0 [] 79 true)], [some (0, 0)]⟩) (ce := (.exit 0)) (qs := [.lst 0 (some 0) []]) hF hr (by kernel_rfl) ⟨⟨[], rfl, (List.append_nil _).symm⟩, trivial⟩ hat fun a' w' hat' => hx1 () rfl a' w' hat'

def bus_OverloadIn (fu : Nat) (a0 : List (Int × Int × Int × Int)) : Option (Int × Int) := Option.bind (bus_streamsError fu a0) fun r1 => if r1 = (0 : Int) then (Option.bind (bus_cycle fu a0) fun r3 => if (5000 : Int) < r3 then (some ((0 : Int), (8 : Int))) else (Option.bind (bus_OverloadIn_L1 fu a0 r3 fu (1 : Int)) fun o5 => (match o5 with | .inl y6 => (some (y6, (0 : Int))) | .inr y7 => (some ((0 : Int), (12 : Int)))))) else (some ((0 : Int), r1))

theorem bus_OverloadIn_ok (fu : Nat) (a0 : List (Int × Int × Int × Int)) (y : Int × Int) (h : bus_OverloadIn fu a0 = some y) : Cm.CallOk Tryz.prog 19 (Cm.vals [(a0.length : Int)] [(a0.flatMap Cm.enSIII)]) [.gs 0 0 (.v 0) 4 false] [some (.rows 0 [] 79 true)] 1 (Cm.vals [y.1, y.2] []) (.tup [.sym .i64 (.v 0), .sym .i64 (.v 1)]) [none] := by
  refine Cm.fun_of (nt := 27) (by kernel_rfl) (by kernel_rfl) fun φ0 w0 a w hat => ?_
  have hF := Cm.wide_fw
  have hr : Fence.wide.round = none := rfl
  unfold bus_OverloadIn at h
  obtain ⟨r1, hr1, h⟩ := Option.bind_eq_some_iff.1 h
  have Kr1 : ∀ N M, ∃ v v' q, Cm.KE.ok Tryz.prog (Cm.vals ([(a0.length : Int), r1] ++ N) ([(a0.flatMap Cm.enSIII)] ++ M)) xb_k15 v v' q := fun N M => ⟨_, _, [.num (.v 0) (.v 1)], ⟨bus_streamsError_ok fu a0 r1 hr1, ⟨(Cm.r (a0.length : Int)), ⟨[], rfl, (List.append_nil _).symm⟩, trivial⟩, by kernel_rfl, ⟨rfl, trivial⟩⟩⟩
  by_cases h2 : r1 = (0 : Int)
  · rw [if_pos h2] at h
    obtain ⟨r3, hr3, h⟩ := Option.bind_eq_some_iff.1 h
    have Kr3 : ∀ N M, ∃ v v' q, Cm.KE.ok Tryz.prog (Cm.vals ([(a0.length : Int), r1, r3] ++ N) ([(a0.flatMap Cm.enSIII)] ++ M)) xb_k16 v v' q := fun N M => ⟨_, _, [.num (.v 0) (.v 2)], ⟨bus_cycle_ok fu a0 r3 hr3, ⟨(Cm.r (a0.length : Int)), ⟨[], rfl, (List.append_nil _).symm⟩, trivial⟩, by kernel_rfl, ⟨rfl, trivial⟩⟩⟩
    by_cases h4 : (5000 : Int) < r3
    · rw [if_pos h4] at h
      injection h with h; subst h
      exact Cm.to_fin mixed ⟨[(.neq, (.v 1), (.c 0), false), (.gtr, (.v 2), (.c 5000), true)], [], [(0, 4, (.v 0))], [xb_k15, xb_k16], [], []⟩ (V := (Cm.vals [(a0.length : Int), r1, r3] [(a0.flatMap Cm.enSIII)])) (n := 3000) (f := 3000) ⟨⟨Cm.neq_f h2, Cm.gtr_t h4, trivial⟩, trivial, ⟨Cm.flat_length Cm.enSIII_len _, trivial⟩, trivial, trivial⟩ ⟨Kr1 _ _, Kr3 _ _, trivial⟩ (R := ⟨.tup [.sym .i64 (.v 0), .sym .i64 (.v 1)], [none], [some (0, 0)]⟩) (qs := [.num (.c 0) (.v 0), .num (.c 8) (.v 1)]) hF hr (by kernel_rfl) ⟨(Cm.r (0 : Int)), (Cm.r (8 : Int)), trivial⟩ (Cm.at_re (V' := (Cm.vals [(a0.length : Int), r1, r3] [(a0.flatMap Cm.enSIII)])) (T := ⟨[(0, .gs 0 0 (.v 0) 4 false)], [some (.rows 0 [] 79 true)], [some (0, 0)]⟩) (qs := [.num (.v 0) (.v 0), .lst 0 (some 0) []]) hat (by kernel_rfl) ⟨rfl, ⟨[], rfl, (List.append_nil _).symm⟩, trivial⟩)
    · rw [if_neg h4] at h
      obtain ⟨o5, ho5, h⟩ := Option.bind_eq_some_iff.1 h
      refine Cm.to_loop mixed ⟨[(.neq, (.v 1), (.c 0), false), (.gtr, (.v 2), (.c 5000), false)], [], [(0, 4, (.v 0))], [xb_k15, xb_k16], [], []⟩ (V := (Cm.vals [(a0.length : Int), r1, r3] [(a0.flatMap Cm.enSIII)])) (n := 3000) (f := 3000) (V' := (Cm.vals [(a0.length : Int), r3, (1 : Int)] [(a0.flatMap Cm.enSIII)])) ⟨⟨Cm.neq_f h2, Cm.gtr_f h4, trivial⟩, trivial, ⟨Cm.flat_length Cm.enSIII_len _, trivial⟩, trivial, trivial⟩ ⟨Kr1 _ _, Kr3 _ _, trivial⟩ (T := ⟨[(0, .gs 0 0 (.v 0) 4 false), (5, .sym .i64 (.v 1)), (6, .sym .i64 (.v 2))], [some (.rows 0 [] 79 true)], [some (0, 0)]⟩) (B := Cm.subAt (Cm.bodyOf Tryz.prog 19) [1, 1, 1, 1, 0, 1, 0, 0]) (K' := [.bk 0, .sq (Cm.subAt (Cm.bodyOf Tryz.prog 19) [1, 1, 1, 1, 1]) [1, 1, 1, 1, 1]]) (qs := [.num (.v 0) (.v 0), .num (.v 2) (.v 1), .num (.c 1) (.v 2), .lst 0 (some 0) []]) hF hr (by kernel_rfl) ⟨(Cm.r (a0.length : Int)), (Cm.r r3), (Cm.r (1 : Int)), ⟨[], rfl, (List.append_nil _).symm⟩, trivial⟩ (Cm.at_re (V' := (Cm.vals [(a0.length : Int), r1, r3] [(a0.flatMap Cm.enSIII)])) (T := ⟨[(0, .gs 0 0 (.v 0) 4 false)], [some (.rows 0 [] 79 true)], [some (0, 0)]⟩) (qs := [.num (.v 0) (.v 0), .lst 0 (some 0) []]) hat (by kernel_rfl) ⟨rfl, ⟨[], rfl, (List.append_nil _).symm⟩, trivial⟩) fun aa1 ww1 hat1 => Cm.loop_in (bus_OverloadIn_L1_ok fu a0 r3 fu (1 : Int) o5 ho5 _ _ _ _ _ _ _ hF hr hat1 ?_ ?_)
      · intro y6 hy aa2 ww2 hat
        subst hy
        dsimp only at h
        show (Cm.Wk.out .ret).goal _ _ _ [.bk 0, .sq (Cm.subAt (Cm.bodyOf Tryz.prog 19) [1, 1, 1, 1, 1]) [1, 1, 1, 1, 1]] _ aa2 ww2
        injection h with h; subst h
        exact Cm.to_fin mixed ⟨[], [], [(0, 4, (.v 0))], [], [], []⟩ (V := (Cm.vals [(a0.length : Int), y6] [(a0.flatMap Cm.enSIII)])) (n := 3000) (f := 3000) ⟨trivial, trivial, ⟨Cm.flat_length Cm.enSIII_len _, trivial⟩, trivial, trivial⟩ trivial (R := ⟨.tup [.sym .i64 (.v 0), .sym .i64 (.v 1)], [none], [some (0, 0)]⟩) (qs := [.num (.v 1) (.v 0), .num (.c 0) (.v 1)]) hF hr (by kernel_rfl) ⟨(Cm.r y6), (Cm.r (0 : Int)), trivial⟩ hat
      · intro y7 hy aa2 ww2 hat
        subst hy
        dsimp only at h
        show (Cm.Wk.out (.exit 0)).goal _ _ _ [.bk 0, .sq (Cm.subAt (Cm.bodyOf Tryz.prog 19) [1, 1, 1, 1, 1]) [1, 1, 1, 1, 1]] _ aa2 ww2
        injection h with h; subst h
        exact Cm.to_fin mixed ⟨[], [], [(0, 4, (.v 0))], [], [], []⟩ (V := (Cm.vals [(a0.length : Int)] [(a0.flatMap Cm.enSIII)])) (n := 3000) (f := 3000) ⟨trivial, trivial, ⟨Cm.flat_length Cm.enSIII_len _, trivial⟩, trivial, trivial⟩ trivial (R := ⟨.tup [.sym .i64 (.v 0), .sym .i64 (.v 1)], [none], [some (0, 0)]⟩) (qs := [.num (.c 0) (.v 0), .num (.c 12) (.v 1)]) hF hr (by kernel_rfl) ⟨(Cm.r (0 : Int)), (Cm.r (12 : Int)), trivial⟩ hat
  · rw [if_neg h2] at h
    injection h with h; subst h
    exact Cm.to_fin mixed ⟨[(.neq, (.v 1), (.c 0), true)], [], [(0, 4, (.v 0))], [xb_k15], [], []⟩ (V := (Cm.vals [(a0.length : Int), r1] [(a0.flatMap Cm.enSIII)])) (n := 3000) (f := 3000) ⟨⟨Cm.neq_t h2, trivial⟩, trivial, ⟨Cm.flat_length Cm.enSIII_len _, trivial⟩, trivial, trivial⟩ ⟨Kr1 _ _, trivial⟩ (R := ⟨.tup [.sym .i64 (.v 0), .sym .i64 (.v 1)], [none], [some (0, 0)]⟩) (qs := [.num (.c 0) (.v 0), .num (.v 1) (.v 1)]) hF hr (by kernel_rfl) ⟨(Cm.r (0 : Int)), (Cm.r r1), trivial⟩ (Cm.at_re (V' := (Cm.vals [(a0.length : Int), r1] [(a0.flatMap Cm.enSIII)])) (T := ⟨[(0, .gs 0 0 (.v 0) 4 false)], [some (.rows 0 [] 79 true)], [some (0, 0)]⟩) (qs := [.num (.v 0) (.v 0), .lst 0 (some 0) []]) hat (by kernel_rfl) ⟨rfl, ⟨[], rfl, (List.append_nil _).symm⟩, trivial⟩)

def b_IsName_L1 (fu : Nat) (p0 : Int) : Nat → Int → Option ((Unit) ⊕ (Unit))
  | 0, _ => none
  | n + 1, v1 => if v1 < (Cm.sln p0) then (if (0 : Int) ≤ v1 then (if (97 : Int) ≤ (Cm.sat p0 v1) then (if (Cm.sat p0 v1) ≤ (122 : Int) then (b_IsName_L1 fu p0 n (IntKind.wrap .i64 (v1 + (1 : Int)))) else (if (65 : Int) ≤ (Cm.sat p0 v1) then (if (Cm.sat p0 v1) ≤ (90 : Int) then (b_IsName_L1 fu p0 n (IntKind.wrap .i64 (v1 + (1 : Int)))) else (if v1 = (0 : Int) then (some (.inl ())) else (if (Cm.sat p0 v1) = (45 : Int) then (b_IsName_L1 fu p0 n (IntKind.wrap .i64 (v1 + (1 : Int)))) else (if (Cm.sat p0 v1) < (48 : Int) then (some (.inl ())) else (if (57 : Int) < (Cm.sat p0 v1) then (some (.inl ())) else (b_IsName_L1 fu p0 n (IntKind.wrap .i64 (v1 + (1 : Int))))))))) else (if v1 = (0 : Int) then (some (.inl ())) else (if (Cm.sat p0 v1) = (45 : Int) then (b_IsName_L1 fu p0 n (IntKind.wrap .i64 (v1 + (1 : Int)))) else (if (Cm.sat p0 v1) < (48 : Int) then (some (.inl ())) else (if (57 : Int) < (Cm.sat p0 v1) then (some (.inl ())) else (b_IsName_L1 fu p0 n (IntKind.wrap .i64 (v1 + (1 : Int)))))))))) else (if (65 : Int) ≤ (Cm.sat p0 v1) then (if (Cm.sat p0 v1) ≤ (90 : Int) then (b_IsName_L1 fu p0 n (IntKind.wrap .i64 (v1 + (1 : Int)))) else (if v1 = (0 : Int) then (some (.inl ())) else (if (Cm.sat p0 v1) = (45 : Int) then (b_IsName_L1 fu p0 n (IntKind.wrap .i64 (v1 + (1 : Int)))) else (if (Cm.sat p0 v1) < (48 : Int) then (some (.inl ())) else (if (57 : Int) < (Cm.sat p0 v1) then (some (.inl ())) else (b_IsName_L1 fu p0 n (IntKind.wrap .i64 (v1 + (1 : Int))))))))) else (if v1 = (0 : Int) then (some (.inl ())) else (if (Cm.sat p0 v1) = (45 : Int) then (b_IsName_L1 fu p0 n (IntKind.wrap .i64 (v1 + (1 : Int)))) else (if (Cm.sat p0 v1) < (48 : Int) then (some (.inl ())) else (if (57 : Int) < (Cm.sat p0 v1) then (some (.inl ())) else (b_IsName_L1 fu p0 n (IntKind.wrap .i64 (v1 + (1 : Int)))))))))) else none) else (some (.inr ()))

theorem b_IsName_L1_ok (fu : Nat) (p0 : Int) : ∀ (n : Nat) (v1 : Int) (o : (Unit) ⊕ (Unit)), b_IsName_L1 fu p0 n v1 = some o → ∀ (φ0 : Cm.Phi) (w0 : World) (F : Fence) (k : Nat) (R : Exit → Act → World → Prop) (a : Act) (w : World), Cm.FW F → F.round = none → Cm.AtS (Cm.vals [p0, v1] []) [(0, .ss (.v 0)), (3, .sym .i64 (.v 1))] [] 55 0 0 φ0 w0 a w → (∀ (y : Unit), o = .inl y → ∀ a' w', Cm.AtS (Cm.vals [] []) [(2, .bool false)] [] 55 0 0 φ0 w0 a' w' → R Exit.ret a' w') → (∀ (y : Unit), o = .inr y → ∀ a' w', Cm.AtS (Cm.vals [] []) [] [] 55 0 0 φ0 w0 a' w' → R (Exit.exit 0) a' w') → Code.roundsIn F k Tryz.prog (Cm.subAt (Cm.bodyOf Tryz.prog 60) [1, 1, 0, 1, 0, 0]) R n a w
  | 0, _, _, h => by cases h
  | n + 1, v1, o, h => by
    intro φ0 w0 F k R a w hF hr hat hx0 hx1
    rw [b_IsName_L1] at h
    refine Cm.rounds_in (p := [1, 1, 0, 1, 0, 0]) ?_
    by_cases h1 : v1 < (Cm.sln p0)
    · rw [if_pos h1] at h
      by_cases h2 : (0 : Int) ≤ v1
      · rw [if_pos h2] at h
        by_cases h3 : (97 : Int) ≤ (Cm.sat p0 v1)
        · rw [if_pos h3] at h
          by_cases h4 : (Cm.sat p0 v1) ≤ (122 : Int)
          · rw [if_pos h4] at h
            refine Cm.to_done mixed ⟨[(.lss, (.v 1), (.sln (.v 0)), true), (.leq, (.c 0), (.v 1), true), (.geq, (.sat (.v 0) (.v 1)), (.c 97), true), (.leq, (.sat (.v 0) (.v 1)), (.c 122), true)], [], [], [], [], []⟩ (V := (Cm.vals [p0, v1] [])) (n := 3000) (f := 3000) (V' := (Cm.vals [p0, (IntKind.wrap .i64 (v1 + (1 : Int)))] [])) ⟨⟨Cm.lss_t h1, Cm.leq_t h2, Cm.geq_t h3, Cm.leq_t h4, trivial⟩, trivial, trivial, trivial, trivial⟩ trivial (T := ⟨[(0, .ss (.v 0)), (3, .sym .i64 (.v 1))], [], []⟩) (ce := .normal) (qs := [.num (.v 0) (.v 0), .num (.add .i64 (.v 1) (.c 1)) (.v 1)]) hF hr (by kernel_rfl) ⟨(Cm.r p0), (Cm.r (IntKind.wrap .i64 (v1 + (1 : Int)))), trivial⟩ hat fun a' w' hat' => ?_
            exact b_IsName_L1_ok fu p0 n (IntKind.wrap .i64 (v1 + (1 : Int))) o h _ _ _ _ _ _ _ hF hr hat' hx0 hx1
          · rw [if_neg h4] at h
            by_cases h5 : (65 : Int) ≤ (Cm.sat p0 v1)
            · rw [if_pos h5] at h
              by_cases h6 : (Cm.sat p0 v1) ≤ (90 : Int)
              · rw [if_pos h6] at h
                refine Cm.to_done mixed ⟨[(.lss, (.v 1), (.sln (.v 0)), true), (.leq, (.c 0), (.v 1), true), (.geq, (.sat (.v 0) (.v 1)), (.c 97), true), (.leq, (.sat (.v 0) (.v 1)), (.c 122), false), (.geq, (.sat (.v 0) (.v 1)), (.c 65), true), (.leq, (.sat (.v 0) (.v 1)), (.c 90), true)], [], [], [], [], []⟩ (V := (Cm.vals [p0, v1] [])) (n := 3000) (f := 3000) (V' := (Cm.vals [p0, (IntKind.wrap .i64 (v1 + (1 : Int)))] [])) ⟨⟨Cm.lss_t h1, Cm.leq_t h2, Cm.geq_t h3, Cm.leq_f h4, Cm.geq_t h5, Cm.leq_t h6, trivial⟩, trivial, trivial, trivial, trivial⟩ trivial (T := ⟨[(0, .ss (.v 0)), (3, .sym .i64 (.v 1))], [], []⟩) (ce := .normal) (qs := [.num (.v 0) (.v 0), .num (.add .i64 (.v 1) (.c 1)) (.v 1)]) hF hr (by kernel_rfl) ⟨(Cm.r p0), (Cm.r (IntKind.wrap .i64 (v1 + (1 : Int)))), trivial⟩ hat fun a' w' hat' => ?_
                exact b_IsName_L1_ok fu p0 n (IntKind.wrap .i64 (v1 + (1 : Int))) o h _ _ _ _ _ _ _ hF hr hat' hx0 hx1
              · rw [if_neg h6] at h
                by_cases h7 : v1 = (0 : Int)
                · rw [if_pos h7] at h
                  injection h with h; subst h
                  exact Cm.to_done mixed ⟨[(.lss, (.v 1), (.sln (.v 0)), true), (.leq, (.c 0), (.v 1), true), (.geq, (.sat (.v 0) (.v 1)), (.c 97), true), (.leq, (.sat (.v 0) (.v 1)), (.c 122), false), (.geq, (.sat (.v 0) (.v 1)), (.c 65), true), (.leq, (.sat (.v 0) (.v 1)), (.c 90), false), (.eql, (.v 1), (.c 0), true)], [], [], [], [], []⟩ (V := (Cm.vals [p0, v1] [])) (n := 3000) (f := 3000) (V' := (Cm.vals [] [])) ⟨⟨Cm.lss_t h1, Cm.leq_t h2, Cm.geq_t h3, Cm.leq_f h4, Cm.geq_t h5, Cm.leq_f h6, Cm.eql_t h7, trivial⟩, trivial, trivial, trivial, trivial⟩ trivial (T := ⟨[(2, .bool false)], [], []⟩) (ce := .ret) (qs := []) hF hr (by kernel_rfl) trivial hat fun a' w' hat' => hx0 () rfl a' w' hat'
                · rw [if_neg h7] at h
                  by_cases h8 : (Cm.sat p0 v1) = (45 : Int)
                  · rw [if_pos h8] at h
                    refine Cm.to_done mixed ⟨[(.lss, (.v 1), (.sln (.v 0)), true), (.leq, (.c 0), (.v 1), true), (.geq, (.sat (.v 0) (.v 1)), (.c 97), true), (.leq, (.sat (.v 0) (.v 1)), (.c 122), false), (.geq, (.sat (.v 0) (.v 1)), (.c 65), true), (.leq, (.sat (.v 0) (.v 1)), (.c 90), false), (.eql, (.v 1), (.c 0), false), (.neq, (.sat (.v 0) (.v 1)), (.c 45), false)], [], [], [], [], []⟩ (V := (Cm.vals [p0, v1] [])) (n := 3000) (f := 3000) (V' := (Cm.vals [p0, (IntKind.wrap .i64 (v1 + (1 : Int)))] [])) ⟨⟨Cm.lss_t h1, Cm.leq_t h2, Cm.geq_t h3, Cm.leq_f h4, Cm.geq_t h5, Cm.leq_f h6, Cm.eql_f h7, Cm.neq_f h8, trivial⟩, trivial, trivial, trivial, trivial⟩ trivial (T := ⟨[(0, .ss (.v 0)), (3, .sym .i64 (.v 1))], [], []⟩) (ce := .normal) (qs := [.num (.v 0) (.v 0), .num (.add .i64 (.v 1) (.c 1)) (.v 1)]) hF hr (by kernel_rfl) ⟨(Cm.r p0), (Cm.r (IntKind.wrap .i64 (v1 + (1 : Int)))), trivial⟩ hat fun a' w' hat' => ?_
                    exact b_IsName_L1_ok fu p0 n (IntKind.wrap .i64 (v1 + (1 : Int))) o h _ _ _ _ _ _ _ hF hr hat' hx0 hx1
                  · rw [if_neg h8] at h
                    by_cases h9 : (Cm.sat p0 v1) < (48 : Int)
                    · rw [if_pos h9] at h
                      injection h with h; subst h
                      exact Cm.to_done mixed ⟨[(.lss, (.v 1), (.sln (.v 0)), true), (.leq, (.c 0), (.v 1), true), (.geq, (.sat (.v 0) (.v 1)), (.c 97), true), (.leq, (.sat (.v 0) (.v 1)), (.c 122), false), (.geq, (.sat (.v 0) (.v 1)), (.c 65), true), (.leq, (.sat (.v 0) (.v 1)), (.c 90), false), (.eql, (.v 1), (.c 0), false), (.neq, (.sat (.v 0) (.v 1)), (.c 45), true), (.lss, (.sat (.v 0) (.v 1)), (.c 48), true)], [], [], [], [], []⟩ (V := (Cm.vals [p0, v1] [])) (n := 3000) (f := 3000) (V' := (Cm.vals [] [])) ⟨⟨Cm.lss_t h1, Cm.leq_t h2, Cm.geq_t h3, Cm.leq_f h4, Cm.geq_t h5, Cm.leq_f h6, Cm.eql_f h7, Cm.neq_t h8, Cm.lss_t h9, trivial⟩, trivial, trivial, trivial, trivial⟩ trivial (T := ⟨[(2, .bool false)], [], []⟩) (ce := .ret) (qs := []) hF hr (by kernel_rfl) trivial hat fun a' w' hat' => hx0 () rfl a' w' hat'
                    · rw [if_neg h9] at h
                      by_cases h10 : (57 : Int) < (Cm.sat p0 v1)
                      · rw [if_pos h10] at h
                        injection h with h; subst h
                        exact Cm.to_done mixed ⟨[(.lss, (.v 1), (.sln (.v 0)), true), (.leq, (.c 0), (.v 1), true), (.geq, (.sat (.v 0) (.v 1)), (.c 97), true), (.leq, (.sat (.v 0) (.v 1)), (.c 122), false), (.geq, (.sat (.v 0) (.v 1)), (.c 65), true), (.leq, (.sat (.v 0) (.v 1)), (.c 90), false), (.eql, (.v 1), (.c 0), false), (.neq, (.sat (.v 0) (.v 1)), (.c 45), true), (.lss, (.sat (.v 0) (.v 1)), (.c 48), false), (.gtr, (.sat (.v 0) (.v 1)), (.c 57), true)], [], [], [], [], []⟩ (V := (Cm.vals [p0, v1] [])) (n := 3000) (f := 3000) (V' := (Cm.vals [] [])) ⟨⟨Cm.lss_t h1, Cm.leq_t h2, Cm.geq_t h3, Cm.leq_f h4, Cm.geq_t h5, Cm.leq_f h6, Cm.eql_f h7, Cm.neq_t h8, Cm.lss_f h9, Cm.gtr_t h10, trivial⟩, trivial, trivial, trivial, trivial⟩ trivial (T := ⟨[(2, .bool false)], [], []⟩) (ce := .ret) (qs := []) hF hr (by kernel_rfl) trivial hat fun a' w' hat' => hx0 () rfl a' w' hat'
                      · rw [if_neg h10] at h
                        refine Cm.to_done mixed ⟨[(.lss, (.v 1), (.sln (.v 0)), true), (.leq, (.c 0), (.v 1), true), (.geq, (.sat (.v 0) (.v 1)), (.c 97), true), (.leq, (.sat (.v 0) (.v 1)), (.c 122), false), (.geq, (.sat (.v 0) (.v 1)), (.c 65), true), (.leq, (.sat (.v 0) (.v 1)), (.c 90), false), (.eql, (.v 1), (.c 0), false), (.neq, (.sat (.v 0) (.v 1)), (.c 45), true), (.lss, (.sat (.v 0) (.v 1)), (.c 48), false), (.gtr, (.sat (.v 0) (.v 1)), (.c 57), false)], [], [], [], [], []⟩ (V := (Cm.vals [p0, v1] [])) (n := 3000) (f := 3000) (V' := (Cm.vals [p0, (IntKind.wrap .i64 (v1 + (1 : Int)))] [])) ⟨⟨Cm.lss_t h1, Cm.leq_t h2, Cm.geq_t h3, Cm.leq_f h4, Cm.geq_t h5, Cm.leq_f h6, Cm.eql_f h7, Cm.neq_t h8, Cm.lss_f h9, Cm.gtr_f h10, trivial⟩, trivial, trivial, trivial, trivial⟩ trivial (T := ⟨[(0, .ss (.v 0)), (3, .sym .i64 (.v 1))], [], []⟩) (ce := .normal) (qs := [.num (.v 0) (.v 0), .num (.add .i64 (.v 1) (.c 1)) (.v 1)]) hF hr (by kernel_rfl) ⟨(Cm.r p0), (Cm.r (IntKind.wrap .i64 (v1 + (1 : Int)))), trivial⟩ hat fun a' w' hat' => ?_
                        exact b_IsName_L1_ok fu p0 n (IntKind.wrap .i64 (v1 + (1 : Int))) o h _ _ _ _ _ _ _ hF hr hat' hx0 hx1
            · rw [if_neg h5] at h
              by_cases h11 : v1 = (0 : Int)
              · rw [if_pos h11] at h
                injection h with h; subst h
                exact Cm.to_done mixed ⟨[(.lss, (.v 1), (.sln (.v 0)), true), (.leq, (.c 0), (.v 1), true), (.geq, (.sat (.v 0) (.v 1)), (.c 97), true), (.leq, (.sat (.v 0) (.v 1)), (.c 122), false), (.geq, (.sat (.v 0) (.v 1)), (.c 65), false), (.eql, (.v 1), (.c 0), true)], [], [], [], [], []⟩ (V := (Cm.vals [p0, v1] [])) (n := 3000) (f := 3000) (V' := (Cm.vals [] [])) ⟨⟨Cm.lss_t h1, Cm.leq_t h2, Cm.geq_t h3, Cm.leq_f h4, Cm.geq_f h5, Cm.eql_t h11, trivial⟩, trivial, trivial, trivial, trivial⟩ trivial (T := ⟨[(2, .bool false)], [], []⟩) (ce := .ret) (qs := []) hF hr (by kernel_rfl) trivial hat fun a' w' hat' => hx0 () rfl a' w' hat'
              · rw [if_neg h11] at h
                by_cases h12 : (Cm.sat p0 v1) = (45 : Int)
                · rw [if_pos h12] at h
                  refine Cm.to_done mixed ⟨[(.lss, (.v 1), (.sln (.v 0)), true), (.leq, (.c 0), (.v 1), true), (.geq, (.sat (.v 0) (.v 1)), (.c 97), true), (.leq, (.sat (.v 0) (.v 1)), (.c 122), false), (.geq, (.sat (.v 0) (.v 1)), (.c 65), false), (.eql, (.v 1), (.c 0), false), (.neq, (.sat (.v 0) (.v 1)), (.c 45), false)], [], [], [], [], []⟩ (V := (Cm.vals [p0, v1] [])) (n := 3000) (f := 3000) (V' := (Cm.vals [p0, (IntKind.wrap .i64 (v1 + (1 : Int)))] [])) ⟨⟨Cm.lss_t h1, Cm.leq_t h2, Cm.geq_t h3, Cm.leq_f h4, Cm.geq_f h5, Cm.eql_f h11, Cm.neq_f h12, trivial⟩, trivial, trivial, trivial, trivial⟩ trivial (T := ⟨[(0, .ss (.v 0)), (3, .sym .i64 (.v 1))], [], []⟩) (ce := .normal) (qs := [.num (.v 0) (.v 0), .num (.add .i64 (.v 1) (.c 1)) (.v 1)]) hF hr (by kernel_rfl) ⟨(Cm.r p0), (Cm.r (IntKind.wrap .i64 (v1 + (1 : Int)))), trivial⟩ hat fun a' w' hat' => ?_
                  exact b_IsName_L1_ok fu p0 n (IntKind.wrap .i64 (v1 + (1 : Int))) o h _ _ _ _ _ _ _ hF hr hat' hx0 hx1
                · rw [if_neg h12] at h
                  by_cases h13 : (Cm.sat p0 v1) < (48 : Int)
                  · rw [if_pos h13] at h
                    injection h with h; subst h
                    exact Cm.to_done mixed ⟨[(.lss, (.v 1), (.sln (.v 0)), true), (.leq, (.c 0), (.v 1), true), (.geq, (.sat (.v 0) (.v 1)), (.c 97), true), (.leq, (.sat (.v 0) (.v 1)), (.c 122), false), (.geq, (.sat (.v 0) (.v 1)), (.c 65), false), (.eql, (.v 1), (.c 0), false), (.neq, (.sat (.v 0) (.v 1)), (.c 45), true), (.lss, (.sat (.v 0) (.v 1)), (.c 48), true)], [], [], [], [], []⟩ (V := (Cm.vals [p0, v1] [])) (n := 3000) (f := 3000) (V' := (Cm.vals [] [])) ⟨⟨Cm.lss_t h1, Cm.leq_t h2, Cm.geq_t h3, Cm.leq_f h4, Cm.geq_f h5, Cm.eql_f h11, Cm.neq_t h12, Cm.lss_t h13, trivial⟩, trivial, trivial, trivial, trivial⟩ trivial (T := ⟨[(2, .bool false)], [], []⟩) (ce := .ret) (qs := []) hF hr (by kernel_rfl) trivial hat fun a' w' hat' => hx0 () rfl a' w' hat'
                  · rw [if_neg h13] at h
                    by_cases h14 : (57 : Int) < (Cm.sat p0 v1)
                    · rw [if_pos h14] at h
                      injection h with h; subst h
                      exact Cm.to_done mixed ⟨[(.lss, (.v 1), (.sln (.v 0)), true), (.leq, (.c 0), (.v 1), true), (.geq, (.sat (.v 0) (.v 1)), (.c 97), true), (.leq, (.sat (.v 0) (.v 1)), (.c 122), false), (.geq, (.sat (.v 0) (.v 1)), (.c 65), false), (.eql, (.v 1), (.c 0), false), (.neq, (.sat (.v 0) (.v 1)), (.c 45), true), (.lss, (.sat (.v 0) (.v 1)), (.c 48), false), (.gtr, (.sat (.v 0) (.v 1)), (.c 57), true)], [], [], [], [], []⟩ (V := (Cm.vals [p0, v1] [])) (n := 3000) (f := 3000) (V' := (Cm.vals [] [])) ⟨⟨Cm.lss_t h1, Cm.leq_t h2, Cm.geq_t h3, Cm.leq_f h4, Cm.geq_f h5, Cm.eql_f h11, Cm.neq_t h12, Cm.lss_f h13, Cm.gtr_t h14, trivial⟩, trivial, trivial, trivial, trivial⟩ trivial (T := ⟨[(2, .bool false)], [], []⟩) (ce := .ret) (qs := []) hF hr (by kernel_rfl) trivial hat fun a' w' hat' => hx0 () rfl a' w' hat'
                    · rw [if_neg h14] at h
                      refine Cm.to_done mixed ⟨[(.lss, (.v 1), (.sln (.v 0)), true), (.leq, (.c 0), (.v 1), true), (.geq, (.sat (.v 0) (.v 1)), (.c 97), true), (.leq, (.sat (.v 0) (.v 1)), (.c 122), false), (.geq, (.sat (.v 0) (.v 1)), (.c 65), false), (.eql, (.v 1), (.c 0), false), (.neq, (.sat (.v 0) (.v 1)), (.c 45), true), (.lss, (.sat (.v 0) (.v 1)), (.c 48), false), (.gtr, (.sat (.v 0) (.v 1)), (.c 57), false)], [], [], [], [], []⟩ (V := (Cm.vals [p0, v1] [])) (n := 3000) (f := 3000) (V' := (Cm.vals [p0, (IntKind.wrap .i64 (v1 + (1 : Int)))] [])) ⟨⟨Cm.lss_t h1, Cm.leq_t h2, Cm.geq_t h3, Cm.leq_f h4, Cm.geq_f h5, Cm.eql_f h11, Cm.neq_t h12, Cm.lss_f h13, Cm.gtr_f h14, trivial⟩, trivial, trivial, trivial, trivial⟩ trivial (T := ⟨[(0, .ss (.v 0)), (3, .sym .i64 (.v 1))], [], []⟩) (ce := .normal) (qs := [.num (.v 0) (.v 0), .num (.add .i64 (.v 1) (.c 1)) (.v 1)]) hF hr (by kernel_rfl) ⟨(Cm.r p0), (Cm.r (IntKind.wrap .i64 (v1 + (1 : Int)))), trivial⟩ hat fun a' w' hat' => ?_
                      exact b_IsName_L1_ok fu p0 n (IntKind.wrap .i64 (v1 + (1 : Int))) o h _ _ _ _ _ _ _ hF hr hat' hx0 hx1
        · rw [if_neg h3] at h
          by_cases h15 : (65 : Int) ≤ (Cm.sat p0 v1)
          · rw [if_pos h15] at h
            by_cases h16 : (Cm.sat p0 v1) ≤ (90 : Int)
            · rw [if_pos h16] at h
              refine Cm.to_done mixed ⟨[(.lss, (.v 1), (.sln (.v 0)), true), (.leq, (.c 0), (.v 1), true), (.geq, (.sat (.v 0) (.v 1)), (.c 97), false), (.geq, (.sat (.v 0) (.v 1)), (.c 65), true), (.leq, (.sat (.v 0) (.v 1)), (.c 90), true)], [], [], [], [], []⟩ (V := (Cm.vals [p0, v1] [])) (n := 3000) (f := 3000) (V' := (Cm.vals [p0, (IntKind.wrap .i64 (v1 + (1 : Int)))] [])) ⟨⟨Cm.lss_t h1, Cm.leq_t h2, Cm.geq_f h3, Cm.geq_t h15, Cm.leq_t h16, trivial⟩, trivial, trivial, trivial, trivial⟩ trivial (T := ⟨[(0, .ss (.v 0)), (3, .sym .i64 (.v 1))], [], []⟩) (ce := .normal) (qs := [.num (.v 0) (.v 0), .num (.add .i64 (.v 1) (.c 1)) (.v 1)]) hF hr (by kernel_rfl) ⟨(Cm.r p0), (Cm.r (IntKind.wrap .i64 (v1 + (1 : Int)))), trivial⟩ hat fun a' w' hat' => ?_
              exact b_IsName_L1_ok fu p0 n (IntKind.wrap .i64 (v1 + (1 : Int))) o h _ _ _ _ _ _ _ hF hr hat' hx0 hx1
            · rw [if_neg h16] at h
              by_cases h17 : v1 = (0 : Int)
              · rw [if_pos h17] at h
                injection h with h; subst h
                exact Cm.to_done mixed ⟨[(.lss, (.v 1), (.sln (.v 0)), true), (.leq, (.c 0), (.v 1), true), (.geq, (.sat (.v 0) (.v 1)), (.c 97), false), (.geq, (.sat (.v 0) (.v 1)), (.c 65), true), (.leq, (.sat (.v 0) (.v 1)), (.c 90), false), (.eql, (.v 1), (.c 0), true)], [], [], [], [], []⟩ (V := (Cm.vals [p0, v1] [])) (n := 3000) (f := 3000) (V' := (Cm.vals [] [])) ⟨⟨Cm.lss_t h1, Cm.leq_t h2, Cm.geq_f h3, Cm.geq_t h15, Cm.leq_f h16, Cm.eql_t h17, trivial⟩, trivial, trivial, trivial, trivial⟩ trivial (T := ⟨[(2, .bool false)], [], []⟩) (ce := .ret) (qs := []) hF hr (by kernel_rfl) trivial hat fun a' w' hat' => hx0 () rfl a' w' hat'
              · rw [if_neg h17] at h
                by_cases h18 : (Cm.sat p0 v1) = (45 : Int)
                · rw [if_pos h18] at h
                  refine Cm.to_done mixed ⟨[(.lss, (.v 1), (.sln (.v 0)), true), (.leq, (.c 0), (.v 1), true), (.geq, (.sat (.v 0) (.v 1)), (.c 97), false), (.geq, (.sat (.v 0) (.v 1)), (.c 65), true), (.leq, (.sat (.v 0) (.v 1)), (.c 90), false), (.eql, (.v 1), (.c 0), false), (.neq, (.sat (.v 0) (.v 1)), (.c 45), false)], [], [], [], [], []⟩ (V := (Cm.vals [p0, v1] [])) (n := 3000) (f := 3000) (V' := (Cm.vals [p0, (IntKind.wrap .i64 (v1 + (1 : Int)))] [])) ⟨⟨Cm.lss_t h1, Cm.leq_t h2, Cm.geq_f h3, Cm.geq_t h15, Cm.leq_f h16, Cm.eql_f h17, Cm.neq_f h18, trivial⟩, trivial, trivial, trivial, trivial⟩ trivial (T := ⟨[(0, .ss (.v 0)), (3, .sym .i64 (.v 1))], [], []⟩) (ce := .normal) (qs := [.num (.v 0) (.v 0), .num (.add .i64 (.v 1) (.c 1)) (.v 1)]) hF hr (by kernel_rfl) ⟨(Cm.r p0), (Cm.r (IntKind.wrap .i64 (v1 + (1 : Int)))), trivial⟩ hat fun a' w' hat' => ?_
                  exact b_IsName_L1_ok fu p0 n (IntKind.wrap .i64 (v1 + (1 : Int))) o h _ _ _ _ _ _ _ hF hr hat' hx0 hx1
                · rw [if_neg h18] at h
                  by_cases h19 : (Cm.sat p0 v1) < (48 : Int)
                  · rw [if_pos h19] at h
                    injection h with h; subst h
                    exact Cm.to_done mixed ⟨[(.lss, (.v 1), (.sln (.v 0)), true), (.leq, (.c 0), (.v 1), true), (.geq, (.sat (.v 0) (.v 1)), (.c 97), false), (.geq, (.sat (.v 0) (.v 1)), (.c 65), true), (.leq, (.sat (.v 0) (.v 1)), (.c 90), false), (.eql, (.v 1), (.c 0), false), (.neq, (.sat (.v 0) (.v 1)), (.c 45), true), (.lss, (.sat (.v 0) (.v 1)), (.c 48), true)], [], [], [], [], []⟩ (V := (Cm.vals [p0, v1] [])) (n := 3000) (f := 3000) (V' := (Cm.vals [] [])) ⟨⟨Cm.lss_t h1, Cm.leq_t h2, Cm.geq_f h3, Cm.geq_t h15, Cm.leq_f h16, Cm.eql_f h17, Cm.neq_t h18, Cm.lss_t h19, trivial⟩, trivial, trivial, trivial, trivial⟩ trivial (T := ⟨[(2, .bool false)], [], []⟩) (ce := .ret) (qs := []) hF hr (by kernel_rfl) trivial hat fun a' w' hat' => hx0 () rfl a' w' hat'
                  · rw [if_neg h19] at h
                    by_cases h20 : (57 : Int) < (Cm.sat p0 v1)
                    · rw [if_pos h20] at h
                      injection h with h; subst h
                      exact Cm.to_done mixed ⟨[(.lss, (.v 1), (.sln (.v 0)), true), (.leq, (.c 0), (.v 1), true), (.geq, (.sat (.v 0) (.v 1)), (.c 97), false), (.geq, (.sat (.v 0) (.v 1)), (.c 65), true), (.leq, (.sat (.v 0) (.v 1)), (.c 90), false), (.eql, (.v 1), (.c 0), false), (.neq, (.sat (.v 0) (.v 1)), (.c 45), true), (.lss, (.sat (.v 0) (.v 1)), (.c 48), false), (.gtr, (.sat (.v 0) (.v 1)), (.c 57), true)], [], [], [], [], []⟩ (V := (Cm.vals [p0, v1] [])) (n := 3000) (f := 3000) (V' := (Cm.vals [] [])) ⟨⟨Cm.lss_t h1, Cm.leq_t h2, Cm.geq_f h3, Cm.geq_t h15, Cm.leq_f h16, Cm.eql_f h17, Cm.neq_t h18, Cm.lss_f h19, Cm.gtr_t h20, trivial⟩, trivial, trivial, trivial, trivial⟩ trivial (T := ⟨[(2, .bool false)], [], []⟩) (ce := .ret) (qs := []) hF hr (by kernel_rfl) trivial hat fun a' w' hat' => hx0 () rfl a' w' hat'
                    · rw [if_neg h20] at h
                      refine Cm.to_done mixed ⟨[(.lss, (.v 1), (.sln (.v 0)), true), (.leq, (.c 0), (.v 1), true), (.geq, (.sat (.v 0) (.v 1)), (.c 97), false), (.geq, (.sat (.v 0) (.v 1)), (.c 65), true), (.leq, (.sat (.v 0) (.v 1)), (.c 90), false), (.eql, (.v 1), (.c 0), false), (.neq, (.sat (.v 0) (.v 1)), (.c 45), true), (.lss, (.sat (.v 0) (.v 1)), (.c 48), false), (.gtr, (.sat (.v 0) (.v 1)), (.c 57), false)], [], [], [], [], []⟩ (V := (Cm.vals [p0, v1] [])) (n := 3000) (f := 3000) (V' := (Cm.vals [p0, (IntKind.wrap .i64 (v1 + (1 : Int)))] [])) ⟨⟨Cm.lss_t h1, Cm.leq_t h2, Cm.geq_f h3, Cm.geq_t h15, Cm.leq_f h16, Cm.eql_f h17, Cm.neq_t h18, Cm.lss_f h19, Cm.gtr_f h20, trivial⟩, trivial, trivial, trivial, trivial⟩ trivial (T := ⟨[(0, .ss (.v 0)), (3, .sym .i64 (.v 1))], [], []⟩) (ce := .normal) (qs := [.num (.v 0) (.v 0), .num (.add .i64 (.v 1) (.c 1)) (.v 1)]) hF hr (by kernel_rfl) ⟨(Cm.r p0), (Cm.r (IntKind.wrap .i64 (v1 + (1 : Int)))), trivial⟩ hat fun a' w' hat' => ?_
                      exact b_IsName_L1_ok fu p0 n (IntKind.wrap .i64 (v1 + (1 : Int))) o h _ _ _ _ _ _ _ hF hr hat' hx0 hx1
          · rw [if_neg h15] at h
            by_cases h21 : v1 = (0 : Int)
            · rw [if_pos h21] at h
              injection h with h; subst h
              exact Cm.to_done mixed ⟨[(.lss, (.v 1), (.sln (.v 0)), true), (.leq, (.c 0), (.v 1), true), (.geq, (.sat (.v 0) (.v 1)), (.c 97), false), (.geq, (.sat (.v 0) (.v 1)), (.c 65), false), (.eql, (.v 1), (.c 0), true)], [], [], [], [], []⟩ (V := (Cm.vals [p0, v1] [])) (n := 3000) (f := 3000) (V' := (Cm.vals [] [])) ⟨⟨Cm.lss_t h1, Cm.leq_t h2, Cm.geq_f h3, Cm.geq_f h15, Cm.eql_t h21, trivial⟩, trivial, trivial, trivial, trivial⟩ trivial (T := ⟨[(2, .bool false)], [], []⟩) (ce := .ret) (qs := []) hF hr (by kernel_rfl) trivial hat fun a' w' hat' => hx0 () rfl a' w' hat'
            · rw [if_neg h21] at h
              by_cases h22 : (Cm.sat p0 v1) = (45 : Int)
              · rw [if_pos h22] at h
                refine Cm.to_done mixed ⟨[(.lss, (.v 1), (.sln (.v 0)), true), (.leq, (.c 0), (.v 1), true), (.geq, (.sat (.v 0) (.v 1)), (.c 97), false), (.geq, (.sat (.v 0) (.v 1)), (.c 65), false), (.eql, (.v 1), (.c 0), false), (.neq, (.sat (.v 0) (.v 1)), (.c 45), false)], [], [], [], [], []⟩ (V := (Cm.vals [p0, v1] [])) (n := 3000) (f := 3000) (V' := (Cm.vals [p0, (IntKind.wrap .i64 (v1 + (1 : Int)))] [])) ⟨⟨Cm.lss_t h1, Cm.leq_t h2, Cm.geq_f h3, Cm.geq_f h15, Cm.eql_f h21, Cm.neq_f h22, trivial⟩, trivial, trivial, trivial, trivial⟩ trivial (T := ⟨[(0, .ss (.v 0)), (3, .sym .i64 (.v 1))], [], []⟩) (ce := .normal) (qs := [.num (.v 0) (.v 0), .num (.add .i64 (.v 1) (.c 1)) (.v 1)]) hF hr (by kernel_rfl) ⟨(Cm.r p0), (Cm.r (IntKind.wrap .i64 (v1 + (1 : Int)))), trivial⟩ hat fun a' w' hat' => ?_
                exact b_IsName_L1_ok fu p0 n (IntKind.wrap .i64 (v1 + (1 : Int))) o h _ _ _ _ _ _ _ hF hr hat' hx0 hx1
              · rw [if_neg h22] at h
                by_cases h23 : (Cm.sat p0 v1) < (48 : Int)
                · rw [if_pos h23] at h
                  injection h with h; subst h
                  exact Cm.to_done mixed ⟨[(.lss, (.v 1), (.sln (.v 0)), true), (.leq, (.c 0), (.v 1), true), (.geq, (.sat (.v 0) (.v 1)), (.c 97), false), (.geq, (.sat (.v 0) (.v 1)), (.c 65), false), (.eql, (.v 1), (.c 0), false), (.neq, (.sat (.v 0) (.v 1)), (.c 45), true), (.lss, (.sat (.v 0) (.v 1)), (.c 48), true)], [], [], [], [], []⟩ (V := (Cm.vals [p0, v1] [])) (n := 3000) (f := 3000) (V' := (Cm.vals [] [])) ⟨⟨Cm.lss_t h1, Cm.leq_t h2, Cm.geq_f h3, Cm.geq_f h15, Cm.eql_f h21, Cm.neq_t h22, Cm.lss_t h23, trivial⟩, trivial, trivial, trivial, trivial⟩ trivial (T := ⟨[(2, .bool false)], [], []⟩) (ce := .ret) (qs := []) hF hr (by kernel_rfl) trivial hat fun a' w' hat' => hx0 () rfl a' w' hat'
                · rw [if_neg h23] at h
                  by_cases h24 : (57 : Int) < (Cm.sat p0 v1)
                  · rw [if_pos h24] at h
                    injection h with h; subst h
                    exact Cm.to_done mixed ⟨[(.lss, (.v 1), (.sln (.v 0)), true), (.leq, (.c 0), (.v 1), true), (.geq, (.sat (.v 0) (.v 1)), (.c 97), false), (.geq, (.sat (.v 0) (.v 1)), (.c 65), false), (.eql, (.v 1), (.c 0), false), (.neq, (.sat (.v 0) (.v 1)), (.c 45), true), (.lss, (.sat (.v 0) (.v 1)), (.c 48), false), (.gtr, (.sat (.v 0) (.v 1)), (.c 57), true)], [], [], [], [], []⟩ (V := (Cm.vals [p0, v1] [])) (n := 3000) (f := 3000) (V' := (Cm.vals [] [])) ⟨⟨Cm.lss_t h1, Cm.leq_t h2, Cm.geq_f h3, Cm.geq_f h15, Cm.eql_f h21, Cm.neq_t h22, Cm.lss_f h23, Cm.gtr_t h24, trivial⟩, trivial, trivial, trivial, trivial⟩ trivial (T := ⟨[(2, .bool false)], [], []⟩) (ce := .ret) (qs := []) hF hr (by kernel_rfl) trivial hat fun a' w' hat' => hx0 () rfl a' w' hat'
                  · rw [if_neg h24] at h
                    refine Cm.to_done mixed ⟨[(.lss, (.v 1), (.sln (.v 0)), true), (.leq, (.c 0), (.v 1), true), (.geq, (.sat (.v 0) (.v 1)), (.c 97), false), (.geq, (.sat (.v 0) (.v 1)), (.c 65), false), (.eql, (.v 1), (.c 0), false), (.neq, (.sat (.v 0) (.v 1)), (.c 45), true), (.lss, (.sat (.v 0) (.v 1)), (.c 48), false), (.gtr, (.sat (.v 0) (.v 1)), (.c 57), false)], [], [], [], [], []⟩ (V := (Cm.vals [p0, v1] [])) (n := 3000) (f := 3000) (V' := (Cm.vals [p0, (IntKind.wrap .i64 (v1 + (1 : Int)))] [])) ⟨⟨Cm.lss_t h1, Cm.leq_t h2, Cm.geq_f h3, Cm.geq_f h15, Cm.eql_f h21, Cm.neq_t h22, Cm.lss_f h23, Cm.gtr_f h24, trivial⟩, trivial, trivial, trivial, trivial⟩ trivial (T := ⟨[(0, .ss (.v 0)), (3, .sym .i64 (.v 1))], [], []⟩) (ce := .normal) (qs := [.num (.v 0) (.v 0), .num (.add .i64 (.v 1) (.c 1)) (.v 1)]) hF hr (by kernel_rfl) ⟨(Cm.r p0), (Cm.r (IntKind.wrap .i64 (v1 + (1 : Int)))), trivial⟩ hat fun a' w' hat' => ?_
                    exact b_IsName_L1_ok fu p0 n (IntKind.wrap .i64 (v1 + (1 : Int))) o h _ _ _ _ _ _ _ hF hr hat' hx0 hx1
      · rw [if_neg h2] at h
        cases h
    · rw [if_neg h1] at h
      injection h with h; subst h
      exact Cm.to_done mixed ⟨[(.lss, (.v 1), (.sln (.v 0)), false)], [], [], [], [], []⟩ (V := (Cm.vals [p0, v1] [])) (n := 3000) (f := 3000) (V' := (Cm.vals [] [])) ⟨⟨Cm.lss_f h1, trivial⟩, trivial, trivial, trivial, trivial⟩ trivial (T := ⟨[], [], []⟩) (ce := (.exit 0)) (qs := []) hF hr (by kernel_rfl) trivial hat fun a' w' hat' => hx1 () rfl a' w' hat'

def b_IsName (fu : Nat) (a0 : Int) : Option (Bool) := if (Cm.sln a0) < (1 : Int) then (some false) else (if (12 : Int) < (Cm.sln a0) then (some false) else (Option.bind (b_IsName_L1 fu a0 fu (0 : Int)) fun o3 => (match o3 with | .inl y4 => (some false) | .inr y5 => (some true))))

theorem b_IsName_ok (fu : Nat) (a0 : Int) (y : Bool) (h : b_IsName fu a0 = some y) : Cm.CallOk Tryz.prog 60 (Cm.vals [a0] []) [.ss (.v 0)] [] 0 (Cm.vals [Cm.bI y] []) (.bs (.v 0)) [] := by
  refine Cm.fun_of (nt := 55) (by kernel_rfl) (by kernel_rfl) fun φ0 w0 a w hat => ?_
  have hF := Cm.wide_fw
  have hr : Fence.wide.round = none := rfl
  unfold b_IsName at h
  by_cases h1 : (Cm.sln a0) < (1 : Int)
  · rw [if_pos h1] at h
    injection h with h; subst h
    exact Cm.to_fin mixed ⟨[(.lss, (.sln (.v 0)), (.c 1), true)], [], [], [], [], []⟩ (V := (Cm.vals [a0] [])) (n := 3000) (f := 3000) ⟨⟨Cm.lss_t h1, trivial⟩, trivial, trivial, trivial, trivial⟩ trivial (R := ⟨.bs (.v 0), [], []⟩) (qs := [.num (.c 0) (.v 0)]) hF hr (by kernel_rfl) ⟨rfl, trivial⟩ hat
  · rw [if_neg h1] at h
    by_cases h2 : (12 : Int) < (Cm.sln a0)
    · rw [if_pos h2] at h
      injection h with h; subst h
      exact Cm.to_fin mixed ⟨[(.lss, (.sln (.v 0)), (.c 1), false), (.gtr, (.sln (.v 0)), (.c 12), true)], [], [], [], [], []⟩ (V := (Cm.vals [a0] [])) (n := 3000) (f := 3000) ⟨⟨Cm.lss_f h1, Cm.gtr_t h2, trivial⟩, trivial, trivial, trivial, trivial⟩ trivial (R := ⟨.bs (.v 0), [], []⟩) (qs := [.num (.c 0) (.v 0)]) hF hr (by kernel_rfl) ⟨rfl, trivial⟩ hat
    · rw [if_neg h2] at h
      obtain ⟨o3, ho3, h⟩ := Option.bind_eq_some_iff.1 h
      refine Cm.to_loop mixed ⟨[(.lss, (.sln (.v 0)), (.c 1), false), (.gtr, (.sln (.v 0)), (.c 12), false)], [], [], [], [], []⟩ (V := (Cm.vals [a0] [])) (n := 3000) (f := 3000) (V' := (Cm.vals [a0, (0 : Int)] [])) ⟨⟨Cm.lss_f h1, Cm.gtr_f h2, trivial⟩, trivial, trivial, trivial, trivial⟩ trivial (T := ⟨[(0, .ss (.v 0)), (3, .sym .i64 (.v 1))], [], []⟩) (B := Cm.subAt (Cm.bodyOf Tryz.prog 60) [1, 1, 0, 1, 0, 0]) (K' := [.bk 0, .sq (Cm.subAt (Cm.bodyOf Tryz.prog 60) [1, 1, 1]) [1, 1, 1]]) (qs := [.num (.v 0) (.v 0), .num (.c 0) (.v 1)]) hF hr (by kernel_rfl) ⟨(Cm.r a0), (Cm.r (0 : Int)), trivial⟩ hat fun aa1 ww1 hat1 => Cm.loop_in (b_IsName_L1_ok fu a0 fu (0 : Int) o3 ho3 _ _ _ _ _ _ _ hF hr hat1 ?_ ?_)
      · intro y4 hy aa2 ww2 hat
        subst hy
        dsimp only at h
        show (Cm.Wk.out .ret).goal _ _ _ [.bk 0, .sq (Cm.subAt (Cm.bodyOf Tryz.prog 60) [1, 1, 1]) [1, 1, 1]] _ aa2 ww2
        injection h with h; subst h
        exact Cm.to_fin mixed ⟨[], [], [], [], [], []⟩ (V := (Cm.vals [] [])) (n := 3000) (f := 3000) ⟨trivial, trivial, trivial, trivial, trivial⟩ trivial (R := ⟨.bs (.v 0), [], []⟩) (qs := [.num (.c 0) (.v 0)]) hF hr (by kernel_rfl) ⟨rfl, trivial⟩ hat
      · intro y5 hy aa2 ww2 hat
        subst hy
        dsimp only at h
        show (Cm.Wk.out (.exit 0)).goal _ _ _ [.bk 0, .sq (Cm.subAt (Cm.bodyOf Tryz.prog 60) [1, 1, 1]) [1, 1, 1]] _ aa2 ww2
        injection h with h; subst h
        exact Cm.to_fin mixed ⟨[], [], [], [], [], []⟩ (V := (Cm.vals [] [])) (n := 3000) (f := 3000) ⟨trivial, trivial, trivial, trivial, trivial⟩ trivial (R := ⟨.bs (.v 0), [], []⟩) (qs := [.num (.c 1) (.v 0)]) hF hr (by kernel_rfl) ⟨rfl, trivial⟩ hat

def r7_CheckStreams_L1 (fu : Nat) (p0 : List (Int × Int × Int × Int)) (p1 : Int) (p2 : Int) (p3 : Int) (p4 : Int) (p5 : Int) : Nat → Int → Option ((Unit) ⊕ (Unit))
  | 0, _ => none
  | n + 1, v6 => if v6 < p1 then (if (0 : Int) ≤ v6 then (if v6 < (p0.length : Int) then (Option.bind ((p0)[0 + (v6).toNat]?) fun e4 => if e4.1 = p2 then (some (.inl ())) else (r7_CheckStreams_L1 fu p0 p1 p2 p3 p4 p5 n (IntKind.wrap .i64 (v6 + (1 : Int))))) else none) else none) else (some (.inr ()))

theorem r7_CheckStreams_L1_ok (fu : Nat) (p0 : List (Int × Int × Int × Int)) (p1 : Int) (p2 : Int) (p3 : Int) (p4 : Int) (p5 : Int) : ∀ (n : Nat) (v6 : Int) (o : (Unit) ⊕ (Unit)), r7_CheckStreams_L1 fu p0 p1 p2 p3 p4 p5 n v6 = some o → ∀ (φ0 : Cm.Phi) (w0 : World) (F : Fence) (k : Nat) (R : Exit → Act → World → Prop) (a : Act) (w : World), Cm.FW F → F.round = none → Cm.AtS (Cm.vals [(p0.length : Int), p1, p2, p3, p4, p5, v6] [(p0.flatMap Cm.enSIII)]) [(0, .gs 0 0 (.v 0) 4 false), (4, .sym .i64 (.v 1)), (5, .ptr 1 0), (6, .sym .i64 (.v 6))] [some (.rows 0 [] 79 true), some (.cells [.ss (.v 2), .sym .i64 (.v 3), .sym .i64 (.v 4), .sym .i64 (.v 5)] 79 false)] 61 1 1 φ0 w0 a w → (∀ (y : Unit), o = .inl y → ∀ a' w', Cm.AtS (Cm.vals [(p0.length : Int), p1] [(p0.flatMap Cm.enSIII)]) [(2, .sym .i64 (.v 1)), (3, .int .i64 5)] [some (.rows 0 [] 79 true)] 61 1 1 φ0 w0 a' w' → R Exit.ret a' w') → (∀ (y : Unit), o = .inr y → ∀ a' w', Cm.AtS (Cm.vals [(p0.length : Int), p1, p2, p3, p4, p5] [(p0.flatMap Cm.enSIII)]) [(0, .gs 0 0 (.v 0) 4 false), (4, .sym .i64 (.v 1)), (5, .ptr 1 0)] [some (.rows 0 [] 79 true), some (.cells [.ss (.v 2), .sym .i64 (.v 3), .sym .i64 (.v 4), .sym .i64 (.v 5)] 79 false)] 61 1 1 φ0 w0 a' w' → R (Exit.exit 2) a' w') → Code.roundsIn F k Tryz.prog (Cm.subAt (Cm.bodyOf Tryz.prog 43) [1, 1, 1, 0, 1, 0, 0, 1, 0, 0, 1, 1, 0, 1, 0, 0]) R n a w
  | 0, _, _, h => by cases h
  | n + 1, v6, o, h => by
    intro φ0 w0 F k R a w hF hr hat hx0 hx1
    rw [r7_CheckStreams_L1] at h
    refine Cm.rounds_in (p := [1, 1, 1, 0, 1, 0, 0, 1, 0, 0, 1, 1, 0, 1, 0, 0]) ?_
    by_cases h1 : v6 < p1
    · rw [if_pos h1] at h
      by_cases h2 : (0 : Int) ≤ v6
      · rw [if_pos h2] at h
        by_cases h3 : v6 < (p0.length : Int)
        · rw [if_pos h3] at h
          obtain ⟨e4, he4, h⟩ := Option.bind_eq_some_iff.1 h
          by_cases h5 : e4.1 = p2
          · rw [if_pos h5] at h
            injection h with h; subst h
            exact Cm.to_done mixed ⟨[(.lss, (.v 6), (.v 1), true), (.leq, (.c 0), (.v 6), true), (.lss, (.v 6), (.v 0), true), (.eql, (.v 7), (.v 2), true)], [(0, 0, (.v 6), [.ss (.v 7), .sym .i64 (.v 8), .sym .i64 (.v 9), .sym .i64 (.v 10)])], [(0, 4, (.v 0))], [], [], []⟩ (V := (Cm.vals [(p0.length : Int), p1, p2, p3, p4, p5, v6, e4.1, e4.2.1, e4.2.2.1, e4.2.2.2] [(p0.flatMap Cm.enSIII)])) (n := 3000) (f := 3000) (V' := (Cm.vals [(p0.length : Int), p1] [(p0.flatMap Cm.enSIII)])) ⟨⟨Cm.lss_t h1, Cm.leq_t h2, Cm.lss_t h3, Cm.eql_t h5, trivial⟩, ⟨⟨h2, _, rfl, Cm.flat_row Cm.enSIII_len he4⟩, trivial⟩, ⟨Cm.flat_length Cm.enSIII_len _, trivial⟩, trivial, trivial⟩ trivial (T := ⟨[(2, .sym .i64 (.v 1)), (3, .int .i64 5)], [some (.rows 0 [] 79 true)], [some (0, 0)]⟩) (ce := .ret) (qs := [.num (.v 1) (.v 1), .lst 0 (some 0) []]) hF hr (by kernel_rfl) ⟨(Cm.r p1), ⟨[], rfl, (List.append_nil _).symm⟩, trivial⟩ (Cm.at_re (V' := (Cm.vals [(p0.length : Int), p1, p2, p3, p4, p5, v6, e4.1, e4.2.1, e4.2.2.1, e4.2.2.2] [(p0.flatMap Cm.enSIII)])) (T := ⟨[(0, .gs 0 0 (.v 0) 4 false), (4, .sym .i64 (.v 1)), (5, .ptr 1 0), (6, .sym .i64 (.v 6))], [some (.rows 0 [] 79 true), some (.cells [.ss (.v 2), .sym .i64 (.v 3), .sym .i64 (.v 4), .sym .i64 (.v 5)] 79 false)], [some (0, 0), some (1, 0)]⟩) (qs := [.num (.v 0) (.v 0), .num (.v 1) (.v 1), .num (.v 6) (.v 6), .lst 0 (some 0) [], .num (.v 2) (.v 2), .num (.v 3) (.v 3), .num (.v 4) (.v 4), .num (.v 5) (.v 5)]) hat (by kernel_rfl) ⟨rfl, rfl, rfl, ⟨[], rfl, (List.append_nil _).symm⟩, rfl, rfl, rfl, rfl, trivial⟩) fun a' w' hat' => hx0 () rfl a' w' hat'
          · rw [if_neg h5] at h
            refine Cm.to_done mixed ⟨[(.lss, (.v 6), (.v 1), true), (.leq, (.c 0), (.v 6), true), (.lss, (.v 6), (.v 0), true), (.eql, (.v 7), (.v 2), false)], [(0, 0, (.v 6), [.ss (.v 7), .sym .i64 (.v 8), .sym .i64 (.v 9), .sym .i64 (.v 10)])], [(0, 4, (.v 0))], [], [], []⟩ (V := (Cm.vals [(p0.length : Int), p1, p2, p3, p4, p5, v6, e4.1, e4.2.1, e4.2.2.1, e4.2.2.2] [(p0.flatMap Cm.enSIII)])) (n := 3000) (f := 3000) (V' := (Cm.vals [(p0.length : Int), p1, p2, p3, p4, p5, (IntKind.wrap .i64 (v6 + (1 : Int)))] [(p0.flatMap Cm.enSIII)])) ⟨⟨Cm.lss_t h1, Cm.leq_t h2, Cm.lss_t h3, Cm.eql_f h5, trivial⟩, ⟨⟨h2, _, rfl, Cm.flat_row Cm.enSIII_len he4⟩, trivial⟩, ⟨Cm.flat_length Cm.enSIII_len _, trivial⟩, trivial, trivial⟩ trivial (T := ⟨[(0, .gs 0 0 (.v 0) 4 false), (4, .sym .i64 (.v 1)), (5, .ptr 1 0), (6, .sym .i64 (.v 6))], [some (.rows 0 [] 79 true), some (.cells [.ss (.v 2), .sym .i64 (.v 3), .sym .i64 (.v 4), .sym .i64 (.v 5)] 79 false)], [some (0, 0), some (1, 0)]⟩) (ce := .normal) (qs := [.num (.v 0) (.v 0), .num (.v 1) (.v 1), .num (.add .i64 (.v 6) (.c 1)) (.v 6), .lst 0 (some 0) [], .num (.v 2) (.v 2), .num (.v 3) (.v 3), .num (.v 4) (.v 4), .num (.v 5) (.v 5)]) hF hr (by kernel_rfl) ⟨(Cm.r (p0.length : Int)), (Cm.r p1), (Cm.r (IntKind.wrap .i64 (v6 + (1 : Int)))), ⟨[], rfl, (List.append_nil _).symm⟩, (Cm.r p2), (Cm.r p3), (Cm.r p4), (Cm.r p5), trivial⟩ (Cm.at_re (V' := (Cm.vals [(p0.length : Int), p1, p2, p3, p4, p5, v6, e4.1, e4.2.1, e4.2.2.1, e4.2.2.2] [(p0.flatMap Cm.enSIII)])) (T := ⟨[(0, .gs 0 0 (.v 0) 4 false), (4, .sym .i64 (.v 1)), (5, .ptr 1 0), (6, .sym .i64 (.v 6))], [some (.rows 0 [] 79 true), some (.cells [.ss (.v 2), .sym .i64 (.v 3), .sym .i64 (.v 4), .sym .i64 (.v 5)] 79 false)], [some (0, 0), some (1, 0)]⟩) (qs := [.num (.v 0) (.v 0), .num (.v 1) (.v 1), .num (.v 6) (.v 6), .lst 0 (some 0) [], .num (.v 2) (.v 2), .num (.v 3) (.v 3), .num (.v 4) (.v 4), .num (.v 5) (.v 5)]) hat (by kernel_rfl) ⟨rfl, rfl, rfl, ⟨[], rfl, (List.append_nil _).symm⟩, rfl, rfl, rfl, rfl, trivial⟩) fun a' w' hat' => ?_
            exact r7_CheckStreams_L1_ok fu p0 p1 p2 p3 p4 p5 n (IntKind.wrap .i64 (v6 + (1 : Int))) o h _ _ _ _ _ _ _ hF hr hat' hx0 hx1
        · rw [if_neg h3] at h
          cases h
      · rw [if_neg h2] at h
        cases h
    · rw [if_neg h1] at h
      injection h with h; subst h
      exact Cm.to_done mixed ⟨[(.lss, (.v 6), (.v 1), false)], [], [(0, 4, (.v 0))], [], [], []⟩ (V := (Cm.vals [(p0.length : Int), p1, p2, p3, p4, p5, v6] [(p0.flatMap Cm.enSIII)])) (n := 3000) (f := 3000) (V' := (Cm.vals [(p0.length : Int), p1, p2, p3, p4, p5] [(p0.flatMap Cm.enSIII)])) ⟨⟨Cm.lss_f h1, trivial⟩, trivial, ⟨Cm.flat_length Cm.enSIII_len _, trivial⟩, trivial, trivial⟩ trivial (T := ⟨[(0, .gs 0 0 (.v 0) 4 false), (4, .sym .i64 (.v 1)), (5, .ptr 1 0)], [some (.rows 0 [] 79 true), some (.cells [.ss (.v 2), .sym .i64 (.v 3), .sym .i64 (.v 4), .sym .i64 (.v 5)] 79 false)], [some (0, 0), some (1, 0)]⟩) (ce := (.exit 2)) (qs := [.num (.v 0) (.v 0), .num (.v 1) (.v 1), .lst 0 (some 0) [], .num (.v 2) (.v 2), .num (.v 3) (.v 3), .num (.v 4) (.v 4), .num (.v 5) (.v 5)]) hF hr (by kernel_rfl) ⟨(Cm.r (p0.length : Int)), (Cm.r p1), ⟨[], rfl, (List.append_nil _).symm⟩, (Cm.r p2), (Cm.r p3), (Cm.r p4), (Cm.r p5), trivial⟩ hat fun a' w' hat' => hx1 () rfl a' w' hat'

def b_Within (a0 : Int) (a1 : Int) (a2 : Int) : Option (Bool) := if a1 ≤ a0 then (if a0 ≤ a2 then (some true) else (some false)) else (some false)

theorem b_Within_ok (a0 : Int) (a1 : Int) (a2 : Int) (y : Bool) (h : b_Within a0 a1 a2 = some y) : Cm.CallOk Tryz.prog 21 (Cm.vals [a0, a1, a2] []) [.sym .i64 (.v 0), .sym .i64 (.v 1), .sym .i64 (.v 2)] [] 0 (Cm.vals [Cm.bI y] []) (.bs (.v 0)) [] := by
  refine Cm.fun_of (nt := 15) (by kernel_rfl) (by kernel_rfl) fun φ0 w0 a w hat => ?_
  have hF := Cm.wide_fw
  have hr : Fence.wide.round = none := rfl
  unfold b_Within at h
  by_cases h1 : a1 ≤ a0
  · rw [if_pos h1] at h
    by_cases h2 : a0 ≤ a2
    · rw [if_pos h2] at h
      injection h with h; subst h
      exact Cm.to_fin mixed ⟨[(.leq, (.v 1), (.v 0), true), (.leq, (.v 0), (.v 2), true)], [], [], [], [], []⟩ (V := (Cm.vals [a0, a1, a2] [])) (n := 3000) (f := 3000) ⟨⟨Cm.leq_t h1, Cm.leq_t h2, trivial⟩, trivial, trivial, trivial, trivial⟩ trivial (R := ⟨.bs (.v 0), [], []⟩) (qs := [.num (.c 1) (.v 0)]) hF hr (by kernel_rfl) ⟨rfl, trivial⟩ hat
    · rw [if_neg h2] at h
      injection h with h; subst h
      exact Cm.to_fin mixed ⟨[(.leq, (.v 1), (.v 0), true), (.leq, (.v 0), (.v 2), false)], [], [], [], [], []⟩ (V := (Cm.vals [a0, a1, a2] [])) (n := 3000) (f := 3000) ⟨⟨Cm.leq_t h1, Cm.leq_f h2, trivial⟩, trivial, trivial, trivial, trivial⟩ trivial (R := ⟨.bs (.v 0), [], []⟩) (qs := [.num (.c 0) (.v 0)]) hF hr (by kernel_rfl) ⟨rfl, trivial⟩ hat
  · rw [if_neg h1] at h
    injection h with h; subst h
    exact Cm.to_fin mixed ⟨[(.leq, (.v 1), (.v 0), false)], [], [], [], [], []⟩ (V := (Cm.vals [a0, a1, a2] [])) (n := 3000) (f := 3000) ⟨⟨Cm.leq_f h1, trivial⟩, trivial, trivial, trivial, trivial⟩ trivial (R := ⟨.bs (.v 0), [], []⟩) (qs := [.num (.c 0) (.v 0)]) hF hr (by kernel_rfl) ⟨rfl, trivial⟩ hat

def r7_CheckStreams_L2 (fu : Nat) (p0 : List (Int × Int × Int × Int)) : Nat → Int → Option ((Int × Int) ⊕ (Unit))
  | 0, _ => none
  | n + 1, v1 => if v1 < (p0.length : Int) then (if (0 : Int) ≤ v1 then (Option.bind ((p0)[0 + (v1).toNat]?) fun e3 => Option.bind (b_IsName fu e3.1) fun r4 => if r4 = true then (Option.bind (r7_CheckStreams_L1 fu p0 v1 e3.1 e3.2.1 e3.2.2.1 e3.2.2.2 fu (0 : Int)) fun o6 => (match o6 with | .inl y7 => (some (.inl (v1, (5 : Int)))) | .inr y8 => (Option.bind (b_Within e3.2.1 (1 : Int) (60 : Int)) fun r9 => if r9 = true then (Option.bind (b_Within e3.2.2.1 (1 : Int) e3.2.1) fun r11 => if r11 = true then (Option.bind (b_Within e3.2.2.2 (1 : Int) (20 : Int)) fun r13 => if r13 = true then (r7_CheckStreams_L2 fu p0 n (IntKind.wrap .i64 (v1 + (1 : Int)))) else (some (.inl (v1, (2 : Int))))) else (some (.inl (v1, (2 : Int))))) else (some (.inl (v1, (2 : Int))))))) else (some (.inl (v1, (4 : Int))))) else none) else (some (.inr ()))

theorem r7_CheckStreams_L2_ok (fu : Nat) (p0 : List (Int × Int × Int × Int)) : ∀ (n : Nat) (v1 : Int) (o : (Int × Int) ⊕ (Unit)), r7_CheckStreams_L2 fu p0 n v1 = some o → ∀ (φ0 : Cm.Phi) (w0 : World) (F : Fence) (k : Nat) (R : Exit → Act → World → Prop) (a : Act) (w : World), Cm.FW F → F.round = none → Cm.AtS (Cm.vals [(p0.length : Int), v1] [(p0.flatMap Cm.enSIII)]) [(0, .gs 0 0 (.v 0) 4 false), (4, .sym .i64 (.v 1))] [some (.rows 0 [] 79 true)] 61 1 1 φ0 w0 a w → (∀ (y : Int × Int), o = .inl y → ∀ a' w', Cm.AtS (Cm.vals [(p0.length : Int), y.1, y.2] [(p0.flatMap Cm.enSIII)]) [(2, .sym .i64 (.v 1)), (3, .sym .i64 (.v 2))] [some (.rows 0 [] 79 true)] 61 1 1 φ0 w0 a' w' → R Exit.ret a' w') → (∀ (y : Unit), o = .inr y → ∀ a' w', Cm.AtS (Cm.vals [(p0.length : Int)] [(p0.flatMap Cm.enSIII)]) [] [some (.rows 0 [] 79 true)] 61 1 1 φ0 w0 a' w' → R (Exit.exit 0) a' w') → Code.roundsIn F k Tryz.prog (Cm.subAt (Cm.bodyOf Tryz.prog 43) [1, 1, 1, 0, 1, 0, 0]) R n a w
  | 0, _, _, h => by cases h
  | n + 1, v1, o, h => by
    intro φ0 w0 F k R a w hF hr hat hx0 hx1
    rw [r7_CheckStreams_L2] at h
    refine Cm.rounds_in (p := [1, 1, 1, 0, 1, 0, 0]) ?_
    by_cases h1 : v1 < (p0.length : Int)
    · rw [if_pos h1] at h
      by_cases h2 : (0 : Int) ≤ v1
      · rw [if_pos h2] at h
        obtain ⟨e3, he3, h⟩ := Option.bind_eq_some_iff.1 h
        obtain ⟨r4, hr4, h⟩ := Option.bind_eq_some_iff.1 h
        have Kr4 : ∀ N M, ∃ v v' q, Cm.KE.ok Tryz.prog (Cm.vals ([(p0.length : Int), v1, e3.1, e3.2.1, e3.2.2.1, e3.2.2.2, Cm.bI r4] ++ N) ([(p0.flatMap Cm.enSIII)] ++ M)) xb_k17 v v' q := fun N M => ⟨_, _, [.num (.v 0) (.v 6)], ⟨b_IsName_ok fu e3.1 r4 hr4, ⟨(Cm.r e3.1), trivial⟩, by kernel_rfl, ⟨rfl, trivial⟩⟩⟩
        by_cases h5 : r4 = true
        · rw [if_pos h5] at h
          obtain ⟨o6, ho6, h⟩ := Option.bind_eq_some_iff.1 h
          refine Cm.to_loop mixed ⟨[(.lss, (.v 1), (.v 0), true), (.leq, (.c 0), (.v 1), true), (.neq, (.v 6), (.c 0), true)], [(0, 0, (.v 1), [.ss (.v 2), .sym .i64 (.v 3), .sym .i64 (.v 4), .sym .i64 (.v 5)])], [(0, 4, (.v 0))], [xb_k17], [], []⟩ (V := (Cm.vals [(p0.length : Int), v1, e3.1, e3.2.1, e3.2.2.1, e3.2.2.2, Cm.bI r4] [(p0.flatMap Cm.enSIII)])) (n := 3000) (f := 3000) (V' := (Cm.vals [(p0.length : Int), v1, e3.1, e3.2.1, e3.2.2.1, e3.2.2.2, (0 : Int)] [(p0.flatMap Cm.enSIII)])) ⟨⟨Cm.lss_t h1, Cm.leq_t h2, Cm.bi_t h5, trivial⟩, ⟨⟨h2, _, rfl, Cm.flat_row Cm.enSIII_len he3⟩, trivial⟩, ⟨Cm.flat_length Cm.enSIII_len _, trivial⟩, trivial, trivial⟩ ⟨Kr4 _ _, trivial⟩ (T := ⟨[(0, .gs 0 0 (.v 0) 4 false), (4, .sym .i64 (.v 1)), (5, .ptr 1 0), (6, .sym .i64 (.v 6))], [some (.rows 0 [] 79 true), some (.cells [.ss (.v 2), .sym .i64 (.v 3), .sym .i64 (.v 4), .sym .i64 (.v 5)] 79 false)], [some (0, 0), some (1, 0)]⟩) (B := Cm.subAt (Cm.bodyOf Tryz.prog 43) [1, 1, 1, 0, 1, 0, 0, 1, 0, 0, 1, 1, 0, 1, 0, 0]) (K' := [.bk 2, .sq (Cm.subAt (Cm.bodyOf Tryz.prog 43) [1, 1, 1, 0, 1, 0, 0, 1, 0, 0, 1, 1, 1]) [1, 1, 1, 0, 1, 0, 0, 1, 0, 0, 1, 1, 1], .bk 1, .sq (Cm.subAt (Cm.bodyOf Tryz.prog 43) [1, 1, 1, 0, 1, 0, 0, 1, 1]) [1, 1, 1, 0, 1, 0, 0, 1, 1]]) (qs := [.num (.v 0) (.v 0), .num (.v 1) (.v 1), .num (.c 0) (.v 6), .lst 0 (some 0) [], .num (.v 2) (.v 2), .num (.v 3) (.v 3), .num (.v 4) (.v 4), .num (.v 5) (.v 5)]) hF hr (by kernel_rfl) ⟨(Cm.r (p0.length : Int)), (Cm.r v1), (Cm.r (0 : Int)), ⟨[], rfl, (List.append_nil _).symm⟩, (Cm.r e3.1), (Cm.r e3.2.1), (Cm.r e3.2.2.1), (Cm.r e3.2.2.2), trivial⟩ (Cm.at_re (V' := (Cm.vals [(p0.length : Int), v1, e3.1, e3.2.1, e3.2.2.1, e3.2.2.2, Cm.bI r4] [(p0.flatMap Cm.enSIII)])) (T := ⟨[(0, .gs 0 0 (.v 0) 4 false), (4, .sym .i64 (.v 1))], [some (.rows 0 [] 79 true)], [some (0, 0)]⟩) (qs := [.num (.v 0) (.v 0), .num (.v 1) (.v 1), .lst 0 (some 0) []]) hat (by kernel_rfl) ⟨rfl, rfl, ⟨[], rfl, (List.append_nil _).symm⟩, trivial⟩) fun aa1 ww1 hat1 => Cm.loop_in (r7_CheckStreams_L1_ok fu p0 v1 e3.1 e3.2.1 e3.2.2.1 e3.2.2.2 fu (0 : Int) o6 ho6 _ _ _ _ _ _ _ hF hr hat1 ?_ ?_)
          · intro y7 hy aa2 ww2 hat
            subst hy
            dsimp only at h
            show (Cm.Wk.out .ret).goal _ _ _ [.bk 2, .sq (Cm.subAt (Cm.bodyOf Tryz.prog 43) [1, 1, 1, 0, 1, 0, 0, 1, 0, 0, 1, 1, 1]) [1, 1, 1, 0, 1, 0, 0, 1, 0, 0, 1, 1, 1], .bk 1, .sq (Cm.subAt (Cm.bodyOf Tryz.prog 43) [1, 1, 1, 0, 1, 0, 0, 1, 1]) [1, 1, 1, 0, 1, 0, 0, 1, 1]] _ aa2 ww2
            injection h with h; subst h
            exact Cm.to_done mixed ⟨[], [], [(0, 4, (.v 0))], [], [], []⟩ (V := (Cm.vals [(p0.length : Int), v1] [(p0.flatMap Cm.enSIII)])) (n := 3000) (f := 3000) (V' := (Cm.vals [(p0.length : Int), v1, (5 : Int)] [(p0.flatMap Cm.enSIII)])) ⟨trivial, trivial, ⟨Cm.flat_length Cm.enSIII_len _, trivial⟩, trivial, trivial⟩ trivial (T := ⟨[(2, .sym .i64 (.v 1)), (3, .sym .i64 (.v 2))], [some (.rows 0 [] 79 true)], [some (0, 0)]⟩) (ce := .ret) (qs := [.num (.v 1) (.v 1), .num (.c 5) (.v 2), .lst 0 (some 0) []]) hF hr (by kernel_rfl) ⟨(Cm.r v1), (Cm.r (5 : Int)), ⟨[], rfl, (List.append_nil _).symm⟩, trivial⟩ hat fun a' w' hat' => hx0 (v1, (5 : Int)) rfl a' w' hat'
          · intro y8 hy aa2 ww2 hat
            subst hy
            dsimp only at h
            show (Cm.Wk.out (.exit 2)).goal _ _ _ [.bk 2, .sq (Cm.subAt (Cm.bodyOf Tryz.prog 43) [1, 1, 1, 0, 1, 0, 0, 1, 0, 0, 1, 1, 1]) [1, 1, 1, 0, 1, 0, 0, 1, 0, 0, 1, 1, 1], .bk 1, .sq (Cm.subAt (Cm.bodyOf Tryz.prog 43) [1, 1, 1, 0, 1, 0, 0, 1, 1]) [1, 1, 1, 0, 1, 0, 0, 1, 1]] _ aa2 ww2
            obtain ⟨r9, hr9, h⟩ := Option.bind_eq_some_iff.1 h
            have Kr9 : ∀ N M, ∃ v v' q, Cm.KE.ok Tryz.prog (Cm.vals ([(p0.length : Int), v1, e3.1, e3.2.1, e3.2.2.1, e3.2.2.2, Cm.bI r9] ++ N) ([(p0.flatMap Cm.enSIII)] ++ M)) xb_k18 v v' q := fun N M => ⟨_, _, [.num (.v 0) (.v 6)], ⟨b_Within_ok e3.2.1 (1 : Int) (60 : Int) r9 hr9, ⟨(Cm.r e3.2.1), (Cm.r (1 : Int)), (Cm.r (60 : Int)), trivial⟩, by kernel_rfl, ⟨rfl, trivial⟩⟩⟩
            by_cases h10 : r9 = true
            · rw [if_pos h10] at h
              obtain ⟨r11, hr11, h⟩ := Option.bind_eq_some_iff.1 h
              have Kr11 : ∀ N M, ∃ v v' q, Cm.KE.ok Tryz.prog (Cm.vals ([(p0.length : Int), v1, e3.1, e3.2.1, e3.2.2.1, e3.2.2.2, Cm.bI r9, Cm.bI r11] ++ N) ([(p0.flatMap Cm.enSIII)] ++ M)) xb_k19 v v' q := fun N M => ⟨_, _, [.num (.v 0) (.v 7)], ⟨b_Within_ok e3.2.2.1 (1 : Int) e3.2.1 r11 hr11, ⟨(Cm.r e3.2.2.1), (Cm.r (1 : Int)), (Cm.r e3.2.1), trivial⟩, by kernel_rfl, ⟨rfl, trivial⟩⟩⟩
              by_cases h12 : r11 = true
              · rw [if_pos h12] at h
                obtain ⟨r13, hr13, h⟩ := Option.bind_eq_some_iff.1 h
                have Kr13 : ∀ N M, ∃ v v' q, Cm.KE.ok Tryz.prog (Cm.vals ([(p0.length : Int), v1, e3.1, e3.2.1, e3.2.2.1, e3.2.2.2, Cm.bI r9, Cm.bI r11, Cm.bI r13] ++ N) ([(p0.flatMap Cm.enSIII)] ++ M)) xb_k20 v v' q := fun N M => ⟨_, _, [.num (.v 0) (.v 8)], ⟨b_Within_ok e3.2.2.2 (1 : Int) (20 : Int) r13 hr13, ⟨(Cm.r e3.2.2.2), (Cm.r (1 : Int)), (Cm.r (20 : Int)), trivial⟩, by kernel_rfl, ⟨rfl, trivial⟩⟩⟩
                by_cases h14 : r13 = true
                · rw [if_pos h14] at h
                  refine Cm.to_done mixed ⟨[(.neq, (.v 6), (.c 0), true), (.neq, (.v 7), (.c 0), true), (.neq, (.v 8), (.c 0), true)], [], [(0, 4, (.v 0))], [xb_k18, xb_k19, xb_k20], [], []⟩ (V := (Cm.vals [(p0.length : Int), v1, e3.1, e3.2.1, e3.2.2.1, e3.2.2.2, Cm.bI r9, Cm.bI r11, Cm.bI r13] [(p0.flatMap Cm.enSIII)])) (n := 3000) (f := 3000) (V' := (Cm.vals [(p0.length : Int), (IntKind.wrap .i64 (v1 + (1 : Int)))] [(p0.flatMap Cm.enSIII)])) ⟨⟨Cm.bi_t h10, Cm.bi_t h12, Cm.bi_t h14, trivial⟩, trivial, ⟨Cm.flat_length Cm.enSIII_len _, trivial⟩, trivial, trivial⟩ ⟨Kr9 _ _, Kr11 _ _, Kr13 _ _, trivial⟩ (T := ⟨[(0, .gs 0 0 (.v 0) 4 false), (4, .sym .i64 (.v 1))], [some (.rows 0 [] 79 true)], [some (0, 0)]⟩) (ce := .normal) (qs := [.num (.v 0) (.v 0), .num (.add .i64 (.v 1) (.c 1)) (.v 1), .lst 0 (some 0) []]) hF hr (by kernel_rfl) ⟨(Cm.r (p0.length : Int)), (Cm.r (IntKind.wrap .i64 (v1 + (1 : Int)))), ⟨[], rfl, (List.append_nil _).symm⟩, trivial⟩ (Cm.at_re (V' := (Cm.vals [(p0.length : Int), v1, e3.1, e3.2.1, e3.2.2.1, e3.2.2.2, Cm.bI r9, Cm.bI r11, Cm.bI r13] [(p0.flatMap Cm.enSIII)])) (T := ⟨[(0, .gs 0 0 (.v 0) 4 false), (4, .sym .i64 (.v 1)), (5, .ptr 1 0)], [some (.rows 0 [] 79 true), some (.cells [.ss (.v 2), .sym .i64 (.v 3), .sym .i64 (.v 4), .sym .i64 (.v 5)] 79 false)], [some (0, 0), some (1, 0)]⟩) (qs := [.num (.v 0) (.v 0), .num (.v 1) (.v 1), .lst 0 (some 0) [], .num (.v 2) (.v 2), .num (.v 3) (.v 3), .num (.v 4) (.v 4), .num (.v 5) (.v 5)]) hat (by kernel_rfl) ⟨rfl, rfl, ⟨[], rfl, (List.append_nil _).symm⟩, rfl, rfl, rfl, rfl, trivial⟩) fun a' w' hat' => ?_
                  exact r7_CheckStreams_L2_ok fu p0 n (IntKind.wrap .i64 (v1 + (1 : Int))) o h _ _ _ _ _ _ _ hF hr hat' hx0 hx1
                · rw [if_neg h14] at h
                  injection h with h; subst h
                  exact Cm.to_done mixed ⟨[(.neq, (.v 6), (.c 0), true), (.neq, (.v 7), (.c 0), true), (.neq, (.v 8), (.c 0), false)], [], [(0, 4, (.v 0))], [xb_k18, xb_k19, xb_k20], [], []⟩ (V := (Cm.vals [(p0.length : Int), v1, e3.1, e3.2.1, e3.2.2.1, e3.2.2.2, Cm.bI r9, Cm.bI r11, Cm.bI r13] [(p0.flatMap Cm.enSIII)])) (n := 3000) (f := 3000) (V' := (Cm.vals [(p0.length : Int), v1, (2 : Int)] [(p0.flatMap Cm.enSIII)])) ⟨⟨Cm.bi_t h10, Cm.bi_t h12, Cm.bi_f h14, trivial⟩, trivial, ⟨Cm.flat_length Cm.enSIII_len _, trivial⟩, trivial, trivial⟩ ⟨Kr9 _ _, Kr11 _ _, Kr13 _ _, trivial⟩ (T := ⟨[(2, .sym .i64 (.v 1)), (3, .sym .i64 (.v 2))], [some (.rows 0 [] 79 true)], [some (0, 0)]⟩) (ce := .ret) (qs := [.num (.v 1) (.v 1), .num (.c 2) (.v 2), .lst 0 (some 0) []]) hF hr (by kernel_rfl) ⟨(Cm.r v1), (Cm.r (2 : Int)), ⟨[], rfl, (List.append_nil _).symm⟩, trivial⟩ (Cm.at_re (V' := (Cm.vals [(p0.length : Int), v1, e3.1, e3.2.1, e3.2.2.1, e3.2.2.2, Cm.bI r9, Cm.bI r11, Cm.bI r13] [(p0.flatMap Cm.enSIII)])) (T := ⟨[(0, .gs 0 0 (.v 0) 4 false), (4, .sym .i64 (.v 1)), (5, .ptr 1 0)], [some (.rows 0 [] 79 true), some (.cells [.ss (.v 2), .sym .i64 (.v 3), .sym .i64 (.v 4), .sym .i64 (.v 5)] 79 false)], [some (0, 0), some (1, 0)]⟩) (qs := [.num (.v 0) (.v 0), .num (.v 1) (.v 1), .lst 0 (some 0) [], .num (.v 2) (.v 2), .num (.v 3) (.v 3), .num (.v 4) (.v 4), .num (.v 5) (.v 5)]) hat (by kernel_rfl) ⟨rfl, rfl, ⟨[], rfl, (List.append_nil _).symm⟩, rfl, rfl, rfl, rfl, trivial⟩) fun a' w' hat' => hx0 (v1, (2 : Int)) rfl a' w' hat'
              · rw [if_neg h12] at h
                injection h with h; subst h
                exact Cm.to_done mixed ⟨[(.neq, (.v 6), (.c 0), true), (.neq, (.v 7), (.c 0), false)], [], [(0, 4, (.v 0))], [xb_k18, xb_k19], [], []⟩ (V := (Cm.vals [(p0.length : Int), v1, e3.1, e3.2.1, e3.2.2.1, e3.2.2.2, Cm.bI r9, Cm.bI r11] [(p0.flatMap Cm.enSIII)])) (n := 3000) (f := 3000) (V' := (Cm.vals [(p0.length : Int), v1, (2 : Int)] [(p0.flatMap Cm.enSIII)])) ⟨⟨Cm.bi_t h10, Cm.bi_f h12, trivial⟩, trivial, ⟨Cm.flat_length Cm.enSIII_len _, trivial⟩, trivial, trivial⟩ ⟨Kr9 _ _, Kr11 _ _, trivial⟩ (T := ⟨[(2, .sym .i64 (.v 1)), (3, .sym .i64 (.v 2))], [some (.rows 0 [] 79 true)], [some (0, 0)]⟩) (ce := .ret) (qs := [.num (.v 1) (.v 1), .num (.c 2) (.v 2), .lst 0 (some 0) []]) hF hr (by kernel_rfl) ⟨(Cm.r v1), (Cm.r (2 : Int)), ⟨[], rfl, (List.append_nil _).symm⟩, trivial⟩ (Cm.at_re (V' := (Cm.vals [(p0.length : Int), v1, e3.1, e3.2.1, e3.2.2.1, e3.2.2.2, Cm.bI r9, Cm.bI r11] [(p0.flatMap Cm.enSIII)])) (T := ⟨[(0, .gs 0 0 (.v 0) 4 false), (4, .sym .i64 (.v 1)), (5, .ptr 1 0)], [some (.rows 0 [] 79 true), some (.cells [.ss (.v 2), .sym .i64 (.v 3), .sym .i64 (.v 4), .sym .i64 (.v 5)] 79 false)], [some (0, 0), some (1, 0)]⟩) (qs := [.num (.v 0) (.v 0), .num (.v 1) (.v 1), .lst 0 (some 0) [], .num (.v 2) (.v 2), .num (.v 3) (.v 3), .num (.v 4) (.v 4), .num (.v 5) (.v 5)]) hat (by kernel_rfl) ⟨rfl, rfl, ⟨[], rfl, (List.append_nil _).symm⟩, rfl, rfl, rfl, rfl, trivial⟩) fun a' w' hat' => hx0 (v1, (2 : Int)) rfl a' w' hat'
            · rw [if_neg h10] at h
              injection h with h; subst h
              exact Cm.to_done mixed ⟨[(.neq, (.v 6), (.c 0), false)], [], [(0, 4, (.v 0))], [xb_k18], [], []⟩ (V := (Cm.vals [(p0.length : Int), v1, e3.1, e3.2.1, e3.2.2.1, e3.2.2.2, Cm.bI r9] [(p0.flatMap Cm.enSIII)])) (n := 3000) (f := 3000) (V' := (Cm.vals [(p0.length : Int), v1, (2 : Int)] [(p0.flatMap Cm.enSIII)])) ⟨⟨Cm.bi_f h10, trivial⟩, trivial, ⟨Cm.flat_length Cm.enSIII_len _, trivial⟩, trivial, trivial⟩ ⟨Kr9 _ _, trivial⟩ (T := ⟨[(2, .sym .i64 (.v 1)), (3, .sym .i64 (.v 2))], [some (.rows 0 [] 79 true)], [some (0, 0)]⟩) (ce := .ret) (qs := [.num (.v 1) (.v 1), .num (.c 2) (.v 2), .lst 0 (some 0) []]) hF hr (by kernel_rfl) ⟨(Cm.r v1), (Cm.r (2 : Int)), ⟨[], rfl, (List.append_nil _).symm⟩, trivial⟩ (Cm.at_re (V' := (Cm.vals [(p0.length : Int), v1, e3.1, e3.2.1, e3.2.2.1, e3.2.2.2, Cm.bI r9] [(p0.flatMap Cm.enSIII)])) (T := ⟨[(0, .gs 0 0 (.v 0) 4 false), (4, .sym .i64 (.v 1)), (5, .ptr 1 0)], [some (.rows 0 [] 79 true), some (.cells [.ss (.v 2), .sym .i64 (.v 3), .sym .i64 (.v 4), .sym .i64 (.v 5)] 79 false)], [some (0, 0), some (1, 0)]⟩) (qs := [.num (.v 0) (.v 0), .num (.v 1) (.v 1), .lst 0 (some 0) [], .num (.v 2) (.v 2), .num (.v 3) (.v 3), .num (.v 4) (.v 4), .num (.v 5) (.v 5)]) hat (by kernel_rfl) ⟨rfl, rfl, ⟨[], rfl, (List.append_nil _).symm⟩, rfl, rfl, rfl, rfl, trivial⟩) fun a' w' hat' => hx0 (v1, (2 : Int)) rfl a' w' hat'
        · rw [if_neg h5] at h
          injection h with h; subst h
          exact Cm.to_done mixed ⟨[(.lss, (.v 1), (.v 0), true), (.leq, (.c 0), (.v 1), true), (.neq, (.v 6), (.c 0), false)], [(0, 0, (.v 1), [.ss (.v 2), .sym .i64 (.v 3), .sym .i64 (.v 4), .sym .i64 (.v 5)])], [(0, 4, (.v 0))], [xb_k17], [], []⟩ (V := (Cm.vals [(p0.length : Int), v1, e3.1, e3.2.1, e3.2.2.1, e3.2.2.2, Cm.bI r4] [(p0.flatMap Cm.enSIII)])) (n := 3000) (f := 3000) (V' := (Cm.vals [(p0.length : Int), v1, (4 : Int)] [(p0.flatMap Cm.enSIII)])) ⟨⟨Cm.lss_t h1, Cm.leq_t h2, Cm.bi_f h5, trivial⟩, ⟨⟨h2, _, rfl, Cm.flat_row Cm.enSIII_len he3⟩, trivial⟩, ⟨Cm.flat_length Cm.enSIII_len _, trivial⟩, trivial, trivial⟩ ⟨Kr4 _ _, trivial⟩ (T := ⟨[(2, .sym .i64 (.v 1)), (3, .sym .i64 (.v 2))], [some (.rows 0 [] 79 true)], [some (0, 0)]⟩) (ce := .ret) (qs := [.num (.v 1) (.v 1), .num (.c 4) (.v 2), .lst 0 (some 0) []]) hF hr (by kernel_rfl) ⟨(Cm.r v1), (Cm.r (4 : Int)), ⟨[], rfl, (List.append_nil _).symm⟩, trivial⟩ (Cm.at_re (V' := (Cm.vals [(p0.length : Int), v1, e3.1, e3.2.1, e3.2.2.1, e3.2.2.2, Cm.bI r4] [(p0.flatMap Cm.enSIII)])) (T := ⟨[(0, .gs 0 0 (.v 0) 4 false), (4, .sym .i64 (.v 1))], [some (.rows 0 [] 79 true)], [some (0, 0)]⟩) (qs := [.num (.v 0) (.v 0), .num (.v 1) (.v 1), .lst 0 (some 0) []]) hat (by kernel_rfl) ⟨rfl, rfl, ⟨[], rfl, (List.append_nil _).symm⟩, trivial⟩) fun a' w' hat' => hx0 (v1, (4 : Int)) rfl a' w' hat'
      · rw [if_neg h2] at h
        cases h
    · rw [if_neg h1] at h
      injection h with h; subst h
      exact Cm.to_done mixed ⟨[(.lss, (.v 1), (.v 0), false)], [], [(0, 4, (.v 0))], [], [], []⟩ (V := (Cm.vals [(p0.length : Int), v1] [(p0.flatMap Cm.enSIII)])) (n := 3000) (f := 3000) (V' := (Cm.vals [(p0.length : Int)] [(p0.flatMap Cm.enSIII)])) ⟨⟨Cm.lss_f h1, trivial⟩, trivial, ⟨Cm.flat_length Cm.enSIII_len _, trivial⟩, trivial, trivial⟩ trivial (T := ⟨[], [some (.rows 0 [] 79 true)], [some (0, 0)]⟩) (ce := (.exit 0)) (qs := [.lst 0 (some 0) []]) hF hr (by kernel_rfl) ⟨⟨[], rfl, (List.append_nil _).symm⟩, trivial⟩ hat fun a' w' hat' => hx1 () rfl a' w' hat'

def r7_CheckStreams (fu : Nat) (a0 : List (Int × Int × Int × Int)) : Option (Int × Int) := if (a0.length : Int) = (0 : Int) then (some ((0 : Int), (10 : Int))) else (if (6 : Int) < (a0.length : Int) then (some ((0 : Int), (8 : Int))) else (Option.bind (r7_CheckStreams_L2 fu a0 fu (0 : Int)) fun o3 => (match o3 with | .inl y4 => (some (y4.1, y4.2)) | .inr y5 => (some ((0 : Int), (0 : Int))))))

theorem r7_CheckStreams_ok (fu : Nat) (a0 : List (Int × Int × Int × Int)) (y : Int × Int) (h : r7_CheckStreams fu a0 = some y) : Cm.CallOk Tryz.prog 43 (Cm.vals [(a0.length : Int)] [(a0.flatMap Cm.enSIII)]) [.gs 0 0 (.v 0) 4 false] [some (.rows 0 [] 79 true)] 1 (Cm.vals [y.1, y.2] []) (.tup [.sym .i64 (.v 0), .sym .i64 (.v 1)]) [none] := by
  refine Cm.fun_of (nt := 61) (by kernel_rfl) (by kernel_rfl) fun φ0 w0 a w hat => ?_
  have hF := Cm.wide_fw
  have hr : Fence.wide.round = none := rfl
  unfold r7_CheckStreams at h
  by_cases h1 : (a0.length : Int) = (0 : Int)
  · rw [if_pos h1] at h
    injection h with h; subst h
    exact Cm.to_fin mixed ⟨[(.eql, (.v 0), (.c 0), true)], [], [(0, 4, (.v 0))], [], [], []⟩ (V := (Cm.vals [(a0.length : Int)] [(a0.flatMap Cm.enSIII)])) (n := 3000) (f := 3000) ⟨⟨Cm.eql_t h1, trivial⟩, trivial, ⟨Cm.flat_length Cm.enSIII_len _, trivial⟩, trivial, trivial⟩ trivial (R := ⟨.tup [.sym .i64 (.v 0), .sym .i64 (.v 1)], [none], [some (0, 0)]⟩) (qs := [.num (.c 0) (.v 0), .num (.c 10) (.v 1)]) hF hr (by kernel_rfl) ⟨(Cm.r (0 : Int)), (Cm.r (10 : Int)), trivial⟩ hat
  · rw [if_neg h1] at h
    by_cases h2 : (6 : Int) < (a0.length : Int)
    · rw [if_pos h2] at h
      injection h with h; subst h
      exact Cm.to_fin mixed ⟨[(.eql, (.v 0), (.c 0), false), (.gtr, (.v 0), (.c 6), true)], [], [(0, 4, (.v 0))], [], [], []⟩ (V := (Cm.vals [(a0.length : Int)] [(a0.flatMap Cm.enSIII)])) (n := 3000) (f := 3000) ⟨⟨Cm.eql_f h1, Cm.gtr_t h2, trivial⟩, trivial, ⟨Cm.flat_length Cm.enSIII_len _, trivial⟩, trivial, trivial⟩ trivial (R := ⟨.tup [.sym .i64 (.v 0), .sym .i64 (.v 1)], [none], [some (0, 0)]⟩) (qs := [.num (.c 0) (.v 0), .num (.c 8) (.v 1)]) hF hr (by kernel_rfl) ⟨(Cm.r (0 : Int)), (Cm.r (8 : Int)), trivial⟩ hat
    · rw [if_neg h2] at h
      obtain ⟨o3, ho3, h⟩ := Option.bind_eq_some_iff.1 h
      refine Cm.to_loop mixed ⟨[(.eql, (.v 0), (.c 0), false), (.gtr, (.v 0), (.c 6), false)], [], [(0, 4, (.v 0))], [], [], []⟩ (V := (Cm.vals [(a0.length : Int)] [(a0.flatMap Cm.enSIII)])) (n := 3000) (f := 3000) (V' := (Cm.vals [(a0.length : Int), (0 : Int)] [(a0.flatMap Cm.enSIII)])) ⟨⟨Cm.eql_f h1, Cm.gtr_f h2, trivial⟩, trivial, ⟨Cm.flat_length Cm.enSIII_len _, trivial⟩, trivial, trivial⟩ trivial (T := ⟨[(0, .gs 0 0 (.v 0) 4 false), (4, .sym .i64 (.v 1))], [some (.rows 0 [] 79 true)], [some (0, 0)]⟩) (B := Cm.subAt (Cm.bodyOf Tryz.prog 43) [1, 1, 1, 0, 1, 0, 0]) (K' := [.bk 0, .sq (Cm.subAt (Cm.bodyOf Tryz.prog 43) [1, 1, 1, 1]) [1, 1, 1, 1]]) (qs := [.num (.v 0) (.v 0), .num (.c 0) (.v 1), .lst 0 (some 0) []]) hF hr (by kernel_rfl) ⟨(Cm.r (a0.length : Int)), (Cm.r (0 : Int)), ⟨[], rfl, (List.append_nil _).symm⟩, trivial⟩ hat fun aa1 ww1 hat1 => Cm.loop_in (r7_CheckStreams_L2_ok fu a0 fu (0 : Int) o3 ho3 _ _ _ _ _ _ _ hF hr hat1 ?_ ?_)
      · intro y4 hy aa2 ww2 hat
        subst hy
        dsimp only at h
        show (Cm.Wk.out .ret).goal _ _ _ [.bk 0, .sq (Cm.subAt (Cm.bodyOf Tryz.prog 43) [1, 1, 1, 1]) [1, 1, 1, 1]] _ aa2 ww2
        injection h with h; subst h
        exact Cm.to_fin mixed ⟨[], [], [(0, 4, (.v 0))], [], [], []⟩ (V := (Cm.vals [(a0.length : Int), y4.1, y4.2] [(a0.flatMap Cm.enSIII)])) (n := 3000) (f := 3000) ⟨trivial, trivial, ⟨Cm.flat_length Cm.enSIII_len _, trivial⟩, trivial, trivial⟩ trivial (R := ⟨.tup [.sym .i64 (.v 0), .sym .i64 (.v 1)], [none], [some (0, 0)]⟩) (qs := [.num (.v 1) (.v 0), .num (.v 2) (.v 1)]) hF hr (by kernel_rfl) ⟨(Cm.r y4.1), (Cm.r y4.2), trivial⟩ hat
      · intro y5 hy aa2 ww2 hat
        subst hy
        dsimp only at h
        show (Cm.Wk.out (.exit 0)).goal _ _ _ [.bk 0, .sq (Cm.subAt (Cm.bodyOf Tryz.prog 43) [1, 1, 1, 1]) [1, 1, 1, 1]] _ aa2 ww2
        injection h with h; subst h
        exact Cm.to_fin mixed ⟨[], [], [(0, 4, (.v 0))], [], [], []⟩ (V := (Cm.vals [(a0.length : Int)] [(a0.flatMap Cm.enSIII)])) (n := 3000) (f := 3000) ⟨trivial, trivial, ⟨Cm.flat_length Cm.enSIII_len _, trivial⟩, trivial, trivial⟩ trivial (R := ⟨.tup [.sym .i64 (.v 0), .sym .i64 (.v 1)], [none], [some (0, 0)]⟩) (qs := [.num (.c 0) (.v 0), .num (.c 0) (.v 1)]) hF hr (by kernel_rfl) ⟨(Cm.r (0 : Int)), (Cm.r (0 : Int)), trivial⟩ hat

def r7_StreamsErr (fu : Nat) (a0 : List (Int × Int × Int × Int)) : Option (Int) := Option.bind (r7_CheckStreams fu a0) fun r1 => some r1.2

theorem r7_StreamsErr_ok (fu : Nat) (a0 : List (Int × Int × Int × Int)) (y : Int) (h : r7_StreamsErr fu a0 = some y) : Cm.CallOk Tryz.prog 20 (Cm.vals [(a0.length : Int)] [(a0.flatMap Cm.enSIII)]) [.gs 0 0 (.v 0) 4 false] [some (.rows 0 [] 79 true)] 1 (Cm.vals [y] []) (.sym .i64 (.v 0)) [none] := by
  refine Cm.fun_of (nt := 11) (by kernel_rfl) (by kernel_rfl) fun φ0 w0 a w hat => ?_
  have hF := Cm.wide_fw
  have hr : Fence.wide.round = none := rfl
  unfold r7_StreamsErr at h
  obtain ⟨r1, hr1, h⟩ := Option.bind_eq_some_iff.1 h
  have Kr1 : ∀ N M, ∃ v v' q, Cm.KE.ok Tryz.prog (Cm.vals ([(a0.length : Int), r1.1, r1.2] ++ N) ([(a0.flatMap Cm.enSIII)] ++ M)) ⟨43, 1, [some (0, 0)], [.gs 0 0 (.v 0) 4 false], [some (.rows 0 [] 79 true)], [.num (.v 0) (.v 0), .lst 0 (some 0) []], 1, .tup [.sym .i64 (.v 0), .sym .i64 (.v 1)], [none], .tup [.sym .i64 (.v 1), .sym .i64 (.v 2)], [], []⟩ v v' q := fun N M => ⟨_, _, [.num (.v 0) (.v 1), .num (.v 1) (.v 2)], ⟨r7_CheckStreams_ok fu a0 r1 hr1, ⟨(Cm.r (a0.length : Int)), ⟨[], rfl, (List.append_nil _).symm⟩, trivial⟩, by kernel_rfl, ⟨rfl, rfl, trivial⟩⟩⟩
  injection h with h; subst h
  exact Cm.to_fin mixed ⟨[], [], [(0, 4, (.v 0))], [⟨43, 1, [some (0, 0)], [.gs 0 0 (.v 0) 4 false], [some (.rows 0 [] 79 true)], [.num (.v 0) (.v 0), .lst 0 (some 0) []], 1, .tup [.sym .i64 (.v 0), .sym .i64 (.v 1)], [none], .tup [.sym .i64 (.v 1), .sym .i64 (.v 2)], [], []⟩], [], []⟩ (V := (Cm.vals [(a0.length : Int), r1.1, r1.2] [(a0.flatMap Cm.enSIII)])) (n := 3000) (f := 3000) ⟨trivial, trivial, ⟨Cm.flat_length Cm.enSIII_len _, trivial⟩, trivial, trivial⟩ ⟨Kr1 _ _, trivial⟩ (R := ⟨.sym .i64 (.v 0), [none], [some (0, 0)]⟩) (qs := [.num (.v 2) (.v 0)]) hF hr (by kernel_rfl) ⟨(Cm.r r1.2), trivial⟩ (Cm.at_re (V' := (Cm.vals [(a0.length : Int), r1.1, r1.2] [(a0.flatMap Cm.enSIII)])) (T := ⟨[(0, .gs 0 0 (.v 0) 4 false)], [some (.rows 0 [] 79 true)], [some (0, 0)]⟩) (qs := [.num (.v 0) (.v 0), .lst 0 (some 0) []]) hat (by kernel_rfl) ⟨rfl, ⟨[], rfl, (List.append_nil _).symm⟩, trivial⟩)

def b_Floor (a0 : Int) (a1 : Int) : Option (Int) := if a1 = (0 : Int) then none else (if (Int.tmod a0 a1) < (0 : Int) then (some (IntKind.wrap .i64 ((IntKind.wrap .i64 (Int.tdiv a0 a1)) - (1 : Int)))) else (some (IntKind.wrap .i64 (Int.tdiv a0 a1))))

theorem b_Floor_ok (a0 : Int) (a1 : Int) (y : Int) (h : b_Floor a0 a1 = some y) : Cm.CallOk Tryz.prog 44 (Cm.vals [a0, a1] []) [.sym .i64 (.v 0), .sym .i64 (.v 1)] [] 0 (Cm.vals [y] []) (.sym .i64 (.v 0)) [] := by
  refine Cm.fun_of (nt := 16) (by kernel_rfl) (by kernel_rfl) fun φ0 w0 a w hat => ?_
  have hF := Cm.wide_fw
  have hr : Fence.wide.round = none := rfl
  unfold b_Floor at h
  by_cases h1 : a1 = (0 : Int)
  · rw [if_pos h1] at h
    cases h
  · rw [if_neg h1] at h
    by_cases h2 : (Int.tmod a0 a1) < (0 : Int)
    · rw [if_pos h2] at h
      injection h with h; subst h
      exact Cm.to_fin mixed ⟨[(.eql, (.v 1), (.c 0), false), (.lss, (.rem .i64 (.v 0) (.v 1)), (.c 0), true)], [], [], [], [], []⟩ (V := (Cm.vals [a0, a1] [])) (n := 3000) (f := 3000) ⟨⟨Cm.eql_f h1, Cm.lss_t h2, trivial⟩, trivial, trivial, trivial, trivial⟩ trivial (R := ⟨.sym .i64 (.v 0), [], []⟩) (qs := [.num (.sub .i64 (.quo .i64 (.v 0) (.v 1)) (.c 1)) (.v 0)]) hF hr (by kernel_rfl) ⟨(show (IntKind.wrap .i64 ((IntKind.wrap .i64 (Int.tdiv a0 a1)) - (1 : Int))) = (IntKind.wrap .i64 ((IntKind.wrap .i64 (Int.tdiv a0 a1)) - (1 : Int))) from rfl), trivial⟩ hat
    · rw [if_neg h2] at h
      injection h with h; subst h
      exact Cm.to_fin mixed ⟨[(.eql, (.v 1), (.c 0), false), (.lss, (.rem .i64 (.v 0) (.v 1)), (.c 0), false)], [], [], [], [], []⟩ (V := (Cm.vals [a0, a1] [])) (n := 3000) (f := 3000) ⟨⟨Cm.eql_f h1, Cm.lss_f h2, trivial⟩, trivial, trivial, trivial, trivial⟩ trivial (R := ⟨.sym .i64 (.v 0), [], []⟩) (qs := [.num (.quo .i64 (.v 0) (.v 1)) (.v 0)]) hF hr (by kernel_rfl) ⟨(Cm.r (IntKind.wrap .i64 (Int.tdiv a0 a1))), trivial⟩ hat

def r7_Demand_L1 (fu : Nat) (p0 : List (Int × Int × Int × Int)) (p1 : Int) : Nat → Int → Int → Option ((Int))
  | 0, _, _ => none
  | n + 1, v2, v3 => if v3 < (p0.length : Int) then (if (0 : Int) ≤ v3 then (Option.bind ((p0)[0 + (v3).toNat]?) fun e3 => if e3.2.2.1 ≤ p1 then (Option.bind (b_Floor (IntKind.wrap .i64 (p1 - e3.2.2.1)) e3.2.1) fun r5 => r7_Demand_L1 fu p0 p1 n (IntKind.wrap .i64 (v2 + (IntKind.wrap .i64 (e3.2.2.2 * (IntKind.wrap .i64 ((1 : Int) + r5)))))) (IntKind.wrap .i64 (v3 + (1 : Int)))) else (r7_Demand_L1 fu p0 p1 n v2 (IntKind.wrap .i64 (v3 + (1 : Int))))) else none) else (some v2)

theorem r7_Demand_L1_ok (fu : Nat) (p0 : List (Int × Int × Int × Int)) (p1 : Int) : ∀ (n : Nat) (v2 : Int) (v3 : Int) (o : (Int)), r7_Demand_L1 fu p0 p1 n v2 v3 = some o → ∀ (φ0 : Cm.Phi) (w0 : World) (F : Fence) (k : Nat) (R : Exit → Act → World → Prop) (a : Act) (w : World), Cm.FW F → F.round = none → Cm.AtS (Cm.vals [(p0.length : Int), p1, v2, v3] [(p0.flatMap Cm.enSIII)]) [(0, .gs 0 0 (.v 0) 4 false), (1, .sym .i64 (.v 1)), (5, .sym .i64 (.v 2)), (6, .sym .i64 (.v 3))] [some (.rows 0 [] 79 true)] 43 1 1 φ0 w0 a w → (∀ (y : Int), o = y → ∀ a' w', Cm.AtS (Cm.vals [(p0.length : Int), y] [(p0.flatMap Cm.enSIII)]) [(5, .sym .i64 (.v 1))] [some (.rows 0 [] 79 true)] 43 1 1 φ0 w0 a' w' → R (Exit.exit 0) a' w') → Code.roundsIn F k Tryz.prog (Cm.subAt (Cm.bodyOf Tryz.prog 22) [1, 1, 0, 1, 0, 0]) R n a w
  | 0, _, _, _, h => by cases h
  | n + 1, v2, v3, o, h => by
    intro φ0 w0 F k R a w hF hr hat hx0
    rw [r7_Demand_L1] at h
    refine Cm.rounds_in (p := [1, 1, 0, 1, 0, 0]) ?_
    by_cases h1 : v3 < (p0.length : Int)
    · rw [if_pos h1] at h
      by_cases h2 : (0 : Int) ≤ v3
      · rw [if_pos h2] at h
        obtain ⟨e3, he3, h⟩ := Option.bind_eq_some_iff.1 h
        by_cases h4 : e3.2.2.1 ≤ p1
        · rw [if_pos h4] at h
          obtain ⟨r5, hr5, h⟩ := Option.bind_eq_some_iff.1 h
          have Kr5 : ∀ N M, ∃ v v' q, Cm.KE.ok Tryz.prog (Cm.vals ([(p0.length : Int), p1, v2, v3, e3.1, e3.2.1, e3.2.2.1, e3.2.2.2, r5] ++ N) ([(p0.flatMap Cm.enSIII)] ++ M)) ⟨44, 1, [], [.sym .i64 (.v 0), .sym .i64 (.v 1)], [], [.num (.sub .i64 (.v 1) (.v 6)) (.v 0), .num (.v 5) (.v 1)], 0, .sym .i64 (.v 0), [], .sym .i64 (.v 8), [], []⟩ v v' q := fun N M => ⟨_, _, [.num (.v 0) (.v 8)], ⟨b_Floor_ok (IntKind.wrap .i64 (p1 - e3.2.2.1)) e3.2.1 r5 hr5, ⟨(show (IntKind.wrap .i64 (p1 - e3.2.2.1)) = (IntKind.wrap .i64 (p1 - e3.2.2.1)) from rfl), (Cm.r e3.2.1), trivial⟩, by kernel_rfl, ⟨rfl, trivial⟩⟩⟩
          refine Cm.to_done mixed ⟨[(.lss, (.v 3), (.v 0), true), (.leq, (.c 0), (.v 3), true), (.leq, (.v 6), (.v 1), true)], [(0, 0, (.v 3), [.ss (.v 4), .sym .i64 (.v 5), .sym .i64 (.v 6), .sym .i64 (.v 7)])], [(0, 4, (.v 0))], [⟨44, 1, [], [.sym .i64 (.v 0), .sym .i64 (.v 1)], [], [.num (.sub .i64 (.v 1) (.v 6)) (.v 0), .num (.v 5) (.v 1)], 0, .sym .i64 (.v 0), [], .sym .i64 (.v 8), [], []⟩], [], []⟩ (V := (Cm.vals [(p0.length : Int), p1, v2, v3, e3.1, e3.2.1, e3.2.2.1, e3.2.2.2, r5] [(p0.flatMap Cm.enSIII)])) (n := 3000) (f := 3000) (V' := (Cm.vals [(p0.length : Int), p1, (IntKind.wrap .i64 (v2 + (IntKind.wrap .i64 (e3.2.2.2 * (IntKind.wrap .i64 ((1 : Int) + r5)))))), (IntKind.wrap .i64 (v3 + (1 : Int)))] [(p0.flatMap Cm.enSIII)])) ⟨⟨Cm.lss_t h1, Cm.leq_t h2, Cm.leq_t h4, trivial⟩, ⟨⟨h2, _, rfl, Cm.flat_row Cm.enSIII_len he3⟩, trivial⟩, ⟨Cm.flat_length Cm.enSIII_len _, trivial⟩, trivial, trivial⟩ ⟨Kr5 _ _, trivial⟩ (T := ⟨[(0, .gs 0 0 (.v 0) 4 false), (1, .sym .i64 (.v 1)), (5, .sym .i64 (.v 2)), (6, .sym .i64 (.v 3))], [some (.rows 0 [] 79 true)], [some (0, 0)]⟩) (ce := .normal) (qs := [.num (.v 0) (.v 0), .num (.v 1) (.v 1), .num (.add .i64 (.v 2) (.mul .i64 (.v 7) (.add .i64 (.c 1) (.v 8)))) (.v 2), .num (.add .i64 (.v 3) (.c 1)) (.v 3), .lst 0 (some 0) []]) hF hr (by kernel_rfl) ⟨(Cm.r (p0.length : Int)), (Cm.r p1), rfl, (Cm.r (IntKind.wrap .i64 (v3 + (1 : Int)))), ⟨[], rfl, (List.append_nil _).symm⟩, trivial⟩ (Cm.at_re (V' := (Cm.vals [(p0.length : Int), p1, v2, v3, e3.1, e3.2.1, e3.2.2.1, e3.2.2.2, r5] [(p0.flatMap Cm.enSIII)])) (T := ⟨[(0, .gs 0 0 (.v 0) 4 false), (1, .sym .i64 (.v 1)), (5, .sym .i64 (.v 2)), (6, .sym .i64 (.v 3))], [some (.rows 0 [] 79 true)], [some (0, 0)]⟩) (qs := [.num (.v 0) (.v 0), .num (.v 1) (.v 1), .num (.v 2) (.v 2), .num (.v 3) (.v 3), .lst 0 (some 0) []]) hat (by kernel_rfl) ⟨rfl, rfl, rfl, rfl, ⟨[], rfl, (List.append_nil _).symm⟩, trivial⟩) fun a' w' hat' => ?_
          exact r7_Demand_L1_ok fu p0 p1 n (IntKind.wrap .i64 (v2 + (IntKind.wrap .i64 (e3.2.2.2 * (IntKind.wrap .i64 ((1 : Int) + r5)))))) (IntKind.wrap .i64 (v3 + (1 : Int))) o h _ _ _ _ _ _ _ hF hr hat' hx0
        · rw [if_neg h4] at h
          refine Cm.to_done mixed ⟨[(.lss, (.v 3), (.v 0), true), (.leq, (.c 0), (.v 3), true), (.leq, (.v 6), (.v 1), false)], [(0, 0, (.v 3), [.ss (.v 4), .sym .i64 (.v 5), .sym .i64 (.v 6), .sym .i64 (.v 7)])], [(0, 4, (.v 0))], [], [], []⟩ (V := (Cm.vals [(p0.length : Int), p1, v2, v3, e3.1, e3.2.1, e3.2.2.1, e3.2.2.2] [(p0.flatMap Cm.enSIII)])) (n := 3000) (f := 3000) (V' := (Cm.vals [(p0.length : Int), p1, v2, (IntKind.wrap .i64 (v3 + (1 : Int)))] [(p0.flatMap Cm.enSIII)])) ⟨⟨Cm.lss_t h1, Cm.leq_t h2, Cm.leq_f h4, trivial⟩, ⟨⟨h2, _, rfl, Cm.flat_row Cm.enSIII_len he3⟩, trivial⟩, ⟨Cm.flat_length Cm.enSIII_len _, trivial⟩, trivial, trivial⟩ trivial (T := ⟨[(0, .gs 0 0 (.v 0) 4 false), (1, .sym .i64 (.v 1)), (5, .sym .i64 (.v 2)), (6, .sym .i64 (.v 3))], [some (.rows 0 [] 79 true)], [some (0, 0)]⟩) (ce := .normal) (qs := [.num (.v 0) (.v 0), .num (.v 1) (.v 1), .num (.v 2) (.v 2), .num (.add .i64 (.v 3) (.c 1)) (.v 3), .lst 0 (some 0) []]) hF hr (by kernel_rfl) ⟨(Cm.r (p0.length : Int)), (Cm.r p1), (Cm.r v2), (Cm.r (IntKind.wrap .i64 (v3 + (1 : Int)))), ⟨[], rfl, (List.append_nil _).symm⟩, trivial⟩ (Cm.at_re (V' := (Cm.vals [(p0.length : Int), p1, v2, v3, e3.1, e3.2.1, e3.2.2.1, e3.2.2.2] [(p0.flatMap Cm.enSIII)])) (T := ⟨[(0, .gs 0 0 (.v 0) 4 false), (1, .sym .i64 (.v 1)), (5, .sym .i64 (.v 2)), (6, .sym .i64 (.v 3))], [some (.rows 0 [] 79 true)], [some (0, 0)]⟩) (qs := [.num (.v 0) (.v 0), .num (.v 1) (.v 1), .num (.v 2) (.v 2), .num (.v 3) (.v 3), .lst 0 (some 0) []]) hat (by kernel_rfl) ⟨rfl, rfl, rfl, rfl, ⟨[], rfl, (List.append_nil _).symm⟩, trivial⟩) fun a' w' hat' => ?_
          exact r7_Demand_L1_ok fu p0 p1 n v2 (IntKind.wrap .i64 (v3 + (1 : Int))) o h _ _ _ _ _ _ _ hF hr hat' hx0
      · rw [if_neg h2] at h
        cases h
    · rw [if_neg h1] at h
      injection h with h; subst h
      exact Cm.to_done mixed ⟨[(.lss, (.v 3), (.v 0), false)], [], [(0, 4, (.v 0))], [], [], []⟩ (V := (Cm.vals [(p0.length : Int), p1, v2, v3] [(p0.flatMap Cm.enSIII)])) (n := 3000) (f := 3000) (V' := (Cm.vals [(p0.length : Int), v2] [(p0.flatMap Cm.enSIII)])) ⟨⟨Cm.lss_f h1, trivial⟩, trivial, ⟨Cm.flat_length Cm.enSIII_len _, trivial⟩, trivial, trivial⟩ trivial (T := ⟨[(5, .sym .i64 (.v 1))], [some (.rows 0 [] 79 true)], [some (0, 0)]⟩) (ce := (.exit 0)) (qs := [.num (.v 2) (.v 1), .lst 0 (some 0) []]) hF hr (by kernel_rfl) ⟨(Cm.r v2), ⟨[], rfl, (List.append_nil _).symm⟩, trivial⟩ hat fun a' w' hat' => hx0 v2 rfl a' w' hat'

def r7_Demand (fu : Nat) (a0 : List (Int × Int × Int × Int)) (a1 : Int) : Option (Int) := Option.bind (r7_Demand_L1 fu a0 a1 fu (0 : Int) (0 : Int)) fun o1 => some o1

theorem r7_Demand_ok (fu : Nat) (a0 : List (Int × Int × Int × Int)) (a1 : Int) (y : Int) (h : r7_Demand fu a0 a1 = some y) : Cm.CallOk Tryz.prog 22 (Cm.vals [(a0.length : Int), a1] [(a0.flatMap Cm.enSIII)]) [.gs 0 0 (.v 0) 4 false, .sym .i64 (.v 1)] [some (.rows 0 [] 79 true)] 1 (Cm.vals [y] []) (.sym .i64 (.v 0)) [none] := by
  refine Cm.fun_of (nt := 43) (by kernel_rfl) (by kernel_rfl) fun φ0 w0 a w hat => ?_
  have hF := Cm.wide_fw
  have hr : Fence.wide.round = none := rfl
  unfold r7_Demand at h
  obtain ⟨o1, ho1, h⟩ := Option.bind_eq_some_iff.1 h
  refine Cm.to_loop mixed ⟨[], [], [(0, 4, (.v 0))], [], [], []⟩ (V := (Cm.vals [(a0.length : Int), a1] [(a0.flatMap Cm.enSIII)])) (n := 3000) (f := 3000) (V' := (Cm.vals [(a0.length : Int), a1, (0 : Int), (0 : Int)] [(a0.flatMap Cm.enSIII)])) ⟨trivial, trivial, ⟨Cm.flat_length Cm.enSIII_len _, trivial⟩, trivial, trivial⟩ trivial (T := ⟨[(0, .gs 0 0 (.v 0) 4 false), (1, .sym .i64 (.v 1)), (5, .sym .i64 (.v 2)), (6, .sym .i64 (.v 3))], [some (.rows 0 [] 79 true)], [some (0, 0)]⟩) (B := Cm.subAt (Cm.bodyOf Tryz.prog 22) [1, 1, 0, 1, 0, 0]) (K' := [.bk 0, .sq (Cm.subAt (Cm.bodyOf Tryz.prog 22) [1, 1, 1]) [1, 1, 1]]) (qs := [.num (.v 0) (.v 0), .num (.v 1) (.v 1), .num (.c 0) (.v 2), .num (.c 0) (.v 3), .lst 0 (some 0) []]) hF hr (by kernel_rfl) ⟨(Cm.r (a0.length : Int)), (Cm.r a1), (Cm.r (0 : Int)), (Cm.r (0 : Int)), ⟨[], rfl, (List.append_nil _).symm⟩, trivial⟩ hat fun aa1 ww1 hat1 => Cm.loop_in (r7_Demand_L1_ok fu a0 a1 fu (0 : Int) (0 : Int) o1 ho1 _ _ _ _ _ _ _ hF hr hat1 ?_)
  · intro yy hy aa2 ww2 hat
    subst hy
    show (Cm.Wk.out (.exit 0)).goal _ _ _ [.bk 0, .sq (Cm.subAt (Cm.bodyOf Tryz.prog 22) [1, 1, 1]) [1, 1, 1]] _ aa2 ww2
    injection h with h; subst h
    exact Cm.to_fin mixed ⟨[], [], [(0, 4, (.v 0))], [], [], []⟩ (V := (Cm.vals [(a0.length : Int), o1] [(a0.flatMap Cm.enSIII)])) (n := 3000) (f := 3000) ⟨trivial, trivial, ⟨Cm.flat_length Cm.enSIII_len _, trivial⟩, trivial, trivial⟩ trivial (R := ⟨.sym .i64 (.v 0), [none], [some (0, 0)]⟩) (qs := [.num (.v 1) (.v 0)]) hF hr (by kernel_rfl) ⟨(Cm.r o1), trivial⟩ hat

def b_Gcd_L1 (fu : Nat)  : Nat → Int → Int → Option ((Int))
  | 0, _, _ => none
  | n + 1, v0, v1 => if v1 = (0 : Int) then (some v0) else (b_Gcd_L1 fu n v1 (Int.tmod v0 v1))

theorem b_Gcd_L1_ok (fu : Nat)  : ∀ (n : Nat) (v0 : Int) (v1 : Int) (o : (Int)), b_Gcd_L1 fu  n v0 v1 = some o → ∀ (φ0 : Cm.Phi) (w0 : World) (F : Fence) (k : Nat) (R : Exit → Act → World → Prop) (a : Act) (w : World), Cm.FW F → F.round = none → Cm.AtS (Cm.vals [v0, v1] []) [(0, .sym .i64 (.v 0)), (1, .sym .i64 (.v 1))] [] 13 0 0 φ0 w0 a w → (∀ (y : Int), o = y → ∀ a' w', Cm.AtS (Cm.vals [y] []) [(0, .sym .i64 (.v 0))] [] 13 0 0 φ0 w0 a' w' → R (Exit.exit 0) a' w') → Code.roundsIn F k Tryz.prog (Cm.subAt (Cm.bodyOf Tryz.prog 45) [1, 0, 0, 0]) R n a w
  | 0, _, _, _, h => by cases h
  | n + 1, v0, v1, o, h => by
    intro φ0 w0 F k R a w hF hr hat hx0
    rw [b_Gcd_L1] at h
    refine Cm.rounds_in (p := [1, 0, 0, 0]) ?_
    by_cases h1 : v1 = (0 : Int)
    · rw [if_pos h1] at h
      injection h with h; subst h
      exact Cm.to_done mixed ⟨[(.neq, (.v 1), (.c 0), false)], [], [], [], [], []⟩ (V := (Cm.vals [v0, v1] [])) (n := 3000) (f := 3000) (V' := (Cm.vals [v0] [])) ⟨⟨Cm.neq_f h1, trivial⟩, trivial, trivial, trivial, trivial⟩ trivial (T := ⟨[(0, .sym .i64 (.v 0))], [], []⟩) (ce := (.exit 0)) (qs := [.num (.v 0) (.v 0)]) hF hr (by kernel_rfl) ⟨(Cm.r v0), trivial⟩ hat fun a' w' hat' => hx0 v0 rfl a' w' hat'
    · rw [if_neg h1] at h
      refine Cm.to_done mixed ⟨[(.neq, (.v 1), (.c 0), true), (.eql, (.v 1), (.c 0), false)], [], [], [], [], []⟩ (V := (Cm.vals [v0, v1] [])) (n := 3000) (f := 3000) (V' := (Cm.vals [v1, (Int.tmod v0 v1)] [])) ⟨⟨Cm.neq_t h1, Cm.eql_f (a := v1) (b := (0 : Int)) (by omega), trivial⟩, trivial, trivial, trivial, trivial⟩ trivial (T := ⟨[(0, .sym .i64 (.v 0)), (1, .sym .i64 (.v 1))], [], []⟩) (ce := .normal) (qs := [.num (.v 1) (.v 0), .num (.rem .i64 (.v 0) (.v 1)) (.v 1)]) hF hr (by kernel_rfl) ⟨(Cm.r v1), (Cm.r (Int.tmod v0 v1)), trivial⟩ hat fun a' w' hat' => ?_
      exact b_Gcd_L1_ok fu n v1 (Int.tmod v0 v1) o h _ _ _ _ _ _ _ hF hr hat' hx0

def b_Size (a0 : Int) : Option (Int) := if a0 < (IntKind.wrap .i64 ((0 : Int) - a0)) then (some (IntKind.wrap .i64 ((0 : Int) - a0))) else (some a0)

theorem b_Size_ok (a0 : Int) (y : Int) (h : b_Size a0 = some y) : Cm.CallOk Tryz.prog 61 (Cm.vals [a0] []) [.sym .i64 (.v 0)] [] 0 (Cm.vals [y] []) (.sym .i64 (.v 0)) [] := by
  refine Cm.fun_of (nt := 7) (by kernel_rfl) (by kernel_rfl) fun φ0 w0 a w hat => ?_
  have hF := Cm.wide_fw
  have hr : Fence.wide.round = none := rfl
  unfold b_Size at h
  by_cases h1 : a0 < (IntKind.wrap .i64 ((0 : Int) - a0))
  · rw [if_pos h1] at h
    injection h with h; subst h
    exact Cm.to_fin mixed ⟨[(.lss, (.v 0), (.sub .i64 (.c 0) (.v 0)), true)], [], [], [], [], []⟩ (V := (Cm.vals [a0] [])) (n := 3000) (f := 3000) ⟨⟨Cm.lss_t h1, trivial⟩, trivial, trivial, trivial, trivial⟩ trivial (R := ⟨.sym .i64 (.v 0), [], []⟩) (qs := [.num (.sub .i64 (.c 0) (.v 0)) (.v 0)]) hF hr (by kernel_rfl) ⟨(show (IntKind.wrap .i64 ((0 : Int) - a0)) = (IntKind.wrap .i64 ((0 : Int) - a0)) from rfl), trivial⟩ hat
  · rw [if_neg h1] at h
    injection h with h; subst h
    exact Cm.to_fin mixed ⟨[(.lss, (.v 0), (.sub .i64 (.c 0) (.v 0)), false)], [], [], [], [], []⟩ (V := (Cm.vals [a0] [])) (n := 3000) (f := 3000) ⟨⟨Cm.lss_f h1, trivial⟩, trivial, trivial, trivial, trivial⟩ trivial (R := ⟨.sym .i64 (.v 0), [], []⟩) (qs := [.num (.v 0) (.v 0)]) hF hr (by kernel_rfl) ⟨(Cm.r a0), trivial⟩ hat

def b_Gcd (fu : Nat) (a0 : Int) (a1 : Int) : Option (Int) := Option.bind (b_Gcd_L1 fu fu a0 a1) fun o1 => Option.bind (b_Size o1) fun r2 => some r2

theorem b_Gcd_ok (fu : Nat) (a0 : Int) (a1 : Int) (y : Int) (h : b_Gcd fu a0 a1 = some y) : Cm.CallOk Tryz.prog 45 (Cm.vals [a0, a1] []) [.sym .i64 (.v 0), .sym .i64 (.v 1)] [] 0 (Cm.vals [y] []) (.sym .i64 (.v 0)) [] := by
  refine Cm.fun_of (nt := 13) (by kernel_rfl) (by kernel_rfl) fun φ0 w0 a w hat => ?_
  have hF := Cm.wide_fw
  have hr : Fence.wide.round = none := rfl
  unfold b_Gcd at h
  obtain ⟨o1, ho1, h⟩ := Option.bind_eq_some_iff.1 h
  refine Cm.to_loop mixed ⟨[], [], [], [], [], []⟩ (V := (Cm.vals [a0, a1] [])) (n := 3000) (f := 3000) (V' := (Cm.vals [a0, a1] [])) ⟨trivial, trivial, trivial, trivial, trivial⟩ trivial (T := ⟨[(0, .sym .i64 (.v 0)), (1, .sym .i64 (.v 1))], [], []⟩) (B := Cm.subAt (Cm.bodyOf Tryz.prog 45) [1, 0, 0, 0]) (K' := [.bk 0, .sq (Cm.subAt (Cm.bodyOf Tryz.prog 45) [1, 1]) [1, 1]]) (qs := [.num (.v 0) (.v 0), .num (.v 1) (.v 1)]) hF hr (by kernel_rfl) ⟨(Cm.r a0), (Cm.r a1), trivial⟩ hat fun aa1 ww1 hat1 => Cm.loop_in (b_Gcd_L1_ok fu fu a0 a1 o1 ho1 _ _ _ _ _ _ _ hF hr hat1 ?_)
  · intro yy hy aa2 ww2 hat
    subst hy
    show (Cm.Wk.out (.exit 0)).goal _ _ _ [.bk 0, .sq (Cm.subAt (Cm.bodyOf Tryz.prog 45) [1, 1]) [1, 1]] _ aa2 ww2
    obtain ⟨r2, hr2, h⟩ := Option.bind_eq_some_iff.1 h
    have Kr2 : ∀ N M, ∃ v v' q, Cm.KE.ok Tryz.prog (Cm.vals ([o1, r2] ++ N) ([] ++ M)) ⟨61, 0, [], [.sym .i64 (.v 0)], [], [.num (.v 0) (.v 0)], 0, .sym .i64 (.v 0), [], .sym .i64 (.v 1), [], []⟩ v v' q := fun N M => ⟨_, _, [.num (.v 0) (.v 1)], ⟨b_Size_ok o1 r2 hr2, ⟨(Cm.r o1), trivial⟩, by kernel_rfl, ⟨rfl, trivial⟩⟩⟩
    injection h with h; subst h
    exact Cm.to_fin mixed ⟨[], [], [], [⟨61, 0, [], [.sym .i64 (.v 0)], [], [.num (.v 0) (.v 0)], 0, .sym .i64 (.v 0), [], .sym .i64 (.v 1), [], []⟩], [], []⟩ (V := (Cm.vals [o1, r2] [])) (n := 3000) (f := 3000) ⟨trivial, trivial, trivial, trivial, trivial⟩ ⟨Kr2 _ _, trivial⟩ (R := ⟨.sym .i64 (.v 0), [], []⟩) (qs := [.num (.v 1) (.v 0)]) hF hr (by kernel_rfl) ⟨(Cm.r r2), trivial⟩ (Cm.at_re (V' := (Cm.vals [o1, r2] [])) (T := ⟨[(0, .sym .i64 (.v 0))], [], []⟩) (qs := [.num (.v 0) (.v 0)]) hat (by kernel_rfl) ⟨rfl, trivial⟩)

def r7_Cycle_L1 (fu : Nat) (p0 : List (Int × Int × Int × Int)) : Nat → Int → Int → Option ((Unit) ⊕ (Int))
  | 0, _, _ => none
  | n + 1, v1, v2 => if v2 < (p0.length : Int) then (if (0 : Int) ≤ v2 then (Option.bind ((p0)[0 + (v2).toNat]?) fun e3 => Option.bind (b_Gcd fu v1 e3.2.1) fun r4 => if r4 = (0 : Int) then none else (if (5000 : Int) < (IntKind.wrap .i64 ((IntKind.wrap .i64 (Int.tdiv v1 r4)) * e3.2.1)) then (some (.inl ())) else (r7_Cycle_L1 fu p0 n (IntKind.wrap .i64 ((IntKind.wrap .i64 (Int.tdiv v1 r4)) * e3.2.1)) (IntKind.wrap .i64 (v2 + (1 : Int)))))) else none) else (some (.inr v1))

theorem r7_Cycle_L1_ok (fu : Nat) (p0 : List (Int × Int × Int × Int)) : ∀ (n : Nat) (v1 : Int) (v2 : Int) (o : (Unit) ⊕ (Int)), r7_Cycle_L1 fu p0 n v1 v2 = some o → ∀ (φ0 : Cm.Phi) (w0 : World) (F : Fence) (k : Nat) (R : Exit → Act → World → Prop) (a : Act) (w : World), Cm.FW F → F.round = none → Cm.AtS (Cm.vals [(p0.length : Int), v1, v2] [(p0.flatMap Cm.enSIII)]) [(0, .gs 0 0 (.v 0) 4 false), (4, .sym .i64 (.v 1)), (5, .sym .i64 (.v 2))] [some (.rows 0 [] 79 true)] 30 1 1 φ0 w0 a w → (∀ (y : Unit), o = .inl y → ∀ a' w', Cm.AtS (Cm.vals [(p0.length : Int)] [(p0.flatMap Cm.enSIII)]) [(2, .int .i64 0), (3, .bool false)] [some (.rows 0 [] 79 true)] 30 1 1 φ0 w0 a' w' → R Exit.ret a' w') → (∀ (y : Int), o = .inr y → ∀ a' w', Cm.AtS (Cm.vals [(p0.length : Int), y] [(p0.flatMap Cm.enSIII)]) [(4, .sym .i64 (.v 1))] [some (.rows 0 [] 79 true)] 30 1 1 φ0 w0 a' w' → R (Exit.exit 0) a' w') → Code.roundsIn F k Tryz.prog (Cm.subAt (Cm.bodyOf Tryz.prog 23) [1, 1, 0, 1, 0, 0]) R n a w
  | 0, _, _, _, h => by cases h
  | n + 1, v1, v2, o, h => by
    intro φ0 w0 F k R a w hF hr hat hx0 hx1
    rw [r7_Cycle_L1] at h
    refine Cm.rounds_in (p := [1, 1, 0, 1, 0, 0]) ?_
    by_cases h1 : v2 < (p0.length : Int)
    · rw [if_pos h1] at h
      by_cases h2 : (0 : Int) ≤ v2
      · rw [if_pos h2] at h
        obtain ⟨e3, he3, h⟩ := Option.bind_eq_some_iff.1 h
        obtain ⟨r4, hr4, h⟩ := Option.bind_eq_some_iff.1 h
        have Kr4 : ∀ N M, ∃ v v' q, Cm.KE.ok Tryz.prog (Cm.vals ([(p0.length : Int), v1, v2, e3.1, e3.2.1, e3.2.2.1, e3.2.2.2, r4] ++ N) ([(p0.flatMap Cm.enSIII)] ++ M)) xb_k21 v v' q := fun N M => ⟨_, _, [.num (.v 0) (.v 7)], ⟨b_Gcd_ok fu v1 e3.2.1 r4 hr4, ⟨(Cm.r v1), (Cm.r e3.2.1), trivial⟩, by kernel_rfl, ⟨rfl, trivial⟩⟩⟩
        by_cases h5 : r4 = (0 : Int)
        · rw [if_pos h5] at h
          cases h
        · rw [if_neg h5] at h
          by_cases h6 : (5000 : Int) < (IntKind.wrap .i64 ((IntKind.wrap .i64 (Int.tdiv v1 r4)) * e3.2.1))
          · rw [if_pos h6] at h
            injection h with h; subst h
            exact Cm.to_done mixed ⟨[(.lss, (.v 2), (.v 0), true), (.leq, (.c 0), (.v 2), true), (.eql, (.v 7), (.c 0), false), (.gtr, (.mul .i64 (.quo .i64 (.v 1) (.v 7)) (.v 4)), (.c 5000), true)], [(0, 0, (.v 2), [.ss (.v 3), .sym .i64 (.v 4), .sym .i64 (.v 5), .sym .i64 (.v 6)])], [(0, 4, (.v 0))], [xb_k21], [], []⟩ (V := (Cm.vals [(p0.length : Int), v1, v2, e3.1, e3.2.1, e3.2.2.1, e3.2.2.2, r4] [(p0.flatMap Cm.enSIII)])) (n := 3000) (f := 3000) (V' := (Cm.vals [(p0.length : Int)] [(p0.flatMap Cm.enSIII)])) ⟨⟨Cm.lss_t h1, Cm.leq_t h2, Cm.eql_f h5, Cm.gtr_t h6, trivial⟩, ⟨⟨h2, _, rfl, Cm.flat_row Cm.enSIII_len he3⟩, trivial⟩, ⟨Cm.flat_length Cm.enSIII_len _, trivial⟩, trivial, trivial⟩ ⟨Kr4 _ _, trivial⟩ (T := ⟨[(2, .int .i64 0), (3, .bool false)], [some (.rows 0 [] 79 true)], [some (0, 0)]⟩) (ce := .ret) (qs := [.lst 0 (some 0) []]) hF hr (by kernel_rfl) ⟨⟨[], rfl, (List.append_nil _).symm⟩, trivial⟩ (Cm.at_re (V' := (Cm.vals [(p0.length : Int), v1, v2, e3.1, e3.2.1, e3.2.2.1, e3.2.2.2, r4] [(p0.flatMap Cm.enSIII)])) (T := ⟨[(0, .gs 0 0 (.v 0) 4 false), (4, .sym .i64 (.v 1)), (5, .sym .i64 (.v 2))], [some (.rows 0 [] 79 true)], [some (0, 0)]⟩) (qs := [.num (.v 0) (.v 0), .num (.v 1) (.v 1), .num (.v 2) (.v 2), .lst 0 (some 0) []]) hat (by kernel_rfl) ⟨rfl, rfl, rfl, ⟨[], rfl, (List.append_nil _).symm⟩, trivial⟩) fun a' w' hat' => hx0 () rfl a' w' hat'
          · rw [if_neg h6] at h
            refine Cm.to_done mixed ⟨[(.lss, (.v 2), (.v 0), true), (.leq, (.c 0), (.v 2), true), (.eql, (.v 7), (.c 0), false), (.gtr, (.mul .i64 (.quo .i64 (.v 1) (.v 7)) (.v 4)), (.c 5000), false)], [(0, 0, (.v 2), [.ss (.v 3), .sym .i64 (.v 4), .sym .i64 (.v 5), .sym .i64 (.v 6)])], [(0, 4, (.v 0))], [xb_k21], [], []⟩ (V := (Cm.vals [(p0.length : Int), v1, v2, e3.1, e3.2.1, e3.2.2.1, e3.2.2.2, r4] [(p0.flatMap Cm.enSIII)])) (n := 3000) (f := 3000) (V' := (Cm.vals [(p0.length : Int), (IntKind.wrap .i64 ((IntKind.wrap .i64 (Int.tdiv v1 r4)) * e3.2.1)), (IntKind.wrap .i64 (v2 + (1 : Int)))] [(p0.flatMap Cm.enSIII)])) ⟨⟨Cm.lss_t h1, Cm.leq_t h2, Cm.eql_f h5, Cm.gtr_f h6, trivial⟩, ⟨⟨h2, _, rfl, Cm.flat_row Cm.enSIII_len he3⟩, trivial⟩, ⟨Cm.flat_length Cm.enSIII_len _, trivial⟩, trivial, trivial⟩ ⟨Kr4 _ _, trivial⟩ (T := ⟨[(0, .gs 0 0 (.v 0) 4 false), (4, .sym .i64 (.v 1)), (5, .sym .i64 (.v 2))], [some (.rows 0 [] 79 true)], [some (0, 0)]⟩) (ce := .normal) (qs := [.num (.v 0) (.v 0), .num (.mul .i64 (.quo .i64 (.v 1) (.v 7)) (.v 4)) (.v 1), .num (.add .i64 (.v 2) (.c 1)) (.v 2), .lst 0 (some 0) []]) hF hr (by kernel_rfl) ⟨(Cm.r (p0.length : Int)), rfl, (Cm.r (IntKind.wrap .i64 (v2 + (1 : Int)))), ⟨[], rfl, (List.append_nil _).symm⟩, trivial⟩ (Cm.at_re (V' := (Cm.vals [(p0.length : Int), v1, v2, e3.1, e3.2.1, e3.2.2.1, e3.2.2.2, r4] [(p0.flatMap Cm.enSIII)])) (T := ⟨[(0, .gs 0 0 (.v 0) 4 false), (4, .sym .i64 (.v 1)), (5, .sym .i64 (.v 2))], [some (.rows 0 [] 79 true)], [some (0, 0)]⟩) (qs := [.num (.v 0) (.v 0), .num (.v 1) (.v 1), .num (.v 2) (.v 2), .lst 0 (some 0) []]) hat (by kernel_rfl) ⟨rfl, rfl, rfl, ⟨[], rfl, (List.append_nil _).symm⟩, trivial⟩) fun a' w' hat' => ?_
            exact r7_Cycle_L1_ok fu p0 n (IntKind.wrap .i64 ((IntKind.wrap .i64 (Int.tdiv v1 r4)) * e3.2.1)) (IntKind.wrap .i64 (v2 + (1 : Int))) o h _ _ _ _ _ _ _ hF hr hat' hx0 hx1
      · rw [if_neg h2] at h
        cases h
    · rw [if_neg h1] at h
      injection h with h; subst h
      exact Cm.to_done mixed ⟨[(.lss, (.v 2), (.v 0), false)], [], [(0, 4, (.v 0))], [], [], []⟩ (V := (Cm.vals [(p0.length : Int), v1, v2] [(p0.flatMap Cm.enSIII)])) (n := 3000) (f := 3000) (V' := (Cm.vals [(p0.length : Int), v1] [(p0.flatMap Cm.enSIII)])) ⟨⟨Cm.lss_f h1, trivial⟩, trivial, ⟨Cm.flat_length Cm.enSIII_len _, trivial⟩, trivial, trivial⟩ trivial (T := ⟨[(4, .sym .i64 (.v 1))], [some (.rows 0 [] 79 true)], [some (0, 0)]⟩) (ce := (.exit 0)) (qs := [.num (.v 1) (.v 1), .lst 0 (some 0) []]) hF hr (by kernel_rfl) ⟨(Cm.r v1), ⟨[], rfl, (List.append_nil _).symm⟩, trivial⟩ hat fun a' w' hat' => hx1 v1 rfl a' w' hat'

def r7_Cycle (fu : Nat) (a0 : List (Int × Int × Int × Int)) : Option (Int × Bool) := Option.bind (r7_Cycle_L1 fu a0 fu (1 : Int) (0 : Int)) fun o1 => (match o1 with | .inl y2 => (some ((0 : Int), false)) | .inr y3 => (some (y3, true)))

theorem r7_Cycle_ok (fu : Nat) (a0 : List (Int × Int × Int × Int)) (y : Int × Bool) (h : r7_Cycle fu a0 = some y) : Cm.CallOk Tryz.prog 23 (Cm.vals [(a0.length : Int)] [(a0.flatMap Cm.enSIII)]) [.gs 0 0 (.v 0) 4 false] [some (.rows 0 [] 79 true)] 1 (Cm.vals [y.1, Cm.bI y.2] []) (.tup [.sym .i64 (.v 0), .bs (.v 1)]) [none] := by
  refine Cm.fun_of (nt := 30) (by kernel_rfl) (by kernel_rfl) fun φ0 w0 a w hat => ?_
  have hF := Cm.wide_fw
  have hr : Fence.wide.round = none := rfl
  unfold r7_Cycle at h
  obtain ⟨o1, ho1, h⟩ := Option.bind_eq_some_iff.1 h
  refine Cm.to_loop mixed ⟨[], [], [(0, 4, (.v 0))], [], [], []⟩ (V := (Cm.vals [(a0.length : Int)] [(a0.flatMap Cm.enSIII)])) (n := 3000) (f := 3000) (V' := (Cm.vals [(a0.length : Int), (1 : Int), (0 : Int)] [(a0.flatMap Cm.enSIII)])) ⟨trivial, trivial, ⟨Cm.flat_length Cm.enSIII_len _, trivial⟩, trivial, trivial⟩ trivial (T := ⟨[(0, .gs 0 0 (.v 0) 4 false), (4, .sym .i64 (.v 1)), (5, .sym .i64 (.v 2))], [some (.rows 0 [] 79 true)], [some (0, 0)]⟩) (B := Cm.subAt (Cm.bodyOf Tryz.prog 23) [1, 1, 0, 1, 0, 0]) (K' := [.bk 0, .sq (Cm.subAt (Cm.bodyOf Tryz.prog 23) [1, 1, 1]) [1, 1, 1]]) (qs := [.num (.v 0) (.v 0), .num (.c 1) (.v 1), .num (.c 0) (.v 2), .lst 0 (some 0) []]) hF hr (by kernel_rfl) ⟨(Cm.r (a0.length : Int)), (Cm.r (1 : Int)), (Cm.r (0 : Int)), ⟨[], rfl, (List.append_nil _).symm⟩, trivial⟩ hat fun aa1 ww1 hat1 => Cm.loop_in (r7_Cycle_L1_ok fu a0 fu (1 : Int) (0 : Int) o1 ho1 _ _ _ _ _ _ _ hF hr hat1 ?_ ?_)
  · intro y2 hy aa2 ww2 hat
    subst hy
    dsimp only at h
    show (Cm.Wk.out .ret).goal _ _ _ [.bk 0, .sq (Cm.subAt (Cm.bodyOf Tryz.prog 23) [1, 1, 1]) [1, 1, 1]] _ aa2 ww2
    injection h with h; subst h
    exact Cm.to_fin mixed ⟨[], [], [(0, 4, (.v 0))], [], [], []⟩ (V := (Cm.vals [(a0.length : Int)] [(a0.flatMap Cm.enSIII)])) (n := 3000) (f := 3000) ⟨trivial, trivial, ⟨Cm.flat_length Cm.enSIII_len _, trivial⟩, trivial, trivial⟩ trivial (R := ⟨.tup [.sym .i64 (.v 0), .bs (.v 1)], [none], [some (0, 0)]⟩) (qs := [.num (.c 0) (.v 0), .num (.c 0) (.v 1)]) hF hr (by kernel_rfl) ⟨(Cm.r (0 : Int)), rfl, trivial⟩ hat
  · intro y3 hy aa2 ww2 hat
    subst hy
    dsimp only at h
    show (Cm.Wk.out (.exit 0)).goal _ _ _ [.bk 0, .sq (Cm.subAt (Cm.bodyOf Tryz.prog 23) [1, 1, 1]) [1, 1, 1]] _ aa2 ww2
    injection h with h; subst h
    exact Cm.to_fin mixed ⟨[], [], [(0, 4, (.v 0))], [], [], []⟩ (V := (Cm.vals [(a0.length : Int), y3] [(a0.flatMap Cm.enSIII)])) (n := 3000) (f := 3000) ⟨trivial, trivial, ⟨Cm.flat_length Cm.enSIII_len _, trivial⟩, trivial, trivial⟩ trivial (R := ⟨.tup [.sym .i64 (.v 0), .bs (.v 1)], [none], [some (0, 0)]⟩) (qs := [.num (.v 1) (.v 0), .num (.c 1) (.v 1)]) hF hr (by kernel_rfl) ⟨(Cm.r y3), rfl, trivial⟩ hat

def r7_Overload_L1 (fu : Nat) (p0 : List (Int × Int × Int × Int)) (p1 : Int) : Nat → Int → Option ((Int) ⊕ (Unit))
  | 0, _ => none
  | n + 1, v2 => if v2 ≤ p1 then (Option.bind (r7_Demand fu p0 v2) fun r2 => if v2 < r2 then (some (.inl v2)) else (r7_Overload_L1 fu p0 p1 n (IntKind.wrap .i64 (v2 + (1 : Int))))) else (some (.inr ()))

theorem r7_Overload_L1_ok (fu : Nat) (p0 : List (Int × Int × Int × Int)) (p1 : Int) : ∀ (n : Nat) (v2 : Int) (o : (Int) ⊕ (Unit)), r7_Overload_L1 fu p0 p1 n v2 = some o → ∀ (φ0 : Cm.Phi) (w0 : World) (F : Fence) (k : Nat) (R : Exit → Act → World → Prop) (a : Act) (w : World), Cm.FW F → F.round = none → Cm.AtS (Cm.vals [(p0.length : Int), p1, v2] [(p0.flatMap Cm.enSIII)]) [(0, .gs 0 0 (.v 0) 4 false), (1, .sym .i64 (.v 1)), (6, .sym .i64 (.v 2))] [some (.rows 0 [] 79 true)] 18 1 1 φ0 w0 a w → (∀ (y : Int), o = .inl y → ∀ a' w', Cm.AtS (Cm.vals [(p0.length : Int), y] [(p0.flatMap Cm.enSIII)]) [(4, .sym .i64 (.v 1)), (5, .bool true)] [some (.rows 0 [] 79 true)] 18 1 1 φ0 w0 a' w' → R Exit.ret a' w') → (∀ (y : Unit), o = .inr y → ∀ a' w', Cm.AtS (Cm.vals [(p0.length : Int)] [(p0.flatMap Cm.enSIII)]) [] [some (.rows 0 [] 79 true)] 18 1 1 φ0 w0 a' w' → R (Exit.exit 0) a' w') → Code.roundsIn F k Tryz.prog (Cm.subAt (Cm.bodyOf Tryz.prog 24) [1, 0, 1, 0, 0]) R n a w
  | 0, _, _, h => by cases h
  | n + 1, v2, o, h => by
    intro φ0 w0 F k R a w hF hr hat hx0 hx1
    rw [r7_Overload_L1] at h
    refine Cm.rounds_in (p := [1, 0, 1, 0, 0]) ?_
    by_cases h1 : v2 ≤ p1
    · rw [if_pos h1] at h
      obtain ⟨r2, hr2, h⟩ := Option.bind_eq_some_iff.1 h
      have Kr2 : ∀ N M, ∃ v v' q, Cm.KE.ok Tryz.prog (Cm.vals ([(p0.length : Int), p1, v2, r2] ++ N) ([(p0.flatMap Cm.enSIII)] ++ M)) xb_k22 v v' q := fun N M => ⟨_, _, [.num (.v 0) (.v 3)], ⟨r7_Demand_ok fu p0 v2 r2 hr2, ⟨(Cm.r (p0.length : Int)), (Cm.r v2), ⟨[], rfl, (List.append_nil _).symm⟩, trivial⟩, by kernel_rfl, ⟨rfl, trivial⟩⟩⟩
      by_cases h3 : v2 < r2
      · rw [if_pos h3] at h
        injection h with h; subst h
        exact Cm.to_done mixed ⟨[(.leq, (.v 2), (.v 1), true), (.gtr, (.v 3), (.v 2), true)], [], [(0, 4, (.v 0))], [xb_k22], [], []⟩ (V := (Cm.vals [(p0.length : Int), p1, v2, r2] [(p0.flatMap Cm.enSIII)])) (n := 3000) (f := 3000) (V' := (Cm.vals [(p0.length : Int), v2] [(p0.flatMap Cm.enSIII)])) ⟨⟨Cm.leq_t h1, Cm.gtr_t h3, trivial⟩, trivial, ⟨Cm.flat_length Cm.enSIII_len _, trivial⟩, trivial, trivial⟩ ⟨Kr2 _ _, trivial⟩ (T := ⟨[(4, .sym .i64 (.v 1)), (5, .bool true)], [some (.rows 0 [] 79 true)], [some (0, 0)]⟩) (ce := .ret) (qs := [.num (.v 2) (.v 1), .lst 0 (some 0) []]) hF hr (by kernel_rfl) ⟨(Cm.r v2), ⟨[], rfl, (List.append_nil _).symm⟩, trivial⟩ (Cm.at_re (V' := (Cm.vals [(p0.length : Int), p1, v2, r2] [(p0.flatMap Cm.enSIII)])) (T := ⟨[(0, .gs 0 0 (.v 0) 4 false), (1, .sym .i64 (.v 1)), (6, .sym .i64 (.v 2))], [some (.rows 0 [] 79 true)], [some (0, 0)]⟩) (qs := [.num (.v 0) (.v 0), .num (.v 1) (.v 1), .num (.v 2) (.v 2), .lst 0 (some 0) []]) hat (by kernel_rfl) ⟨rfl, rfl, rfl, ⟨[], rfl, (List.append_nil _).symm⟩, trivial⟩) fun a' w' hat' => hx0 v2 rfl a' w' hat'
      · rw [if_neg h3] at h
        refine Cm.to_done mixed ⟨[(.leq, (.v 2), (.v 1), true), (.gtr, (.v 3), (.v 2), false)], [], [(0, 4, (.v 0))], [xb_k22], [], []⟩ (V := (Cm.vals [(p0.length : Int), p1, v2, r2] [(p0.flatMap Cm.enSIII)])) (n := 3000) (f := 3000) (V' := (Cm.vals [(p0.length : Int), p1, (IntKind.wrap .i64 (v2 + (1 : Int)))] [(p0.flatMap Cm.enSIII)])) ⟨⟨Cm.leq_t h1, Cm.gtr_f h3, trivial⟩, trivial, ⟨Cm.flat_length Cm.enSIII_len _, trivial⟩, trivial, trivial⟩ ⟨Kr2 _ _, trivial⟩ (T := ⟨[(0, .gs 0 0 (.v 0) 4 false), (1, .sym .i64 (.v 1)), (6, .sym .i64 (.v 2))], [some (.rows 0 [] 79 true)], [some (0, 0)]⟩) (ce := .normal) (qs := [.num (.v 0) (.v 0), .num (.v 1) (.v 1), .num (.add .i64 (.v 2) (.c 1)) (.v 2), .lst 0 (some 0) []]) hF hr (by kernel_rfl) ⟨(Cm.r (p0.length : Int)), (Cm.r p1), (Cm.r (IntKind.wrap .i64 (v2 + (1 : Int)))), ⟨[], rfl, (List.append_nil _).symm⟩, trivial⟩ (Cm.at_re (V' := (Cm.vals [(p0.length : Int), p1, v2, r2] [(p0.flatMap Cm.enSIII)])) (T := ⟨[(0, .gs 0 0 (.v 0) 4 false), (1, .sym .i64 (.v 1)), (6, .sym .i64 (.v 2))], [some (.rows 0 [] 79 true)], [some (0, 0)]⟩) (qs := [.num (.v 0) (.v 0), .num (.v 1) (.v 1), .num (.v 2) (.v 2), .lst 0 (some 0) []]) hat (by kernel_rfl) ⟨rfl, rfl, rfl, ⟨[], rfl, (List.append_nil _).symm⟩, trivial⟩) fun a' w' hat' => ?_
        exact r7_Overload_L1_ok fu p0 p1 n (IntKind.wrap .i64 (v2 + (1 : Int))) o h _ _ _ _ _ _ _ hF hr hat' hx0 hx1
    · rw [if_neg h1] at h
      injection h with h; subst h
      exact Cm.to_done mixed ⟨[(.leq, (.v 2), (.v 1), false)], [], [(0, 4, (.v 0))], [], [], []⟩ (V := (Cm.vals [(p0.length : Int), p1, v2] [(p0.flatMap Cm.enSIII)])) (n := 3000) (f := 3000) (V' := (Cm.vals [(p0.length : Int)] [(p0.flatMap Cm.enSIII)])) ⟨⟨Cm.leq_f h1, trivial⟩, trivial, ⟨Cm.flat_length Cm.enSIII_len _, trivial⟩, trivial, trivial⟩ trivial (T := ⟨[], [some (.rows 0 [] 79 true)], [some (0, 0)]⟩) (ce := (.exit 0)) (qs := [.lst 0 (some 0) []]) hF hr (by kernel_rfl) ⟨⟨[], rfl, (List.append_nil _).symm⟩, trivial⟩ hat fun a' w' hat' => hx1 () rfl a' w' hat'

def r7_Overload (fu : Nat) (a0 : List (Int × Int × Int × Int)) (a1 : Int) : Option (Int × Bool) := Option.bind (r7_Overload_L1 fu a0 a1 fu (1 : Int)) fun o1 => (match o1 with | .inl y2 => (some (y2, true)) | .inr y3 => (some ((0 : Int), false)))

theorem r7_Overload_ok (fu : Nat) (a0 : List (Int × Int × Int × Int)) (a1 : Int) (y : Int × Bool) (h : r7_Overload fu a0 a1 = some y) : Cm.CallOk Tryz.prog 24 (Cm.vals [(a0.length : Int), a1] [(a0.flatMap Cm.enSIII)]) [.gs 0 0 (.v 0) 4 false, .sym .i64 (.v 1)] [some (.rows 0 [] 79 true)] 1 (Cm.vals [y.1, Cm.bI y.2] []) (.tup [.sym .i64 (.v 0), .bs (.v 1)]) [none] := by
  refine Cm.fun_of (nt := 18) (by kernel_rfl) (by kernel_rfl) fun φ0 w0 a w hat => ?_
  have hF := Cm.wide_fw
  have hr : Fence.wide.round = none := rfl
  unfold r7_Overload at h
  obtain ⟨o1, ho1, h⟩ := Option.bind_eq_some_iff.1 h
  refine Cm.to_loop mixed ⟨[], [], [(0, 4, (.v 0))], [], [], []⟩ (V := (Cm.vals [(a0.length : Int), a1] [(a0.flatMap Cm.enSIII)])) (n := 3000) (f := 3000) (V' := (Cm.vals [(a0.length : Int), a1, (1 : Int)] [(a0.flatMap Cm.enSIII)])) ⟨trivial, trivial, ⟨Cm.flat_length Cm.enSIII_len _, trivial⟩, trivial, trivial⟩ trivial (T := ⟨[(0, .gs 0 0 (.v 0) 4 false), (1, .sym .i64 (.v 1)), (6, .sym .i64 (.v 2))], [some (.rows 0 [] 79 true)], [some (0, 0)]⟩) (B := Cm.subAt (Cm.bodyOf Tryz.prog 24) [1, 0, 1, 0, 0]) (K' := [.bk 0, .sq (Cm.subAt (Cm.bodyOf Tryz.prog 24) [1, 1]) [1, 1]]) (qs := [.num (.v 0) (.v 0), .num (.v 1) (.v 1), .num (.c 1) (.v 2), .lst 0 (some 0) []]) hF hr (by kernel_rfl) ⟨(Cm.r (a0.length : Int)), (Cm.r a1), (Cm.r (1 : Int)), ⟨[], rfl, (List.append_nil _).symm⟩, trivial⟩ hat fun aa1 ww1 hat1 => Cm.loop_in (r7_Overload_L1_ok fu a0 a1 fu (1 : Int) o1 ho1 _ _ _ _ _ _ _ hF hr hat1 ?_ ?_)
  · intro y2 hy aa2 ww2 hat
    subst hy
    dsimp only at h
    show (Cm.Wk.out .ret).goal _ _ _ [.bk 0, .sq (Cm.subAt (Cm.bodyOf Tryz.prog 24) [1, 1]) [1, 1]] _ aa2 ww2
    injection h with h; subst h
    exact Cm.to_fin mixed ⟨[], [], [(0, 4, (.v 0))], [], [], []⟩ (V := (Cm.vals [(a0.length : Int), y2] [(a0.flatMap Cm.enSIII)])) (n := 3000) (f := 3000) ⟨trivial, trivial, ⟨Cm.flat_length Cm.enSIII_len _, trivial⟩, trivial, trivial⟩ trivial (R := ⟨.tup [.sym .i64 (.v 0), .bs (.v 1)], [none], [some (0, 0)]⟩) (qs := [.num (.v 1) (.v 0), .num (.c 1) (.v 1)]) hF hr (by kernel_rfl) ⟨(Cm.r y2), rfl, trivial⟩ hat
  · intro y3 hy aa2 ww2 hat
    subst hy
    dsimp only at h
    show (Cm.Wk.out (.exit 0)).goal _ _ _ [.bk 0, .sq (Cm.subAt (Cm.bodyOf Tryz.prog 24) [1, 1]) [1, 1]] _ aa2 ww2
    injection h with h; subst h
    exact Cm.to_fin mixed ⟨[], [], [(0, 4, (.v 0))], [], [], []⟩ (V := (Cm.vals [(a0.length : Int)] [(a0.flatMap Cm.enSIII)])) (n := 3000) (f := 3000) ⟨trivial, trivial, ⟨Cm.flat_length Cm.enSIII_len _, trivial⟩, trivial, trivial⟩ trivial (R := ⟨.tup [.sym .i64 (.v 0), .bs (.v 1)], [none], [some (0, 0)]⟩) (qs := [.num (.c 0) (.v 0), .num (.c 0) (.v 1)]) hF hr (by kernel_rfl) ⟨(Cm.r (0 : Int)), rfl, trivial⟩ hat

def r7_CopyStreams (a0 : List (Int × Int × Int × Int)) : Option (List (Int × Int × Int × Int)) := if (a0.length : Int) < (65536 : Int) then (some a0) else none

theorem r7_CopyStreams_ok (a0 : List (Int × Int × Int × Int)) (y : List (Int × Int × Int × Int)) (h : r7_CopyStreams a0 = some y) : Cm.CallOk Tryz.prog 18 (Cm.vals [(a0.length : Int)] [(a0.flatMap Cm.enSIII)]) [.gs 0 0 (.v 0) 4 false] [some (.rows 0 [] 79 true)] 1 (Cm.vals [(y.length : Int)] [(y.flatMap Cm.enSIII)]) (.gs 1 0 (.v 0) 4 true) [none, some (.rows 0 [] 79 false)] := by
  refine Cm.fun_of (nt := 6) (by kernel_rfl) (by kernel_rfl) fun φ0 w0 a w hat => ?_
  have hF := Cm.wide_fw
  have hr : Fence.wide.round = none := rfl
  unfold r7_CopyStreams at h
  by_cases h1 : (a0.length : Int) < (65536 : Int)
  · rw [if_pos h1] at h
    injection h with h; subst h
    exact Cm.to_fin mixed ⟨[(.lss, (.v 0), (.c 65536), true)], [], [(0, 4, (.v 0))], [], [], []⟩ (V := (Cm.vals [(a0.length : Int)] [(a0.flatMap Cm.enSIII)])) (n := 3000) (f := 3000) ⟨⟨Cm.lss_t h1, trivial⟩, trivial, ⟨Cm.flat_length Cm.enSIII_len _, trivial⟩, trivial, trivial⟩ trivial (R := ⟨.gs 1 0 (.v 0) 4 true, [none, some (.rows 0 [] 79 false)], [some (0, 0), some (1, 0)]⟩) (qs := [.num (.v 0) (.v 0), .lst 0 (some 0) []]) hF hr (by kernel_rfl) ⟨(Cm.r (a0.length : Int)), ⟨[], rfl, (List.append_nil _).symm⟩, trivial⟩ hat
  · rw [if_neg h1] at h
    cases h
end Go.Proofs.YtefkmidmjofdcaaGreat
