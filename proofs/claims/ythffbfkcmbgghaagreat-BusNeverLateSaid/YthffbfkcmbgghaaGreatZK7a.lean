/-
  Go functions as Lean functions (written by tools/lift.py).
-/
import Derived.Test.YthffbfkcmbgghaaGreatZEd
import Derived.Test.YthffbfkcmbgghaaGreatZEg
import Derived.Test.YthffbfkcmbgghaaGreatZYa
set_option linter.all false
namespace Go.Proofs.YthffbfkcmbgghaaGreat
open Go Go.RowKit Cm
set_option maxRecDepth 100000
set_option maxHeartbeats 4000000
def u_LimitError (a0 : Int) (a1 : Int) (a2 : Int) : Option (Int) := if a0 < a1 then (some (2 : Int)) else (if a2 < a0 then (some (2 : Int)) else (some (0 : Int)))
theorem u_LimitError_ok (a0 : Int) (a1 : Int) (a2 : Int) (y : Int) (h : u_LimitError a0 a1 a2 = some y) : CallOk Tryz.prog 65 (vals [a0, a1, a2] []) [(ys 0), (ys 1), (ys 2)] [] 0 (vals [y] []) ((ys 0)) [] := by
 refine fun_of (nt := 15) (by kernel_rfl) (by kernel_rfl) fun φ0 w0 a w hat => ?_
 have hF := wide_fw
 have hr : Fence.wide.round = none := rfl
 unfold u_LimitError at h
 by_cases h1 : a0 < a1
 ·rw [if_pos h1] at h
  injection h with h; subst h
  exact to_fin mixed ⟨[(.lss, (.v 0), (.v 1), true)], [], [], [], [], []⟩ (V := (vals [a0, a1, a2] [])) (n := 3000) (f := 3000) (fid := 65) (fun _ => rfl) ⟨⟨lss_t h1, tv⟩, tv, tv, tv, tv⟩ tv (R := ⟨(ys 0), [], []⟩) (qs := [.num (.c 2) (.v 0)]) wok0 tv hF hr (by kernel_rfl) ⟨(r (2 : Int)), tv⟩ hat
 ·rw [if_neg h1] at h
  by_cases h2 : a2 < a0
  ·rw [if_pos h2] at h
   injection h with h; subst h
   exact to_fin mixed ⟨[(.lss, (.v 0), (.v 1), false), (.gtr, (.v 0), (.v 2), true)], [], [], [], [], []⟩ (V := (vals [a0, a1, a2] [])) (n := 3000) (f := 3000) (fid := 65) (fun _ => rfl) ⟨⟨lss_f h1, gtr_t h2, tv⟩, tv, tv, tv, tv⟩ tv (R := ⟨(ys 0), [], []⟩) (qs := [.num (.c 2) (.v 0)]) wok0 tv hF hr (by kernel_rfl) ⟨(r (2 : Int)), tv⟩ hat
  ·rw [if_neg h2] at h
   injection h with h; subst h
   exact to_fin mixed ⟨[(.lss, (.v 0), (.v 1), false), (.gtr, (.v 0), (.v 2), false)], [], [], [], [], []⟩ (V := (vals [a0, a1, a2] [])) (n := 3000) (f := 3000) (fid := 65) (fun _ => rfl) ⟨⟨lss_f h1, gtr_f h2, tv⟩, tv, tv, tv, tv⟩ tv (R := ⟨(ys 0), [], []⟩) (qs := [.num (.c 0) (.v 0)]) wok0 tv hF hr (by kernel_rfl) ⟨(r (0 : Int)), tv⟩ hat
def bus_ticksError (a0 : Int) : Option (Int) := Option.bind (u_LimitError a0 (0 : Int) (400 : Int)) fun r1 => some r1
theorem bus_ticksError_ok (a0 : Int) (y : Int) (h : bus_ticksError a0 = some y) : CallOk Tryz.prog 105 (vals [a0] []) [(ys 0)] [] 0 (vals [y] []) ((ys 0)) [] := by
 refine fun_of (nt := 5) (by kernel_rfl) (by kernel_rfl) fun φ0 w0 a w hat => ?_
 have hF := wide_fw
 have hr : Fence.wide.round = none := rfl
 unfold bus_ticksError at h
 obtain ⟨r1, hr1, h⟩ := bs1 h
 have Kr1 : KO Tryz.prog [a0, r1] [] ⟨65, 0, [], [(ys 0), (ys 1), (ys 2)], [], [(ns 0 0), .num (.c 0) (.v 1), .num (.c 400) (.v 2)], 0, (ys 0), [], (ys 1), [], []⟩ := fun N M => ⟨_, _, [(ns 0 1)], ⟨u_LimitError_ok a0 (0 : Int) (400 : Int) r1 hr1, ⟨(r a0), (r (0 : Int)), (r (400 : Int)), tv⟩, by kernel_rfl, ⟨rfl, tv⟩⟩⟩
 injection h with h; subst h
 exact to_fin mixed ⟨[], [], [], [⟨65, 0, [], [(ys 0), (ys 1), (ys 2)], [], [(ns 0 0), .num (.c 0) (.v 1), .num (.c 400) (.v 2)], 0, (ys 0), [], (ys 1), [], []⟩], [], []⟩ (V := (vals [a0, r1] [])) (n := 3000) (f := 3000) (fid := 105) (fun _ => rfl) ⟨tv, tv, tv, tv, tv⟩ ⟨Kr1 _ _, tv⟩ (R := ⟨(ys 0), [], []⟩) (qs := [(ns 1 0)]) wok0 tv hF hr (by kernel_rfl) ⟨(r r1), tv⟩ (at_re (V' := (vals [a0, r1] [])) (T := ⟨[(0, (ys 0))], [], []⟩) (qs := [(ns 0 0)]) hat (by kernel_rfl) ⟨rfl, tv⟩)
def u_isLetter (a0 : Int) : Option (Bool) := if (97 : Int) ≤ a0 then (if a0 ≤ (122 : Int) then (some true) else (if (65 : Int) ≤ a0 then (if a0 ≤ (90 : Int) then (some true) else (some false)) else (some false))) else (if (65 : Int) ≤ a0 then (if a0 ≤ (90 : Int) then (some true) else (some false)) else (some false))
theorem u_isLetter_ok (a0 : Int) (y : Bool) (h : u_isLetter a0 = some y) : CallOk Tryz.prog 203 (vals [a0] []) [.sym .u8 (.v 0)] [] 0 (vals [bI y] []) (.bs (.v 0)) [] := by
 refine fun_of (nt := 17) (by kernel_rfl) (by kernel_rfl) fun φ0 w0 a w hat => ?_
 have hF := wide_fw
 have hr : Fence.wide.round = none := rfl
 unfold u_isLetter at h
 by_cases h1 : (97 : Int) ≤ a0
 ·rw [if_pos h1] at h
  by_cases h2 : a0 ≤ (122 : Int)
  ·rw [if_pos h2] at h
   injection h with h; subst h
   exact to_fin mixed ⟨[(.leq, (.c 97), (.v 0), true), (.leq, (.v 0), (.c 122), true)], [], [], [], [], []⟩ (V := (vals [a0] [])) (n := 3000) (f := 3000) (fid := 203) (fun _ => rfl) ⟨⟨leq_t h1, leq_t h2, tv⟩, tv, tv, tv, tv⟩ tv (R := ⟨.bs (.v 0), [], []⟩) (qs := [.num (.c 1) (.v 0)]) wok0 tv hF hr (by kernel_rfl) ⟨rfl, tv⟩ hat
  ·rw [if_neg h2] at h
   by_cases h3 : (65 : Int) ≤ a0
   ·rw [if_pos h3] at h
    by_cases h4 : a0 ≤ (90 : Int)
    ·rw [if_pos h4] at h
     injection h with h; subst h
     exact to_fin mixed ⟨[(.leq, (.c 97), (.v 0), true), (.leq, (.v 0), (.c 122), false), (.leq, (.c 65), (.v 0), true), (.leq, (.v 0), (.c 90), true)], [], [], [], [], []⟩ (V := (vals [a0] [])) (n := 3000) (f := 3000) (fid := 203) (fun _ => rfl) ⟨⟨leq_t h1, leq_f h2, leq_t h3, leq_t h4, tv⟩, tv, tv, tv, tv⟩ tv (R := ⟨.bs (.v 0), [], []⟩) (qs := [.num (.c 1) (.v 0)]) wok0 tv hF hr (by kernel_rfl) ⟨rfl, tv⟩ hat
    ·rw [if_neg h4] at h
     injection h with h; subst h
     exact to_fin mixed ⟨[(.leq, (.c 97), (.v 0), true), (.leq, (.v 0), (.c 122), false), (.leq, (.c 65), (.v 0), true), (.leq, (.v 0), (.c 90), false)], [], [], [], [], []⟩ (V := (vals [a0] [])) (n := 3000) (f := 3000) (fid := 203) (fun _ => rfl) ⟨⟨leq_t h1, leq_f h2, leq_t h3, leq_f h4, tv⟩, tv, tv, tv, tv⟩ tv (R := ⟨.bs (.v 0), [], []⟩) (qs := [.num (.c 0) (.v 0)]) wok0 tv hF hr (by kernel_rfl) ⟨rfl, tv⟩ hat
   ·rw [if_neg h3] at h
    injection h with h; subst h
    exact to_fin mixed ⟨[(.leq, (.c 97), (.v 0), true), (.leq, (.v 0), (.c 122), false), (.leq, (.c 65), (.v 0), false)], [], [], [], [], []⟩ (V := (vals [a0] [])) (n := 3000) (f := 3000) (fid := 203) (fun _ => rfl) ⟨⟨leq_t h1, leq_f h2, leq_f h3, tv⟩, tv, tv, tv, tv⟩ tv (R := ⟨.bs (.v 0), [], []⟩) (qs := [.num (.c 0) (.v 0)]) wok0 tv hF hr (by kernel_rfl) ⟨rfl, tv⟩ hat
 ·rw [if_neg h1] at h
  by_cases h5 : (65 : Int) ≤ a0
  ·rw [if_pos h5] at h
   by_cases h6 : a0 ≤ (90 : Int)
   ·rw [if_pos h6] at h
    injection h with h; subst h
    exact to_fin mixed ⟨[(.leq, (.c 97), (.v 0), false), (.leq, (.c 65), (.v 0), true), (.leq, (.v 0), (.c 90), true)], [], [], [], [], []⟩ (V := (vals [a0] [])) (n := 3000) (f := 3000) (fid := 203) (fun _ => rfl) ⟨⟨leq_f h1, leq_t h5, leq_t h6, tv⟩, tv, tv, tv, tv⟩ tv (R := ⟨.bs (.v 0), [], []⟩) (qs := [.num (.c 1) (.v 0)]) wok0 tv hF hr (by kernel_rfl) ⟨rfl, tv⟩ hat
   ·rw [if_neg h6] at h
    injection h with h; subst h
    exact to_fin mixed ⟨[(.leq, (.c 97), (.v 0), false), (.leq, (.c 65), (.v 0), true), (.leq, (.v 0), (.c 90), false)], [], [], [], [], []⟩ (V := (vals [a0] [])) (n := 3000) (f := 3000) (fid := 203) (fun _ => rfl) ⟨⟨leq_f h1, leq_t h5, leq_f h6, tv⟩, tv, tv, tv, tv⟩ tv (R := ⟨.bs (.v 0), [], []⟩) (qs := [.num (.c 0) (.v 0)]) wok0 tv hF hr (by kernel_rfl) ⟨rfl, tv⟩ hat
  ·rw [if_neg h5] at h
   injection h with h; subst h
   exact to_fin mixed ⟨[(.leq, (.c 97), (.v 0), false), (.leq, (.c 65), (.v 0), false)], [], [], [], [], []⟩ (V := (vals [a0] [])) (n := 3000) (f := 3000) (fid := 203) (fun _ => rfl) ⟨⟨leq_f h1, leq_f h5, tv⟩, tv, tv, tv, tv⟩ tv (R := ⟨.bs (.v 0), [], []⟩) (qs := [.num (.c 0) (.v 0)]) wok0 tv hF hr (by kernel_rfl) ⟨rfl, tv⟩ hat
def u_isDigit (a0 : Int) : Option (Bool) := if (48 : Int) ≤ a0 then (if a0 ≤ (57 : Int) then (some true) else (some false)) else (some false)
theorem u_isDigit_ok (a0 : Int) (y : Bool) (h : u_isDigit a0 = some y) : CallOk Tryz.prog 204 (vals [a0] []) [.sym .u8 (.v 0)] [] 0 (vals [bI y] []) (.bs (.v 0)) [] := by
 refine fun_of (nt := 9) (by kernel_rfl) (by kernel_rfl) fun φ0 w0 a w hat => ?_
 have hF := wide_fw
 have hr : Fence.wide.round = none := rfl
 unfold u_isDigit at h
 by_cases h1 : (48 : Int) ≤ a0
 ·rw [if_pos h1] at h
  by_cases h2 : a0 ≤ (57 : Int)
  ·rw [if_pos h2] at h
   injection h with h; subst h
   exact to_fin mixed ⟨[(.leq, (.c 48), (.v 0), true), (.leq, (.v 0), (.c 57), true)], [], [], [], [], []⟩ (V := (vals [a0] [])) (n := 3000) (f := 3000) (fid := 204) (fun _ => rfl) ⟨⟨leq_t h1, leq_t h2, tv⟩, tv, tv, tv, tv⟩ tv (R := ⟨.bs (.v 0), [], []⟩) (qs := [.num (.c 1) (.v 0)]) wok0 tv hF hr (by kernel_rfl) ⟨rfl, tv⟩ hat
  ·rw [if_neg h2] at h
   injection h with h; subst h
   exact to_fin mixed ⟨[(.leq, (.c 48), (.v 0), true), (.leq, (.v 0), (.c 57), false)], [], [], [], [], []⟩ (V := (vals [a0] [])) (n := 3000) (f := 3000) (fid := 204) (fun _ => rfl) ⟨⟨leq_t h1, leq_f h2, tv⟩, tv, tv, tv, tv⟩ tv (R := ⟨.bs (.v 0), [], []⟩) (qs := [.num (.c 0) (.v 0)]) wok0 tv hF hr (by kernel_rfl) ⟨rfl, tv⟩ hat
 ·rw [if_neg h1] at h
  injection h with h; subst h
  exact to_fin mixed ⟨[(.leq, (.c 48), (.v 0), false)], [], [], [], [], []⟩ (V := (vals [a0] [])) (n := 3000) (f := 3000) (fid := 204) (fun _ => rfl) ⟨⟨leq_f h1, tv⟩, tv, tv, tv, tv⟩ tv (R := ⟨.bs (.v 0), [], []⟩) (qs := [.num (.c 0) (.v 0)]) wok0 tv hF hr (by kernel_rfl) ⟨rfl, tv⟩ hat
def u_isName_L1 (fu : Nat) (p0 : Int) (p1 : Int) : Nat → Int → Option ((Unit) ⊕ (Unit))
 | 0, _ => none
 | n + 1, v2 => if v2 < p1 then (if (0 : Int) ≤ v2 then (if v2 < (sln p0) then (Option.bind (u_isLetter (sat p0 v2)) fun r4 => if r4 = true then (u_isName_L1 fu p0 p1 n (IntKind.wrap .i64 (v2 + (1 : Int)))) else (Option.bind (u_isDigit (sat p0 v2)) fun r6 => if r6 = true then (u_isName_L1 fu p0 p1 n (IntKind.wrap .i64 (v2 + (1 : Int)))) else (if (sat p0 v2) = (45 : Int) then (u_isName_L1 fu p0 p1 n (IntKind.wrap .i64 (v2 + (1 : Int)))) else (some (.inl ()))))) else none) else none) else (some (.inr ()))
theorem u_isName_L1_ok (fu : Nat) (p0 : Int) (p1 : Int) : ∀ (n : Nat) (v2 : Int) (o : (Unit) ⊕ (Unit)), u_isName_L1 fu p0 p1 n v2 = some o → ∀ (φ0 : Phi) (w0 : World) (F : Fence) (k : Nat) (R : Exit → Act → World → Prop) (a : Act) (w : World), FW F → F.round = none → AtS (vals [p0, p1, v2] []) [(0, .ss (.v 0)), (19, (ys 1)), (20, (ys 2))] [] 39 0 0 φ0 w0 a w → (∀ (y : Unit), o = .inl y → ∀ a' w', AtS (vals [] []) [(2, .bool false)] [] 39 0 0 φ0 w0 a' w' → R Exit.ret a' w') → (∀ (y : Unit), o = .inr y → ∀ a' w', AtS (vals [] []) [] [] 39 0 0 φ0 w0 a' w' → R (Exit.exit 0) a' w') → Code.roundsIn F k Tryz.prog (subAt (bodyOf Tryz.prog 199) [1, 1, 0, 1, 0, 0]) R n a w
 | 0, _, _, h => by cases h
 | n + 1, v2, o, h => by
  intro φ0 w0 F k R a w hF hr hat hx0 hx1
  rw [u_isName_L1] at h
  refine rounds_in (p := [1, 1, 0, 1, 0, 0]) ?_
  by_cases h1 : v2 < p1
  ·rw [if_pos h1] at h
   by_cases h2 : (0 : Int) ≤ v2
   ·rw [if_pos h2] at h
    by_cases h3 : v2 < (sln p0)
    ·rw [if_pos h3] at h
     obtain ⟨r4, hr4, h⟩ := bs1 h
     have Kr4 : KO Tryz.prog [p0, p1, v2, bI r4] [] ⟨203, 0, [], [.sym .u8 (.v 0)], [], [.num (.sat (.v 0) (.v 2)) (.v 0)], 0, .bs (.v 0), [], .bs (.v 3), [], []⟩ := fun N M => ⟨_, _, [(ns 0 3)], ⟨u_isLetter_ok (sat p0 v2) r4 hr4, ⟨(r (sat p0 v2)), tv⟩, by kernel_rfl, ⟨rfl, tv⟩⟩⟩
     by_cases h5 : r4 = true
     ·rw [if_pos h5] at h
      refine to_done mixed ⟨[(.lss, (.v 2), (.v 1), true), (.leq, (.c 0), (.v 2), true), (.lss, (.v 2), (.sln (.v 0)), true), (.neq, (.v 3), (.c 0), true)], [], [], [⟨203, 0, [], [.sym .u8 (.v 0)], [], [.num (.sat (.v 0) (.v 2)) (.v 0)], 0, .bs (.v 0), [], .bs (.v 3), [], []⟩], [], []⟩ (V := (vals [p0, p1, v2, bI r4] [])) (n := 3000) (f := 3000) (fid := 199) (fun _ => rfl) (V' := (vals [p0, p1, (IntKind.wrap .i64 (v2 + (1 : Int)))] [])) ⟨⟨lss_t h1, leq_t h2, lss_t h3, bi_t h5, tv⟩, tv, tv, tv, tv⟩ ⟨Kr4 _ _, tv⟩ (T := ⟨[(0, .ss (.v 0)), (19, (ys 1)), (20, (ys 2))], [], []⟩) (ce := .normal) (qs := [(ns 0 0), (ns 1 1), .num (.add .i64 (.v 2) (.c 1)) (.v 2)]) rfl tv hF hr (by kernel_rfl) ⟨(r p0), (r p1), (r (IntKind.wrap .i64 (v2 + (1 : Int)))), tv⟩ (at_re (V' := (vals [p0, p1, v2, bI r4] [])) (T := ⟨[(0, .ss (.v 0)), (19, (ys 1)), (20, (ys 2))], [], []⟩) (qs := [(ns 0 0), (ns 1 1), (ns 2 2)]) hat (by kernel_rfl) ⟨rfl, rfl, rfl, tv⟩) fun a' w' hat' => ?_
      exact u_isName_L1_ok fu p0 p1 n (IntKind.wrap .i64 (v2 + (1 : Int))) o h _ _ _ _ _ _ _ hF hr hat' hx0 hx1
     ·rw [if_neg h5] at h
      obtain ⟨r6, hr6, h⟩ := bs1 h
      have Kr6 : KO Tryz.prog [p0, p1, v2, bI r4, bI r6] [] ⟨204, 0, [], [.sym .u8 (.v 0)], [], [.num (.sat (.v 0) (.v 2)) (.v 0)], 0, .bs (.v 0), [], .bs (.v 4), [], []⟩ := fun N M => ⟨_, _, [(ns 0 4)], ⟨u_isDigit_ok (sat p0 v2) r6 hr6, ⟨(r (sat p0 v2)), tv⟩, by kernel_rfl, ⟨rfl, tv⟩⟩⟩
      by_cases h7 : r6 = true
      ·rw [if_pos h7] at h
       refine to_done mixed ⟨[(.lss, (.v 2), (.v 1), true), (.leq, (.c 0), (.v 2), true), (.lss, (.v 2), (.sln (.v 0)), true), (.neq, (.v 3), (.c 0), false), (.neq, (.v 4), (.c 0), true)], [], [], [⟨203, 0, [], [.sym .u8 (.v 0)], [], [.num (.sat (.v 0) (.v 2)) (.v 0)], 0, .bs (.v 0), [], .bs (.v 3), [], []⟩, ⟨204, 0, [], [.sym .u8 (.v 0)], [], [.num (.sat (.v 0) (.v 2)) (.v 0)], 0, .bs (.v 0), [], .bs (.v 4), [], []⟩], [], []⟩ (V := (vals [p0, p1, v2, bI r4, bI r6] [])) (n := 3000) (f := 3000) (fid := 199) (fun _ => rfl) (V' := (vals [p0, p1, (IntKind.wrap .i64 (v2 + (1 : Int)))] [])) ⟨⟨lss_t h1, leq_t h2, lss_t h3, bi_f h5, bi_t h7, tv⟩, tv, tv, tv, tv⟩ ⟨Kr4 _ _, Kr6 _ _, tv⟩ (T := ⟨[(0, .ss (.v 0)), (19, (ys 1)), (20, (ys 2))], [], []⟩) (ce := .normal) (qs := [(ns 0 0), (ns 1 1), .num (.add .i64 (.v 2) (.c 1)) (.v 2)]) rfl tv hF hr (by kernel_rfl) ⟨(r p0), (r p1), (r (IntKind.wrap .i64 (v2 + (1 : Int)))), tv⟩ (at_re (V' := (vals [p0, p1, v2, bI r4, bI r6] [])) (T := ⟨[(0, .ss (.v 0)), (19, (ys 1)), (20, (ys 2))], [], []⟩) (qs := [(ns 0 0), (ns 1 1), (ns 2 2)]) hat (by kernel_rfl) ⟨rfl, rfl, rfl, tv⟩) fun a' w' hat' => ?_
       exact u_isName_L1_ok fu p0 p1 n (IntKind.wrap .i64 (v2 + (1 : Int))) o h _ _ _ _ _ _ _ hF hr hat' hx0 hx1
      ·rw [if_neg h7] at h
       by_cases h8 : (sat p0 v2) = (45 : Int)
       ·rw [if_pos h8] at h
        refine to_done mixed ⟨[(.lss, (.v 2), (.v 1), true), (.leq, (.c 0), (.v 2), true), (.lss, (.v 2), (.sln (.v 0)), true), (.neq, (.v 3), (.c 0), false), (.neq, (.v 4), (.c 0), false), (.neq, (.sat (.v 0) (.v 2)), (.c 45), false)], [], [], [⟨203, 0, [], [.sym .u8 (.v 0)], [], [.num (.sat (.v 0) (.v 2)) (.v 0)], 0, .bs (.v 0), [], .bs (.v 3), [], []⟩, ⟨204, 0, [], [.sym .u8 (.v 0)], [], [.num (.sat (.v 0) (.v 2)) (.v 0)], 0, .bs (.v 0), [], .bs (.v 4), [], []⟩], [], []⟩ (V := (vals [p0, p1, v2, bI r4, bI r6] [])) (n := 3000) (f := 3000) (fid := 199) (fun _ => rfl) (V' := (vals [p0, p1, (IntKind.wrap .i64 (v2 + (1 : Int)))] [])) ⟨⟨lss_t h1, leq_t h2, lss_t h3, bi_f h5, bi_f h7, neq_f h8, tv⟩, tv, tv, tv, tv⟩ ⟨Kr4 _ _, Kr6 _ _, tv⟩ (T := ⟨[(0, .ss (.v 0)), (19, (ys 1)), (20, (ys 2))], [], []⟩) (ce := .normal) (qs := [(ns 0 0), (ns 1 1), .num (.add .i64 (.v 2) (.c 1)) (.v 2)]) rfl tv hF hr (by kernel_rfl) ⟨(r p0), (r p1), (r (IntKind.wrap .i64 (v2 + (1 : Int)))), tv⟩ (at_re (V' := (vals [p0, p1, v2, bI r4, bI r6] [])) (T := ⟨[(0, .ss (.v 0)), (19, (ys 1)), (20, (ys 2))], [], []⟩) (qs := [(ns 0 0), (ns 1 1), (ns 2 2)]) hat (by kernel_rfl) ⟨rfl, rfl, rfl, tv⟩) fun a' w' hat' => ?_
        exact u_isName_L1_ok fu p0 p1 n (IntKind.wrap .i64 (v2 + (1 : Int))) o h _ _ _ _ _ _ _ hF hr hat' hx0 hx1
       ·rw [if_neg h8] at h
        injection h with h; subst h
        exact to_done mixed ⟨[(.lss, (.v 2), (.v 1), true), (.leq, (.c 0), (.v 2), true), (.lss, (.v 2), (.sln (.v 0)), true), (.neq, (.v 3), (.c 0), false), (.neq, (.v 4), (.c 0), false), (.neq, (.sat (.v 0) (.v 2)), (.c 45), true)], [], [], [⟨203, 0, [], [.sym .u8 (.v 0)], [], [.num (.sat (.v 0) (.v 2)) (.v 0)], 0, .bs (.v 0), [], .bs (.v 3), [], []⟩, ⟨204, 0, [], [.sym .u8 (.v 0)], [], [.num (.sat (.v 0) (.v 2)) (.v 0)], 0, .bs (.v 0), [], .bs (.v 4), [], []⟩], [], []⟩ (V := (vals [p0, p1, v2, bI r4, bI r6] [])) (n := 3000) (f := 3000) (fid := 199) (fun _ => rfl) (V' := (vals [] [])) ⟨⟨lss_t h1, leq_t h2, lss_t h3, bi_f h5, bi_f h7, neq_t h8, tv⟩, tv, tv, tv, tv⟩ ⟨Kr4 _ _, Kr6 _ _, tv⟩ (T := ⟨[(2, .bool false)], [], []⟩) (ce := .ret) (qs := []) rfl tv hF hr (by kernel_rfl) tv (at_re (V' := (vals [p0, p1, v2, bI r4, bI r6] [])) (T := ⟨[(0, .ss (.v 0)), (19, (ys 1)), (20, (ys 2))], [], []⟩) (qs := [(ns 0 0), (ns 1 1), (ns 2 2)]) hat (by kernel_rfl) ⟨rfl, rfl, rfl, tv⟩) fun a' w' hat' => hx0 () rfl a' w' hat'
    ·rw [if_neg h3] at h
     cases h
   ·rw [if_neg h2] at h
    cases h
  ·rw [if_neg h1] at h
   injection h with h; subst h
   exact to_done mixed ⟨[(.lss, (.v 2), (.v 1), false)], [], [], [], [], []⟩ (V := (vals [p0, p1, v2] [])) (n := 3000) (f := 3000) (fid := 199) (fun _ => rfl) (V' := (vals [] [])) ⟨⟨lss_f h1, tv⟩, tv, tv, tv, tv⟩ tv (T := ⟨[], [], []⟩) (ce := (.exit 0)) (qs := []) rfl tv hF hr (by kernel_rfl) tv hat fun a' w' hat' => hx1 () rfl a' w' hat'
def u_isName (fu : Nat) (a0 : Int) : Option (Bool) := if a0 = (0 : Int) then (some false) else (if (12 : Int) < (sln a0) then (some false) else (if (0 : Int) < (sln a0) then (Option.bind (u_isLetter (sat a0 (0 : Int))) fun r4 => if r4 = true then (Option.bind (u_isName_L1 fu a0 (sln a0) fu (0 : Int)) fun o6 => (match o6 with | .inl y7 => (some false) | .inr y8 => (some true))) else (some false)) else none))
theorem u_isName_ok (fu : Nat) (a0 : Int) (y : Bool) (h : u_isName fu a0 = some y) : CallOk Tryz.prog 199 (vals [a0] []) [.ss (.v 0)] [] 0 (vals [bI y] []) (.bs (.v 0)) [] := by
 refine fun_of (nt := 39) (by kernel_rfl) (by kernel_rfl) fun φ0 w0 a w hat => ?_
 have hF := wide_fw
 have hr : Fence.wide.round = none := rfl
 unfold u_isName at h
 by_cases h1 : a0 = (0 : Int)
 ·rw [if_pos h1] at h
  injection h with h; subst h
  exact to_fin mixed ⟨[(.eql, (.v 0), (.c 0), true)], [], [], [], [], []⟩ (V := (vals [a0] [])) (n := 3000) (f := 3000) (fid := 199) (fun _ => rfl) ⟨⟨eql_t h1, tv⟩, tv, tv, tv, tv⟩ tv (R := ⟨.bs (.v 0), [], []⟩) (qs := [.num (.c 0) (.v 0)]) wok0 tv hF hr (by kernel_rfl) ⟨rfl, tv⟩ hat
 ·rw [if_neg h1] at h
  by_cases h2 : (12 : Int) < (sln a0)
  ·rw [if_pos h2] at h
   injection h with h; subst h
   exact to_fin mixed ⟨[(.eql, (.v 0), (.c 0), false), (.gtr, (.sln (.v 0)), (.c 12), true)], [], [], [], [], []⟩ (V := (vals [a0] [])) (n := 3000) (f := 3000) (fid := 199) (fun _ => rfl) ⟨⟨eql_f h1, gtr_t h2, tv⟩, tv, tv, tv, tv⟩ tv (R := ⟨.bs (.v 0), [], []⟩) (qs := [.num (.c 0) (.v 0)]) wok0 tv hF hr (by kernel_rfl) ⟨rfl, tv⟩ hat
  ·rw [if_neg h2] at h
   by_cases h3 : (0 : Int) < (sln a0)
   ·rw [if_pos h3] at h
    obtain ⟨r4, hr4, h⟩ := bs1 h
    have Kr4 : KO Tryz.prog [a0, bI r4] [] ⟨203, 0, [], [.sym .u8 (.v 0)], [], [.num (.sat (.v 0) (.c 0)) (.v 0)], 0, .bs (.v 0), [], .bs (.v 1), [], []⟩ := fun N M => ⟨_, _, [(ns 0 1)], ⟨u_isLetter_ok (sat a0 (0 : Int)) r4 hr4, ⟨(r (sat a0 (0 : Int))), tv⟩, by kernel_rfl, ⟨rfl, tv⟩⟩⟩
    by_cases h5 : r4 = true
    ·rw [if_pos h5] at h
     obtain ⟨o6, ho6, h⟩ := bs1 h
     refine to_loop mixed ⟨[(.eql, (.v 0), (.c 0), false), (.gtr, (.sln (.v 0)), (.c 12), false), (.lss, (.c 0), (.sln (.v 0)), true), (.neq, (.v 1), (.c 0), true)], [], [], [⟨203, 0, [], [.sym .u8 (.v 0)], [], [.num (.sat (.v 0) (.c 0)) (.v 0)], 0, .bs (.v 0), [], .bs (.v 1), [], []⟩], [], []⟩ (V := (vals [a0, bI r4] [])) (n := 3000) (f := 3000) (fid := 199) (fun _ => rfl) (V' := (vals [a0, (sln a0), (0 : Int)] [])) ⟨⟨eql_f h1, gtr_f h2, lss_t h3, bi_t h5, tv⟩, tv, tv, tv, tv⟩ ⟨Kr4 _ _, tv⟩ (T := ⟨[(0, .ss (.v 0)), (19, (ys 1)), (20, (ys 2))], [], []⟩) (B := subAt (bodyOf Tryz.prog 199) [1, 1, 0, 1, 0, 0]) (K' := [.bk 0, .sq (subAt (bodyOf Tryz.prog 199) [1, 1, 1]) [1, 1, 1]]) (qs := [(ns 0 0), .num (.sln (.v 0)) (.v 1), .num (.c 0) (.v 2)]) wok0 tv hF hr (by kernel_rfl) ⟨(r a0), (r (sln a0)), (r (0 : Int)), tv⟩ (at_re (V' := (vals [a0, bI r4] [])) (T := ⟨[(0, .ss (.v 0))], [], []⟩) (qs := [(ns 0 0)]) hat (by kernel_rfl) ⟨rfl, tv⟩) fun aa1 ww1 hat1 => loop_in (u_isName_L1_ok fu a0 (sln a0) fu (0 : Int) o6 ho6 _ _ _ _ _ _ _ hF hr hat1 ?_ ?_)
     ·intro y7 hy aa2 ww2 hat
      subst hy
      dsimp only at h
      show (Wk.out .ret).goal _ _ _ [.bk 0, .sq (subAt (bodyOf Tryz.prog 199) [1, 1, 1]) [1, 1, 1]] _ aa2 ww2
      injection h with h; subst h
      exact to_fin mixed ⟨[], [], [], [], [], []⟩ (V := (vals [] [])) (n := 3000) (f := 3000) (fid := 199) (fun _ => rfl) ⟨tv, tv, tv, tv, tv⟩ tv (R := ⟨.bs (.v 0), [], []⟩) (qs := [.num (.c 0) (.v 0)]) tv ⟨rfl, tv⟩ hF hr (by kernel_rfl) ⟨rfl, tv⟩ hat
     ·intro y8 hy aa2 ww2 hat
      subst hy
      dsimp only at h
      show (Wk.out (.exit 0)).goal _ _ _ [.bk 0, .sq (subAt (bodyOf Tryz.prog 199) [1, 1, 1]) [1, 1, 1]] _ aa2 ww2
      injection h with h; subst h
      exact to_fin mixed ⟨[], [], [], [], [], []⟩ (V := (vals [] [])) (n := 3000) (f := 3000) (fid := 199) (fun _ => rfl) ⟨tv, tv, tv, tv, tv⟩ tv (R := ⟨.bs (.v 0), [], []⟩) (qs := [.num (.c 1) (.v 0)]) tv ⟨rfl, tv⟩ hF hr (by kernel_rfl) ⟨rfl, tv⟩ hat
    ·rw [if_neg h5] at h
     injection h with h; subst h
     exact to_fin mixed ⟨[(.eql, (.v 0), (.c 0), false), (.gtr, (.sln (.v 0)), (.c 12), false), (.lss, (.c 0), (.sln (.v 0)), true), (.neq, (.v 1), (.c 0), false)], [], [], [⟨203, 0, [], [.sym .u8 (.v 0)], [], [.num (.sat (.v 0) (.c 0)) (.v 0)], 0, .bs (.v 0), [], .bs (.v 1), [], []⟩], [], []⟩ (V := (vals [a0, bI r4] [])) (n := 3000) (f := 3000) (fid := 199) (fun _ => rfl) ⟨⟨eql_f h1, gtr_f h2, lss_t h3, bi_f h5, tv⟩, tv, tv, tv, tv⟩ ⟨Kr4 _ _, tv⟩ (R := ⟨.bs (.v 0), [], []⟩) (qs := [.num (.c 0) (.v 0)]) wok0 tv hF hr (by kernel_rfl) ⟨rfl, tv⟩ (at_re (V' := (vals [a0, bI r4] [])) (T := ⟨[(0, .ss (.v 0))], [], []⟩) (qs := [(ns 0 0)]) hat (by kernel_rfl) ⟨rfl, tv⟩)
   ·rw [if_neg h3] at h
    cases h
def u_NameError (fu : Nat) (a0 : Int) : Option (Int) := Option.bind (u_isName fu a0) fun r1 => if r1 = true then (some (0 : Int)) else (some (4 : Int))
theorem u_NameError_ok (fu : Nat) (a0 : Int) (y : Int) (h : u_NameError fu a0 = some y) : CallOk Tryz.prog 183 (vals [a0] []) [.ss (.v 0)] [] 0 (vals [y] []) ((ys 0)) [] := by
 refine fun_of (nt := 6) (by kernel_rfl) (by kernel_rfl) fun φ0 w0 a w hat => ?_
 have hF := wide_fw
 have hr : Fence.wide.round = none := rfl
 unfold u_NameError at h
 obtain ⟨r1, hr1, h⟩ := bs1 h
 have Kr1 : KO Tryz.prog [a0, bI r1] [] ⟨199, 0, [], [.ss (.v 0)], [], [(ns 0 0)], 0, .bs (.v 0), [], .bs (.v 1), [], []⟩ := fun N M => ⟨_, _, [(ns 0 1)], ⟨u_isName_ok fu a0 r1 hr1, ⟨(r a0), tv⟩, by kernel_rfl, ⟨rfl, tv⟩⟩⟩
 by_cases h2 : r1 = true
 ·rw [if_pos h2] at h
  injection h with h; subst h
  exact to_fin mixed ⟨[(.neq, (.v 1), (.c 0), true)], [], [], [⟨199, 0, [], [.ss (.v 0)], [], [(ns 0 0)], 0, .bs (.v 0), [], .bs (.v 1), [], []⟩], [], []⟩ (V := (vals [a0, bI r1] [])) (n := 3000) (f := 3000) (fid := 183) (fun _ => rfl) ⟨⟨bi_t h2, tv⟩, tv, tv, tv, tv⟩ ⟨Kr1 _ _, tv⟩ (R := ⟨(ys 0), [], []⟩) (qs := [.num (.c 0) (.v 0)]) wok0 tv hF hr (by kernel_rfl) ⟨(r (0 : Int)), tv⟩ (at_re (V' := (vals [a0, bI r1] [])) (T := ⟨[(0, .ss (.v 0))], [], []⟩) (qs := [(ns 0 0)]) hat (by kernel_rfl) ⟨rfl, tv⟩)
 ·rw [if_neg h2] at h
  injection h with h; subst h
  exact to_fin mixed ⟨[(.neq, (.v 1), (.c 0), false)], [], [], [⟨199, 0, [], [.ss (.v 0)], [], [(ns 0 0)], 0, .bs (.v 0), [], .bs (.v 1), [], []⟩], [], []⟩ (V := (vals [a0, bI r1] [])) (n := 3000) (f := 3000) (fid := 183) (fun _ => rfl) ⟨⟨bi_f h2, tv⟩, tv, tv, tv, tv⟩ ⟨Kr1 _ _, tv⟩ (R := ⟨(ys 0), [], []⟩) (qs := [.num (.c 4) (.v 0)]) wok0 tv hF hr (by kernel_rfl) ⟨(r (4 : Int)), tv⟩ (at_re (V' := (vals [a0, bI r1] [])) (T := ⟨[(0, .ss (.v 0))], [], []⟩) (qs := [(ns 0 0)]) hat (by kernel_rfl) ⟨rfl, tv⟩)
def slices_Index_string_string_L1 (fu : Nat) (p0 : List (Int)) (p1 : Int) (p2 : Int) : Nat → Int → Option ((Int) ⊕ (Unit))
 | 0, _ => none
 | n + 1, v3 => if v3 < p2 then (if (0 : Int) ≤ v3 then (if v3 < (p0.length : Int) then (Option.bind ((p0)[0 + (v3).toNat]?) fun e4 => if p1 = e4 then (some (.inl v3)) else (slices_Index_string_string_L1 fu p0 p1 p2 n (IntKind.wrap .i64 (v3 + (1 : Int))))) else none) else none) else (some (.inr ()))
theorem slices_Index_string_string_L1_ok (fu : Nat) (p0 : List (Int)) (p1 : Int) (p2 : Int) : ∀ (n : Nat) (v3 : Int) (o : (Int) ⊕ (Unit)), slices_Index_string_string_L1 fu p0 p1 p2 n v3 = some o → ∀ (φ0 : Phi) (w0 : World) (F : Fence) (k : Nat) (R : Exit → Act → World → Prop) (a : Act) (w : World), FW F → F.round = none → AtS (vals [(p0.length : Int), p1, p2, v3] [(p0.flatMap enS)]) [(0, .gs 0 0 (.v 0) 1 false), (1, .ss (.v 1)), (7, (ys 2)), (8, (ys 3))] [some (.rows 0 [] 9 true)] 19 1 1 φ0 w0 a w → (∀ (y : Int), o = .inl y → ∀ a' w', AtS (vals [(p0.length : Int), y] [(p0.flatMap enS)]) [(4, (ys 1))] [some (.rows 0 [] 9 true)] 19 1 1 φ0 w0 a' w' → R Exit.ret a' w') → (∀ (y : Unit), o = .inr y → ∀ a' w', AtS (vals [(p0.length : Int)] [(p0.flatMap enS)]) [] [some (.rows 0 [] 9 true)] 19 1 1 φ0 w0 a' w' → R (Exit.exit 0) a' w') → Code.roundsIn F k Tryz.prog (subAt (bodyOf Tryz.prog 200) [1, 0, 1, 0, 0]) R n a w
 | 0, _, _, h => by cases h
 | n + 1, v3, o, h => by
  intro φ0 w0 F k R a w hF hr hat hx0 hx1
  rw [slices_Index_string_string_L1] at h
  refine rounds_in (p := [1, 0, 1, 0, 0]) ?_
  by_cases h1 : v3 < p2
  ·rw [if_pos h1] at h
   by_cases h2 : (0 : Int) ≤ v3
   ·rw [if_pos h2] at h
    by_cases h3 : v3 < (p0.length : Int)
    ·rw [if_pos h3] at h
     obtain ⟨e4, he4, h⟩ := bs1 h
     by_cases h5 : p1 = e4
     ·rw [if_pos h5] at h
      injection h with h; subst h
      exact to_done mixed ⟨[(.lss, (.v 3), (.v 2), true), (.leq, (.c 0), (.v 3), true), (.lss, (.v 3), (.v 0), true), (.eql, (.v 1), (.v 4), true)], [(0, 0, (.v 3), [.ss (.v 4)])], [(0, 1, (.v 0))], [], [], []⟩ (V := (vals [(p0.length : Int), p1, p2, v3, e4] [(p0.flatMap enS)])) (n := 3000) (f := 3000) (fid := 200) (fun _ => rfl) (V' := (vals [(p0.length : Int), v3] [(p0.flatMap enS)])) ⟨⟨lss_t h1, leq_t h2, lss_t h3, eql_t h5, tv⟩, ⟨⟨h2, _, rfl, flat_row enS_len he4⟩, tv⟩, ⟨flat_length enS_len _, tv⟩, tv, tv⟩ tv (T := ⟨[(4, (ys 1))], [some (.rows 0 [] 9 true)], [some (0, 0)]⟩) (ce := .ret) (qs := [(ns 3 1), .lst 0 (some 0) []]) rfl tv hF hr (by kernel_rfl) ⟨(r v3), ⟨[], rfl, lnil _⟩, tv⟩ (at_re (V' := (vals [(p0.length : Int), p1, p2, v3, e4] [(p0.flatMap enS)])) (T := ⟨[(0, .gs 0 0 (.v 0) 1 false), (1, .ss (.v 1)), (7, (ys 2)), (8, (ys 3))], [some (.rows 0 [] 9 true)], [some (0, 0)]⟩) (qs := [(ns 0 0), (ns 1 1), (ns 2 2), (ns 3 3), .lst 0 (some 0) []]) hat (by kernel_rfl) ⟨rfl, rfl, rfl, rfl, ⟨[], rfl, lnil _⟩, tv⟩) fun a' w' hat' => hx0 v3 rfl a' w' hat'
     ·rw [if_neg h5] at h
      refine to_done mixed ⟨[(.lss, (.v 3), (.v 2), true), (.leq, (.c 0), (.v 3), true), (.lss, (.v 3), (.v 0), true), (.eql, (.v 1), (.v 4), false)], [(0, 0, (.v 3), [.ss (.v 4)])], [(0, 1, (.v 0))], [], [], []⟩ (V := (vals [(p0.length : Int), p1, p2, v3, e4] [(p0.flatMap enS)])) (n := 3000) (f := 3000) (fid := 200) (fun _ => rfl) (V' := (vals [(p0.length : Int), p1, p2, (IntKind.wrap .i64 (v3 + (1 : Int)))] [(p0.flatMap enS)])) ⟨⟨lss_t h1, leq_t h2, lss_t h3, eql_f h5, tv⟩, ⟨⟨h2, _, rfl, flat_row enS_len he4⟩, tv⟩, ⟨flat_length enS_len _, tv⟩, tv, tv⟩ tv (T := ⟨[(0, .gs 0 0 (.v 0) 1 false), (1, .ss (.v 1)), (7, (ys 2)), (8, (ys 3))], [some (.rows 0 [] 9 true)], [some (0, 0)]⟩) (ce := .normal) (qs := [(ns 0 0), (ns 1 1), (ns 2 2), .num (.add .i64 (.v 3) (.c 1)) (.v 3), .lst 0 (some 0) []]) rfl tv hF hr (by kernel_rfl) ⟨(r (p0.length : Int)), (r p1), (r p2), (r (IntKind.wrap .i64 (v3 + (1 : Int)))), ⟨[], rfl, lnil _⟩, tv⟩ (at_re (V' := (vals [(p0.length : Int), p1, p2, v3, e4] [(p0.flatMap enS)])) (T := ⟨[(0, .gs 0 0 (.v 0) 1 false), (1, .ss (.v 1)), (7, (ys 2)), (8, (ys 3))], [some (.rows 0 [] 9 true)], [some (0, 0)]⟩) (qs := [(ns 0 0), (ns 1 1), (ns 2 2), (ns 3 3), .lst 0 (some 0) []]) hat (by kernel_rfl) ⟨rfl, rfl, rfl, rfl, ⟨[], rfl, lnil _⟩, tv⟩) fun a' w' hat' => ?_
      exact slices_Index_string_string_L1_ok fu p0 p1 p2 n (IntKind.wrap .i64 (v3 + (1 : Int))) o h _ _ _ _ _ _ _ hF hr hat' hx0 hx1
    ·rw [if_neg h3] at h
     cases h
   ·rw [if_neg h2] at h
    cases h
  ·rw [if_neg h1] at h
   injection h with h; subst h
   exact to_done mixed ⟨[(.lss, (.v 3), (.v 2), false)], [], [(0, 1, (.v 0))], [], [], []⟩ (V := (vals [(p0.length : Int), p1, p2, v3] [(p0.flatMap enS)])) (n := 3000) (f := 3000) (fid := 200) (fun _ => rfl) (V' := (vals [(p0.length : Int)] [(p0.flatMap enS)])) ⟨⟨lss_f h1, tv⟩, tv, ⟨flat_length enS_len _, tv⟩, tv, tv⟩ tv (T := ⟨[], [some (.rows 0 [] 9 true)], [some (0, 0)]⟩) (ce := (.exit 0)) (qs := [.lst 0 (some 0) []]) rfl tv hF hr (by kernel_rfl) ⟨⟨[], rfl, lnil _⟩, tv⟩ hat fun a' w' hat' => hx1 () rfl a' w' hat'
def slices_Index_string_string (fu : Nat) (a0 : List (Int)) (a1 : Int) : Option (Int) := Option.bind (slices_Index_string_string_L1 fu a0 a1 (a0.length : Int) fu (0 : Int)) fun o1 => (match o1 with | .inl y2 => (some y2) | .inr y3 => (some (-1 : Int)))
theorem slices_Index_string_string_ok (fu : Nat) (a0 : List (Int)) (a1 : Int) (y : Int) (h : slices_Index_string_string fu a0 a1 = some y) : CallOk Tryz.prog 200 (vals [(a0.length : Int), a1] [(a0.flatMap enS)]) [.gs 0 0 (.v 0) 1 false, .ss (.v 1)] [some (.rows 0 [] 9 true)] 1 (vals [y] []) ((ys 0)) [none] := by
 refine fun_of (nt := 19) (by kernel_rfl) (by kernel_rfl) fun φ0 w0 a w hat => ?_
 have hF := wide_fw
 have hr : Fence.wide.round = none := rfl
 unfold slices_Index_string_string at h
 obtain ⟨o1, ho1, h⟩ := bs1 h
 refine to_loop mixed ⟨[], [], [(0, 1, (.v 0))], [], [], []⟩ (V := (vals [(a0.length : Int), a1] [(a0.flatMap enS)])) (n := 3000) (f := 3000) (fid := 200) (fun _ => rfl) (V' := (vals [(a0.length : Int), a1, (a0.length : Int), (0 : Int)] [(a0.flatMap enS)])) ⟨tv, tv, ⟨flat_length enS_len _, tv⟩, tv, tv⟩ tv (T := ⟨[(0, .gs 0 0 (.v 0) 1 false), (1, .ss (.v 1)), (7, (ys 2)), (8, (ys 3))], [some (.rows 0 [] 9 true)], [some (0, 0)]⟩) (B := subAt (bodyOf Tryz.prog 200) [1, 0, 1, 0, 0]) (K' := [.bk 0, .sq (subAt (bodyOf Tryz.prog 200) [1, 1]) [1, 1]]) (qs := [(ns 0 0), (ns 1 1), (ns 0 2), .num (.c 0) (.v 3), .lst 0 (some 0) []]) wok0 tv hF hr (by kernel_rfl) ⟨(r (a0.length : Int)), (r a1), (r (a0.length : Int)), (r (0 : Int)), ⟨[], rfl, lnil _⟩, tv⟩ hat fun aa1 ww1 hat1 => loop_in (slices_Index_string_string_L1_ok fu a0 a1 (a0.length : Int) fu (0 : Int) o1 ho1 _ _ _ _ _ _ _ hF hr hat1 ?_ ?_)
 ·intro y2 hy aa2 ww2 hat
  subst hy
  dsimp only at h
  show (Wk.out .ret).goal _ _ _ [.bk 0, .sq (subAt (bodyOf Tryz.prog 200) [1, 1]) [1, 1]] _ aa2 ww2
  injection h with h; subst h
  exact to_fin mixed ⟨[], [], [(0, 1, (.v 0))], [], [], []⟩ (V := (vals [(a0.length : Int), y2] [(a0.flatMap enS)])) (n := 3000) (f := 3000) (fid := 200) (fun _ => rfl) ⟨tv, tv, ⟨flat_length enS_len _, tv⟩, tv, tv⟩ tv (R := ⟨(ys 0), [none], [some (0, 0)]⟩) (qs := [(ns 1 0)]) tv ⟨rfl, tv⟩ hF hr (by kernel_rfl) ⟨(r y2), tv⟩ hat
 ·intro y3 hy aa2 ww2 hat
  subst hy
  dsimp only at h
  show (Wk.out (.exit 0)).goal _ _ _ [.bk 0, .sq (subAt (bodyOf Tryz.prog 200) [1, 1]) [1, 1]] _ aa2 ww2
  injection h with h; subst h
  exact to_fin mixed ⟨[], [], [(0, 1, (.v 0))], [], [], []⟩ (V := (vals [(a0.length : Int)] [(a0.flatMap enS)])) (n := 3000) (f := 3000) (fid := 200) (fun _ => rfl) ⟨tv, tv, ⟨flat_length enS_len _, tv⟩, tv, tv⟩ tv (R := ⟨(ys 0), [none], [some (0, 0)]⟩) (qs := [.num (.c (-1)) (.v 0)]) tv ⟨rfl, tv⟩ hF hr (by kernel_rfl) ⟨(show (-1 : Int) = (-1 : Int) from rfl), tv⟩ hat
def slices_Contains_string_string (fu : Nat) (a0 : List (Int)) (a1 : Int) : Option (Bool) := Option.bind (slices_Index_string_string fu a0 a1) fun r1 => if (0 : Int) ≤ r1 then (some true) else (some false)
theorem slices_Contains_string_string_ok (fu : Nat) (a0 : List (Int)) (a1 : Int) (y : Bool) (h : slices_Contains_string_string fu a0 a1 = some y) : CallOk Tryz.prog 184 (vals [(a0.length : Int), a1] [(a0.flatMap enS)]) [.gs 0 0 (.v 0) 1 false, .ss (.v 1)] [some (.rows 0 [] 9 true)] 1 (vals [bI y] []) (.bs (.v 0)) [none] := by
 refine fun_of (nt := 9) (by kernel_rfl) (by kernel_rfl) fun φ0 w0 a w hat => ?_
 have hF := wide_fw
 have hr : Fence.wide.round = none := rfl
 unfold slices_Contains_string_string at h
 obtain ⟨r1, hr1, h⟩ := bs1 h
 have Kr1 : KO Tryz.prog [(a0.length : Int), a1, r1] [(a0.flatMap enS)] ⟨200, 1, [some (0, 0)], [.gs 0 0 (.v 0) 1 false, .ss (.v 1)], [some (.rows 0 [] 9 true)], [(ns 0 0), (ns 1 1), .lst 0 (some 0) []], 1, (ys 0), [none], (ys 2), [], []⟩ := fun N M => ⟨_, _, [(ns 0 2)], ⟨slices_Index_string_string_ok fu a0 a1 r1 hr1, ⟨(r (a0.length : Int)), (r a1), ⟨[], rfl, lnil _⟩, tv⟩, by kernel_rfl, ⟨rfl, tv⟩⟩⟩
 by_cases h2 : (0 : Int) ≤ r1
 ·rw [if_pos h2] at h
  injection h with h; subst h
  exact to_fin mixed ⟨[(.geq, (.v 2), (.c 0), true)], [], [(0, 1, (.v 0))], [⟨200, 1, [some (0, 0)], [.gs 0 0 (.v 0) 1 false, .ss (.v 1)], [some (.rows 0 [] 9 true)], [(ns 0 0), (ns 1 1), .lst 0 (some 0) []], 1, (ys 0), [none], (ys 2), [], []⟩], [], []⟩ (V := (vals [(a0.length : Int), a1, r1] [(a0.flatMap enS)])) (n := 3000) (f := 3000) (fid := 184) (fun _ => rfl) ⟨⟨geq_t h2, tv⟩, tv, ⟨flat_length enS_len _, tv⟩, tv, tv⟩ ⟨Kr1 _ _, tv⟩ (R := ⟨.bs (.v 0), [none], [some (0, 0)]⟩) (qs := [.num (.c 1) (.v 0)]) wok0 tv hF hr (by kernel_rfl) ⟨rfl, tv⟩ (at_re (V' := (vals [(a0.length : Int), a1, r1] [(a0.flatMap enS)])) (T := ⟨[(0, .gs 0 0 (.v 0) 1 false), (1, .ss (.v 1))], [some (.rows 0 [] 9 true)], [some (0, 0)]⟩) (qs := [(ns 0 0), (ns 1 1), .lst 0 (some 0) []]) hat (by kernel_rfl) ⟨rfl, rfl, ⟨[], rfl, lnil _⟩, tv⟩)
 ·rw [if_neg h2] at h
  injection h with h; subst h
  exact to_fin mixed ⟨[(.geq, (.v 2), (.c 0), false)], [], [(0, 1, (.v 0))], [⟨200, 1, [some (0, 0)], [.gs 0 0 (.v 0) 1 false, .ss (.v 1)], [some (.rows 0 [] 9 true)], [(ns 0 0), (ns 1 1), .lst 0 (some 0) []], 1, (ys 0), [none], (ys 2), [], []⟩], [], []⟩ (V := (vals [(a0.length : Int), a1, r1] [(a0.flatMap enS)])) (n := 3000) (f := 3000) (fid := 184) (fun _ => rfl) ⟨⟨geq_f h2, tv⟩, tv, ⟨flat_length enS_len _, tv⟩, tv, tv⟩ ⟨Kr1 _ _, tv⟩ (R := ⟨.bs (.v 0), [none], [some (0, 0)]⟩) (qs := [.num (.c 0) (.v 0)]) wok0 tv hF hr (by kernel_rfl) ⟨rfl, tv⟩ (at_re (V' := (vals [(a0.length : Int), a1, r1] [(a0.flatMap enS)])) (T := ⟨[(0, .gs 0 0 (.v 0) 1 false), (1, .ss (.v 1))], [some (.rows 0 [] 9 true)], [some (0, 0)]⟩) (qs := [(ns 0 0), (ns 1 1), .lst 0 (some 0) []]) hat (by kernel_rfl) ⟨rfl, rfl, ⟨[], rfl, lnil _⟩, tv⟩)
def u_FirstError_L1 (fu : Nat) (p0 : List (Int)) (p1 : Int) : Nat → Int → Option ((Int) ⊕ (Unit))
 | 0, _ => none
 | n + 1, v2 => if v2 < p1 then (if (0 : Int) ≤ v2 then (if v2 < (p0.length : Int) then (Option.bind ((p0)[0 + (v2).toNat]?) fun e4 => if e4 = (0 : Int) then (u_FirstError_L1 fu p0 p1 n (IntKind.wrap .i64 (v2 + (1 : Int)))) else (some (.inl e4))) else none) else none) else (some (.inr ()))
theorem u_FirstError_L1_ok (fu : Nat) (p0 : List (Int)) (p1 : Int) : ∀ (n : Nat) (v2 : Int) (o : (Int) ⊕ (Unit)), u_FirstError_L1 fu p0 p1 n v2 = some o → ∀ (φ0 : Phi) (w0 : World) (F : Fence) (k : Nat) (R : Exit → Act → World → Prop) (a : Act) (w : World), FW F → F.round = none → AtS (vals [(p0.length : Int), p1, v2] [(p0.flatMap enI)]) [(5, .gs 0 0 (.v 0) 1 false), (6, (ys 1)), (7, (ys 2))] [some (.rows 0 [] 28 true)] 15 1 1 φ0 w0 a w → (∀ (y : Int), o = .inl y → ∀ a' w', AtS (vals [(p0.length : Int), y] [(p0.flatMap enI)]) [(2, (ys 1))] [some (.rows 0 [] 28 true)] 15 1 1 φ0 w0 a' w' → R Exit.ret a' w') → (∀ (y : Unit), o = .inr y → ∀ a' w', AtS (vals [(p0.length : Int)] [(p0.flatMap enI)]) [] [some (.rows 0 [] 28 true)] 15 1 1 φ0 w0 a' w' → R (Exit.exit 0) a' w') → Code.roundsIn F k Tryz.prog (subAt (bodyOf Tryz.prog 59) [1, 0, 1, 0, 0]) R n a w
 | 0, _, _, h => by cases h
 | n + 1, v2, o, h => by
  intro φ0 w0 F k R a w hF hr hat hx0 hx1
  rw [u_FirstError_L1] at h
  refine rounds_in (p := [1, 0, 1, 0, 0]) ?_
  by_cases h1 : v2 < p1
  ·rw [if_pos h1] at h
   by_cases h2 : (0 : Int) ≤ v2
   ·rw [if_pos h2] at h
    by_cases h3 : v2 < (p0.length : Int)
    ·rw [if_pos h3] at h
     obtain ⟨e4, he4, h⟩ := bs1 h
     by_cases h5 : e4 = (0 : Int)
     ·rw [if_pos h5] at h
      refine to_done mixed ⟨[(.lss, (.v 2), (.v 1), true), (.leq, (.c 0), (.v 2), true), (.lss, (.v 2), (.v 0), true), (.neq, (.v 3), (.c 0), false)], [(0, 0, (.v 2), [(ys 3)])], [(0, 1, (.v 0))], [], [], []⟩ (V := (vals [(p0.length : Int), p1, v2, e4] [(p0.flatMap enI)])) (n := 3000) (f := 3000) (fid := 59) (fun _ => rfl) (V' := (vals [(p0.length : Int), p1, (IntKind.wrap .i64 (v2 + (1 : Int)))] [(p0.flatMap enI)])) ⟨⟨lss_t h1, leq_t h2, lss_t h3, neq_f h5, tv⟩, ⟨⟨h2, _, rfl, flat_row enI_len he4⟩, tv⟩, ⟨flat_length enI_len _, tv⟩, tv, tv⟩ tv (T := ⟨[(5, .gs 0 0 (.v 0) 1 false), (6, (ys 1)), (7, (ys 2))], [some (.rows 0 [] 28 true)], [some (0, 0)]⟩) (ce := .normal) (qs := [(ns 0 0), (ns 1 1), .num (.add .i64 (.v 2) (.c 1)) (.v 2), .lst 0 (some 0) []]) rfl tv hF hr (by kernel_rfl) ⟨(r (p0.length : Int)), (r p1), (r (IntKind.wrap .i64 (v2 + (1 : Int)))), ⟨[], rfl, lnil _⟩, tv⟩ (at_re (V' := (vals [(p0.length : Int), p1, v2, e4] [(p0.flatMap enI)])) (T := ⟨[(5, .gs 0 0 (.v 0) 1 false), (6, (ys 1)), (7, (ys 2))], [some (.rows 0 [] 28 true)], [some (0, 0)]⟩) (qs := [(ns 0 0), (ns 1 1), (ns 2 2), .lst 0 (some 0) []]) hat (by kernel_rfl) ⟨rfl, rfl, rfl, ⟨[], rfl, lnil _⟩, tv⟩) fun a' w' hat' => ?_
      exact u_FirstError_L1_ok fu p0 p1 n (IntKind.wrap .i64 (v2 + (1 : Int))) o h _ _ _ _ _ _ _ hF hr hat' hx0 hx1
     ·rw [if_neg h5] at h
      injection h with h; subst h
      exact to_done mixed ⟨[(.lss, (.v 2), (.v 1), true), (.leq, (.c 0), (.v 2), true), (.lss, (.v 2), (.v 0), true), (.neq, (.v 3), (.c 0), true)], [(0, 0, (.v 2), [(ys 3)])], [(0, 1, (.v 0))], [], [], []⟩ (V := (vals [(p0.length : Int), p1, v2, e4] [(p0.flatMap enI)])) (n := 3000) (f := 3000) (fid := 59) (fun _ => rfl) (V' := (vals [(p0.length : Int), e4] [(p0.flatMap enI)])) ⟨⟨lss_t h1, leq_t h2, lss_t h3, neq_t h5, tv⟩, ⟨⟨h2, _, rfl, flat_row enI_len he4⟩, tv⟩, ⟨flat_length enI_len _, tv⟩, tv, tv⟩ tv (T := ⟨[(2, (ys 1))], [some (.rows 0 [] 28 true)], [some (0, 0)]⟩) (ce := .ret) (qs := [(ns 3 1), .lst 0 (some 0) []]) rfl tv hF hr (by kernel_rfl) ⟨(r e4), ⟨[], rfl, lnil _⟩, tv⟩ (at_re (V' := (vals [(p0.length : Int), p1, v2, e4] [(p0.flatMap enI)])) (T := ⟨[(5, .gs 0 0 (.v 0) 1 false), (6, (ys 1)), (7, (ys 2))], [some (.rows 0 [] 28 true)], [some (0, 0)]⟩) (qs := [(ns 0 0), (ns 1 1), (ns 2 2), .lst 0 (some 0) []]) hat (by kernel_rfl) ⟨rfl, rfl, rfl, ⟨[], rfl, lnil _⟩, tv⟩) fun a' w' hat' => hx0 e4 rfl a' w' hat'
    ·rw [if_neg h3] at h
     cases h
   ·rw [if_neg h2] at h
    cases h
  ·rw [if_neg h1] at h
   injection h with h; subst h
   exact to_done mixed ⟨[(.lss, (.v 2), (.v 1), false)], [], [(0, 1, (.v 0))], [], [], []⟩ (V := (vals [(p0.length : Int), p1, v2] [(p0.flatMap enI)])) (n := 3000) (f := 3000) (fid := 59) (fun _ => rfl) (V' := (vals [(p0.length : Int)] [(p0.flatMap enI)])) ⟨⟨lss_f h1, tv⟩, tv, ⟨flat_length enI_len _, tv⟩, tv, tv⟩ tv (T := ⟨[], [some (.rows 0 [] 28 true)], [some (0, 0)]⟩) (ce := (.exit 0)) (qs := [.lst 0 (some 0) []]) rfl tv hF hr (by kernel_rfl) ⟨⟨[], rfl, lnil _⟩, tv⟩ hat fun a' w' hat' => hx1 () rfl a' w' hat'
def u_FirstError (fu : Nat) (a0 : List (Int)) : Option (Int) := Option.bind (u_FirstError_L1 fu a0 (a0.length : Int) fu (0 : Int)) fun o1 => (match o1 with | .inl y2 => (some y2) | .inr y3 => (some (0 : Int)))
theorem u_FirstError_ok (fu : Nat) (a0 : List (Int)) (y : Int) (h : u_FirstError fu a0 = some y) : CallOk Tryz.prog 59 (vals [(a0.length : Int)] [(a0.flatMap enI)]) [.gs 0 0 (.v 0) 1 false] [some (.rows 0 [] 28 true)] 1 (vals [y] []) ((ys 0)) [none] := by
 refine fun_of (nt := 15) (by kernel_rfl) (by kernel_rfl) fun φ0 w0 a w hat => ?_
 have hF := wide_fw
 have hr : Fence.wide.round = none := rfl
 unfold u_FirstError at h
 obtain ⟨o1, ho1, h⟩ := bs1 h
 refine to_loop mixed ⟨[], [], [(0, 1, (.v 0))], [], [], []⟩ (V := (vals [(a0.length : Int)] [(a0.flatMap enI)])) (n := 3000) (f := 3000) (fid := 59) (fun _ => rfl) (V' := (vals [(a0.length : Int), (a0.length : Int), (0 : Int)] [(a0.flatMap enI)])) ⟨tv, tv, ⟨flat_length enI_len _, tv⟩, tv, tv⟩ tv (T := ⟨[(5, .gs 0 0 (.v 0) 1 false), (6, (ys 1)), (7, (ys 2))], [some (.rows 0 [] 28 true)], [some (0, 0)]⟩) (B := subAt (bodyOf Tryz.prog 59) [1, 0, 1, 0, 0]) (K' := [.bk 0, .sq (subAt (bodyOf Tryz.prog 59) [1, 1]) [1, 1]]) (qs := [(ns 0 0), (ns 0 1), .num (.c 0) (.v 2), .lst 0 (some 0) []]) wok0 tv hF hr (by kernel_rfl) ⟨(r (a0.length : Int)), (r (a0.length : Int)), (r (0 : Int)), ⟨[], rfl, lnil _⟩, tv⟩ hat fun aa1 ww1 hat1 => loop_in (u_FirstError_L1_ok fu a0 (a0.length : Int) fu (0 : Int) o1 ho1 _ _ _ _ _ _ _ hF hr hat1 ?_ ?_)
 ·intro y2 hy aa2 ww2 hat
  subst hy
  dsimp only at h
  show (Wk.out .ret).goal _ _ _ [.bk 0, .sq (subAt (bodyOf Tryz.prog 59) [1, 1]) [1, 1]] _ aa2 ww2
  injection h with h; subst h
  exact to_fin mixed ⟨[], [], [(0, 1, (.v 0))], [], [], []⟩ (V := (vals [(a0.length : Int), y2] [(a0.flatMap enI)])) (n := 3000) (f := 3000) (fid := 59) (fun _ => rfl) ⟨tv, tv, ⟨flat_length enI_len _, tv⟩, tv, tv⟩ tv (R := ⟨(ys 0), [none], [some (0, 0)]⟩) (qs := [(ns 1 0)]) tv ⟨rfl, tv⟩ hF hr (by kernel_rfl) ⟨(r y2), tv⟩ hat
 ·intro y3 hy aa2 ww2 hat
  subst hy
  dsimp only at h
  show (Wk.out (.exit 0)).goal _ _ _ [.bk 0, .sq (subAt (bodyOf Tryz.prog 59) [1, 1]) [1, 1]] _ aa2 ww2
  injection h with h; subst h
  exact to_fin mixed ⟨[], [], [(0, 1, (.v 0))], [], [], []⟩ (V := (vals [(a0.length : Int)] [(a0.flatMap enI)])) (n := 3000) (f := 3000) (fid := 59) (fun _ => rfl) ⟨tv, tv, ⟨flat_length enI_len _, tv⟩, tv, tv⟩ tv (R := ⟨(ys 0), [none], [some (0, 0)]⟩) (qs := [.num (.c 0) (.v 0)]) tv ⟨rfl, tv⟩ hF hr (by kernel_rfl) ⟨(r (0 : Int)), tv⟩ hat
def u_NameErrors_1_2 (fu : Nat) (a0 : Int) (a1_0 : List (Int)) (a2_0 : Int) : Option (Int × List (Int)) := Option.bind (u_NameError fu a0) fun r1 => if r1 = (0 : Int) then (Option.bind (slices_Contains_string_string fu a1_0 a0) fun r3 => if r3 = true then (some (a2_0, a1_0)) else (if (a1_0.length : Int) < (65536 : Int) then (some ((0 : Int), (a1_0 ++ [a0]))) else none)) else (some (r1, a1_0))
theorem u_NameErrors_1_2_ok (fu : Nat) (a0 : Int) (a1_0 : List (Int)) (a2_0 : Int) (y : Int × List (Int)) (h : u_NameErrors_1_2 fu a0 a1_0 a2_0 = some y) : CallOk Tryz.prog 182 (vals [a0, (a1_0.length : Int), a2_0] [(a1_0.flatMap enS)]) [.ss (.v 0), .ptr 0 0, .ptr 2 0] [some (.cells [.gs 1 0 (.v 1) 1 true] 103 false), some (.rows 0 [] 9 false), some (.cells [(ys 2)] 28 false)] 0 (vals [y.1, (y.2.length : Int), a2_0] [(y.2.flatMap enS)]) ((ys 0)) [some (.cells [.gs 3 0 (.v 1) 1 true] 103 false), none, some (.cells [(ys 2)] 28 false), some (.rows 0 [] 9 false)] := by
 refine fun_of (nt := 19) (by kernel_rfl) (by kernel_rfl) fun φ0 w0 a w hat => ?_
 have hF := wide_fw
 have hr : Fence.wide.round = none := rfl
 unfold u_NameErrors_1_2 at h
 obtain ⟨r1, hr1, h⟩ := bs1 h
 have Kr1 : KO Tryz.prog [a0, (a1_0.length : Int), a2_0, r1] [(a1_0.flatMap enS)] ⟨183, 3, [], [.ss (.v 0)], [], [(ns 0 0)], 0, (ys 0), [], (ys 3), [], []⟩ := fun N M => ⟨_, _, [(ns 0 3)], ⟨u_NameError_ok fu a0 r1 hr1, ⟨(r a0), tv⟩, by kernel_rfl, ⟨rfl, tv⟩⟩⟩
 by_cases h2 : r1 = (0 : Int)
 ·rw [if_pos h2] at h
  obtain ⟨r3, hr3, h⟩ := bs1 h
  have Kr3 : KO Tryz.prog [a0, (a1_0.length : Int), a2_0, r1, bI r3] [(a1_0.flatMap enS)] ⟨184, 3, [some (1, 0)], [.gs 0 0 (.v 0) 1 false, .ss (.v 1)], [some (.rows 0 [] 9 true)], [(ns 1 0), (ns 0 1), .lst 0 (some 0) []], 1, .bs (.v 0), [none], .bs (.v 4), [], []⟩ := fun N M => ⟨_, _, [(ns 0 4)], ⟨slices_Contains_string_string_ok fu a1_0 a0 r3 hr3, ⟨(r (a1_0.length : Int)), (r a0), ⟨[], rfl, lnil _⟩, tv⟩, by kernel_rfl, ⟨rfl, tv⟩⟩⟩
  by_cases h4 : r3 = true
  ·rw [if_pos h4] at h
   injection h with h; subst h
   exact to_fin mixed ⟨[(.neq, (.v 3), (.c 0), false), (.neq, (.v 4), (.c 0), true)], [], [(0, 1, (.v 1))], [⟨183, 3, [], [.ss (.v 0)], [], [(ns 0 0)], 0, (ys 0), [], (ys 3), [], []⟩, ⟨184, 3, [some (1, 0)], [.gs 0 0 (.v 0) 1 false, .ss (.v 1)], [some (.rows 0 [] 9 true)], [(ns 1 0), (ns 0 1), .lst 0 (some 0) []], 1, .bs (.v 0), [none], .bs (.v 4), [], []⟩], [], []⟩ (V := (vals [a0, (a1_0.length : Int), a2_0, r1, bI r3] [(a1_0.flatMap enS)])) (n := 3000) (f := 3000) (fid := 182) (fun _ => rfl) ⟨⟨neq_f h2, bi_t h4, tv⟩, tv, ⟨flat_length enS_len _, tv⟩, tv, tv⟩ ⟨Kr1 _ _, Kr3 _ _, tv⟩ (R := ⟨(ys 0), [some (.cells [.gs 3 0 (.v 1) 1 true] 103 false), none, some (.cells [(ys 2)] 28 false), some (.rows 0 [] 9 false)], [some (0, 0), some (1, 0), some (2, 0), some (1, 0)]⟩) (qs := [(ns 2 0), (ns 1 1), (ns 2 2), .lst 0 (some 0) []]) wok0 tv hF hr (by kernel_rfl) ⟨(r a2_0), (r (a1_0.length : Int)), (r a2_0), ⟨[], rfl, lnil _⟩, tv⟩ (at_re (V' := (vals [a0, (a1_0.length : Int), a2_0, r1, bI r3] [(a1_0.flatMap enS)])) (T := ⟨[(0, .ss (.v 0)), (1, .ptr 0 0), (2, .ptr 2 0)], [some (.cells [.gs 1 0 (.v 1) 1 true] 103 false), some (.rows 0 [] 9 false), some (.cells [(ys 2)] 28 false)], [some (0, 0), some (1, 0), some (2, 0)]⟩) (qs := [(ns 0 0), (ns 1 1), .lst 0 (some 0) [], (ns 2 2)]) hat (by kernel_rfl) ⟨rfl, rfl, ⟨[], rfl, lnil _⟩, rfl, tv⟩)
  ·rw [if_neg h4] at h
   by_cases h5 : (a1_0.length : Int) < (65536 : Int)
   ·rw [if_pos h5] at h
    injection h with h; subst h
    exact to_fin mixed ⟨[(.neq, (.v 3), (.c 0), false), (.neq, (.v 4), (.c 0), false), (.lss, (.v 1), (.c 65536), true)], [], [(0, 1, (.v 1))], [⟨183, 3, [], [.ss (.v 0)], [], [(ns 0 0)], 0, (ys 0), [], (ys 3), [], []⟩, ⟨184, 3, [some (1, 0)], [.gs 0 0 (.v 0) 1 false, .ss (.v 1)], [some (.rows 0 [] 9 true)], [(ns 1 0), (ns 0 1), .lst 0 (some 0) []], 1, .bs (.v 0), [none], .bs (.v 4), [], []⟩], [], []⟩ (V := (vals [a0, (a1_0.length : Int), a2_0, r1, bI r3] [(a1_0.flatMap enS)])) (n := 3000) (f := 3000) (fid := 182) (fun _ => rfl) ⟨⟨neq_f h2, bi_f h4, lss_t h5, tv⟩, tv, ⟨flat_length enS_len _, tv⟩, tv, tv⟩ ⟨Kr1 _ _, Kr3 _ _, tv⟩ (R := ⟨(ys 0), [some (.cells [.gs 3 0 (.v 1) 1 true] 103 false), none, some (.cells [(ys 2)] 28 false), some (.rows 0 [] 9 false)], [some (0, 0), some (1, 0), some (2, 0), some (4, 0)]⟩) (qs := [.num (.c 0) (.v 0), .num (.add .i64 (.v 1) (.c 1)) (.v 1), (ns 2 2), .lst 0 (some 0) [.ss (.v 0)]]) wok0 tv hF hr (by kernel_rfl) ⟨(r (0 : Int)), (show (IntKind.wrap .i64 ((a1_0.length : Int) + (1 : Int))) = ((a1_0 ++ [a0]).length : Int) by first | rfl | (simp only [List.length_append, List.length_cons, List.length_nil]; rw [IntKind.wrap_i64]; omega)), (r a2_0), ⟨_, rfl, List.flatMap_append⟩, tv⟩ (at_re (V' := (vals [a0, (a1_0.length : Int), a2_0, r1, bI r3] [(a1_0.flatMap enS)])) (T := ⟨[(0, .ss (.v 0)), (1, .ptr 0 0), (2, .ptr 2 0)], [some (.cells [.gs 1 0 (.v 1) 1 true] 103 false), some (.rows 0 [] 9 false), some (.cells [(ys 2)] 28 false)], [some (0, 0), some (1, 0), some (2, 0)]⟩) (qs := [(ns 0 0), (ns 1 1), .lst 0 (some 0) [], (ns 2 2)]) hat (by kernel_rfl) ⟨rfl, rfl, ⟨[], rfl, lnil _⟩, rfl, tv⟩)
   ·rw [if_neg h5] at h
    cases h
 ·rw [if_neg h2] at h
  injection h with h; subst h
  exact to_fin mixed ⟨[(.neq, (.v 3), (.c 0), true)], [], [(0, 1, (.v 1))], [⟨183, 3, [], [.ss (.v 0)], [], [(ns 0 0)], 0, (ys 0), [], (ys 3), [], []⟩], [], []⟩ (V := (vals [a0, (a1_0.length : Int), a2_0, r1] [(a1_0.flatMap enS)])) (n := 3000) (f := 3000) (fid := 182) (fun _ => rfl) ⟨⟨neq_t h2, tv⟩, tv, ⟨flat_length enS_len _, tv⟩, tv, tv⟩ ⟨Kr1 _ _, tv⟩ (R := ⟨(ys 0), [some (.cells [.gs 3 0 (.v 1) 1 true] 103 false), none, some (.cells [(ys 2)] 28 false), some (.rows 0 [] 9 false)], [some (0, 0), some (1, 0), some (2, 0), some (1, 0)]⟩) (qs := [(ns 3 0), (ns 1 1), (ns 2 2), .lst 0 (some 0) []]) wok0 tv hF hr (by kernel_rfl) ⟨(r r1), (r (a1_0.length : Int)), (r a2_0), ⟨[], rfl, lnil _⟩, tv⟩ (at_re (V' := (vals [a0, (a1_0.length : Int), a2_0, r1] [(a1_0.flatMap enS)])) (T := ⟨[(0, .ss (.v 0)), (1, .ptr 0 0), (2, .ptr 2 0)], [some (.cells [.gs 1 0 (.v 1) 1 true] 103 false), some (.rows 0 [] 9 false), some (.cells [(ys 2)] 28 false)], [some (0, 0), some (1, 0), some (2, 0)]⟩) (qs := [(ns 0 0), (ns 1 1), .lst 0 (some 0) [], (ns 2 2)]) hat (by kernel_rfl) ⟨rfl, rfl, ⟨[], rfl, lnil _⟩, rfl, tv⟩)
def bus_CheckStreams_1_2 (fu : Nat) (a0_0 : Int) (a0_1 : Int) (a0_2 : Int) (a0_3 : Int) (a1_0_c0_0 : List (Int)) (a1_0_c1_0 : Int) : Option (Int × List (Int)) := Option.bind (u_NameErrors_1_2 fu a0_0 a1_0_c0_0 a1_0_c1_0) fun r1 => Option.bind (u_LimitError a0_1 (1 : Int) (60 : Int)) fun r2 => Option.bind (u_LimitError a0_2 (1 : Int) a0_1) fun r3 => Option.bind (u_LimitError a0_3 (1 : Int) (20 : Int)) fun r4 => Option.bind (u_FirstError fu ([r1.1, r2, r3, r4] : List (Int))) fun r5 => some (r5, r1.2)
theorem bus_CheckStreams_1_2_ok (fu : Nat) (a0_0 : Int) (a0_1 : Int) (a0_2 : Int) (a0_3 : Int) (a1_0_c0_0 : List (Int)) (a1_0_c1_0 : Int) (y : Int × List (Int)) (h : bus_CheckStreams_1_2 fu a0_0 a0_1 a0_2 a0_3 a1_0_c0_0 a1_0_c1_0 = some y) : CallOk Tryz.prog 143 (vals [a0_0, a0_1, a0_2, a0_3, (a1_0_c0_0.length : Int), a1_0_c1_0] [(a1_0_c0_0.flatMap enS)]) [.agg [.ss (.v 0), (ys 1), (ys 2), (ys 3)], .ptr 0 0] [some (.cells [.fn 182 [] [.ptr 1 0, .ptr 3 0]] 222 false), some (.cells [.gs 2 0 (.v 4) 1 true] 103 false), some (.rows 0 [] 9 false), some (.cells [(ys 5)] 28 false)] 0 (vals [y.1, (y.2.length : Int), a1_0_c1_0] [(y.2.flatMap enS)]) ((ys 0)) [some (.cells [.fn 182 [] [.ptr 1 0, .ptr 3 0]] 222 false), some (.cells [.gs 4 0 (.v 1) 1 true] 103 false), none, some (.cells [(ys 2)] 28 false), some (.rows 0 [] 9 false)] := by
 refine fun_of (nt := 21) (by kernel_rfl) (by kernel_rfl) fun φ0 w0 a w hat => ?_
 have hF := wide_fw
 have hr : Fence.wide.round = none := rfl
 unfold bus_CheckStreams_1_2 at h
 obtain ⟨r1, hr1, h⟩ := bs1 h
 have Kr1 : KO Tryz.prog [a0_0, a0_1, a0_2, a0_3, (a1_0_c0_0.length : Int), a1_0_c1_0, (r1.2.length : Int), r1.1] [(a1_0_c0_0.flatMap enS), (r1.2.flatMap enS)] ⟨182, 5, [some (1, 0), some (2, 0), some (3, 0)], [.ss (.v 0), .ptr 0 0, .ptr 2 0], [some (.cells [.gs 1 0 (.v 1) 1 true] 103 false), some (.rows 0 [] 9 false), some (.cells [(ys 2)] 28 false)], [(ns 0 0), (ns 4 1), .lst 0 (some 0) [], (ns 5 2)], 0, (ys 0), [some (.cells [.gs 3 0 (.v 1) 1 true] 103 false), none, some (.cells [(ys 2)] 28 false), some (.rows 0 [] 9 false)], (ys 7), [some (.rows 1 [] 9 false)], [(1, some (.cells [.gs 5 0 (.v 6) 1 true] 103 false)), (2, none), (3, some (.cells [(ys 5)] 28 false))]⟩ := fun N M => ⟨_, _, [(ns 0 7), .lst 1 (some 0) [], (ns 1 6), (ns 2 5)], ⟨u_NameErrors_1_2_ok fu a0_0 a1_0_c0_0 a1_0_c1_0 r1 hr1, ⟨(r a0_0), (r (a1_0_c0_0.length : Int)), ⟨[], rfl, lnil _⟩, (r a1_0_c1_0), tv⟩, by kernel_rfl, ⟨rfl, ⟨[], rfl, lnil _⟩, rfl, rfl, tv⟩⟩⟩
 obtain ⟨r2, hr2, h⟩ := bs1 h
 have Kr2 : KO Tryz.prog [a0_0, a0_1, a0_2, a0_3, (a1_0_c0_0.length : Int), a1_0_c1_0, (r1.2.length : Int), r1.1, r2] [(a1_0_c0_0.flatMap enS), (r1.2.flatMap enS)] ⟨65, 6, [], [(ys 0), (ys 1), (ys 2)], [], [(ns 1 0), .num (.c 1) (.v 1), .num (.c 60) (.v 2)], 0, (ys 0), [], (ys 8), [], []⟩ := fun N M => ⟨_, _, [(ns 0 8)], ⟨u_LimitError_ok a0_1 (1 : Int) (60 : Int) r2 hr2, ⟨(r a0_1), (r (1 : Int)), (r (60 : Int)), tv⟩, by kernel_rfl, ⟨rfl, tv⟩⟩⟩
 obtain ⟨r3, hr3, h⟩ := bs1 h
 have Kr3 : KO Tryz.prog [a0_0, a0_1, a0_2, a0_3, (a1_0_c0_0.length : Int), a1_0_c1_0, (r1.2.length : Int), r1.1, r2, r3] [(a1_0_c0_0.flatMap enS), (r1.2.flatMap enS)] ⟨65, 6, [], [(ys 0), (ys 1), (ys 2)], [], [(ns 2 0), .num (.c 1) (.v 1), (ns 1 2)], 0, (ys 0), [], (ys 9), [], []⟩ := fun N M => ⟨_, _, [(ns 0 9)], ⟨u_LimitError_ok a0_2 (1 : Int) a0_1 r3 hr3, ⟨(r a0_2), (r (1 : Int)), (r a0_1), tv⟩, by kernel_rfl, ⟨rfl, tv⟩⟩⟩
 obtain ⟨r4, hr4, h⟩ := bs1 h
 have Kr4 : KO Tryz.prog [a0_0, a0_1, a0_2, a0_3, (a1_0_c0_0.length : Int), a1_0_c1_0, (r1.2.length : Int), r1.1, r2, r3, r4] [(a1_0_c0_0.flatMap enS), (r1.2.flatMap enS)] ⟨65, 6, [], [(ys 0), (ys 1), (ys 2)], [], [(ns 3 0), .num (.c 1) (.v 1), .num (.c 20) (.v 2)], 0, (ys 0), [], (ys 10), [], []⟩ := fun N M => ⟨_, _, [(ns 0 10)], ⟨u_LimitError_ok a0_3 (1 : Int) (20 : Int) r4 hr4, ⟨(r a0_3), (r (1 : Int)), (r (20 : Int)), tv⟩, by kernel_rfl, ⟨rfl, tv⟩⟩⟩
 obtain ⟨r5, hr5, h⟩ := bs1 h
 have Kr5 : KO Tryz.prog [a0_0, a0_1, a0_2, a0_3, (a1_0_c0_0.length : Int), a1_0_c1_0, (r1.2.length : Int), r1.1, r2, r3, r4, r5] [(a1_0_c0_0.flatMap enS), (r1.2.flatMap enS)] ⟨59, 7, [some (6, 0)], [.gs 0 0 (.v 0) 1 false], [some (.rows 0 [] 28 true)], [.num (.c 4) (.v 0), .lst 0 none [(ys 7), (ys 8), (ys 9), (ys 10)]], 1, (ys 0), [none], (ys 11), [], []⟩ := fun N M => ⟨_, _, [(ns 0 11)], ⟨u_FirstError_ok fu ([r1.1, r2, r3, r4] : List (Int)) r5 hr5, ⟨rfl, rfl, tv⟩, by kernel_rfl, ⟨rfl, tv⟩⟩⟩
 injection h with h; subst h
 exact to_fin mixed ⟨[], [], [(0, 1, (.v 4)), (1, 1, (.v 6))], [⟨182, 5, [some (1, 0), some (2, 0), some (3, 0)], [.ss (.v 0), .ptr 0 0, .ptr 2 0], [some (.cells [.gs 1 0 (.v 1) 1 true] 103 false), some (.rows 0 [] 9 false), some (.cells [(ys 2)] 28 false)], [(ns 0 0), (ns 4 1), .lst 0 (some 0) [], (ns 5 2)], 0, (ys 0), [some (.cells [.gs 3 0 (.v 1) 1 true] 103 false), none, some (.cells [(ys 2)] 28 false), some (.rows 0 [] 9 false)], (ys 7), [some (.rows 1 [] 9 false)], [(1, some (.cells [.gs 5 0 (.v 6) 1 true] 103 false)), (2, none), (3, some (.cells [(ys 5)] 28 false))]⟩, ⟨65, 6, [], [(ys 0), (ys 1), (ys 2)], [], [(ns 1 0), .num (.c 1) (.v 1), .num (.c 60) (.v 2)], 0, (ys 0), [], (ys 8), [], []⟩, ⟨65, 6, [], [(ys 0), (ys 1), (ys 2)], [], [(ns 2 0), .num (.c 1) (.v 1), (ns 1 2)], 0, (ys 0), [], (ys 9), [], []⟩, ⟨65, 6, [], [(ys 0), (ys 1), (ys 2)], [], [(ns 3 0), .num (.c 1) (.v 1), .num (.c 20) (.v 2)], 0, (ys 0), [], (ys 10), [], []⟩, ⟨59, 7, [some (6, 0)], [.gs 0 0 (.v 0) 1 false], [some (.rows 0 [] 28 true)], [.num (.c 4) (.v 0), .lst 0 none [(ys 7), (ys 8), (ys 9), (ys 10)]], 1, (ys 0), [none], (ys 11), [], []⟩], [], []⟩ (V := (vals [a0_0, a0_1, a0_2, a0_3, (a1_0_c0_0.length : Int), a1_0_c1_0, (r1.2.length : Int), r1.1, r2, r3, r4, r5] [(a1_0_c0_0.flatMap enS), (r1.2.flatMap enS)])) (n := 3000) (f := 3000) (fid := 143) (fun _ => rfl) ⟨tv, tv, ⟨flat_length enS_len _, flat_length enS_len _, tv⟩, tv, tv⟩ ⟨Kr1 _ _, Kr2 _ _, Kr3 _ _, Kr4 _ _, Kr5 _ _, tv⟩ (R := ⟨(ys 0), [some (.cells [.fn 182 [] [.ptr 1 0, .ptr 3 0]] 222 false), some (.cells [.gs 4 0 (.v 1) 1 true] 103 false), none, some (.cells [(ys 2)] 28 false), some (.rows 0 [] 9 false)], [some (0, 0), some (1, 0), some (2, 0), some (3, 0), some (5, 0)]⟩) (qs := [(ns 11 0), (ns 6 1), (ns 5 2), .lst 0 (some 1) []]) wok0 tv hF hr (by kernel_rfl) ⟨(r r5), (r (r1.2.length : Int)), (r a1_0_c1_0), ⟨[], rfl, lnil _⟩, tv⟩ (at_re (V' := (vals [a0_0, a0_1, a0_2, a0_3, (a1_0_c0_0.length : Int), a1_0_c1_0, (r1.2.length : Int), r1.1, r2, r3, r4, r5] [(a1_0_c0_0.flatMap enS), (r1.2.flatMap enS)])) (T := ⟨[(0, .agg [.ss (.v 0), (ys 1), (ys 2), (ys 3)]), (1, .ptr 0 0)], [some (.cells [.fn 182 [] [.ptr 1 0, .ptr 3 0]] 222 false), some (.cells [.gs 2 0 (.v 4) 1 true] 103 false), some (.rows 0 [] 9 false), some (.cells [(ys 5)] 28 false)], [some (0, 0), some (1, 0), some (2, 0), some (3, 0)]⟩) (qs := [(ns 0 0), (ns 1 1), (ns 2 2), (ns 3 3), (ns 4 4), .lst 0 (some 0) [], (ns 5 5)]) hat (by kernel_rfl) ⟨rfl, rfl, rfl, rfl, rfl, ⟨[], rfl, lnil _⟩, rfl, tv⟩)
def u_FirstBad_BusStream_CheckStreams_1_L1 (fu : Nat) (p0 : List (Int × Int × Int × Int)) (p2 : Int) (p3 : Int) : Nat → List (Int) → Int → Option ((List (Int) × Int × Int) ⊕ (List (Int)))
 | 0, _, _ => none
 | n + 1, v1, v4 => if v4 < p3 then (if (0 : Int) ≤ v4 then (if v4 < (p0.length : Int) then (Option.bind ((p0)[0 + (v4).toNat]?) fun e4 => Option.bind (bus_CheckStreams_1_2 fu e4.1 e4.2.1 e4.2.2.1 e4.2.2.2 v1 p2) fun r5 => if r5.1 = (0 : Int) then (u_FirstBad_BusStream_CheckStreams_1_L1 fu p0 p2 p3 n r5.2 (IntKind.wrap .i64 (v4 + (1 : Int)))) else (some (.inl (r5.2, v4, r5.1)))) else none) else none) else (some (.inr v1))
theorem u_FirstBad_BusStream_CheckStreams_1_L1_ok (fu : Nat) (p0 : List (Int × Int × Int × Int)) (p2 : Int) (p3 : Int) : ∀ (n : Nat) (v1 : List (Int)) (v4 : Int) (o : (List (Int) × Int × Int) ⊕ (List (Int))), u_FirstBad_BusStream_CheckStreams_1_L1 fu p0 p2 p3 n v1 v4 = some o → ∀ (φ0 : Phi) (w0 : World) (F : Fence) (k : Nat) (R : Exit → Act → World → Prop) (a : Act) (w : World), FW F → F.round = none → AtS (vals [(p0.length : Int), (v1.length : Int), p2, p3, v4] [(p0.flatMap enSIII), (v1.flatMap enS)]) [(1, .fn 143 [] [.ptr 1 0]), (9, .gs 0 0 (.v 0) 4 false), (10, (ys 3)), (11, (ys 4))] [some (.rows 0 [] 55 true), some (.cells [.fn 182 [] [.ptr 2 0, .ptr 3 0]] 222 false), some (.cells [.gs 4 0 (.v 1) 1 true] 103 false), some (.cells [(ys 2)] 28 false), some (.rows 1 [] 9 false)] 24 4 1 φ0 w0 a w → (∀ (y : List (Int) × Int × Int), o = .inl y → ∀ a' w', AtS (vals [(p0.length : Int), (y.1.length : Int), p2, y.2.1, y.2.2] [(p0.flatMap enSIII), (y.1.flatMap enS)]) [(4, (ys 3)), (5, (ys 4))] [some (.rows 0 [] 55 true), some (.cells [.fn 182 [] [.ptr 2 0, .ptr 3 0]] 222 false), some (.cells [.gs 4 0 (.v 1) 1 true] 103 false), some (.cells [(ys 2)] 28 false), some (.rows 1 [] 9 false)] 24 4 1 φ0 w0 a' w' → R Exit.ret a' w') → (∀ (y : List (Int)), o = .inr y → ∀ a' w', AtS (vals [(p0.length : Int), (y.length : Int), p2] [(p0.flatMap enSIII), (y.flatMap enS)]) [] [some (.rows 0 [] 55 true), some (.cells [.fn 182 [] [.ptr 2 0, .ptr 3 0]] 222 false), some (.cells [.gs 4 0 (.v 1) 1 true] 103 false), some (.cells [(ys 2)] 28 false), some (.rows 1 [] 9 false)] 24 4 1 φ0 w0 a' w' → R (Exit.exit 0) a' w') → Code.roundsIn F k Tryz.prog (subAt (bodyOf Tryz.prog 185) [1, 0, 1, 0, 0]) R n a w
 | 0, _, _, _, h => by cases h
 | n + 1, v1, v4, o, h => by
  intro φ0 w0 F k R a w hF hr hat hx0 hx1
  rw [u_FirstBad_BusStream_CheckStreams_1_L1] at h
  refine rounds_in (p := [1, 0, 1, 0, 0]) ?_
  by_cases h1 : v4 < p3
  ·rw [if_pos h1] at h
   by_cases h2 : (0 : Int) ≤ v4
   ·rw [if_pos h2] at h
    by_cases h3 : v4 < (p0.length : Int)
    ·rw [if_pos h3] at h
     obtain ⟨e4, he4, h⟩ := bs1 h
     obtain ⟨r5, hr5, h⟩ := bs1 h
     have Kr5 : KO Tryz.prog [(p0.length : Int), (v1.length : Int), p2, p3, v4, e4.1, e4.2.1, e4.2.2.1, e4.2.2.2, (r5.2.length : Int), r5.1] [(p0.flatMap enSIII), (v1.flatMap enS), (r5.2.flatMap enS)] ⟨143, 6, [some (1, 0), some (2, 0), some (4, 0), some (3, 0)], [.agg [.ss (.v 0), (ys 1), (ys 2), (ys 3)], .ptr 0 0], [some (.cells [.fn 182 [] [.ptr 1 0, .ptr 3 0]] 222 false), some (.cells [.gs 2 0 (.v 4) 1 true] 103 false), some (.rows 0 [] 9 false), some (.cells [(ys 5)] 28 false)], [(ns 5 0), (ns 6 1), (ns 7 2), (ns 8 3), (ns 1 4), .lst 0 (some 1) [], (ns 2 5)], 0, (ys 0), [some (.cells [.fn 182 [] [.ptr 1 0, .ptr 3 0]] 222 false), some (.cells [.gs 4 0 (.v 1) 1 true] 103 false), none, some (.cells [(ys 2)] 28 false), some (.rows 0 [] 9 false)], (ys 10), [some (.rows 2 [] 9 false)], [(1, some (.cells [.fn 182 [] [.ptr 2 0, .ptr 3 0]] 222 false)), (2, some (.cells [.gs 6 0 (.v 9) 1 true] 103 false)), (4, none), (3, some (.cells [(ys 2)] 28 false))]⟩ := fun N M => ⟨_, _, [(ns 0 10), .lst 2 (some 0) [], (ns 1 9), (ns 2 2)], ⟨bus_CheckStreams_1_2_ok fu e4.1 e4.2.1 e4.2.2.1 e4.2.2.2 v1 p2 r5 hr5, ⟨(r e4.1), (r e4.2.1), (r e4.2.2.1), (r e4.2.2.2), (r (v1.length : Int)), ⟨[], rfl, lnil _⟩, (r p2), tv⟩, by kernel_rfl, ⟨rfl, ⟨[], rfl, lnil _⟩, rfl, rfl, tv⟩⟩⟩
     by_cases h6 : r5.1 = (0 : Int)
     ·rw [if_pos h6] at h
      refine to_done mixed ⟨[(.lss, (.v 4), (.v 3), true), (.leq, (.c 0), (.v 4), true), (.lss, (.v 4), (.v 0), true), (.neq, (.v 10), (.c 0), false)], [(0, 0, (.v 4), [.ss (.v 5), (ys 6), (ys 7), (ys 8)])], [(0, 4, (.v 0)), (1, 1, (.v 1)), (2, 1, (.v 9))], [⟨143, 6, [some (1, 0), some (2, 0), some (4, 0), some (3, 0)], [.agg [.ss (.v 0), (ys 1), (ys 2), (ys 3)], .ptr 0 0], [some (.cells [.fn 182 [] [.ptr 1 0, .ptr 3 0]] 222 false), some (.cells [.gs 2 0 (.v 4) 1 true] 103 false), some (.rows 0 [] 9 false), some (.cells [(ys 5)] 28 false)], [(ns 5 0), (ns 6 1), (ns 7 2), (ns 8 3), (ns 1 4), .lst 0 (some 1) [], (ns 2 5)], 0, (ys 0), [some (.cells [.fn 182 [] [.ptr 1 0, .ptr 3 0]] 222 false), some (.cells [.gs 4 0 (.v 1) 1 true] 103 false), none, some (.cells [(ys 2)] 28 false), some (.rows 0 [] 9 false)], (ys 10), [some (.rows 2 [] 9 false)], [(1, some (.cells [.fn 182 [] [.ptr 2 0, .ptr 3 0]] 222 false)), (2, some (.cells [.gs 6 0 (.v 9) 1 true] 103 false)), (4, none), (3, some (.cells [(ys 2)] 28 false))]⟩], [], []⟩ (V := (vals [(p0.length : Int), (v1.length : Int), p2, p3, v4, e4.1, e4.2.1, e4.2.2.1, e4.2.2.2, (r5.2.length : Int), r5.1] [(p0.flatMap enSIII), (v1.flatMap enS), (r5.2.flatMap enS)])) (n := 3000) (f := 3000) (fid := 185) (fun _ => rfl) (V' := (vals [(p0.length : Int), (r5.2.length : Int), p2, p3, (IntKind.wrap .i64 (v4 + (1 : Int)))] [(p0.flatMap enSIII), (r5.2.flatMap enS)])) ⟨⟨lss_t h1, leq_t h2, lss_t h3, neq_f h6, tv⟩, ⟨⟨h2, _, rfl, flat_row enSIII_len he4⟩, tv⟩, ⟨flat_length enSIII_len _, flat_length enS_len _, flat_length enS_len _, tv⟩, tv, tv⟩ ⟨Kr5 _ _, tv⟩ (T := ⟨[(1, .fn 143 [] [.ptr 1 0]), (9, .gs 0 0 (.v 0) 4 false), (10, (ys 3)), (11, (ys 4))], [some (.rows 0 [] 55 true), some (.cells [.fn 182 [] [.ptr 2 0, .ptr 3 0]] 222 false), some (.cells [.gs 4 0 (.v 1) 1 true] 103 false), some (.cells [(ys 2)] 28 false), some (.rows 1 [] 9 false)], [some (0, 0), some (1, 0), some (2, 0), some (3, 0), some (6, 0)]⟩) (ce := .normal) (qs := [(ns 0 0), (ns 3 3), .num (.add .i64 (.v 4) (.c 1)) (.v 4), .lst 0 (some 0) [], (ns 9 1), (ns 2 2), .lst 1 (some 2) []]) rfl tv hF hr (by kernel_rfl) ⟨(r (p0.length : Int)), (r p3), (r (IntKind.wrap .i64 (v4 + (1 : Int)))), ⟨[], rfl, lnil _⟩, (r (r5.2.length : Int)), (r p2), ⟨[], rfl, lnil _⟩, tv⟩ (at_re (V' := (vals [(p0.length : Int), (v1.length : Int), p2, p3, v4, e4.1, e4.2.1, e4.2.2.1, e4.2.2.2, (r5.2.length : Int), r5.1] [(p0.flatMap enSIII), (v1.flatMap enS), (r5.2.flatMap enS)])) (T := ⟨[(1, .fn 143 [] [.ptr 1 0]), (9, .gs 0 0 (.v 0) 4 false), (10, (ys 3)), (11, (ys 4))], [some (.rows 0 [] 55 true), some (.cells [.fn 182 [] [.ptr 2 0, .ptr 3 0]] 222 false), some (.cells [.gs 4 0 (.v 1) 1 true] 103 false), some (.cells [(ys 2)] 28 false), some (.rows 1 [] 9 false)], [some (0, 0), some (1, 0), some (2, 0), some (3, 0), some (4, 0)]⟩) (qs := [(ns 0 0), (ns 3 3), (ns 4 4), .lst 0 (some 0) [], (ns 1 1), (ns 2 2), .lst 1 (some 1) []]) hat (by kernel_rfl) ⟨rfl, rfl, rfl, ⟨[], rfl, lnil _⟩, rfl, rfl, ⟨[], rfl, lnil _⟩, tv⟩) fun a' w' hat' => ?_
      exact u_FirstBad_BusStream_CheckStreams_1_L1_ok fu p0 p2 p3 n r5.2 (IntKind.wrap .i64 (v4 + (1 : Int))) o h _ _ _ _ _ _ _ hF hr hat' hx0 hx1
     ·rw [if_neg h6] at h
      injection h with h; subst h
      exact to_done mixed ⟨[(.lss, (.v 4), (.v 3), true), (.leq, (.c 0), (.v 4), true), (.lss, (.v 4), (.v 0), true), (.neq, (.v 10), (.c 0), true)], [(0, 0, (.v 4), [.ss (.v 5), (ys 6), (ys 7), (ys 8)])], [(0, 4, (.v 0)), (1, 1, (.v 1)), (2, 1, (.v 9))], [⟨143, 6, [some (1, 0), some (2, 0), some (4, 0), some (3, 0)], [.agg [.ss (.v 0), (ys 1), (ys 2), (ys 3)], .ptr 0 0], [some (.cells [.fn 182 [] [.ptr 1 0, .ptr 3 0]] 222 false), some (.cells [.gs 2 0 (.v 4) 1 true] 103 false), some (.rows 0 [] 9 false), some (.cells [(ys 5)] 28 false)], [(ns 5 0), (ns 6 1), (ns 7 2), (ns 8 3), (ns 1 4), .lst 0 (some 1) [], (ns 2 5)], 0, (ys 0), [some (.cells [.fn 182 [] [.ptr 1 0, .ptr 3 0]] 222 false), some (.cells [.gs 4 0 (.v 1) 1 true] 103 false), none, some (.cells [(ys 2)] 28 false), some (.rows 0 [] 9 false)], (ys 10), [some (.rows 2 [] 9 false)], [(1, some (.cells [.fn 182 [] [.ptr 2 0, .ptr 3 0]] 222 false)), (2, some (.cells [.gs 6 0 (.v 9) 1 true] 103 false)), (4, none), (3, some (.cells [(ys 2)] 28 false))]⟩], [], []⟩ (V := (vals [(p0.length : Int), (v1.length : Int), p2, p3, v4, e4.1, e4.2.1, e4.2.2.1, e4.2.2.2, (r5.2.length : Int), r5.1] [(p0.flatMap enSIII), (v1.flatMap enS), (r5.2.flatMap enS)])) (n := 3000) (f := 3000) (fid := 185) (fun _ => rfl) (V' := (vals [(p0.length : Int), (r5.2.length : Int), p2, v4, r5.1] [(p0.flatMap enSIII), (r5.2.flatMap enS)])) ⟨⟨lss_t h1, leq_t h2, lss_t h3, neq_t h6, tv⟩, ⟨⟨h2, _, rfl, flat_row enSIII_len he4⟩, tv⟩, ⟨flat_length enSIII_len _, flat_length enS_len _, flat_length enS_len _, tv⟩, tv, tv⟩ ⟨Kr5 _ _, tv⟩ (T := ⟨[(4, (ys 3)), (5, (ys 4))], [some (.rows 0 [] 55 true), some (.cells [.fn 182 [] [.ptr 2 0, .ptr 3 0]] 222 false), some (.cells [.gs 4 0 (.v 1) 1 true] 103 false), some (.cells [(ys 2)] 28 false), some (.rows 1 [] 9 false)], [some (0, 0), some (1, 0), some (2, 0), some (3, 0), some (6, 0)]⟩) (ce := .ret) (qs := [(ns 4 3), (ns 10 4), .lst 0 (some 0) [], (ns 9 1), (ns 2 2), .lst 1 (some 2) []]) rfl tv hF hr (by kernel_rfl) ⟨(r v4), (r r5.1), ⟨[], rfl, lnil _⟩, (r (r5.2.length : Int)), (r p2), ⟨[], rfl, lnil _⟩, tv⟩ (at_re (V' := (vals [(p0.length : Int), (v1.length : Int), p2, p3, v4, e4.1, e4.2.1, e4.2.2.1, e4.2.2.2, (r5.2.length : Int), r5.1] [(p0.flatMap enSIII), (v1.flatMap enS), (r5.2.flatMap enS)])) (T := ⟨[(1, .fn 143 [] [.ptr 1 0]), (9, .gs 0 0 (.v 0) 4 false), (10, (ys 3)), (11, (ys 4))], [some (.rows 0 [] 55 true), some (.cells [.fn 182 [] [.ptr 2 0, .ptr 3 0]] 222 false), some (.cells [.gs 4 0 (.v 1) 1 true] 103 false), some (.cells [(ys 2)] 28 false), some (.rows 1 [] 9 false)], [some (0, 0), some (1, 0), some (2, 0), some (3, 0), some (4, 0)]⟩) (qs := [(ns 0 0), (ns 3 3), (ns 4 4), .lst 0 (some 0) [], (ns 1 1), (ns 2 2), .lst 1 (some 1) []]) hat (by kernel_rfl) ⟨rfl, rfl, rfl, ⟨[], rfl, lnil _⟩, rfl, rfl, ⟨[], rfl, lnil _⟩, tv⟩) fun a' w' hat' => hx0 (r5.2, v4, r5.1) rfl a' w' hat'
    ·rw [if_neg h3] at h
     cases h
   ·rw [if_neg h2] at h
    cases h
  ·rw [if_neg h1] at h
   injection h with h; subst h
   exact to_done mixed ⟨[(.lss, (.v 4), (.v 3), false)], [], [(0, 4, (.v 0)), (1, 1, (.v 1))], [], [], []⟩ (V := (vals [(p0.length : Int), (v1.length : Int), p2, p3, v4] [(p0.flatMap enSIII), (v1.flatMap enS)])) (n := 3000) (f := 3000) (fid := 185) (fun _ => rfl) (V' := (vals [(p0.length : Int), (v1.length : Int), p2] [(p0.flatMap enSIII), (v1.flatMap enS)])) ⟨⟨lss_f h1, tv⟩, tv, ⟨flat_length enSIII_len _, flat_length enS_len _, tv⟩, tv, tv⟩ tv (T := ⟨[], [some (.rows 0 [] 55 true), some (.cells [.fn 182 [] [.ptr 2 0, .ptr 3 0]] 222 false), some (.cells [.gs 4 0 (.v 1) 1 true] 103 false), some (.cells [(ys 2)] 28 false), some (.rows 1 [] 9 false)], [some (0, 0), some (1, 0), some (2, 0), some (3, 0), some (4, 0)]⟩) (ce := (.exit 0)) (qs := [.lst 0 (some 0) [], (ns 1 1), (ns 2 2), .lst 1 (some 1) []]) rfl tv hF hr (by kernel_rfl) ⟨⟨[], rfl, lnil _⟩, (r (v1.length : Int)), (r p2), ⟨[], rfl, lnil _⟩, tv⟩ hat fun a' w' hat' => hx1 v1 rfl a' w' hat'
def u_FirstBad_BusStream_CheckStreams_1 (fu : Nat) (a0 : List (Int × Int × Int × Int)) (a1_c0_0_c1_0 : Int) : Option (Int × Int × List (Int)) := Option.bind (u_FirstBad_BusStream_CheckStreams_1_L1 fu a0 a1_c0_0_c1_0 (a0.length : Int) fu ([] : List (Int)) (0 : Int)) fun o1 => (match o1 with | .inl y2 => (some (y2.2.1, y2.2.2, y2.1)) | .inr y3 => (some ((0 : Int), (0 : Int), y3)))
theorem u_FirstBad_BusStream_CheckStreams_1_ok (fu : Nat) (a0 : List (Int × Int × Int × Int)) (a1_c0_0_c1_0 : Int) (y : Int × Int × List (Int)) (h : u_FirstBad_BusStream_CheckStreams_1 fu a0 a1_c0_0_c1_0 = some y) : CallOk Tryz.prog 185 (vals [(a0.length : Int), a1_c0_0_c1_0] [(a0.flatMap enSIII)]) [.gs 0 0 (.v 0) 4 false, .fn 143 [] [.ptr 1 0]] [some (.rows 0 [] 55 true), some (.cells [.fn 182 [] [.ptr 2 0, .ptr 3 0]] 222 false), some (.cells [.nils] 103 false), some (.cells [(ys 1)] 28 false)] 1 (vals [y.1, y.2.1, (y.2.2.length : Int), a1_c0_0_c1_0] [(y.2.2.flatMap enS)]) (.tup [(ys 0), (ys 1)]) [none, some (.cells [.fn 182 [] [.ptr 2 0, .ptr 3 0]] 222 false), some (.cells [.gs 4 0 (.v 2) 1 true] 103 false), some (.cells [(ys 3)] 28 false), some (.rows 0 [] 9 false)] := by
 refine fun_of (nt := 24) (by kernel_rfl) (by kernel_rfl) fun φ0 w0 a w hat => ?_
 have hF := wide_fw
 have hr : Fence.wide.round = none := rfl
 unfold u_FirstBad_BusStream_CheckStreams_1 at h
 obtain ⟨o1, ho1, h⟩ := bs1 h
 refine to_loop mixed ⟨[], [], [(0, 4, (.v 0))], [], [], []⟩ (V := (vals [(a0.length : Int), a1_c0_0_c1_0] [(a0.flatMap enSIII)])) (n := 3000) (f := 3000) (fid := 185) (fun _ => rfl) (V' := (vals [(a0.length : Int), (([] : List (Int)).length : Int), a1_c0_0_c1_0, (a0.length : Int), (0 : Int)] [(a0.flatMap enSIII), (([] : List (Int)).flatMap enS)])) ⟨tv, tv, ⟨flat_length enSIII_len _, tv⟩, tv, tv⟩ tv (T := ⟨[(1, .fn 143 [] [.ptr 1 0]), (9, .gs 0 0 (.v 0) 4 false), (10, (ys 3)), (11, (ys 4))], [some (.rows 0 [] 55 true), some (.cells [.fn 182 [] [.ptr 2 0, .ptr 3 0]] 222 false), some (.cells [.gs 4 0 (.v 1) 1 true] 103 false), some (.cells [(ys 2)] 28 false), some (.rows 1 [] 9 false)], [some (0, 0), some (1, 0), some (2, 0), some (3, 0), none]⟩) (B := subAt (bodyOf Tryz.prog 185) [1, 0, 1, 0, 0]) (K' := [.bk 0, .sq (subAt (bodyOf Tryz.prog 185) [1, 1]) [1, 1]]) (qs := [(ns 0 0), (ns 0 3), .num (.c 0) (.v 4), .lst 0 (some 0) [], .num (.c 0) (.v 1), (ns 1 2)]) wok0 tv hF hr (by kernel_rfl) ⟨(r (a0.length : Int)), (r (a0.length : Int)), (r (0 : Int)), ⟨[], rfl, lnil _⟩, rfl, (r a1_c0_0_c1_0), tv⟩ hat fun aa1 ww1 hat1 => loop_in (u_FirstBad_BusStream_CheckStreams_1_L1_ok fu a0 a1_c0_0_c1_0 (a0.length : Int) fu ([] : List (Int)) (0 : Int) o1 ho1 _ _ _ _ _ _ _ hF hr hat1 ?_ ?_)
 ·intro y2 hy aa2 ww2 hat
  subst hy
  dsimp only at h
  show (Wk.out .ret).goal _ _ _ [.bk 0, .sq (subAt (bodyOf Tryz.prog 185) [1, 1]) [1, 1]] _ aa2 ww2
  injection h with h; subst h
  exact to_fin mixed ⟨[], [], [(0, 4, (.v 0)), (1, 1, (.v 1))], [], [], []⟩ (V := (vals [(a0.length : Int), (y2.1.length : Int), a1_c0_0_c1_0, y2.2.1, y2.2.2] [(a0.flatMap enSIII), (y2.1.flatMap enS)])) (n := 3000) (f := 3000) (fid := 185) (fun _ => rfl) ⟨tv, tv, ⟨flat_length enSIII_len _, flat_length enS_len _, tv⟩, tv, tv⟩ tv (R := ⟨.tup [(ys 0), (ys 1)], [none, some (.cells [.fn 182 [] [.ptr 2 0, .ptr 3 0]] 222 false), some (.cells [.gs 4 0 (.v 2) 1 true] 103 false), some (.cells [(ys 3)] 28 false), some (.rows 0 [] 9 false)], [some (0, 0), some (1, 0), some (2, 0), some (3, 0), some (4, 0)]⟩) (qs := [(ns 3 0), (ns 4 1), (ns 1 2), (ns 2 3), .lst 0 (some 1) []]) tv ⟨rfl, tv⟩ hF hr (by kernel_rfl) ⟨(r y2.2.1), (r y2.2.2), (r (y2.1.length : Int)), (r a1_c0_0_c1_0), ⟨[], rfl, lnil _⟩, tv⟩ hat
 ·intro y3 hy aa2 ww2 hat
  subst hy
  dsimp only at h
  show (Wk.out (.exit 0)).goal _ _ _ [.bk 0, .sq (subAt (bodyOf Tryz.prog 185) [1, 1]) [1, 1]] _ aa2 ww2
  injection h with h; subst h
  exact to_fin mixed ⟨[], [], [(0, 4, (.v 0)), (1, 1, (.v 1))], [], [], []⟩ (V := (vals [(a0.length : Int), (y3.length : Int), a1_c0_0_c1_0] [(a0.flatMap enSIII), (y3.flatMap enS)])) (n := 3000) (f := 3000) (fid := 185) (fun _ => rfl) ⟨tv, tv, ⟨flat_length enSIII_len _, flat_length enS_len _, tv⟩, tv, tv⟩ tv (R := ⟨.tup [(ys 0), (ys 1)], [none, some (.cells [.fn 182 [] [.ptr 2 0, .ptr 3 0]] 222 false), some (.cells [.gs 4 0 (.v 2) 1 true] 103 false), some (.cells [(ys 3)] 28 false), some (.rows 0 [] 9 false)], [some (0, 0), some (1, 0), some (2, 0), some (3, 0), some (4, 0)]⟩) (qs := [.num (.c 0) (.v 0), .num (.c 0) (.v 1), (ns 1 2), (ns 2 3), .lst 0 (some 1) []]) tv ⟨rfl, tv⟩ hF hr (by kernel_rfl) ⟨(r (0 : Int)), (r (0 : Int)), (r (y3.length : Int)), (r a1_c0_0_c1_0), ⟨[], rfl, lnil _⟩, tv⟩ hat
def u_CheckList_BusStream_CheckStreams_1 (fu : Nat) (a0 : List (Int × Int × Int × Int)) (a1 : Int) (a2 : Int) (a3_c0_0_c1_0 : Int) : Option (Int × Int × List (Int)) := if (a0.length : Int) < a1 then (some ((0 : Int), (10 : Int), ([] : List (Int)))) else (if a2 < (a0.length : Int) then (some ((0 : Int), (8 : Int), ([] : List (Int)))) else (Option.bind (u_FirstBad_BusStream_CheckStreams_1 fu a0 a3_c0_0_c1_0) fun r3 => some (r3.1, r3.2.1, r3.2.2)))
theorem u_CheckList_BusStream_CheckStreams_1_ok (fu : Nat) (a0 : List (Int × Int × Int × Int)) (a1 : Int) (a2 : Int) (a3_c0_0_c1_0 : Int) (y : Int × Int × List (Int)) (h : u_CheckList_BusStream_CheckStreams_1 fu a0 a1 a2 a3_c0_0_c1_0 = some y) : CallOk Tryz.prog 142 (vals [(a0.length : Int), a1, a2, a3_c0_0_c1_0] [(a0.flatMap enSIII)]) [.gs 0 0 (.v 0) 4 false, (ys 1), (ys 2), .fn 143 [] [.ptr 1 0]] [some (.rows 0 [] 55 true), some (.cells [.fn 182 [] [.ptr 2 0, .ptr 3 0]] 222 false), some (.cells [.nils] 103 false), some (.cells [(ys 3)] 28 false)] 1 (vals [y.1, y.2.1, (y.2.2.length : Int), a3_c0_0_c1_0] [(y.2.2.flatMap enS)]) (.tup [(ys 0), (ys 1)]) [none, some (.cells [.fn 182 [] [.ptr 2 0, .ptr 3 0]] 222 false), some (.cells [.gs 4 0 (.v 2) 1 true] 103 false), some (.cells [(ys 3)] 28 false), some (.rows 0 [] 9 false)] := by
 refine fun_of (nt := 23) (by kernel_rfl) (by kernel_rfl) fun φ0 w0 a w hat => ?_
 have hF := wide_fw
 have hr : Fence.wide.round = none := rfl
 unfold u_CheckList_BusStream_CheckStreams_1 at h
 by_cases h1 : (a0.length : Int) < a1
 ·rw [if_pos h1] at h
  injection h with h; subst h
  exact to_fin mixed ⟨[(.lss, (.v 0), (.v 1), true)], [], [(0, 4, (.v 0))], [], [], []⟩ (V := (vals [(a0.length : Int), a1, a2, a3_c0_0_c1_0] [(a0.flatMap enSIII)])) (n := 3000) (f := 3000) (fid := 142) (fun _ => rfl) ⟨⟨lss_t h1, tv⟩, tv, ⟨flat_length enSIII_len _, tv⟩, tv, tv⟩ tv (R := ⟨.tup [(ys 0), (ys 1)], [none, some (.cells [.fn 182 [] [.ptr 2 0, .ptr 3 0]] 222 false), some (.cells [.gs 4 0 (.v 2) 1 true] 103 false), some (.cells [(ys 3)] 28 false), some (.rows 0 [] 9 false)], [some (0, 0), some (1, 0), some (2, 0), some (3, 0), none]⟩) (qs := [.num (.c 0) (.v 0), .num (.c 10) (.v 1), .num (.c 0) (.v 2), (ns 3 3)]) wok0 tv hF hr (by kernel_rfl) ⟨(r (0 : Int)), (r (10 : Int)), rfl, (r a3_c0_0_c1_0), tv⟩ hat
 ·rw [if_neg h1] at h
  by_cases h2 : a2 < (a0.length : Int)
  ·rw [if_pos h2] at h
   injection h with h; subst h
   exact to_fin mixed ⟨[(.lss, (.v 0), (.v 1), false), (.gtr, (.v 0), (.v 2), true)], [], [(0, 4, (.v 0))], [], [], []⟩ (V := (vals [(a0.length : Int), a1, a2, a3_c0_0_c1_0] [(a0.flatMap enSIII)])) (n := 3000) (f := 3000) (fid := 142) (fun _ => rfl) ⟨⟨lss_f h1, gtr_t h2, tv⟩, tv, ⟨flat_length enSIII_len _, tv⟩, tv, tv⟩ tv (R := ⟨.tup [(ys 0), (ys 1)], [none, some (.cells [.fn 182 [] [.ptr 2 0, .ptr 3 0]] 222 false), some (.cells [.gs 4 0 (.v 2) 1 true] 103 false), some (.cells [(ys 3)] 28 false), some (.rows 0 [] 9 false)], [some (0, 0), some (1, 0), some (2, 0), some (3, 0), none]⟩) (qs := [.num (.c 0) (.v 0), .num (.c 8) (.v 1), .num (.c 0) (.v 2), (ns 3 3)]) wok0 tv hF hr (by kernel_rfl) ⟨(r (0 : Int)), (r (8 : Int)), rfl, (r a3_c0_0_c1_0), tv⟩ hat
  ·rw [if_neg h2] at h
   obtain ⟨r3, hr3, h⟩ := bs1 h
   have Kr3 : KO Tryz.prog [(a0.length : Int), a1, a2, a3_c0_0_c1_0, (r3.2.2.length : Int), r3.1, r3.2.1] [(a0.flatMap enSIII), (r3.2.2.flatMap enS)] ⟨185, 4, [some (0, 0), some (1, 0), some (2, 0), some (3, 0)], [.gs 0 0 (.v 0) 4 false, .fn 143 [] [.ptr 1 0]], [some (.rows 0 [] 55 true), some (.cells [.fn 182 [] [.ptr 2 0, .ptr 3 0]] 222 false), some (.cells [.nils] 103 false), some (.cells [(ys 1)] 28 false)], [(ns 0 0), .lst 0 (some 0) [], (ns 3 1)], 1, .tup [(ys 0), (ys 1)], [none, some (.cells [.fn 182 [] [.ptr 2 0, .ptr 3 0]] 222 false), some (.cells [.gs 4 0 (.v 2) 1 true] 103 false), some (.cells [(ys 3)] 28 false), some (.rows 0 [] 9 false)], .tup [(ys 5), (ys 6)], [some (.rows 1 [] 9 false)], [(1, some (.cells [.fn 182 [] [.ptr 2 0, .ptr 3 0]] 222 false)), (2, some (.cells [.gs 4 0 (.v 4) 1 true] 103 false)), (3, some (.cells [(ys 3)] 28 false))]⟩ := fun N M => ⟨_, _, [(ns 0 5), (ns 1 6), .lst 1 (some 0) [], (ns 2 4), (ns 3 3)], ⟨u_FirstBad_BusStream_CheckStreams_1_ok fu a0 a3_c0_0_c1_0 r3 hr3, ⟨(r (a0.length : Int)), ⟨[], rfl, lnil _⟩, (r a3_c0_0_c1_0), tv⟩, by kernel_rfl, ⟨rfl, rfl, ⟨[], rfl, lnil _⟩, rfl, rfl, tv⟩⟩⟩
   injection h with h; subst h
   exact to_fin mixed ⟨[(.lss, (.v 0), (.v 1), false), (.gtr, (.v 0), (.v 2), false)], [], [(0, 4, (.v 0)), (1, 1, (.v 4))], [⟨185, 4, [some (0, 0), some (1, 0), some (2, 0), some (3, 0)], [.gs 0 0 (.v 0) 4 false, .fn 143 [] [.ptr 1 0]], [some (.rows 0 [] 55 true), some (.cells [.fn 182 [] [.ptr 2 0, .ptr 3 0]] 222 false), some (.cells [.nils] 103 false), some (.cells [(ys 1)] 28 false)], [(ns 0 0), .lst 0 (some 0) [], (ns 3 1)], 1, .tup [(ys 0), (ys 1)], [none, some (.cells [.fn 182 [] [.ptr 2 0, .ptr 3 0]] 222 false), some (.cells [.gs 4 0 (.v 2) 1 true] 103 false), some (.cells [(ys 3)] 28 false), some (.rows 0 [] 9 false)], .tup [(ys 5), (ys 6)], [some (.rows 1 [] 9 false)], [(1, some (.cells [.fn 182 [] [.ptr 2 0, .ptr 3 0]] 222 false)), (2, some (.cells [.gs 4 0 (.v 4) 1 true] 103 false)), (3, some (.cells [(ys 3)] 28 false))]⟩], [], []⟩ (V := (vals [(a0.length : Int), a1, a2, a3_c0_0_c1_0, (r3.2.2.length : Int), r3.1, r3.2.1] [(a0.flatMap enSIII), (r3.2.2.flatMap enS)])) (n := 3000) (f := 3000) (fid := 142) (fun _ => rfl) ⟨⟨lss_f h1, gtr_f h2, tv⟩, tv, ⟨flat_length enSIII_len _, flat_length enS_len _, tv⟩, tv, tv⟩ ⟨Kr3 _ _, tv⟩ (R := ⟨.tup [(ys 0), (ys 1)], [none, some (.cells [.fn 182 [] [.ptr 2 0, .ptr 3 0]] 222 false), some (.cells [.gs 4 0 (.v 2) 1 true] 103 false), some (.cells [(ys 3)] 28 false), some (.rows 0 [] 9 false)], [some (0, 0), some (1, 0), some (2, 0), some (3, 0), some (4, 0)]⟩) (qs := [(ns 5 0), (ns 6 1), (ns 4 2), (ns 3 3), .lst 0 (some 1) []]) wok0 tv hF hr (by kernel_rfl) ⟨(r r3.1), (r r3.2.1), (r (r3.2.2.length : Int)), (r a3_c0_0_c1_0), ⟨[], rfl, lnil _⟩, tv⟩ (at_re (V' := (vals [(a0.length : Int), a1, a2, a3_c0_0_c1_0, (r3.2.2.length : Int), r3.1, r3.2.1] [(a0.flatMap enSIII), (r3.2.2.flatMap enS)])) (T := ⟨[(0, .gs 0 0 (.v 0) 4 false), (1, (ys 1)), (2, (ys 2)), (3, .fn 143 [] [.ptr 1 0])], [some (.rows 0 [] 55 true), some (.cells [.fn 182 [] [.ptr 2 0, .ptr 3 0]] 222 false), some (.cells [.nils] 103 false), some (.cells [(ys 3)] 28 false)], [some (0, 0), some (1, 0), some (2, 0), some (3, 0)]⟩) (qs := [(ns 0 0), (ns 1 1), (ns 2 2), .lst 0 (some 0) [], (ns 3 3)]) hat (by kernel_rfl) ⟨rfl, rfl, rfl, ⟨[], rfl, lnil _⟩, rfl, tv⟩)
def bus_CheckStreams (fu : Nat) (a0 : List (Int × Int × Int × Int)) : Option (Int × Int) := Option.bind (u_CheckList_BusStream_CheckStreams_1 fu a0 (1 : Int) (6 : Int) (5 : Int)) fun r1 => some (r1.1, r1.2.1)
theorem bus_CheckStreams_ok (fu : Nat) (a0 : List (Int × Int × Int × Int)) (y : Int × Int) (h : bus_CheckStreams fu a0 = some y) : CallOk Tryz.prog 111 (vals [(a0.length : Int)] [(a0.flatMap enSIII)]) [.gs 0 0 (.v 0) 4 false] [some (.rows 0 [] 55 true)] 1 (vals [y.1, y.2] []) (.tup [(ys 0), (ys 1)]) [none] := by
 refine fun_of (nt := 11) (by kernel_rfl) (by kernel_rfl) fun φ0 w0 a w hat => ?_
 have hF := wide_fw
 have hr : Fence.wide.round = none := rfl
 unfold bus_CheckStreams at h
 obtain ⟨r1, hr1, h⟩ := bs1 h
 have Kr1 : KO Tryz.prog [(a0.length : Int), (r1.2.2.length : Int), r1.1, r1.2.1] [(a0.flatMap enSIII), (r1.2.2.flatMap enS)] ⟨142, 4, [some (0, 0), some (3, 0), some (2, 0), some (1, 0)], [.gs 0 0 (.v 0) 4 false, (ys 1), (ys 2), .fn 143 [] [.ptr 1 0]], [some (.rows 0 [] 55 true), some (.cells [.fn 182 [] [.ptr 2 0, .ptr 3 0]] 222 false), some (.cells [.nils] 103 false), some (.cells [(ys 3)] 28 false)], [(ns 0 0), .num (.c 1) (.v 1), .num (.c 6) (.v 2), .lst 0 (some 0) [], .num (.c 5) (.v 3)], 1, .tup [(ys 0), (ys 1)], [none, some (.cells [.fn 182 [] [.ptr 2 0, .ptr 3 0]] 222 false), some (.cells [.gs 4 0 (.v 2) 1 true] 103 false), some (.cells [(ys 3)] 28 false), some (.rows 0 [] 9 false)], .tup [(ys 2), (ys 3)], [some (.rows 1 [] 9 false)], [(3, some (.cells [.fn 182 [] [.ptr 2 0, .ptr 1 0]] 222 false)), (2, some (.cells [.gs 4 0 (.v 1) 1 true] 103 false)), (1, some (.cells [.int .i64 5] 28 false))]⟩ := fun N M => ⟨_, _, [(ns 0 2), (ns 1 3), .lst 1 (some 0) [], (ns 2 1), .num (.v 3) (.c 5)], ⟨u_CheckList_BusStream_CheckStreams_1_ok fu a0 (1 : Int) (6 : Int) (5 : Int) r1 hr1, ⟨(r (a0.length : Int)), (r (1 : Int)), (r (6 : Int)), ⟨[], rfl, lnil _⟩, (r (5 : Int)), tv⟩, by kernel_rfl, ⟨rfl, rfl, ⟨[], rfl, lnil _⟩, rfl, rfl, tv⟩⟩⟩
 injection h with h; subst h
 exact to_fin mixed ⟨[], [], [(0, 4, (.v 0)), (1, 1, (.v 1))], [⟨142, 4, [some (0, 0), some (3, 0), some (2, 0), some (1, 0)], [.gs 0 0 (.v 0) 4 false, (ys 1), (ys 2), .fn 143 [] [.ptr 1 0]], [some (.rows 0 [] 55 true), some (.cells [.fn 182 [] [.ptr 2 0, .ptr 3 0]] 222 false), some (.cells [.nils] 103 false), some (.cells [(ys 3)] 28 false)], [(ns 0 0), .num (.c 1) (.v 1), .num (.c 6) (.v 2), .lst 0 (some 0) [], .num (.c 5) (.v 3)], 1, .tup [(ys 0), (ys 1)], [none, some (.cells [.fn 182 [] [.ptr 2 0, .ptr 3 0]] 222 false), some (.cells [.gs 4 0 (.v 2) 1 true] 103 false), some (.cells [(ys 3)] 28 false), some (.rows 0 [] 9 false)], .tup [(ys 2), (ys 3)], [some (.rows 1 [] 9 false)], [(3, some (.cells [.fn 182 [] [.ptr 2 0, .ptr 1 0]] 222 false)), (2, some (.cells [.gs 4 0 (.v 1) 1 true] 103 false)), (1, some (.cells [.int .i64 5] 28 false))]⟩], [], []⟩ (V := (vals [(a0.length : Int), (r1.2.2.length : Int), r1.1, r1.2.1] [(a0.flatMap enSIII), (r1.2.2.flatMap enS)])) (n := 3000) (f := 3000) (fid := 111) (fun _ => rfl) ⟨tv, tv, ⟨flat_length enSIII_len _, flat_length enS_len _, tv⟩, tv, tv⟩ ⟨Kr1 _ _, tv⟩ (R := ⟨.tup [(ys 0), (ys 1)], [none], [some (0, 0)]⟩) (qs := [(ns 2 0), (ns 3 1)]) wok0 tv hF hr (by kernel_rfl) ⟨(r r1.1), (r r1.2.1), tv⟩ (at_re (V' := (vals [(a0.length : Int), (r1.2.2.length : Int), r1.1, r1.2.1] [(a0.flatMap enSIII), (r1.2.2.flatMap enS)])) (T := ⟨[(0, .gs 0 0 (.v 0) 4 false)], [some (.rows 0 [] 55 true)], [some (0, 0)]⟩) (qs := [(ns 0 0), .lst 0 (some 0) []]) hat (by kernel_rfl) ⟨rfl, ⟨[], rfl, lnil _⟩, tv⟩)
end Go.Proofs.YthffbfkcmbgghaaGreat
