/-
  Go functions as Lean functions (written by tools/lift.py).
-/
import Derived.Test.YthffbfkcmbgghaaGreatZEd
import Derived.Test.YthffbfkcmbgghaaGreatZEg
import Derived.Test.YthffbfkcmbgghaaGreatZYa
import Derived.Test.YthffbfkcmbgghaaGreatZK7a
import Derived.Test.YthffbfkcmbgghaaGreatZK7b
import Derived.Test.YthffbfkcmbgghaaGreatZK7e
set_option linter.all false
namespace Go.Proofs.YthffbfkcmbgghaaGreat
open Go Go.RowKit Cm
set_option maxRecDepth 100000
set_option maxHeartbeats 4000000
def u_IndexError (a0 : Int) (a1 : Int) : Option (Int) := if a0 < (0 : Int) then (some (6 : Int)) else (if a1 ≤ a0 then (some (6 : Int)) else (some (0 : Int)))
theorem u_IndexError_ok (a0 : Int) (a1 : Int) (y : Int) (h : u_IndexError a0 a1 = some y) : CallOk Tryz.prog 60 (vals [a0, a1] []) [(ys 0), (ys 1)] [] 0 (vals [y] []) ((ys 0)) [] := by
 refine fun_of (nt := 12) (by kernel_rfl) (by kernel_rfl) fun φ0 w0 a w hat => ?_
 have hF := wide_fw
 have hr : Fence.wide.round = none := rfl
 unfold u_IndexError at h
 by_cases h1 : a0 < (0 : Int)
 ·rw [if_pos h1] at h
  injection h with h; subst h
  exact to_fin mixed ⟨[(.lss, (.v 0), (.c 0), true)], [], [], [], [], []⟩ (V := (vals [a0, a1] [])) (n := 3000) (f := 3000) (fid := 60) (fun _ => rfl) ⟨⟨lss_t h1, tv⟩, tv, tv, tv, tv⟩ tv (R := ⟨(ys 0), [], []⟩) (qs := [.num (.c 6) (.v 0)]) wok0 tv hF hr (by kernel_rfl) ⟨(r (6 : Int)), tv⟩ hat
 ·rw [if_neg h1] at h
  by_cases h2 : a1 ≤ a0
  ·rw [if_pos h2] at h
   injection h with h; subst h
   exact to_fin mixed ⟨[(.lss, (.v 0), (.c 0), false), (.geq, (.v 0), (.v 1), true)], [], [], [], [], []⟩ (V := (vals [a0, a1] [])) (n := 3000) (f := 3000) (fid := 60) (fun _ => rfl) ⟨⟨lss_f h1, geq_t h2, tv⟩, tv, tv, tv, tv⟩ tv (R := ⟨(ys 0), [], []⟩) (qs := [.num (.c 6) (.v 0)]) wok0 tv hF hr (by kernel_rfl) ⟨(r (6 : Int)), tv⟩ hat
  ·rw [if_neg h2] at h
   injection h with h; subst h
   exact to_fin mixed ⟨[(.lss, (.v 0), (.c 0), false), (.geq, (.v 0), (.v 1), false)], [], [], [], [], []⟩ (V := (vals [a0, a1] [])) (n := 3000) (f := 3000) (fid := 60) (fun _ => rfl) ⟨⟨lss_f h1, geq_f h2, tv⟩, tv, tv, tv, tv⟩ tv (R := ⟨(ys 0), [], []⟩) (qs := [.num (.c 0) (.v 0)]) wok0 tv hF hr (by kernel_rfl) ⟨(r (0 : Int)), tv⟩ hat
def u_Floor (a0 : Int) (a1 : Int) : Option (Int) := if a1 = (0 : Int) then none else (if (Int.tmod a0 a1) < (0 : Int) then (some (IntKind.wrap .i64 ((IntKind.wrap .i64 (Int.tdiv a0 a1)) - (1 : Int)))) else (some (IntKind.wrap .i64 (Int.tdiv a0 a1))))
theorem u_Floor_ok (a0 : Int) (a1 : Int) (y : Int) (h : u_Floor a0 a1 = some y) : CallOk Tryz.prog 144 (vals [a0, a1] []) [(ys 0), (ys 1)] [] 0 (vals [y] []) ((ys 0)) [] := by
 refine fun_of (nt := 16) (by kernel_rfl) (by kernel_rfl) fun φ0 w0 a w hat => ?_
 have hF := wide_fw
 have hr : Fence.wide.round = none := rfl
 unfold u_Floor at h
 by_cases h1 : a1 = (0 : Int)
 ·rw [if_pos h1] at h
  cases h
 ·rw [if_neg h1] at h
  by_cases h2 : (Int.tmod a0 a1) < (0 : Int)
  ·rw [if_pos h2] at h
   injection h with h; subst h
   exact to_fin mixed ⟨[(.eql, (.v 1), (.c 0), false), (.lss, (.rem .i64 (.v 0) (.v 1)), (.c 0), true)], [], [], [], [], []⟩ (V := (vals [a0, a1] [])) (n := 3000) (f := 3000) (fid := 144) (fun _ => rfl) ⟨⟨eql_f h1, lss_t h2, tv⟩, tv, tv, tv, tv⟩ tv (R := ⟨(ys 0), [], []⟩) (qs := [.num (.sub .i64 (.quo .i64 (.v 0) (.v 1)) (.c 1)) (.v 0)]) wok0 tv hF hr (by kernel_rfl) ⟨(show (IntKind.wrap .i64 ((IntKind.wrap .i64 (Int.tdiv a0 a1)) - (1 : Int))) = (IntKind.wrap .i64 ((IntKind.wrap .i64 (Int.tdiv a0 a1)) - (1 : Int))) from rfl), tv⟩ hat
  ·rw [if_neg h2] at h
   injection h with h; subst h
   exact to_fin mixed ⟨[(.eql, (.v 1), (.c 0), false), (.lss, (.rem .i64 (.v 0) (.v 1)), (.c 0), false)], [], [], [], [], []⟩ (V := (vals [a0, a1] [])) (n := 3000) (f := 3000) (fid := 144) (fun _ => rfl) ⟨⟨eql_f h1, lss_f h2, tv⟩, tv, tv, tv, tv⟩ tv (R := ⟨(ys 0), [], []⟩) (qs := [.num (.quo .i64 (.v 0) (.v 1)) (.v 0)]) wok0 tv hF hr (by kernel_rfl) ⟨(r (IntKind.wrap .i64 (Int.tdiv a0 a1))), tv⟩ hat
def u_Ceiling (a0 : Int) (a1 : Int) : Option (Int) := Option.bind (u_Floor (IntKind.wrap .i64 ((0 : Int) - a0)) a1) fun r1 => some (IntKind.wrap .i64 ((0 : Int) - r1))
theorem u_Ceiling_ok (a0 : Int) (a1 : Int) (y : Int) (h : u_Ceiling a0 a1 = some y) : CallOk Tryz.prog 112 (vals [a0, a1] []) [(ys 0), (ys 1)] [] 0 (vals [y] []) ((ys 0)) [] := by
 refine fun_of (nt := 10) (by kernel_rfl) (by kernel_rfl) fun φ0 w0 a w hat => ?_
 have hF := wide_fw
 have hr : Fence.wide.round = none := rfl
 unfold u_Ceiling at h
 obtain ⟨r1, hr1, h⟩ := bs1 h
 have Kr1 : KO Tryz.prog [a0, a1, r1] [] ⟨144, 0, [], [(ys 0), (ys 1)], [], [.num (.sub .i64 (.c 0) (.v 0)) (.v 0), (ns 1 1)], 0, (ys 0), [], (ys 2), [], []⟩ := fun N M => ⟨_, _, [(ns 0 2)], ⟨u_Floor_ok (IntKind.wrap .i64 ((0 : Int) - a0)) a1 r1 hr1, ⟨(show (IntKind.wrap .i64 ((0 : Int) - a0)) = (IntKind.wrap .i64 ((0 : Int) - a0)) from rfl), (r a1), tv⟩, by kernel_rfl, ⟨rfl, tv⟩⟩⟩
 injection h with h; subst h
 exact to_fin mixed ⟨[], [], [], [⟨144, 0, [], [(ys 0), (ys 1)], [], [.num (.sub .i64 (.c 0) (.v 0)) (.v 0), (ns 1 1)], 0, (ys 0), [], (ys 2), [], []⟩], [], []⟩ (V := (vals [a0, a1, r1] [])) (n := 3000) (f := 3000) (fid := 112) (fun _ => rfl) ⟨tv, tv, tv, tv, tv⟩ ⟨Kr1 _ _, tv⟩ (R := ⟨(ys 0), [], []⟩) (qs := [.num (.sub .i64 (.c 0) (.v 2)) (.v 0)]) wok0 tv hF hr (by kernel_rfl) ⟨(show (IntKind.wrap .i64 ((0 : Int) - r1)) = (IntKind.wrap .i64 ((0 : Int) - r1)) from rfl), tv⟩ (at_re (V' := (vals [a0, a1, r1] [])) (T := ⟨[(0, (ys 0)), (1, (ys 1))], [], []⟩) (qs := [(ns 0 0), (ns 1 1)]) hat (by kernel_rfl) ⟨rfl, rfl, tv⟩)
def bus_response_L1 (fu : Nat) (p0 : List (Int × Int × Int × Int)) (p1 : Int) (p2 : Int) (p3 : Int) (p4 : Int) (p5 : Int) (p6 : Int) (p7 : Int) : Nat → Int → Int → Option ((Int × Int))
 | 0, _, _ => none
 | n + 1, v8, v9 => if v9 < p1 then (if (0 : Int) ≤ v9 then (Option.bind ((p0)[0 + (v9).toNat]?) fun e3 => Option.bind (u_Ceiling p7 e3.2.1) fun r4 => bus_response_L1 fu p0 p1 p2 p3 p4 p5 p6 p7 n (IntKind.wrap .i64 (v8 + (IntKind.wrap .i64 (e3.2.2.2 * r4)))) (IntKind.wrap .i64 (v9 + (1 : Int)))) else none) else (some (p1, v8))
theorem bus_response_L1_ok (fu : Nat) (p0 : List (Int × Int × Int × Int)) (p1 : Int) (p2 : Int) (p3 : Int) (p4 : Int) (p5 : Int) (p6 : Int) (p7 : Int) : ∀ (n : Nat) (v8 : Int) (v9 : Int) (o : (Int × Int)), bus_response_L1 fu p0 p1 p2 p3 p4 p5 p6 p7 n v8 v9 = some o → ∀ (φ0 : Phi) (w0 : World) (F : Fence) (k : Nat) (R : Exit → Act → World → Prop) (a : Act) (w : World), FW F → F.round = none → AtS (vals [(p0.length : Int), p1, p2, p3, p4, p5, p6, p7, v8, v9] [(p0.flatMap enSIII)]) [(1, .gs 0 0 (.v 1) 4 false), (2, (ys 2)), (3, .ptr 1 0), (8, (ys 7)), (9, (ys 8)), (17, .gs 0 0 (.v 1) 4 false), (18, (ys 1)), (19, (ys 9))] [some (.rows 0 [] 55 true), some (.cells [.ss (.v 3), (ys 4), (ys 5), (ys 6)] 55 false)] 38 1 1 φ0 w0 a w → (∀ (y : Int × Int), o = y → ∀ a' w', AtS (vals [(p0.length : Int), y.1, p2, p3, p4, p5, p6, p7, y.2] [(p0.flatMap enSIII)]) [(1, .gs 0 0 (.v 1) 4 false), (2, (ys 2)), (3, .ptr 1 0), (8, (ys 7)), (9, (ys 8))] [some (.rows 0 [] 55 true), some (.cells [.ss (.v 3), (ys 4), (ys 5), (ys 6)] 55 false)] 38 1 1 φ0 w0 a' w' → R (Exit.exit 2) a' w') → Code.roundsIn F k Tryz.prog (subAt (bodyOf Tryz.prog 61) [1, 0, 1, 0, 0, 1, 0, 1, 0, 1, 0, 0]) R n a w
 | 0, _, _, _, h => by cases h
 | n + 1, v8, v9, o, h => by
  intro φ0 w0 F k R a w hF hr hat hx0
  rw [bus_response_L1] at h
  refine rounds_in (p := [1, 0, 1, 0, 0, 1, 0, 1, 0, 1, 0, 0]) ?_
  by_cases h1 : v9 < p1
  ·rw [if_pos h1] at h
   by_cases h2 : (0 : Int) ≤ v9
   ·rw [if_pos h2] at h
    obtain ⟨e3, he3, h⟩ := bs1 h
    obtain ⟨r4, hr4, h⟩ := bs1 h
    have Kr4 : KO Tryz.prog [(p0.length : Int), p1, p2, p3, p4, p5, p6, p7, v8, v9, e3.1, e3.2.1, e3.2.2.1, e3.2.2.2, r4] [(p0.flatMap enSIII)] ⟨112, 3, [], [(ys 0), (ys 1)], [], [(ns 7 0), (ns 11 1)], 0, (ys 0), [], (ys 14), [], []⟩ := fun N M => ⟨_, _, [(ns 0 14)], ⟨u_Ceiling_ok p7 e3.2.1 r4 hr4, ⟨(r p7), (r e3.2.1), tv⟩, by kernel_rfl, ⟨rfl, tv⟩⟩⟩
    refine to_done mixed ⟨[(.lss, (.v 9), (.v 1), true), (.leq, (.c 0), (.v 9), true)], [(0, 0, (.v 9), [.ss (.v 10), (ys 11), (ys 12), (ys 13)])], [(0, 4, (.v 0))], [⟨112, 3, [], [(ys 0), (ys 1)], [], [(ns 7 0), (ns 11 1)], 0, (ys 0), [], (ys 14), [], []⟩], [], []⟩ (V := (vals [(p0.length : Int), p1, p2, p3, p4, p5, p6, p7, v8, v9, e3.1, e3.2.1, e3.2.2.1, e3.2.2.2, r4] [(p0.flatMap enSIII)])) (n := 3000) (f := 3000) (fid := 61) (fun _ => rfl) (V' := (vals [(p0.length : Int), p1, p2, p3, p4, p5, p6, p7, (IntKind.wrap .i64 (v8 + (IntKind.wrap .i64 (e3.2.2.2 * r4)))), (IntKind.wrap .i64 (v9 + (1 : Int)))] [(p0.flatMap enSIII)])) ⟨⟨lss_t h1, leq_t h2, tv⟩, ⟨⟨h2, _, rfl, flat_row enSIII_len he3⟩, tv⟩, ⟨flat_length enSIII_len _, tv⟩, tv, tv⟩ ⟨Kr4 _ _, tv⟩ (T := ⟨[(1, .gs 0 0 (.v 1) 4 false), (2, (ys 2)), (3, .ptr 1 0), (8, (ys 7)), (9, (ys 8)), (17, .gs 0 0 (.v 1) 4 false), (18, (ys 1)), (19, (ys 9))], [some (.rows 0 [] 55 true), some (.cells [.ss (.v 3), (ys 4), (ys 5), (ys 6)] 55 false)], [some (0, 0), some (1, 0)]⟩) (ce := .normal) (qs := [(ns 1 1), (ns 2 2), (ns 7 7), .num (.add .i64 (.v 8) (.mul .i64 (.v 13) (.v 14))) (.v 8), (ns 1 1), (ns 1 1), .num (.add .i64 (.v 9) (.c 1)) (.v 9), .lst 0 (some 0) [], (ns 3 3), (ns 4 4), (ns 5 5), (ns 6 6)]) rfl tv hF hr (by kernel_rfl) ⟨(r p1), (r p2), (r p7), rfl, (r p1), (r p1), (r (IntKind.wrap .i64 (v9 + (1 : Int)))), ⟨[], rfl, lnil _⟩, (r p3), (r p4), (r p5), (r p6), tv⟩ (at_re (V' := (vals [(p0.length : Int), p1, p2, p3, p4, p5, p6, p7, v8, v9, e3.1, e3.2.1, e3.2.2.1, e3.2.2.2, r4] [(p0.flatMap enSIII)])) (T := ⟨[(1, .gs 0 0 (.v 1) 4 false), (2, (ys 2)), (3, .ptr 1 0), (8, (ys 7)), (9, (ys 8)), (17, .gs 0 0 (.v 1) 4 false), (18, (ys 1)), (19, (ys 9))], [some (.rows 0 [] 55 true), some (.cells [.ss (.v 3), (ys 4), (ys 5), (ys 6)] 55 false)], [some (0, 0), some (1, 0)]⟩) (qs := [(ns 1 1), (ns 2 2), (ns 7 7), (ns 8 8), (ns 1 1), (ns 1 1), (ns 9 9), .lst 0 (some 0) [], (ns 3 3), (ns 4 4), (ns 5 5), (ns 6 6)]) hat (by kernel_rfl) ⟨rfl, rfl, rfl, rfl, rfl, rfl, rfl, ⟨[], rfl, lnil _⟩, rfl, rfl, rfl, rfl, tv⟩) fun a' w' hat' => ?_
    exact bus_response_L1_ok fu p0 p1 p2 p3 p4 p5 p6 p7 n (IntKind.wrap .i64 (v8 + (IntKind.wrap .i64 (e3.2.2.2 * r4)))) (IntKind.wrap .i64 (v9 + (1 : Int))) o h _ _ _ _ _ _ _ hF hr hat' hx0
   ·rw [if_neg h2] at h
    cases h
  ·rw [if_neg h1] at h
   injection h with h; subst h
   exact to_done mixed ⟨[(.lss, (.v 9), (.v 1), false)], [], [(0, 4, (.v 0))], [], [], []⟩ (V := (vals [(p0.length : Int), p1, p2, p3, p4, p5, p6, p7, v8, v9] [(p0.flatMap enSIII)])) (n := 3000) (f := 3000) (fid := 61) (fun _ => rfl) (V' := (vals [(p0.length : Int), p1, p2, p3, p4, p5, p6, p7, v8] [(p0.flatMap enSIII)])) ⟨⟨lss_f h1, tv⟩, tv, ⟨flat_length enSIII_len _, tv⟩, tv, tv⟩ tv (T := ⟨[(1, .gs 0 0 (.v 1) 4 false), (2, (ys 2)), (3, .ptr 1 0), (8, (ys 7)), (9, (ys 8))], [some (.rows 0 [] 55 true), some (.cells [.ss (.v 3), (ys 4), (ys 5), (ys 6)] 55 false)], [some (0, 0), some (1, 0)]⟩) (ce := (.exit 2)) (qs := [(ns 1 1), (ns 2 2), (ns 7 7), (ns 8 8), .lst 0 (some 0) [], (ns 3 3), (ns 4 4), (ns 5 5), (ns 6 6)]) rfl tv hF hr (by kernel_rfl) ⟨(r p1), (r p2), (r p7), (r v8), ⟨[], rfl, lnil _⟩, (r p3), (r p4), (r p5), (r p6), tv⟩ hat fun a' w' hat' => hx0 (p1, v8) rfl a' w' hat'
def bus_response_L2 (fu : Nat) (p0 : List (Int × Int × Int × Int)) (p1 : Int) (p2 : Int) (p3 : Int) (p4 : Int) (p5 : Int) (p6 : Int) : Nat → Int → Option ((Int) ⊕ (Unit))
 | 0, _ => none
 | n + 1, v7 => if v7 ≤ p2 then (Option.bind (bus_response_L1 fu p0 p1 p2 p3 p4 p5 p6 v7 fu p6 (0 : Int)) fun o2 => if o2.2 = v7 then (some (.inl v7)) else (bus_response_L2 fu p0 o2.1 p2 p3 p4 p5 p6 n o2.2)) else (some (.inr ()))
theorem bus_response_L2_ok (fu : Nat) (p0 : List (Int × Int × Int × Int)) (p1 : Int) (p2 : Int) (p3 : Int) (p4 : Int) (p5 : Int) (p6 : Int) : ∀ (n : Nat) (v7 : Int) (o : (Int) ⊕ (Unit)), bus_response_L2 fu p0 p1 p2 p3 p4 p5 p6 n v7 = some o → ∀ (φ0 : Phi) (w0 : World) (F : Fence) (k : Nat) (R : Exit → Act → World → Prop) (a : Act) (w : World), FW F → F.round = none → AtS (vals [(p0.length : Int), p1, p2, p3, p4, p5, p6, v7] [(p0.flatMap enSIII)]) [(1, .gs 0 0 (.v 1) 4 false), (2, (ys 2)), (3, .ptr 1 0), (8, (ys 7))] [some (.rows 0 [] 55 true), some (.cells [.ss (.v 3), (ys 4), (ys 5), (ys 6)] 55 false)] 38 1 1 φ0 w0 a w → (∀ (y : Int), o = .inl y → ∀ a' w', AtS (vals [(p0.length : Int), y] [(p0.flatMap enSIII)]) [(6, (ys 1)), (7, .bool true)] [some (.rows 0 [] 55 true)] 38 1 1 φ0 w0 a' w' → R Exit.ret a' w') → (∀ (y : Unit), o = .inr y → ∀ a' w', AtS (vals [(p0.length : Int)] [(p0.flatMap enSIII)]) [] [some (.rows 0 [] 55 true)] 38 1 1 φ0 w0 a' w' → R (Exit.exit 0) a' w') → Code.roundsIn F k Tryz.prog (subAt (bodyOf Tryz.prog 61) [1, 0, 1, 0, 0]) R n a w
 | 0, _, _, h => by cases h
 | n + 1, v7, o, h => by
  intro φ0 w0 F k R a w hF hr hat hx0 hx1
  rw [bus_response_L2] at h
  refine rounds_in (p := [1, 0, 1, 0, 0]) ?_
  by_cases h1 : v7 ≤ p2
  ·rw [if_pos h1] at h
   obtain ⟨o2, ho2, h⟩ := bs1 h
   refine to_loop mixed ⟨[(.leq, (.v 7), (.v 2), true)], [], [(0, 4, (.v 0))], [], [], []⟩ (V := (vals [(p0.length : Int), p1, p2, p3, p4, p5, p6, v7] [(p0.flatMap enSIII)])) (n := 3000) (f := 3000) (fid := 61) (fun _ => rfl) (V' := (vals [(p0.length : Int), p1, p2, p3, p4, p5, p6, v7, p6, (0 : Int)] [(p0.flatMap enSIII)])) ⟨⟨leq_t h1, tv⟩, tv, ⟨flat_length enSIII_len _, tv⟩, tv, tv⟩ tv (T := ⟨[(1, .gs 0 0 (.v 1) 4 false), (2, (ys 2)), (3, .ptr 1 0), (8, (ys 7)), (9, (ys 8)), (17, .gs 0 0 (.v 1) 4 false), (18, (ys 1)), (19, (ys 9))], [some (.rows 0 [] 55 true), some (.cells [.ss (.v 3), (ys 4), (ys 5), (ys 6)] 55 false)], [some (0, 0), some (1, 0)]⟩) (B := subAt (bodyOf Tryz.prog 61) [1, 0, 1, 0, 0, 1, 0, 1, 0, 1, 0, 0]) (K' := [.bk 2, .sq (subAt (bodyOf Tryz.prog 61) [1, 0, 1, 0, 0, 1, 0, 1, 1]) [1, 0, 1, 0, 0, 1, 0, 1, 1], .bk 1]) (qs := [(ns 1 1), (ns 2 2), (ns 7 7), (ns 6 8), (ns 1 1), (ns 1 1), .num (.c 0) (.v 9), .lst 0 (some 0) [], (ns 3 3), (ns 4 4), (ns 5 5), (ns 6 6)]) rfl tv hF hr (by kernel_rfl) ⟨(r p1), (r p2), (r v7), (r p6), (r p1), (r p1), (r (0 : Int)), ⟨[], rfl, lnil _⟩, (r p3), (r p4), (r p5), (r p6), tv⟩ hat fun aa1 ww1 hat1 => loop_in (bus_response_L1_ok fu p0 p1 p2 p3 p4 p5 p6 v7 fu p6 (0 : Int) o2 ho2 _ _ _ _ _ _ _ hF hr hat1 ?_)
   ·intro yy hy aa2 ww2 hat
    subst hy
    show (Wk.out (.exit 2)).goal _ _ _ [.bk 2, .sq (subAt (bodyOf Tryz.prog 61) [1, 0, 1, 0, 0, 1, 0, 1, 1]) [1, 0, 1, 0, 0, 1, 0, 1, 1], .bk 1] _ aa2 ww2
    by_cases h3 : o2.2 = v7
    ·rw [if_pos h3] at h
     injection h with h; subst h
     exact to_done mixed ⟨[(.eql, (.v 8), (.v 7), true)], [], [(0, 4, (.v 0))], [], [], []⟩ (V := (vals [(p0.length : Int), o2.1, p2, p3, p4, p5, p6, v7, o2.2] [(p0.flatMap enSIII)])) (n := 3000) (f := 3000) (fid := 61) (fun _ => rfl) (V' := (vals [(p0.length : Int), v7] [(p0.flatMap enSIII)])) ⟨⟨eql_t h3, tv⟩, tv, ⟨flat_length enSIII_len _, tv⟩, tv, tv⟩ tv (T := ⟨[(6, (ys 1)), (7, .bool true)], [some (.rows 0 [] 55 true)], [some (0, 0)]⟩) (ce := .ret) (qs := [(ns 7 1), .lst 0 (some 0) []]) tv ⟨rfl, tv⟩ hF hr (by kernel_rfl) ⟨(r v7), ⟨[], rfl, lnil _⟩, tv⟩ hat fun a' w' hat' => hx0 v7 rfl a' w' hat'
    ·rw [if_neg h3] at h
     refine to_done mixed ⟨[(.eql, (.v 8), (.v 7), false)], [], [(0, 4, (.v 0))], [], [], []⟩ (V := (vals [(p0.length : Int), o2.1, p2, p3, p4, p5, p6, v7, o2.2] [(p0.flatMap enSIII)])) (n := 3000) (f := 3000) (fid := 61) (fun _ => rfl) (V' := (vals [(p0.length : Int), o2.1, p2, p3, p4, p5, p6, o2.2] [(p0.flatMap enSIII)])) ⟨⟨eql_f h3, tv⟩, tv, ⟨flat_length enSIII_len _, tv⟩, tv, tv⟩ tv (T := ⟨[(1, .gs 0 0 (.v 1) 4 false), (2, (ys 2)), (3, .ptr 1 0), (8, (ys 7))], [some (.rows 0 [] 55 true), some (.cells [.ss (.v 3), (ys 4), (ys 5), (ys 6)] 55 false)], [some (0, 0), some (1, 0)]⟩) (ce := .normal) (qs := [(ns 1 1), (ns 2 2), (ns 8 7), .lst 0 (some 0) [], (ns 3 3), (ns 4 4), (ns 5 5), (ns 6 6)]) tv ⟨rfl, tv⟩ hF hr (by kernel_rfl) ⟨(r o2.1), (r p2), (r o2.2), ⟨[], rfl, lnil _⟩, (r p3), (r p4), (r p5), (r p6), tv⟩ hat fun a' w' hat' => ?_
     exact bus_response_L2_ok fu p0 o2.1 p2 p3 p4 p5 p6 n o2.2 o h _ _ _ _ _ _ _ hF hr hat' hx0 hx1
  ·rw [if_neg h1] at h
   injection h with h; subst h
   exact to_done mixed ⟨[(.leq, (.v 7), (.v 2), false)], [], [(0, 4, (.v 0))], [], [], []⟩ (V := (vals [(p0.length : Int), p1, p2, p3, p4, p5, p6, v7] [(p0.flatMap enSIII)])) (n := 3000) (f := 3000) (fid := 61) (fun _ => rfl) (V' := (vals [(p0.length : Int)] [(p0.flatMap enSIII)])) ⟨⟨leq_f h1, tv⟩, tv, ⟨flat_length enSIII_len _, tv⟩, tv, tv⟩ tv (T := ⟨[], [some (.rows 0 [] 55 true)], [some (0, 0)]⟩) (ce := (.exit 0)) (qs := [.lst 0 (some 0) []]) rfl tv hF hr (by kernel_rfl) ⟨⟨[], rfl, lnil _⟩, tv⟩ hat fun a' w' hat' => hx1 () rfl a' w' hat'
def bus_response (fu : Nat) (a0_0 : Int) (a0_1 : Int) (a0_2 : Int) (a0_3 : Int) (a1 : List (Int × Int × Int × Int)) (a1_n : Int) (a2 : Int) : Option (Int × Bool) := Option.bind (bus_response_L2 fu a1 a1_n a2 a0_0 a0_1 a0_2 a0_3 fu (1 : Int)) fun o1 => (match o1 with | .inl y2 => (some (y2, true)) | .inr y3 => (some ((0 : Int), false)))
theorem bus_response_ok (fu : Nat) (a0_0 : Int) (a0_1 : Int) (a0_2 : Int) (a0_3 : Int) (a1 : List (Int × Int × Int × Int)) (a1_n : Int) (a2 : Int) (y : Int × Bool) (h : bus_response fu a0_0 a0_1 a0_2 a0_3 a1 a1_n a2 = some y) : CallOk Tryz.prog 61 (vals [a0_0, a0_1, a0_2, a0_3, (a1.length : Int), a1_n, a2] [(a1.flatMap enSIII)]) [.agg [.ss (.v 0), (ys 1), (ys 2), (ys 3)], .gs 0 0 (.v 5) 4 false, (ys 6)] [some (.rows 0 [] 55 true)] 1 (vals [y.1, bI y.2] []) (.tup [(ys 0), .bs (.v 1)]) [none] := by
 refine fun_of (nt := 38) (by kernel_rfl) (by kernel_rfl) fun φ0 w0 a w hat => ?_
 have hF := wide_fw
 have hr : Fence.wide.round = none := rfl
 unfold bus_response at h
 obtain ⟨o1, ho1, h⟩ := bs1 h
 refine to_loop mixed ⟨[], [], [(0, 4, (.v 4))], [], [], []⟩ (V := (vals [a0_0, a0_1, a0_2, a0_3, (a1.length : Int), a1_n, a2] [(a1.flatMap enSIII)])) (n := 3000) (f := 3000) (fid := 61) (fun _ => rfl) (V' := (vals [(a1.length : Int), a1_n, a2, a0_0, a0_1, a0_2, a0_3, (1 : Int)] [(a1.flatMap enSIII)])) ⟨tv, tv, ⟨flat_length enSIII_len _, tv⟩, tv, tv⟩ tv (T := ⟨[(1, .gs 0 0 (.v 1) 4 false), (2, (ys 2)), (3, .ptr 1 0), (8, (ys 7))], [some (.rows 0 [] 55 true), some (.cells [.ss (.v 3), (ys 4), (ys 5), (ys 6)] 55 false)], [some (0, 0), some (1, 0)]⟩) (B := subAt (bodyOf Tryz.prog 61) [1, 0, 1, 0, 0]) (K' := [.bk 0, .sq (subAt (bodyOf Tryz.prog 61) [1, 1]) [1, 1]]) (qs := [(ns 5 1), (ns 6 2), .num (.c 1) (.v 7), .lst 0 (some 0) [], (ns 0 3), (ns 1 4), (ns 2 5), (ns 3 6)]) wok0 tv hF hr (by kernel_rfl) ⟨(r a1_n), (r a2), (r (1 : Int)), ⟨[], rfl, lnil _⟩, (r a0_0), (r a0_1), (r a0_2), (r a0_3), tv⟩ hat fun aa1 ww1 hat1 => loop_in (bus_response_L2_ok fu a1 a1_n a2 a0_0 a0_1 a0_2 a0_3 fu (1 : Int) o1 ho1 _ _ _ _ _ _ _ hF hr hat1 ?_ ?_)
 ·intro y2 hy aa2 ww2 hat
  subst hy
  dsimp only at h
  show (Wk.out .ret).goal _ _ _ [.bk 0, .sq (subAt (bodyOf Tryz.prog 61) [1, 1]) [1, 1]] _ aa2 ww2
  injection h with h; subst h
  exact to_fin mixed ⟨[], [], [(0, 4, (.v 0))], [], [], []⟩ (V := (vals [(a1.length : Int), y2] [(a1.flatMap enSIII)])) (n := 3000) (f := 3000) (fid := 61) (fun _ => rfl) ⟨tv, tv, ⟨flat_length enSIII_len _, tv⟩, tv, tv⟩ tv (R := ⟨.tup [(ys 0), .bs (.v 1)], [none], [some (0, 0)]⟩) (qs := [(ns 1 0), .num (.c 1) (.v 1)]) tv ⟨rfl, tv⟩ hF hr (by kernel_rfl) ⟨(r y2), rfl, tv⟩ hat
 ·intro y3 hy aa2 ww2 hat
  subst hy
  dsimp only at h
  show (Wk.out (.exit 0)).goal _ _ _ [.bk 0, .sq (subAt (bodyOf Tryz.prog 61) [1, 1]) [1, 1]] _ aa2 ww2
  injection h with h; subst h
  exact to_fin mixed ⟨[], [], [(0, 4, (.v 0))], [], [], []⟩ (V := (vals [(a1.length : Int)] [(a1.flatMap enSIII)])) (n := 3000) (f := 3000) (fid := 61) (fun _ => rfl) ⟨tv, tv, ⟨flat_length enSIII_len _, tv⟩, tv, tv⟩ tv (R := ⟨.tup [(ys 0), .bs (.v 1)], [none], [some (0, 0)]⟩) (qs := [.num (.c 0) (.v 0), .num (.c 0) (.v 1)]) tv ⟨rfl, tv⟩ hF hr (by kernel_rfl) ⟨(r (0 : Int)), rfl, tv⟩ hat
def bus_ResponseOf (fu : Nat) (a0 : List (Int × Int × Int × Int)) (a1 : Int) : Option (Int × Int) := Option.bind (bus_streamsError fu a0) fun r1 => Option.bind (u_IndexError a1 (a0.length : Int)) fun r2 => Option.bind (u_FirstError fu ([r1, r2] : List (Int))) fun r3 => if r3 = (0 : Int) then (if (0 : Int) ≤ a1 then (if a1 < (a0.length : Int) then (Option.bind ((a0)[0 + (a1).toNat]?) fun e7 => if a1 < (4611686018427387904 : Int) then (Option.bind (bus_response fu e7.1 e7.2.1 e7.2.2.1 e7.2.2.2 a0 a1 (10000 : Int)) fun r10 => if r10.2 = true then (some (r10.1, (0 : Int))) else (some ((0 : Int), (12 : Int)))) else none) else none) else none) else (some ((0 : Int), r3))
theorem bus_ResponseOf_ok (fu : Nat) (a0 : List (Int × Int × Int × Int)) (a1 : Int) (y : Int × Int) (h : bus_ResponseOf fu a0 a1 = some y) : CallOk Tryz.prog 26 (vals [(a0.length : Int), a1] [(a0.flatMap enSIII)]) [.gs 0 0 (.v 0) 4 false, (ys 1)] [some (.rows 0 [] 55 true)] 1 (vals [y.1, y.2] []) (.tup [(ys 0), (ys 1)]) [none] := by
 refine fun_of (nt := 34) (by kernel_rfl) (by kernel_rfl) fun φ0 w0 a w hat => ?_
 have hF := wide_fw
 have hr : Fence.wide.round = none := rfl
 unfold bus_ResponseOf at h
 obtain ⟨r1, hr1, h⟩ := bs1 h
 have Kr1 : KO Tryz.prog [(a0.length : Int), a1, r1] [(a0.flatMap enSIII)] ⟨57, 1, [some (0, 0)], [.gs 0 0 (.v 0) 4 false], [some (.rows 0 [] 55 true)], [(ns 0 0), .lst 0 (some 0) []], 1, (ys 0), [none], (ys 2), [], []⟩ := fun N M => ⟨_, _, [(ns 0 2)], ⟨bus_streamsError_ok fu a0 r1 hr1, ⟨(r (a0.length : Int)), ⟨[], rfl, lnil _⟩, tv⟩, by kernel_rfl, ⟨rfl, tv⟩⟩⟩
 obtain ⟨r2, hr2, h⟩ := bs1 h
 have Kr2 : KO Tryz.prog [(a0.length : Int), a1, r1, r2] [(a0.flatMap enSIII)] ⟨60, 1, [], [(ys 0), (ys 1)], [], [(ns 1 0), (ns 0 1)], 0, (ys 0), [], (ys 3), [], []⟩ := fun N M => ⟨_, _, [(ns 0 3)], ⟨u_IndexError_ok a1 (a0.length : Int) r2 hr2, ⟨(r a1), (r (a0.length : Int)), tv⟩, by kernel_rfl, ⟨rfl, tv⟩⟩⟩
 obtain ⟨r3, hr3, h⟩ := bs1 h
 have Kr3 : KO Tryz.prog [(a0.length : Int), a1, r1, r2, r3] [(a0.flatMap enSIII)] ⟨59, 2, [some (1, 0)], [.gs 0 0 (.v 0) 1 false], [some (.rows 0 [] 28 true)], [.num (.c 2) (.v 0), .lst 0 none [(ys 2), (ys 3)]], 1, (ys 0), [none], (ys 4), [], []⟩ := fun N M => ⟨_, _, [(ns 0 4)], ⟨u_FirstError_ok fu ([r1, r2] : List (Int)) r3 hr3, ⟨rfl, rfl, tv⟩, by kernel_rfl, ⟨rfl, tv⟩⟩⟩
 by_cases h4 : r3 = (0 : Int)
 ·rw [if_pos h4] at h
  by_cases h5 : (0 : Int) ≤ a1
  ·rw [if_pos h5] at h
   by_cases h6 : a1 < (a0.length : Int)
   ·rw [if_pos h6] at h
    obtain ⟨e7, he7, h⟩ := bs1 h
    by_cases h9 : a1 < (4611686018427387904 : Int)
    ·rw [if_pos h9] at h
     obtain ⟨r10, hr10, h⟩ := bs1 h
     have Kr10 : KO Tryz.prog [(a0.length : Int), a1, r1, r2, r3, e7.1, e7.2.1, e7.2.2.1, e7.2.2.2, r10.1, bI r10.2] [(a0.flatMap enSIII)] ⟨61, 2, [some (0, 0)], [.agg [.ss (.v 0), (ys 1), (ys 2), (ys 3)], .gs 0 0 (.v 5) 4 false, (ys 6)], [some (.rows 0 [] 55 true)], [(ns 5 0), (ns 6 1), (ns 7 2), (ns 8 3), (ns 1 5), .num (.c 10000) (.v 6), .lst 0 (some 0) []], 1, .tup [(ys 0), .bs (.v 1)], [none], .tup [(ys 9), .bs (.v 10)], [], []⟩ := fun N M => ⟨_, _, [(ns 0 9), (ns 1 10)], ⟨bus_response_ok fu e7.1 e7.2.1 e7.2.2.1 e7.2.2.2 a0 a1 (10000 : Int) r10 hr10, ⟨(r e7.1), (r e7.2.1), (r e7.2.2.1), (r e7.2.2.2), (r a1), (r (10000 : Int)), ⟨[], rfl, lnil _⟩, tv⟩, by kernel_rfl, ⟨rfl, rfl, tv⟩⟩⟩
     by_cases h11 : r10.2 = true
     ·rw [if_pos h11] at h
      injection h with h; subst h
      exact to_fin mixed ⟨[(.neq, (.v 4), (.c 0), false), (.leq, (.c 0), (.v 1), true), (.lss, (.v 1), (.v 0), true), (.leq, (.v 1), (.v 0), true), (.lss, (.v 1), (.c 4611686018427387904), true), (.neq, (.v 10), (.c 0), true)], [(0, 0, (.v 1), [.ss (.v 5), (ys 6), (ys 7), (ys 8)])], [(0, 4, (.v 0))], [⟨57, 1, [some (0, 0)], [.gs 0 0 (.v 0) 4 false], [some (.rows 0 [] 55 true)], [(ns 0 0), .lst 0 (some 0) []], 1, (ys 0), [none], (ys 2), [], []⟩, ⟨60, 1, [], [(ys 0), (ys 1)], [], [(ns 1 0), (ns 0 1)], 0, (ys 0), [], (ys 3), [], []⟩, ⟨59, 2, [some (1, 0)], [.gs 0 0 (.v 0) 1 false], [some (.rows 0 [] 28 true)], [.num (.c 2) (.v 0), .lst 0 none [(ys 2), (ys 3)]], 1, (ys 0), [none], (ys 4), [], []⟩, ⟨61, 2, [some (0, 0)], [.agg [.ss (.v 0), (ys 1), (ys 2), (ys 3)], .gs 0 0 (.v 5) 4 false, (ys 6)], [some (.rows 0 [] 55 true)], [(ns 5 0), (ns 6 1), (ns 7 2), (ns 8 3), (ns 1 5), .num (.c 10000) (.v 6), .lst 0 (some 0) []], 1, .tup [(ys 0), .bs (.v 1)], [none], .tup [(ys 9), .bs (.v 10)], [], []⟩], [], []⟩ (V := (vals [(a0.length : Int), a1, r1, r2, r3, e7.1, e7.2.1, e7.2.2.1, e7.2.2.2, r10.1, bI r10.2] [(a0.flatMap enSIII)])) (n := 3000) (f := 3000) (fid := 26) (fun _ => rfl) ⟨⟨neq_f h4, leq_t h5, lss_t h6, leq_t (a := a1) (b := (a0.length : Int)) (by omega), lss_t h9, bi_t h11, tv⟩, ⟨⟨h5, _, rfl, flat_row enSIII_len he7⟩, tv⟩, ⟨flat_length enSIII_len _, tv⟩, tv, tv⟩ ⟨Kr1 _ _, Kr2 _ _, Kr3 _ _, Kr10 _ _, tv⟩ (R := ⟨.tup [(ys 0), (ys 1)], [none], [some (0, 0)]⟩) (qs := [(ns 9 0), .num (.c 0) (.v 1)]) wok0 tv hF hr (by kernel_rfl) ⟨(r r10.1), (r (0 : Int)), tv⟩ (at_re (V' := (vals [(a0.length : Int), a1, r1, r2, r3, e7.1, e7.2.1, e7.2.2.1, e7.2.2.2, r10.1, bI r10.2] [(a0.flatMap enSIII)])) (T := ⟨[(0, .gs 0 0 (.v 0) 4 false), (1, (ys 1))], [some (.rows 0 [] 55 true)], [some (0, 0)]⟩) (qs := [(ns 0 0), (ns 1 1), .lst 0 (some 0) []]) hat (by kernel_rfl) ⟨rfl, rfl, ⟨[], rfl, lnil _⟩, tv⟩)
     ·rw [if_neg h11] at h
      injection h with h; subst h
      exact to_fin mixed ⟨[(.neq, (.v 4), (.c 0), false), (.leq, (.c 0), (.v 1), true), (.lss, (.v 1), (.v 0), true), (.leq, (.v 1), (.v 0), true), (.lss, (.v 1), (.c 4611686018427387904), true), (.neq, (.v 10), (.c 0), false)], [(0, 0, (.v 1), [.ss (.v 5), (ys 6), (ys 7), (ys 8)])], [(0, 4, (.v 0))], [⟨57, 1, [some (0, 0)], [.gs 0 0 (.v 0) 4 false], [some (.rows 0 [] 55 true)], [(ns 0 0), .lst 0 (some 0) []], 1, (ys 0), [none], (ys 2), [], []⟩, ⟨60, 1, [], [(ys 0), (ys 1)], [], [(ns 1 0), (ns 0 1)], 0, (ys 0), [], (ys 3), [], []⟩, ⟨59, 2, [some (1, 0)], [.gs 0 0 (.v 0) 1 false], [some (.rows 0 [] 28 true)], [.num (.c 2) (.v 0), .lst 0 none [(ys 2), (ys 3)]], 1, (ys 0), [none], (ys 4), [], []⟩, ⟨61, 2, [some (0, 0)], [.agg [.ss (.v 0), (ys 1), (ys 2), (ys 3)], .gs 0 0 (.v 5) 4 false, (ys 6)], [some (.rows 0 [] 55 true)], [(ns 5 0), (ns 6 1), (ns 7 2), (ns 8 3), (ns 1 5), .num (.c 10000) (.v 6), .lst 0 (some 0) []], 1, .tup [(ys 0), .bs (.v 1)], [none], .tup [(ys 9), .bs (.v 10)], [], []⟩], [], []⟩ (V := (vals [(a0.length : Int), a1, r1, r2, r3, e7.1, e7.2.1, e7.2.2.1, e7.2.2.2, r10.1, bI r10.2] [(a0.flatMap enSIII)])) (n := 3000) (f := 3000) (fid := 26) (fun _ => rfl) ⟨⟨neq_f h4, leq_t h5, lss_t h6, leq_t (a := a1) (b := (a0.length : Int)) (by omega), lss_t h9, bi_f h11, tv⟩, ⟨⟨h5, _, rfl, flat_row enSIII_len he7⟩, tv⟩, ⟨flat_length enSIII_len _, tv⟩, tv, tv⟩ ⟨Kr1 _ _, Kr2 _ _, Kr3 _ _, Kr10 _ _, tv⟩ (R := ⟨.tup [(ys 0), (ys 1)], [none], [some (0, 0)]⟩) (qs := [.num (.c 0) (.v 0), .num (.c 12) (.v 1)]) wok0 tv hF hr (by kernel_rfl) ⟨(r (0 : Int)), (r (12 : Int)), tv⟩ (at_re (V' := (vals [(a0.length : Int), a1, r1, r2, r3, e7.1, e7.2.1, e7.2.2.1, e7.2.2.2, r10.1, bI r10.2] [(a0.flatMap enSIII)])) (T := ⟨[(0, .gs 0 0 (.v 0) 4 false), (1, (ys 1))], [some (.rows 0 [] 55 true)], [some (0, 0)]⟩) (qs := [(ns 0 0), (ns 1 1), .lst 0 (some 0) []]) hat (by kernel_rfl) ⟨rfl, rfl, ⟨[], rfl, lnil _⟩, tv⟩)
    ·rw [if_neg h9] at h
     cases h
   ·rw [if_neg h6] at h
    cases h
  ·rw [if_neg h5] at h
   cases h
 ·rw [if_neg h4] at h
  injection h with h; subst h
  exact to_fin mixed ⟨[(.neq, (.v 4), (.c 0), true)], [], [(0, 4, (.v 0))], [⟨57, 1, [some (0, 0)], [.gs 0 0 (.v 0) 4 false], [some (.rows 0 [] 55 true)], [(ns 0 0), .lst 0 (some 0) []], 1, (ys 0), [none], (ys 2), [], []⟩, ⟨60, 1, [], [(ys 0), (ys 1)], [], [(ns 1 0), (ns 0 1)], 0, (ys 0), [], (ys 3), [], []⟩, ⟨59, 2, [some (1, 0)], [.gs 0 0 (.v 0) 1 false], [some (.rows 0 [] 28 true)], [.num (.c 2) (.v 0), .lst 0 none [(ys 2), (ys 3)]], 1, (ys 0), [none], (ys 4), [], []⟩], [], []⟩ (V := (vals [(a0.length : Int), a1, r1, r2, r3] [(a0.flatMap enSIII)])) (n := 3000) (f := 3000) (fid := 26) (fun _ => rfl) ⟨⟨neq_t h4, tv⟩, tv, ⟨flat_length enSIII_len _, tv⟩, tv, tv⟩ ⟨Kr1 _ _, Kr2 _ _, Kr3 _ _, tv⟩ (R := ⟨.tup [(ys 0), (ys 1)], [none], [some (0, 0)]⟩) (qs := [.num (.c 0) (.v 0), (ns 4 1)]) wok0 tv hF hr (by kernel_rfl) ⟨(r (0 : Int)), (r r3), tv⟩ (at_re (V' := (vals [(a0.length : Int), a1, r1, r2, r3] [(a0.flatMap enSIII)])) (T := ⟨[(0, .gs 0 0 (.v 0) 4 false), (1, (ys 1))], [some (.rows 0 [] 55 true)], [some (0, 0)]⟩) (qs := [(ns 0 0), (ns 1 1), .lst 0 (some 0) []]) hat (by kernel_rfl) ⟨rfl, rfl, ⟨[], rfl, lnil _⟩, tv⟩)
def bus_isLate (fu : Nat) (a0_0 : Int) (a0_1 : Int) (a0_2 : Int) (a0_3 : Int) (a1 : List (Int × Int × Int × Int)) (a1_n : Int) : Option (Bool) := Option.bind (bus_response fu a0_0 a0_1 a0_2 a0_3 a1 a1_n a0_2) fun r1 => if r1.2 = true then (some false) else (some true)
theorem bus_isLate_ok (fu : Nat) (a0_0 : Int) (a0_1 : Int) (a0_2 : Int) (a0_3 : Int) (a1 : List (Int × Int × Int × Int)) (a1_n : Int) (y : Bool) (h : bus_isLate fu a0_0 a0_1 a0_2 a0_3 a1 a1_n = some y) : CallOk Tryz.prog 58 (vals [a0_0, a0_1, a0_2, a0_3, (a1.length : Int), a1_n] [(a1.flatMap enSIII)]) [.agg [.ss (.v 0), (ys 1), (ys 2), (ys 3)], .gs 0 0 (.v 5) 4 false] [some (.rows 0 [] 55 true)] 1 (vals [bI y] []) (.bs (.v 0)) [none] := by
 refine fun_of (nt := 17) (by kernel_rfl) (by kernel_rfl) fun φ0 w0 a w hat => ?_
 have hF := wide_fw
 have hr : Fence.wide.round = none := rfl
 unfold bus_isLate at h
 obtain ⟨r1, hr1, h⟩ := bs1 h
 have Kr1 : KO Tryz.prog [a0_0, a0_1, a0_2, a0_3, (a1.length : Int), a1_n, r1.1, bI r1.2] [(a1.flatMap enSIII)] ⟨61, 2, [some (0, 0)], [.agg [.ss (.v 0), (ys 1), (ys 2), (ys 3)], .gs 0 0 (.v 5) 4 false, (ys 6)], [some (.rows 0 [] 55 true)], [(ns 0 0), (ns 1 1), (ns 2 2), (ns 3 3), (ns 5 5), (ns 2 6), .lst 0 (some 0) []], 1, .tup [(ys 0), .bs (.v 1)], [none], .tup [(ys 6), .bs (.v 7)], [], []⟩ := fun N M => ⟨_, _, [(ns 0 6), (ns 1 7)], ⟨bus_response_ok fu a0_0 a0_1 a0_2 a0_3 a1 a1_n a0_2 r1 hr1, ⟨(r a0_0), (r a0_1), (r a0_2), (r a0_3), (r a1_n), (r a0_2), ⟨[], rfl, lnil _⟩, tv⟩, by kernel_rfl, ⟨rfl, rfl, tv⟩⟩⟩
 by_cases h2 : r1.2 = true
 ·rw [if_pos h2] at h
  injection h with h; subst h
  exact to_fin mixed ⟨[(.neq, (.v 7), (.c 0), true)], [], [(0, 4, (.v 4))], [⟨61, 2, [some (0, 0)], [.agg [.ss (.v 0), (ys 1), (ys 2), (ys 3)], .gs 0 0 (.v 5) 4 false, (ys 6)], [some (.rows 0 [] 55 true)], [(ns 0 0), (ns 1 1), (ns 2 2), (ns 3 3), (ns 5 5), (ns 2 6), .lst 0 (some 0) []], 1, .tup [(ys 0), .bs (.v 1)], [none], .tup [(ys 6), .bs (.v 7)], [], []⟩], [], []⟩ (V := (vals [a0_0, a0_1, a0_2, a0_3, (a1.length : Int), a1_n, r1.1, bI r1.2] [(a1.flatMap enSIII)])) (n := 3000) (f := 3000) (fid := 58) (fun _ => rfl) ⟨⟨bi_t h2, tv⟩, tv, ⟨flat_length enSIII_len _, tv⟩, tv, tv⟩ ⟨Kr1 _ _, tv⟩ (R := ⟨.bs (.v 0), [none], [some (0, 0)]⟩) (qs := [.num (.c 0) (.v 0)]) wok0 tv hF hr (by kernel_rfl) ⟨rfl, tv⟩ (at_re (V' := (vals [a0_0, a0_1, a0_2, a0_3, (a1.length : Int), a1_n, r1.1, bI r1.2] [(a1.flatMap enSIII)])) (T := ⟨[(0, .agg [.ss (.v 0), (ys 1), (ys 2), (ys 3)]), (1, .gs 0 0 (.v 5) 4 false)], [some (.rows 0 [] 55 true)], [some (0, 0)]⟩) (qs := [(ns 0 0), (ns 1 1), (ns 2 2), (ns 3 3), (ns 5 5), .lst 0 (some 0) []]) hat (by kernel_rfl) ⟨rfl, rfl, rfl, rfl, rfl, ⟨[], rfl, lnil _⟩, tv⟩)
 ·rw [if_neg h2] at h
  injection h with h; subst h
  exact to_fin mixed ⟨[(.neq, (.v 7), (.c 0), false)], [], [(0, 4, (.v 4))], [⟨61, 2, [some (0, 0)], [.agg [.ss (.v 0), (ys 1), (ys 2), (ys 3)], .gs 0 0 (.v 5) 4 false, (ys 6)], [some (.rows 0 [] 55 true)], [(ns 0 0), (ns 1 1), (ns 2 2), (ns 3 3), (ns 5 5), (ns 2 6), .lst 0 (some 0) []], 1, .tup [(ys 0), .bs (.v 1)], [none], .tup [(ys 6), .bs (.v 7)], [], []⟩], [], []⟩ (V := (vals [a0_0, a0_1, a0_2, a0_3, (a1.length : Int), a1_n, r1.1, bI r1.2] [(a1.flatMap enSIII)])) (n := 3000) (f := 3000) (fid := 58) (fun _ => rfl) ⟨⟨bi_f h2, tv⟩, tv, ⟨flat_length enSIII_len _, tv⟩, tv, tv⟩ ⟨Kr1 _ _, tv⟩ (R := ⟨.bs (.v 0), [none], [some (0, 0)]⟩) (qs := [.num (.c 1) (.v 0)]) wok0 tv hF hr (by kernel_rfl) ⟨rfl, tv⟩ (at_re (V' := (vals [a0_0, a0_1, a0_2, a0_3, (a1.length : Int), a1_n, r1.1, bI r1.2] [(a1.flatMap enSIII)])) (T := ⟨[(0, .agg [.ss (.v 0), (ys 1), (ys 2), (ys 3)]), (1, .gs 0 0 (.v 5) 4 false)], [some (.rows 0 [] 55 true)], [some (0, 0)]⟩) (qs := [(ns 0 0), (ns 1 1), (ns 2 2), (ns 3 3), (ns 5 5), .lst 0 (some 0) []]) hat (by kernel_rfl) ⟨rfl, rfl, rfl, rfl, rfl, ⟨[], rfl, lnil _⟩, tv⟩)
def bus_LateIn_L1 (fu : Nat) (p0 : List (Int × Int × Int × Int)) (p2 : Int) : Nat → List (Int) → Int → Option ((List (Int)))
 | 0, _, _ => none
 | n + 1, v1, v3 => if v3 < p2 then (if (0 : Int) ≤ v3 then (if v3 < (p0.length : Int) then (Option.bind ((p0)[0 + (v3).toNat]?) fun e4 => if v3 < (4611686018427387904 : Int) then (Option.bind (bus_isLate fu e4.1 e4.2.1 e4.2.2.1 e4.2.2.2 p0 v3) fun r7 => if r7 = true then (if (v1.length : Int) < (65536 : Int) then (bus_LateIn_L1 fu p0 p2 n (v1 ++ [v3]) (IntKind.wrap .i64 (v3 + (1 : Int)))) else none) else (bus_LateIn_L1 fu p0 p2 n v1 (IntKind.wrap .i64 (v3 + (1 : Int))))) else none) else none) else none) else (some v1)
theorem bus_LateIn_L1_ok (fu : Nat) (p0 : List (Int × Int × Int × Int)) (p2 : Int) : ∀ (n : Nat) (v1 : List (Int)) (v3 : Int) (o : (List (Int))), bus_LateIn_L1 fu p0 p2 n v1 v3 = some o → ∀ (φ0 : Phi) (w0 : World) (F : Fence) (k : Nat) (R : Exit → Act → World → Prop) (a : Act) (w : World), FW F → F.round = none → AtS (vals [(p0.length : Int), (v1.length : Int), p2, v3] [(p0.flatMap enSIII), (v1.flatMap enI)]) [(0, .gs 0 0 (.v 0) 4 false), (5, .gs 1 0 (.v 1) 1 true), (13, .gs 0 0 (.v 0) 4 false), (14, (ys 2)), (15, (ys 3))] [some (.rows 0 [] 55 true), some (.rows 1 [] 3 false)] 31 1 1 φ0 w0 a w → (∀ (y : List (Int)), o = y → ∀ a' w', AtS (vals [(p0.length : Int), (y.length : Int)] [(p0.flatMap enSIII), (y.flatMap enI)]) [(5, .gs 1 0 (.v 1) 1 true)] [some (.rows 0 [] 55 true), some (.rows 1 [] 3 false)] 31 1 1 φ0 w0 a' w' → R (Exit.exit 0) a' w') → Code.roundsIn F k Tryz.prog (subAt (bodyOf Tryz.prog 24) [1, 1, 1, 0, 1, 0, 0]) R n a w
 | 0, _, _, _, h => by cases h
 | n + 1, v1, v3, o, h => by
  intro φ0 w0 F k R a w hF hr hat hx0
  rw [bus_LateIn_L1] at h
  refine rounds_in (p := [1, 1, 1, 0, 1, 0, 0]) ?_
  by_cases h1 : v3 < p2
  ·rw [if_pos h1] at h
   by_cases h2 : (0 : Int) ≤ v3
   ·rw [if_pos h2] at h
    by_cases h3 : v3 < (p0.length : Int)
    ·rw [if_pos h3] at h
     obtain ⟨e4, he4, h⟩ := bs1 h
     by_cases h6 : v3 < (4611686018427387904 : Int)
     ·rw [if_pos h6] at h
      obtain ⟨r7, hr7, h⟩ := bs1 h
      have Kr7 : KO Tryz.prog [(p0.length : Int), (v1.length : Int), p2, v3, e4.1, e4.2.1, e4.2.2.1, e4.2.2.2, bI r7] [(p0.flatMap enSIII), (v1.flatMap enI)] ⟨58, 3, [some (0, 0)], [.agg [.ss (.v 0), (ys 1), (ys 2), (ys 3)], .gs 0 0 (.v 5) 4 false], [some (.rows 0 [] 55 true)], [(ns 4 0), (ns 5 1), (ns 6 2), (ns 7 3), (ns 3 5), .lst 0 (some 0) []], 1, .bs (.v 0), [none], .bs (.v 8), [], []⟩ := fun N M => ⟨_, _, [(ns 0 8)], ⟨bus_isLate_ok fu e4.1 e4.2.1 e4.2.2.1 e4.2.2.2 p0 v3 r7 hr7, ⟨(r e4.1), (r e4.2.1), (r e4.2.2.1), (r e4.2.2.2), (r v3), ⟨[], rfl, lnil _⟩, tv⟩, by kernel_rfl, ⟨rfl, tv⟩⟩⟩
      by_cases h8 : r7 = true
      ·rw [if_pos h8] at h
       by_cases h9 : (v1.length : Int) < (65536 : Int)
       ·rw [if_pos h9] at h
        refine to_done mixed ⟨[(.lss, (.v 3), (.v 2), true), (.leq, (.c 0), (.v 3), true), (.lss, (.v 3), (.v 0), true), (.leq, (.v 3), (.v 0), true), (.lss, (.v 3), (.c 4611686018427387904), true), (.neq, (.v 8), (.c 0), true), (.lss, (.v 1), (.c 65536), true)], [(0, 0, (.v 3), [.ss (.v 4), (ys 5), (ys 6), (ys 7)])], [(0, 4, (.v 0)), (1, 1, (.v 1))], [⟨58, 3, [some (0, 0)], [.agg [.ss (.v 0), (ys 1), (ys 2), (ys 3)], .gs 0 0 (.v 5) 4 false], [some (.rows 0 [] 55 true)], [(ns 4 0), (ns 5 1), (ns 6 2), (ns 7 3), (ns 3 5), .lst 0 (some 0) []], 1, .bs (.v 0), [none], .bs (.v 8), [], []⟩], [], []⟩ (V := (vals [(p0.length : Int), (v1.length : Int), p2, v3, e4.1, e4.2.1, e4.2.2.1, e4.2.2.2, bI r7] [(p0.flatMap enSIII), (v1.flatMap enI)])) (n := 3000) (f := 3000) (fid := 24) (fun _ => rfl) (V' := (vals [(p0.length : Int), ((v1 ++ [v3]).length : Int), p2, (IntKind.wrap .i64 (v3 + (1 : Int)))] [(p0.flatMap enSIII), ((v1 ++ [v3]).flatMap enI)])) ⟨⟨lss_t h1, leq_t h2, lss_t h3, leq_t (a := v3) (b := (p0.length : Int)) (by omega), lss_t h6, bi_t h8, lss_t h9, tv⟩, ⟨⟨h2, _, rfl, flat_row enSIII_len he4⟩, tv⟩, ⟨flat_length enSIII_len _, flat_length enI_len _, tv⟩, tv, tv⟩ ⟨Kr7 _ _, tv⟩ (T := ⟨[(0, .gs 0 0 (.v 0) 4 false), (5, .gs 1 0 (.v 1) 1 true), (13, .gs 0 0 (.v 0) 4 false), (14, (ys 2)), (15, (ys 3))], [some (.rows 0 [] 55 true), some (.rows 1 [] 3 false)], [some (0, 0), some (4, 0)]⟩) (ce := .normal) (qs := [(ns 0 0), .num (.add .i64 (.v 1) (.c 1)) (.v 1), (ns 0 0), (ns 2 2), .num (.add .i64 (.v 3) (.c 1)) (.v 3), .lst 0 (some 0) [], .lst 1 (some 1) [(ys 3)]]) rfl tv hF hr (by kernel_rfl) ⟨(r (p0.length : Int)), (show (IntKind.wrap .i64 ((v1.length : Int) + (1 : Int))) = ((v1 ++ [v3]).length : Int) by first | rfl | (simp only [List.length_append, List.length_cons, List.length_nil]; rw [IntKind.wrap_i64]; omega)), (r (p0.length : Int)), (r p2), (r (IntKind.wrap .i64 (v3 + (1 : Int)))), ⟨[], rfl, lnil _⟩, ⟨_, rfl, List.flatMap_append⟩, tv⟩ (at_re (V' := (vals [(p0.length : Int), (v1.length : Int), p2, v3, e4.1, e4.2.1, e4.2.2.1, e4.2.2.2, bI r7] [(p0.flatMap enSIII), (v1.flatMap enI)])) (T := ⟨[(0, .gs 0 0 (.v 0) 4 false), (5, .gs 1 0 (.v 1) 1 true), (13, .gs 0 0 (.v 0) 4 false), (14, (ys 2)), (15, (ys 3))], [some (.rows 0 [] 55 true), some (.rows 1 [] 3 false)], [some (0, 0), some (1, 0)]⟩) (qs := [(ns 0 0), (ns 1 1), (ns 0 0), (ns 2 2), (ns 3 3), .lst 0 (some 0) [], .lst 1 (some 1) []]) hat (by kernel_rfl) ⟨rfl, rfl, rfl, rfl, rfl, ⟨[], rfl, lnil _⟩, ⟨[], rfl, lnil _⟩, tv⟩) fun a' w' hat' => ?_
        exact bus_LateIn_L1_ok fu p0 p2 n (v1 ++ [v3]) (IntKind.wrap .i64 (v3 + (1 : Int))) o h _ _ _ _ _ _ _ hF hr hat' hx0
       ·rw [if_neg h9] at h
        cases h
      ·rw [if_neg h8] at h
       refine to_done mixed ⟨[(.lss, (.v 3), (.v 2), true), (.leq, (.c 0), (.v 3), true), (.lss, (.v 3), (.v 0), true), (.leq, (.v 3), (.v 0), true), (.lss, (.v 3), (.c 4611686018427387904), true), (.neq, (.v 8), (.c 0), false)], [(0, 0, (.v 3), [.ss (.v 4), (ys 5), (ys 6), (ys 7)])], [(0, 4, (.v 0)), (1, 1, (.v 1))], [⟨58, 3, [some (0, 0)], [.agg [.ss (.v 0), (ys 1), (ys 2), (ys 3)], .gs 0 0 (.v 5) 4 false], [some (.rows 0 [] 55 true)], [(ns 4 0), (ns 5 1), (ns 6 2), (ns 7 3), (ns 3 5), .lst 0 (some 0) []], 1, .bs (.v 0), [none], .bs (.v 8), [], []⟩], [], []⟩ (V := (vals [(p0.length : Int), (v1.length : Int), p2, v3, e4.1, e4.2.1, e4.2.2.1, e4.2.2.2, bI r7] [(p0.flatMap enSIII), (v1.flatMap enI)])) (n := 3000) (f := 3000) (fid := 24) (fun _ => rfl) (V' := (vals [(p0.length : Int), (v1.length : Int), p2, (IntKind.wrap .i64 (v3 + (1 : Int)))] [(p0.flatMap enSIII), (v1.flatMap enI)])) ⟨⟨lss_t h1, leq_t h2, lss_t h3, leq_t (a := v3) (b := (p0.length : Int)) (by omega), lss_t h6, bi_f h8, tv⟩, ⟨⟨h2, _, rfl, flat_row enSIII_len he4⟩, tv⟩, ⟨flat_length enSIII_len _, flat_length enI_len _, tv⟩, tv, tv⟩ ⟨Kr7 _ _, tv⟩ (T := ⟨[(0, .gs 0 0 (.v 0) 4 false), (5, .gs 1 0 (.v 1) 1 true), (13, .gs 0 0 (.v 0) 4 false), (14, (ys 2)), (15, (ys 3))], [some (.rows 0 [] 55 true), some (.rows 1 [] 3 false)], [some (0, 0), some (1, 0)]⟩) (ce := .normal) (qs := [(ns 0 0), (ns 1 1), (ns 0 0), (ns 2 2), .num (.add .i64 (.v 3) (.c 1)) (.v 3), .lst 0 (some 0) [], .lst 1 (some 1) []]) rfl tv hF hr (by kernel_rfl) ⟨(r (p0.length : Int)), (r (v1.length : Int)), (r (p0.length : Int)), (r p2), (r (IntKind.wrap .i64 (v3 + (1 : Int)))), ⟨[], rfl, lnil _⟩, ⟨[], rfl, lnil _⟩, tv⟩ (at_re (V' := (vals [(p0.length : Int), (v1.length : Int), p2, v3, e4.1, e4.2.1, e4.2.2.1, e4.2.2.2, bI r7] [(p0.flatMap enSIII), (v1.flatMap enI)])) (T := ⟨[(0, .gs 0 0 (.v 0) 4 false), (5, .gs 1 0 (.v 1) 1 true), (13, .gs 0 0 (.v 0) 4 false), (14, (ys 2)), (15, (ys 3))], [some (.rows 0 [] 55 true), some (.rows 1 [] 3 false)], [some (0, 0), some (1, 0)]⟩) (qs := [(ns 0 0), (ns 1 1), (ns 0 0), (ns 2 2), (ns 3 3), .lst 0 (some 0) [], .lst 1 (some 1) []]) hat (by kernel_rfl) ⟨rfl, rfl, rfl, rfl, rfl, ⟨[], rfl, lnil _⟩, ⟨[], rfl, lnil _⟩, tv⟩) fun a' w' hat' => ?_
       exact bus_LateIn_L1_ok fu p0 p2 n v1 (IntKind.wrap .i64 (v3 + (1 : Int))) o h _ _ _ _ _ _ _ hF hr hat' hx0
     ·rw [if_neg h6] at h
      cases h
    ·rw [if_neg h3] at h
     cases h
   ·rw [if_neg h2] at h
    cases h
  ·rw [if_neg h1] at h
   injection h with h; subst h
   exact to_done mixed ⟨[(.lss, (.v 3), (.v 2), false)], [], [(0, 4, (.v 0)), (1, 1, (.v 1))], [], [], []⟩ (V := (vals [(p0.length : Int), (v1.length : Int), p2, v3] [(p0.flatMap enSIII), (v1.flatMap enI)])) (n := 3000) (f := 3000) (fid := 24) (fun _ => rfl) (V' := (vals [(p0.length : Int), (v1.length : Int)] [(p0.flatMap enSIII), (v1.flatMap enI)])) ⟨⟨lss_f h1, tv⟩, tv, ⟨flat_length enSIII_len _, flat_length enI_len _, tv⟩, tv, tv⟩ tv (T := ⟨[(5, .gs 1 0 (.v 1) 1 true)], [some (.rows 0 [] 55 true), some (.rows 1 [] 3 false)], [some (0, 0), some (1, 0)]⟩) (ce := (.exit 0)) (qs := [(ns 1 1), .lst 0 (some 0) [], .lst 1 (some 1) []]) rfl tv hF hr (by kernel_rfl) ⟨(r (v1.length : Int)), ⟨[], rfl, lnil _⟩, ⟨[], rfl, lnil _⟩, tv⟩ hat fun a' w' hat' => hx0 v1 rfl a' w' hat'
def bus_LateIn (fu : Nat) (a0 : List (Int × Int × Int × Int)) : Option (List (Int) × Int) := Option.bind (bus_streamsError fu a0) fun r1 => if r1 = (0 : Int) then (Option.bind (bus_LateIn_L1 fu a0 (a0.length : Int) fu ([] : List (Int)) (0 : Int)) fun o3 => some (o3, (0 : Int))) else (some (([] : List (Int)), r1))
theorem bus_LateIn_ok (fu : Nat) (a0 : List (Int × Int × Int × Int)) (y : List (Int) × Int) (h : bus_LateIn fu a0 = some y) : CallOk Tryz.prog 24 (vals [(a0.length : Int)] [(a0.flatMap enSIII)]) [.gs 0 0 (.v 0) 4 false] [some (.rows 0 [] 55 true)] 1 (vals [(y.1.length : Int), y.2] [(y.1.flatMap enI)]) (.tup [.gs 1 0 (.v 0) 1 true, (ys 1)]) [none, some (.rows 0 [] 3 false)] := by
 refine fun_of (nt := 31) (by kernel_rfl) (by kernel_rfl) fun φ0 w0 a w hat => ?_
 have hF := wide_fw
 have hr : Fence.wide.round = none := rfl
 unfold bus_LateIn at h
 obtain ⟨r1, hr1, h⟩ := bs1 h
 have Kr1 : KO Tryz.prog [(a0.length : Int), r1] [(a0.flatMap enSIII)] ⟨57, 1, [some (0, 0)], [.gs 0 0 (.v 0) 4 false], [some (.rows 0 [] 55 true)], [(ns 0 0), .lst 0 (some 0) []], 1, (ys 0), [none], (ys 1), [], []⟩ := fun N M => ⟨_, _, [(ns 0 1)], ⟨bus_streamsError_ok fu a0 r1 hr1, ⟨(r (a0.length : Int)), ⟨[], rfl, lnil _⟩, tv⟩, by kernel_rfl, ⟨rfl, tv⟩⟩⟩
 by_cases h2 : r1 = (0 : Int)
 ·rw [if_pos h2] at h
  obtain ⟨o3, ho3, h⟩ := bs1 h
  refine to_loop mixed ⟨[(.neq, (.v 1), (.c 0), false)], [], [(0, 4, (.v 0))], [⟨57, 1, [some (0, 0)], [.gs 0 0 (.v 0) 4 false], [some (.rows 0 [] 55 true)], [(ns 0 0), .lst 0 (some 0) []], 1, (ys 0), [none], (ys 1), [], []⟩], [], []⟩ (V := (vals [(a0.length : Int), r1] [(a0.flatMap enSIII)])) (n := 3000) (f := 3000) (fid := 24) (fun _ => rfl) (V' := (vals [(a0.length : Int), (([] : List (Int)).length : Int), (a0.length : Int), (0 : Int)] [(a0.flatMap enSIII), (([] : List (Int)).flatMap enI)])) ⟨⟨neq_f h2, tv⟩, tv, ⟨flat_length enSIII_len _, tv⟩, tv, tv⟩ ⟨Kr1 _ _, tv⟩ (T := ⟨[(0, .gs 0 0 (.v 0) 4 false), (5, .gs 1 0 (.v 1) 1 true), (13, .gs 0 0 (.v 0) 4 false), (14, (ys 2)), (15, (ys 3))], [some (.rows 0 [] 55 true), some (.rows 1 [] 3 false)], [some (0, 0), none]⟩) (B := subAt (bodyOf Tryz.prog 24) [1, 1, 1, 0, 1, 0, 0]) (K' := [.bk 0, .sq (subAt (bodyOf Tryz.prog 24) [1, 1, 1, 1]) [1, 1, 1, 1]]) (qs := [(ns 0 0), .num (.c 0) (.v 1), (ns 0 0), (ns 0 2), .num (.c 0) (.v 3), .lst 0 (some 0) []]) wok0 tv hF hr (by kernel_rfl) ⟨(r (a0.length : Int)), rfl, (r (a0.length : Int)), (r (a0.length : Int)), (r (0 : Int)), ⟨[], rfl, lnil _⟩, tv⟩ (at_re (V' := (vals [(a0.length : Int), r1] [(a0.flatMap enSIII)])) (T := ⟨[(0, .gs 0 0 (.v 0) 4 false)], [some (.rows 0 [] 55 true)], [some (0, 0)]⟩) (qs := [(ns 0 0), .lst 0 (some 0) []]) hat (by kernel_rfl) ⟨rfl, ⟨[], rfl, lnil _⟩, tv⟩) fun aa1 ww1 hat1 => loop_in (bus_LateIn_L1_ok fu a0 (a0.length : Int) fu ([] : List (Int)) (0 : Int) o3 ho3 _ _ _ _ _ _ _ hF hr hat1 ?_)
  ·intro yy hy aa2 ww2 hat
   subst hy
   show (Wk.out (.exit 0)).goal _ _ _ [.bk 0, .sq (subAt (bodyOf Tryz.prog 24) [1, 1, 1, 1]) [1, 1, 1, 1]] _ aa2 ww2
   injection h with h; subst h
   exact to_fin mixed ⟨[], [], [(0, 4, (.v 0)), (1, 1, (.v 1))], [], [], []⟩ (V := (vals [(a0.length : Int), (o3.length : Int)] [(a0.flatMap enSIII), (o3.flatMap enI)])) (n := 3000) (f := 3000) (fid := 24) (fun _ => rfl) ⟨tv, tv, ⟨flat_length enSIII_len _, flat_length enI_len _, tv⟩, tv, tv⟩ tv (R := ⟨.tup [.gs 1 0 (.v 0) 1 true, (ys 1)], [none, some (.rows 0 [] 3 false)], [some (0, 0), some (1, 0)]⟩) (qs := [(ns 1 0), .num (.c 0) (.v 1), .lst 0 (some 1) []]) tv ⟨rfl, tv⟩ hF hr (by kernel_rfl) ⟨(r (o3.length : Int)), (r (0 : Int)), ⟨[], rfl, lnil _⟩, tv⟩ hat
 ·rw [if_neg h2] at h
  injection h with h; subst h
  exact to_fin mixed ⟨[(.neq, (.v 1), (.c 0), true)], [], [(0, 4, (.v 0))], [⟨57, 1, [some (0, 0)], [.gs 0 0 (.v 0) 4 false], [some (.rows 0 [] 55 true)], [(ns 0 0), .lst 0 (some 0) []], 1, (ys 0), [none], (ys 1), [], []⟩], [], []⟩ (V := (vals [(a0.length : Int), r1] [(a0.flatMap enSIII)])) (n := 3000) (f := 3000) (fid := 24) (fun _ => rfl) ⟨⟨neq_t h2, tv⟩, tv, ⟨flat_length enSIII_len _, tv⟩, tv, tv⟩ ⟨Kr1 _ _, tv⟩ (R := ⟨.tup [.gs 1 0 (.v 0) 1 true, (ys 1)], [none, some (.rows 0 [] 3 false)], [some (0, 0), none]⟩) (qs := [.num (.c 0) (.v 0), (ns 1 1)]) wok0 tv hF hr (by kernel_rfl) ⟨rfl, (r r1), tv⟩ (at_re (V' := (vals [(a0.length : Int), r1] [(a0.flatMap enSIII)])) (T := ⟨[(0, .gs 0 0 (.v 0) 4 false)], [some (.rows 0 [] 55 true)], [some (0, 0)]⟩) (qs := [(ns 0 0), .lst 0 (some 0) []]) hat (by kernel_rfl) ⟨rfl, ⟨[], rfl, lnil _⟩, tv⟩)
def b_Mod (a0 : Int) (a1 : Int) : Option (Int) := if a1 = (0 : Int) then none else (if (Int.tmod a0 a1) < (0 : Int) then (some (IntKind.wrap .i64 ((Int.tmod a0 a1) + a1))) else (some (Int.tmod a0 a1)))
theorem b_Mod_ok (a0 : Int) (a1 : Int) (y : Int) (h : b_Mod a0 a1 = some y) : CallOk Tryz.prog 25 (vals [a0, a1] []) [(ys 0), (ys 1)] [] 0 (vals [y] []) ((ys 0)) [] := by
 refine fun_of (nt := 14) (by kernel_rfl) (by kernel_rfl) fun φ0 w0 a w hat => ?_
 have hF := wide_fw
 have hr : Fence.wide.round = none := rfl
 unfold b_Mod at h
 by_cases h1 : a1 = (0 : Int)
 ·rw [if_pos h1] at h
  cases h
 ·rw [if_neg h1] at h
  by_cases h2 : (Int.tmod a0 a1) < (0 : Int)
  ·rw [if_pos h2] at h
   injection h with h; subst h
   exact to_fin mixed ⟨[(.eql, (.v 1), (.c 0), false), (.lss, (.rem .i64 (.v 0) (.v 1)), (.c 0), true)], [], [], [], [], []⟩ (V := (vals [a0, a1] [])) (n := 3000) (f := 3000) (fid := 25) (fun _ => rfl) ⟨⟨eql_f h1, lss_t h2, tv⟩, tv, tv, tv, tv⟩ tv (R := ⟨(ys 0), [], []⟩) (qs := [.num (.add .i64 (.rem .i64 (.v 0) (.v 1)) (.v 1)) (.v 0)]) wok0 tv hF hr (by kernel_rfl) ⟨(r (IntKind.wrap .i64 ((Int.tmod a0 a1) + a1))), tv⟩ hat
  ·rw [if_neg h2] at h
   injection h with h; subst h
   exact to_fin mixed ⟨[(.eql, (.v 1), (.c 0), false), (.lss, (.rem .i64 (.v 0) (.v 1)), (.c 0), false)], [], [], [], [], []⟩ (V := (vals [a0, a1] [])) (n := 3000) (f := 3000) (fid := 25) (fun _ => rfl) ⟨⟨eql_f h1, lss_f h2, tv⟩, tv, tv, tv, tv⟩ tv (R := ⟨(ys 0), [], []⟩) (qs := [.num (.rem .i64 (.v 0) (.v 1)) (.v 0)]) wok0 tv hF hr (by kernel_rfl) ⟨(r (Int.tmod a0 a1)), tv⟩ hat
def b_Has_L1 (fu : Nat) (p0 : List (Int)) (p1 : Int) : Nat → Int → Option ((Unit) ⊕ (Unit))
 | 0, _ => none
 | n + 1, v2 => if v2 < (p0.length : Int) then (if (0 : Int) ≤ v2 then (Option.bind ((p0)[0 + (v2).toNat]?) fun e3 => if e3 = p1 then (some (.inl ())) else (b_Has_L1 fu p0 p1 n (IntKind.wrap .i64 (v2 + (1 : Int))))) else none) else (some (.inr ()))
theorem b_Has_L1_ok (fu : Nat) (p0 : List (Int)) (p1 : Int) : ∀ (n : Nat) (v2 : Int) (o : (Unit) ⊕ (Unit)), b_Has_L1 fu p0 p1 n v2 = some o → ∀ (φ0 : Phi) (w0 : World) (F : Fence) (k : Nat) (R : Exit → Act → World → Prop) (a : Act) (w : World), FW F → F.round = none → AtS (vals [(p0.length : Int), p1, v2] [(p0.flatMap enI)]) [(0, .gs 0 0 (.v 0) 1 false), (1, (ys 1)), (5, (ys 2))] [some (.rows 0 [] 3 true)] 18 1 1 φ0 w0 a w → (∀ (y : Unit), o = .inl y → ∀ a' w', AtS (vals [(p0.length : Int)] [(p0.flatMap enI)]) [(4, .bool true)] [some (.rows 0 [] 3 true)] 18 1 1 φ0 w0 a' w' → R Exit.ret a' w') → (∀ (y : Unit), o = .inr y → ∀ a' w', AtS (vals [(p0.length : Int)] [(p0.flatMap enI)]) [] [some (.rows 0 [] 3 true)] 18 1 1 φ0 w0 a' w' → R (Exit.exit 0) a' w') → Code.roundsIn F k Tryz.prog (subAt (bodyOf Tryz.prog 27) [1, 0, 1, 0, 0]) R n a w
 | 0, _, _, h => by cases h
 | n + 1, v2, o, h => by
  intro φ0 w0 F k R a w hF hr hat hx0 hx1
  rw [b_Has_L1] at h
  refine rounds_in (p := [1, 0, 1, 0, 0]) ?_
  by_cases h1 : v2 < (p0.length : Int)
  ·rw [if_pos h1] at h
   by_cases h2 : (0 : Int) ≤ v2
   ·rw [if_pos h2] at h
    obtain ⟨e3, he3, h⟩ := bs1 h
    by_cases h4 : e3 = p1
    ·rw [if_pos h4] at h
     injection h with h; subst h
     exact to_done mixed ⟨[(.lss, (.v 2), (.v 0), true), (.leq, (.c 0), (.v 2), true), (.eql, (.v 3), (.v 1), true)], [(0, 0, (.v 2), [(ys 3)])], [(0, 1, (.v 0))], [], [], []⟩ (V := (vals [(p0.length : Int), p1, v2, e3] [(p0.flatMap enI)])) (n := 3000) (f := 3000) (fid := 27) (fun _ => rfl) (V' := (vals [(p0.length : Int)] [(p0.flatMap enI)])) ⟨⟨lss_t h1, leq_t h2, eql_t h4, tv⟩, ⟨⟨h2, _, rfl, flat_row enI_len he3⟩, tv⟩, ⟨flat_length enI_len _, tv⟩, tv, tv⟩ tv (T := ⟨[(4, .bool true)], [some (.rows 0 [] 3 true)], [some (0, 0)]⟩) (ce := .ret) (qs := [.lst 0 (some 0) []]) rfl tv hF hr (by kernel_rfl) ⟨⟨[], rfl, lnil _⟩, tv⟩ (at_re (V' := (vals [(p0.length : Int), p1, v2, e3] [(p0.flatMap enI)])) (T := ⟨[(0, .gs 0 0 (.v 0) 1 false), (1, (ys 1)), (5, (ys 2))], [some (.rows 0 [] 3 true)], [some (0, 0)]⟩) (qs := [(ns 0 0), (ns 1 1), (ns 2 2), .lst 0 (some 0) []]) hat (by kernel_rfl) ⟨rfl, rfl, rfl, ⟨[], rfl, lnil _⟩, tv⟩) fun a' w' hat' => hx0 () rfl a' w' hat'
    ·rw [if_neg h4] at h
     refine to_done mixed ⟨[(.lss, (.v 2), (.v 0), true), (.leq, (.c 0), (.v 2), true), (.eql, (.v 3), (.v 1), false)], [(0, 0, (.v 2), [(ys 3)])], [(0, 1, (.v 0))], [], [], []⟩ (V := (vals [(p0.length : Int), p1, v2, e3] [(p0.flatMap enI)])) (n := 3000) (f := 3000) (fid := 27) (fun _ => rfl) (V' := (vals [(p0.length : Int), p1, (IntKind.wrap .i64 (v2 + (1 : Int)))] [(p0.flatMap enI)])) ⟨⟨lss_t h1, leq_t h2, eql_f h4, tv⟩, ⟨⟨h2, _, rfl, flat_row enI_len he3⟩, tv⟩, ⟨flat_length enI_len _, tv⟩, tv, tv⟩ tv (T := ⟨[(0, .gs 0 0 (.v 0) 1 false), (1, (ys 1)), (5, (ys 2))], [some (.rows 0 [] 3 true)], [some (0, 0)]⟩) (ce := .normal) (qs := [(ns 0 0), (ns 1 1), .num (.add .i64 (.v 2) (.c 1)) (.v 2), .lst 0 (some 0) []]) rfl tv hF hr (by kernel_rfl) ⟨(r (p0.length : Int)), (r p1), (r (IntKind.wrap .i64 (v2 + (1 : Int)))), ⟨[], rfl, lnil _⟩, tv⟩ (at_re (V' := (vals [(p0.length : Int), p1, v2, e3] [(p0.flatMap enI)])) (T := ⟨[(0, .gs 0 0 (.v 0) 1 false), (1, (ys 1)), (5, (ys 2))], [some (.rows 0 [] 3 true)], [some (0, 0)]⟩) (qs := [(ns 0 0), (ns 1 1), (ns 2 2), .lst 0 (some 0) []]) hat (by kernel_rfl) ⟨rfl, rfl, rfl, ⟨[], rfl, lnil _⟩, tv⟩) fun a' w' hat' => ?_
     exact b_Has_L1_ok fu p0 p1 n (IntKind.wrap .i64 (v2 + (1 : Int))) o h _ _ _ _ _ _ _ hF hr hat' hx0 hx1
   ·rw [if_neg h2] at h
    cases h
  ·rw [if_neg h1] at h
   injection h with h; subst h
   exact to_done mixed ⟨[(.lss, (.v 2), (.v 0), false)], [], [(0, 1, (.v 0))], [], [], []⟩ (V := (vals [(p0.length : Int), p1, v2] [(p0.flatMap enI)])) (n := 3000) (f := 3000) (fid := 27) (fun _ => rfl) (V' := (vals [(p0.length : Int)] [(p0.flatMap enI)])) ⟨⟨lss_f h1, tv⟩, tv, ⟨flat_length enI_len _, tv⟩, tv, tv⟩ tv (T := ⟨[], [some (.rows 0 [] 3 true)], [some (0, 0)]⟩) (ce := (.exit 0)) (qs := [.lst 0 (some 0) []]) rfl tv hF hr (by kernel_rfl) ⟨⟨[], rfl, lnil _⟩, tv⟩ hat fun a' w' hat' => hx1 () rfl a' w' hat'
def b_Has (fu : Nat) (a0 : List (Int)) (a1 : Int) : Option (Bool) := Option.bind (b_Has_L1 fu a0 a1 fu (0 : Int)) fun o1 => (match o1 with | .inl y2 => (some true) | .inr y3 => (some false))
theorem b_Has_ok (fu : Nat) (a0 : List (Int)) (a1 : Int) (y : Bool) (h : b_Has fu a0 a1 = some y) : CallOk Tryz.prog 27 (vals [(a0.length : Int), a1] [(a0.flatMap enI)]) [.gs 0 0 (.v 0) 1 false, (ys 1)] [some (.rows 0 [] 3 true)] 1 (vals [bI y] []) (.bs (.v 0)) [none] := by
 refine fun_of (nt := 18) (by kernel_rfl) (by kernel_rfl) fun φ0 w0 a w hat => ?_
 have hF := wide_fw
 have hr : Fence.wide.round = none := rfl
 unfold b_Has at h
 obtain ⟨o1, ho1, h⟩ := bs1 h
 refine to_loop mixed ⟨[], [], [(0, 1, (.v 0))], [], [], []⟩ (V := (vals [(a0.length : Int), a1] [(a0.flatMap enI)])) (n := 3000) (f := 3000) (fid := 27) (fun _ => rfl) (V' := (vals [(a0.length : Int), a1, (0 : Int)] [(a0.flatMap enI)])) ⟨tv, tv, ⟨flat_length enI_len _, tv⟩, tv, tv⟩ tv (T := ⟨[(0, .gs 0 0 (.v 0) 1 false), (1, (ys 1)), (5, (ys 2))], [some (.rows 0 [] 3 true)], [some (0, 0)]⟩) (B := subAt (bodyOf Tryz.prog 27) [1, 0, 1, 0, 0]) (K' := [.bk 0, .sq (subAt (bodyOf Tryz.prog 27) [1, 1]) [1, 1]]) (qs := [(ns 0 0), (ns 1 1), .num (.c 0) (.v 2), .lst 0 (some 0) []]) wok0 tv hF hr (by kernel_rfl) ⟨(r (a0.length : Int)), (r a1), (r (0 : Int)), ⟨[], rfl, lnil _⟩, tv⟩ hat fun aa1 ww1 hat1 => loop_in (b_Has_L1_ok fu a0 a1 fu (0 : Int) o1 ho1 _ _ _ _ _ _ _ hF hr hat1 ?_ ?_)
 ·intro y2 hy aa2 ww2 hat
  subst hy
  dsimp only at h
  show (Wk.out .ret).goal _ _ _ [.bk 0, .sq (subAt (bodyOf Tryz.prog 27) [1, 1]) [1, 1]] _ aa2 ww2
  injection h with h; subst h
  exact to_fin mixed ⟨[], [], [(0, 1, (.v 0))], [], [], []⟩ (V := (vals [(a0.length : Int)] [(a0.flatMap enI)])) (n := 3000) (f := 3000) (fid := 27) (fun _ => rfl) ⟨tv, tv, ⟨flat_length enI_len _, tv⟩, tv, tv⟩ tv (R := ⟨.bs (.v 0), [none], [some (0, 0)]⟩) (qs := [.num (.c 1) (.v 0)]) tv ⟨rfl, tv⟩ hF hr (by kernel_rfl) ⟨rfl, tv⟩ hat
 ·intro y3 hy aa2 ww2 hat
  subst hy
  dsimp only at h
  show (Wk.out (.exit 0)).goal _ _ _ [.bk 0, .sq (subAt (bodyOf Tryz.prog 27) [1, 1]) [1, 1]] _ aa2 ww2
  injection h with h; subst h
  exact to_fin mixed ⟨[], [], [(0, 1, (.v 0))], [], [], []⟩ (V := (vals [(a0.length : Int)] [(a0.flatMap enI)])) (n := 3000) (f := 3000) (fid := 27) (fun _ => rfl) ⟨tv, tv, ⟨flat_length enI_len _, tv⟩, tv, tv⟩ tv (R := ⟨.bs (.v 0), [none], [some (0, 0)]⟩) (qs := [.num (.c 0) (.v 0)]) tv ⟨rfl, tv⟩ hF hr (by kernel_rfl) ⟨rfl, tv⟩ hat
def b_Within_2 (a0 : Int) (a1 : Int) (a2 : Int) : Option (Bool) := if a1 ≤ a0 then (if a0 ≤ a2 then (some true) else (some false)) else (some false)
theorem b_Within_2_ok (a0 : Int) (a1 : Int) (a2 : Int) (y : Bool) (h : b_Within_2 a0 a1 a2 = some y) : CallOk Tryz.prog 13 (vals [a0, a1, a2] []) [(ys 0), (ys 1), (ys 2)] [] 0 (vals [bI y] []) (.bs (.v 0)) [] := by
 refine fun_of (nt := 15) (by kernel_rfl) (by kernel_rfl) fun φ0 w0 a w hat => ?_
 have hF := wide_fw
 have hr : Fence.wide.round = none := rfl
 unfold b_Within_2 at h
 by_cases h1 : a1 ≤ a0
 ·rw [if_pos h1] at h
  by_cases h2 : a0 ≤ a2
  ·rw [if_pos h2] at h
   injection h with h; subst h
   exact to_fin mixed ⟨[(.leq, (.v 1), (.v 0), true), (.leq, (.v 0), (.v 2), true)], [], [], [], [], []⟩ (V := (vals [a0, a1, a2] [])) (n := 3000) (f := 3000) (fid := 13) (fun _ => rfl) ⟨⟨leq_t h1, leq_t h2, tv⟩, tv, tv, tv, tv⟩ tv (R := ⟨.bs (.v 0), [], []⟩) (qs := [.num (.c 1) (.v 0)]) wok0 tv hF hr (by kernel_rfl) ⟨rfl, tv⟩ hat
  ·rw [if_neg h2] at h
   injection h with h; subst h
   exact to_fin mixed ⟨[(.leq, (.v 1), (.v 0), true), (.leq, (.v 0), (.v 2), false)], [], [], [], [], []⟩ (V := (vals [a0, a1, a2] [])) (n := 3000) (f := 3000) (fid := 13) (fun _ => rfl) ⟨⟨leq_t h1, leq_f h2, tv⟩, tv, tv, tv, tv⟩ tv (R := ⟨.bs (.v 0), [], []⟩) (qs := [.num (.c 0) (.v 0)]) wok0 tv hF hr (by kernel_rfl) ⟨rfl, tv⟩ hat
 ·rw [if_neg h1] at h
  injection h with h; subst h
  exact to_fin mixed ⟨[(.leq, (.v 1), (.v 0), false)], [], [], [], [], []⟩ (V := (vals [a0, a1, a2] [])) (n := 3000) (f := 3000) (fid := 13) (fun _ => rfl) ⟨⟨leq_f h1, tv⟩, tv, tv, tv, tv⟩ tv (R := ⟨.bs (.v 0), [], []⟩) (qs := [.num (.c 0) (.v 0)]) wok0 tv hF hr (by kernel_rfl) ⟨rfl, tv⟩ hat
end Go.Proofs.YthffbfkcmbgghaaGreat
