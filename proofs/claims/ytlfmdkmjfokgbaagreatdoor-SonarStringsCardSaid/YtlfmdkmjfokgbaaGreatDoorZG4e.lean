/-
  Go functions as Lean functions (written by tools/lift.py).
-/
import Derived.Test.YtlfmdkmjfokgbaaGreatDoorZEd
import Derived.Test.YtlfmdkmjfokgbaaGreatDoorZEg
import Derived.Test.YtlfmdkmjfokgbaaGreatDoorZZx
import Derived.Test.YtlfmdkmjfokgbaaGreatDoorZG1a
import Derived.Test.YtlfmdkmjfokgbaaGreatDoorZG1e
import Derived.Test.YtlfmdkmjfokgbaaGreatDoorZG4a
set_option linter.all false
namespace Go.Proofs.YtlfmdkmjfokgbaaGreatDoor
open Go Go.RowKit Cm
set_option maxRecDepth 100000
set_option maxHeartbeats 4000000
def r4_text_L1 (fu : Nat) (p0 : List (Int)) : Nat → Int → Int → Option ((Int))
 | 0, _, _ => none
 | n + 1, v1, v2 => if v2 < (p0.length : Int) then (if (0 : Int) < v2 then (if (sln v1) < (4611686018427387904 : Int) then (if (sln (-17 : Int)) < (4611686018427387904 : Int) then (Option.bind ((p0)[0 + (v2).toNat]?) fun e6 => Option.bind (b_Decimal fu e6) fun r7 => if (sln (scat v1 (-17 : Int))) < (4611686018427387904 : Int) then (if (sln r7) < (4611686018427387904 : Int) then (r4_text_L1 fu p0 n (scat (scat v1 (-17 : Int)) r7) (IntKind.wrap .i64 (v2 + (1 : Int)))) else none) else none) else none) else none) else (if (0 : Int) ≤ v2 then (Option.bind ((p0)[0 + (v2).toNat]?) fun e11 => Option.bind (b_Decimal fu e11) fun r12 => if (sln v1) < (4611686018427387904 : Int) then (if (sln r12) < (4611686018427387904 : Int) then (r4_text_L1 fu p0 n (scat v1 r12) (IntKind.wrap .i64 (v2 + (1 : Int)))) else none) else none) else none)) else (some v1)
theorem r4_text_L1_ok (fu : Nat) (p0 : List (Int)) : ∀ (n : Nat) (v1 : Int) (v2 : Int) (o : (Int)), r4_text_L1 fu p0 n v1 v2 = some o → ∀ (φ0 : Phi) (w0 : World) (F : Fence) (k : Nat) (R : Exit → Act → World → Prop) (a : Act) (w : World), FW F → F.round = none → AtS (vals [(p0.length : Int), v1, v2] [(p0.flatMap enI)]) [(0, .gs 0 0 (.v 0) 1 false), (3, .ss (.v 1)), (4, (ys 2))] [some (.rows 0 [] 3 true)] 23 1 1 φ0 w0 a w → (∀ (y : Int), o = y → ∀ a' w', AtS (vals [(p0.length : Int), y] [(p0.flatMap enI)]) [(3, .ss (.v 1))] [some (.rows 0 [] 3 true)] 23 1 1 φ0 w0 a' w' → R (Exit.exit 0) a' w') → Code.roundsIn F k Tryz.prog (subAt (bodyOf Tryz.prog 135) [1, 1, 0, 1, 0, 0]) R n a w
 | 0, _, _, _, h => by cases h
 | n + 1, v1, v2, o, h => by
  intro φ0 w0 F k R a w hF hr hat hx0
  rw [r4_text_L1] at h
  refine rounds_in (p := [1, 1, 0, 1, 0, 0]) ?_
  by_cases h1 : v2 < (p0.length : Int)
  ·rw [if_pos h1] at h
   by_cases h2 : (0 : Int) < v2
   ·rw [if_pos h2] at h
    by_cases h3 : (sln v1) < (4611686018427387904 : Int)
    ·rw [if_pos h3] at h
     by_cases h4 : (sln (-17 : Int)) < (4611686018427387904 : Int)
     ·rw [if_pos h4] at h
      obtain ⟨e6, he6, h⟩ := bs1 h
      obtain ⟨r7, hr7, h⟩ := bs1 h
      have Kr7 : KO Tryz.prog [(p0.length : Int), v1, v2, e6, r7] [(p0.flatMap enI)] ⟨167, 1, [], [(ys 0)], [], [(ns 3 0)], 0, .ss (.v 0), [], .ss (.v 4), [], []⟩ := fun N M => ⟨_, _, [(ns 0 4)], ⟨b_Decimal_ok fu e6 r7 hr7, ⟨(r e6), tv⟩, by kernel_rfl, ⟨rfl, tv⟩⟩⟩
      by_cases h8 : (sln (scat v1 (-17 : Int))) < (4611686018427387904 : Int)
      ·rw [if_pos h8] at h
       by_cases h9 : (sln r7) < (4611686018427387904 : Int)
       ·rw [if_pos h9] at h
        refine to_done mixed ⟨[(.lss, (.v 2), (.v 0), true), (.gtr, (.v 2), (.c 0), true), (.lss, (.sln (.v 1)), (.c 4611686018427387904), true), (.lss, (.sln (.c (-17))), (.c 4611686018427387904), true), (.leq, (.c 0), (.v 2), true), (.lss, (.sln (.cat (.v 1) (.c (-17)))), (.c 4611686018427387904), true), (.lss, (.sln (.v 4)), (.c 4611686018427387904), true)], [(0, 0, (.v 2), [(ys 3)])], [(0, 1, (.v 0))], [⟨167, 1, [], [(ys 0)], [], [(ns 3 0)], 0, .ss (.v 0), [], .ss (.v 4), [], []⟩], [], []⟩ (V := (vals [(p0.length : Int), v1, v2, e6, r7] [(p0.flatMap enI)])) (n := 3000) (f := 3000) (fid := 135) (fun _ => rfl) (V' := (vals [(p0.length : Int), (scat (scat v1 (-17 : Int)) r7), (IntKind.wrap .i64 (v2 + (1 : Int)))] [(p0.flatMap enI)])) ⟨⟨lss_t h1, gtr_t h2, lss_t h3, lss_t h4, leq_t (a := (0 : Int)) (b := v2) (by omega), lss_t h8, lss_t h9, tv⟩, ⟨⟨(show (0 : Int) ≤ v2 by omega), _, rfl, flat_row enI_len he6⟩, tv⟩, ⟨flat_length enI_len _, tv⟩, tv, tv⟩ ⟨Kr7 _ _, tv⟩ (T := ⟨[(0, .gs 0 0 (.v 0) 1 false), (3, .ss (.v 1)), (4, (ys 2))], [some (.rows 0 [] 3 true)], [some (0, 0)]⟩) (ce := .normal) (qs := [(ns 0 0), .num (.cat (.cat (.v 1) (.c (-17))) (.v 4)) (.v 1), .num (.add .i64 (.v 2) (.c 1)) (.v 2), .lst 0 (some 0) []]) rfl tv hF hr (by kernel_rfl) ⟨(r (p0.length : Int)), (show (scat (scat v1 (-17 : Int)) r7) = (scat (scat v1 (-17 : Int)) r7) from rfl), (r (IntKind.wrap .i64 (v2 + (1 : Int)))), ⟨[], rfl, lnil _⟩, tv⟩ (at_re (V' := (vals [(p0.length : Int), v1, v2, e6, r7] [(p0.flatMap enI)])) (T := ⟨[(0, .gs 0 0 (.v 0) 1 false), (3, .ss (.v 1)), (4, (ys 2))], [some (.rows 0 [] 3 true)], [some (0, 0)]⟩) (qs := [(ns 0 0), (ns 1 1), (ns 2 2), .lst 0 (some 0) []]) hat (by kernel_rfl) ⟨rfl, rfl, rfl, ⟨[], rfl, lnil _⟩, tv⟩) fun a' w' hat' => ?_
        exact r4_text_L1_ok fu p0 n (scat (scat v1 (-17 : Int)) r7) (IntKind.wrap .i64 (v2 + (1 : Int))) o h _ _ _ _ _ _ _ hF hr hat' hx0
       ·rw [if_neg h9] at h
        cases h
      ·rw [if_neg h8] at h
       cases h
     ·rw [if_neg h4] at h
      cases h
    ·rw [if_neg h3] at h
     cases h
   ·rw [if_neg h2] at h
    by_cases h10 : (0 : Int) ≤ v2
    ·rw [if_pos h10] at h
     obtain ⟨e11, he11, h⟩ := bs1 h
     obtain ⟨r12, hr12, h⟩ := bs1 h
     have Kr12 : KO Tryz.prog [(p0.length : Int), v1, v2, e11, r12] [(p0.flatMap enI)] ⟨167, 1, [], [(ys 0)], [], [(ns 3 0)], 0, .ss (.v 0), [], .ss (.v 4), [], []⟩ := fun N M => ⟨_, _, [(ns 0 4)], ⟨b_Decimal_ok fu e11 r12 hr12, ⟨(r e11), tv⟩, by kernel_rfl, ⟨rfl, tv⟩⟩⟩
     by_cases h13 : (sln v1) < (4611686018427387904 : Int)
     ·rw [if_pos h13] at h
      by_cases h14 : (sln r12) < (4611686018427387904 : Int)
      ·rw [if_pos h14] at h
       refine to_done mixed ⟨[(.lss, (.v 2), (.v 0), true), (.gtr, (.v 2), (.c 0), false), (.leq, (.c 0), (.v 2), true), (.lss, (.sln (.v 1)), (.c 4611686018427387904), true), (.lss, (.sln (.v 4)), (.c 4611686018427387904), true)], [(0, 0, (.v 2), [(ys 3)])], [(0, 1, (.v 0))], [⟨167, 1, [], [(ys 0)], [], [(ns 3 0)], 0, .ss (.v 0), [], .ss (.v 4), [], []⟩], [], []⟩ (V := (vals [(p0.length : Int), v1, v2, e11, r12] [(p0.flatMap enI)])) (n := 3000) (f := 3000) (fid := 135) (fun _ => rfl) (V' := (vals [(p0.length : Int), (scat v1 r12), (IntKind.wrap .i64 (v2 + (1 : Int)))] [(p0.flatMap enI)])) ⟨⟨lss_t h1, gtr_f h2, leq_t h10, lss_t h13, lss_t h14, tv⟩, ⟨⟨h10, _, rfl, flat_row enI_len he11⟩, tv⟩, ⟨flat_length enI_len _, tv⟩, tv, tv⟩ ⟨Kr12 _ _, tv⟩ (T := ⟨[(0, .gs 0 0 (.v 0) 1 false), (3, .ss (.v 1)), (4, (ys 2))], [some (.rows 0 [] 3 true)], [some (0, 0)]⟩) (ce := .normal) (qs := [(ns 0 0), .num (.cat (.v 1) (.v 4)) (.v 1), .num (.add .i64 (.v 2) (.c 1)) (.v 2), .lst 0 (some 0) []]) rfl tv hF hr (by kernel_rfl) ⟨(r (p0.length : Int)), (r (scat v1 r12)), (r (IntKind.wrap .i64 (v2 + (1 : Int)))), ⟨[], rfl, lnil _⟩, tv⟩ (at_re (V' := (vals [(p0.length : Int), v1, v2, e11, r12] [(p0.flatMap enI)])) (T := ⟨[(0, .gs 0 0 (.v 0) 1 false), (3, .ss (.v 1)), (4, (ys 2))], [some (.rows 0 [] 3 true)], [some (0, 0)]⟩) (qs := [(ns 0 0), (ns 1 1), (ns 2 2), .lst 0 (some 0) []]) hat (by kernel_rfl) ⟨rfl, rfl, rfl, ⟨[], rfl, lnil _⟩, tv⟩) fun a' w' hat' => ?_
       exact r4_text_L1_ok fu p0 n (scat v1 r12) (IntKind.wrap .i64 (v2 + (1 : Int))) o h _ _ _ _ _ _ _ hF hr hat' hx0
      ·rw [if_neg h14] at h
       cases h
     ·rw [if_neg h13] at h
      cases h
    ·rw [if_neg h10] at h
     cases h
  ·rw [if_neg h1] at h
   injection h with h; subst h
   exact to_done mixed ⟨[(.lss, (.v 2), (.v 0), false)], [], [(0, 1, (.v 0))], [], [], []⟩ (V := (vals [(p0.length : Int), v1, v2] [(p0.flatMap enI)])) (n := 3000) (f := 3000) (fid := 135) (fun _ => rfl) (V' := (vals [(p0.length : Int), v1] [(p0.flatMap enI)])) ⟨⟨lss_f h1, tv⟩, tv, ⟨flat_length enI_len _, tv⟩, tv, tv⟩ tv (T := ⟨[(3, .ss (.v 1))], [some (.rows 0 [] 3 true)], [some (0, 0)]⟩) (ce := (.exit 0)) (qs := [(ns 1 1), .lst 0 (some 0) []]) rfl tv hF hr (by kernel_rfl) ⟨(r v1), ⟨[], rfl, lnil _⟩, tv⟩ hat fun a' w' hat' => hx0 v1 rfl a' w' hat'
def r4_text (fu : Nat) (a0 : List (Int)) : Option (Int) := Option.bind (r4_text_L1 fu a0 fu (0 : Int) (0 : Int)) fun o1 => some o1
theorem r4_text_ok (fu : Nat) (a0 : List (Int)) (y : Int) (h : r4_text fu a0 = some y) : CallOk Tryz.prog 135 (vals [(a0.length : Int)] [(a0.flatMap enI)]) [.gs 0 0 (.v 0) 1 false] [some (.rows 0 [] 3 true)] 1 (vals [y] []) (.ss (.v 0)) [none] := by
 refine fun_of (nt := 23) (by kernel_rfl) (by kernel_rfl) fun φ0 w0 a w hat => ?_
 have hF := wide_fw
 have hr : Fence.wide.round = none := rfl
 unfold r4_text at h
 obtain ⟨o1, ho1, h⟩ := bs1 h
 refine to_loop mixed ⟨[], [], [(0, 1, (.v 0))], [], [], []⟩ (V := (vals [(a0.length : Int)] [(a0.flatMap enI)])) (n := 3000) (f := 3000) (fid := 135) (fun _ => rfl) (V' := (vals [(a0.length : Int), (0 : Int), (0 : Int)] [(a0.flatMap enI)])) ⟨tv, tv, ⟨flat_length enI_len _, tv⟩, tv, tv⟩ tv (T := ⟨[(0, .gs 0 0 (.v 0) 1 false), (3, .ss (.v 1)), (4, (ys 2))], [some (.rows 0 [] 3 true)], [some (0, 0)]⟩) (B := subAt (bodyOf Tryz.prog 135) [1, 1, 0, 1, 0, 0]) (K' := [.bk 0, .sq (subAt (bodyOf Tryz.prog 135) [1, 1, 1]) [1, 1, 1]]) (qs := [(ns 0 0), .num (.c 0) (.v 1), .num (.c 0) (.v 2), .lst 0 (some 0) []]) wok0 tv hF hr (by kernel_rfl) ⟨(r (a0.length : Int)), (r (0 : Int)), (r (0 : Int)), ⟨[], rfl, lnil _⟩, tv⟩ hat fun aa1 ww1 hat1 => loop_in (r4_text_L1_ok fu a0 fu (0 : Int) (0 : Int) o1 ho1 _ _ _ _ _ _ _ hF hr hat1 ?_)
 ·intro yy hy aa2 ww2 hat
  subst hy
  show (Wk.out (.exit 0)).goal _ _ _ [.bk 0, .sq (subAt (bodyOf Tryz.prog 135) [1, 1, 1]) [1, 1, 1]] _ aa2 ww2
  injection h with h; subst h
  exact to_fin mixed ⟨[], [], [(0, 1, (.v 0))], [], [], []⟩ (V := (vals [(a0.length : Int), o1] [(a0.flatMap enI)])) (n := 3000) (f := 3000) (fid := 135) (fun _ => rfl) ⟨tv, tv, ⟨flat_length enI_len _, tv⟩, tv, tv⟩ tv (R := ⟨.ss (.v 0), [none], [some (0, 0)]⟩) (qs := [(ns 1 0)]) tv ⟨rfl, tv⟩ hF hr (by kernel_rfl) ⟨(r o1), tv⟩ hat
def r4_FormatDevices_L1 (fu : Nat) (p0 : List (Int × Int × Int)) : Nat → Int → Int → Option ((Int))
 | 0, _, _ => none
 | n + 1, v1, v2 => if v2 < (p0.length : Int) then (if (0 : Int) < v2 then (if (sln v1) < (4611686018427387904 : Int) then (if (sln (30 : Int)) < (4611686018427387904 : Int) then (Option.bind ((p0)[0 + (v2).toNat]?) fun e6 => Option.bind (r4_text fu ([e6.1, e6.2.1, e6.2.2] : List (Int))) fun r7 => if (sln (scat v1 (30 : Int))) < (4611686018427387904 : Int) then (if (sln r7) < (4611686018427387904 : Int) then (r4_FormatDevices_L1 fu p0 n (scat (scat v1 (30 : Int)) r7) (IntKind.wrap .i64 (v2 + (1 : Int)))) else none) else none) else none) else none) else (if (0 : Int) ≤ v2 then (Option.bind ((p0)[0 + (v2).toNat]?) fun e11 => Option.bind (r4_text fu ([e11.1, e11.2.1, e11.2.2] : List (Int))) fun r12 => if (sln v1) < (4611686018427387904 : Int) then (if (sln r12) < (4611686018427387904 : Int) then (r4_FormatDevices_L1 fu p0 n (scat v1 r12) (IntKind.wrap .i64 (v2 + (1 : Int)))) else none) else none) else none)) else (some v1)
theorem r4_FormatDevices_L1_ok (fu : Nat) (p0 : List (Int × Int × Int)) : ∀ (n : Nat) (v1 : Int) (v2 : Int) (o : (Int)), r4_FormatDevices_L1 fu p0 n v1 v2 = some o → ∀ (φ0 : Phi) (w0 : World) (F : Fence) (k : Nat) (R : Exit → Act → World → Prop) (a : Act) (w : World), FW F → F.round = none → AtS (vals [(p0.length : Int), v1, v2] [(p0.flatMap enIII)]) [(0, .gs 0 0 (.v 0) 3 false), (3, .ss (.v 1)), (4, (ys 2))] [some (.rows 0 [] 209 true)] 35 1 1 φ0 w0 a w → (∀ (y : Int), o = y → ∀ a' w', AtS (vals [(p0.length : Int), y] [(p0.flatMap enIII)]) [(3, .ss (.v 1))] [some (.rows 0 [] 209 true)] 35 1 1 φ0 w0 a' w' → R (Exit.exit 0) a' w') → Code.roundsIn F k Tryz.prog (subAt (bodyOf Tryz.prog 51) [1, 1, 0, 1, 0, 0]) R n a w
 | 0, _, _, _, h => by cases h
 | n + 1, v1, v2, o, h => by
  intro φ0 w0 F k R a w hF hr hat hx0
  rw [r4_FormatDevices_L1] at h
  refine rounds_in (p := [1, 1, 0, 1, 0, 0]) ?_
  by_cases h1 : v2 < (p0.length : Int)
  ·rw [if_pos h1] at h
   by_cases h2 : (0 : Int) < v2
   ·rw [if_pos h2] at h
    by_cases h3 : (sln v1) < (4611686018427387904 : Int)
    ·rw [if_pos h3] at h
     by_cases h4 : (sln (30 : Int)) < (4611686018427387904 : Int)
     ·rw [if_pos h4] at h
      obtain ⟨e6, he6, h⟩ := bs1 h
      obtain ⟨r7, hr7, h⟩ := bs1 h
      have Kr7 : KO Tryz.prog [(p0.length : Int), v1, v2, e6.1, e6.2.1, e6.2.2, r7] [(p0.flatMap enIII)] ⟨135, 2, [some (1, 0)], [.gs 0 0 (.v 0) 1 false], [some (.rows 0 [] 3 true)], [.num (.c 3) (.v 0), .lst 0 none [(ys 3), (ys 4), (ys 5)]], 1, .ss (.v 0), [none], .ss (.v 6), [], []⟩ := fun N M => ⟨_, _, [(ns 0 6)], ⟨r4_text_ok fu ([e6.1, e6.2.1, e6.2.2] : List (Int)) r7 hr7, ⟨rfl, rfl, tv⟩, by kernel_rfl, ⟨rfl, tv⟩⟩⟩
      by_cases h8 : (sln (scat v1 (30 : Int))) < (4611686018427387904 : Int)
      ·rw [if_pos h8] at h
       by_cases h9 : (sln r7) < (4611686018427387904 : Int)
       ·rw [if_pos h9] at h
        refine to_done mixed ⟨[(.lss, (.v 2), (.v 0), true), (.gtr, (.v 2), (.c 0), true), (.lss, (.sln (.v 1)), (.c 4611686018427387904), true), (.lss, (.sln (.c 30)), (.c 4611686018427387904), true), (.leq, (.c 0), (.v 2), true), (.lss, (.sln (.cat (.v 1) (.c 30))), (.c 4611686018427387904), true), (.lss, (.sln (.v 6)), (.c 4611686018427387904), true)], [(0, 0, (.v 2), [(ys 3), (ys 4), (ys 5)])], [(0, 3, (.v 0))], [⟨135, 2, [some (1, 0)], [.gs 0 0 (.v 0) 1 false], [some (.rows 0 [] 3 true)], [.num (.c 3) (.v 0), .lst 0 none [(ys 3), (ys 4), (ys 5)]], 1, .ss (.v 0), [none], .ss (.v 6), [], []⟩], [], []⟩ (V := (vals [(p0.length : Int), v1, v2, e6.1, e6.2.1, e6.2.2, r7] [(p0.flatMap enIII)])) (n := 3000) (f := 3000) (fid := 51) (fun _ => rfl) (V' := (vals [(p0.length : Int), (scat (scat v1 (30 : Int)) r7), (IntKind.wrap .i64 (v2 + (1 : Int)))] [(p0.flatMap enIII)])) ⟨⟨lss_t h1, gtr_t h2, lss_t h3, lss_t h4, leq_t (a := (0 : Int)) (b := v2) (by omega), lss_t h8, lss_t h9, tv⟩, ⟨⟨(show (0 : Int) ≤ v2 by omega), _, rfl, flat_row enIII_len he6⟩, tv⟩, ⟨flat_length enIII_len _, tv⟩, tv, tv⟩ ⟨Kr7 _ _, tv⟩ (T := ⟨[(0, .gs 0 0 (.v 0) 3 false), (3, .ss (.v 1)), (4, (ys 2))], [some (.rows 0 [] 209 true)], [some (0, 0)]⟩) (ce := .normal) (qs := [(ns 0 0), .num (.cat (.cat (.v 1) (.c 30)) (.v 6)) (.v 1), .num (.add .i64 (.v 2) (.c 1)) (.v 2), .lst 0 (some 0) []]) rfl tv hF hr (by kernel_rfl) ⟨(r (p0.length : Int)), (r (scat (scat v1 (30 : Int)) r7)), (r (IntKind.wrap .i64 (v2 + (1 : Int)))), ⟨[], rfl, lnil _⟩, tv⟩ (at_re (V' := (vals [(p0.length : Int), v1, v2, e6.1, e6.2.1, e6.2.2, r7] [(p0.flatMap enIII)])) (T := ⟨[(0, .gs 0 0 (.v 0) 3 false), (3, .ss (.v 1)), (4, (ys 2))], [some (.rows 0 [] 209 true)], [some (0, 0)]⟩) (qs := [(ns 0 0), (ns 1 1), (ns 2 2), .lst 0 (some 0) []]) hat (by kernel_rfl) ⟨rfl, rfl, rfl, ⟨[], rfl, lnil _⟩, tv⟩) fun a' w' hat' => ?_
        exact r4_FormatDevices_L1_ok fu p0 n (scat (scat v1 (30 : Int)) r7) (IntKind.wrap .i64 (v2 + (1 : Int))) o h _ _ _ _ _ _ _ hF hr hat' hx0
       ·rw [if_neg h9] at h
        cases h
      ·rw [if_neg h8] at h
       cases h
     ·rw [if_neg h4] at h
      cases h
    ·rw [if_neg h3] at h
     cases h
   ·rw [if_neg h2] at h
    by_cases h10 : (0 : Int) ≤ v2
    ·rw [if_pos h10] at h
     obtain ⟨e11, he11, h⟩ := bs1 h
     obtain ⟨r12, hr12, h⟩ := bs1 h
     have Kr12 : KO Tryz.prog [(p0.length : Int), v1, v2, e11.1, e11.2.1, e11.2.2, r12] [(p0.flatMap enIII)] ⟨135, 2, [some (1, 0)], [.gs 0 0 (.v 0) 1 false], [some (.rows 0 [] 3 true)], [.num (.c 3) (.v 0), .lst 0 none [(ys 3), (ys 4), (ys 5)]], 1, .ss (.v 0), [none], .ss (.v 6), [], []⟩ := fun N M => ⟨_, _, [(ns 0 6)], ⟨r4_text_ok fu ([e11.1, e11.2.1, e11.2.2] : List (Int)) r12 hr12, ⟨rfl, rfl, tv⟩, by kernel_rfl, ⟨rfl, tv⟩⟩⟩
     by_cases h13 : (sln v1) < (4611686018427387904 : Int)
     ·rw [if_pos h13] at h
      by_cases h14 : (sln r12) < (4611686018427387904 : Int)
      ·rw [if_pos h14] at h
       refine to_done mixed ⟨[(.lss, (.v 2), (.v 0), true), (.gtr, (.v 2), (.c 0), false), (.leq, (.c 0), (.v 2), true), (.lss, (.sln (.v 1)), (.c 4611686018427387904), true), (.lss, (.sln (.v 6)), (.c 4611686018427387904), true)], [(0, 0, (.v 2), [(ys 3), (ys 4), (ys 5)])], [(0, 3, (.v 0))], [⟨135, 2, [some (1, 0)], [.gs 0 0 (.v 0) 1 false], [some (.rows 0 [] 3 true)], [.num (.c 3) (.v 0), .lst 0 none [(ys 3), (ys 4), (ys 5)]], 1, .ss (.v 0), [none], .ss (.v 6), [], []⟩], [], []⟩ (V := (vals [(p0.length : Int), v1, v2, e11.1, e11.2.1, e11.2.2, r12] [(p0.flatMap enIII)])) (n := 3000) (f := 3000) (fid := 51) (fun _ => rfl) (V' := (vals [(p0.length : Int), (scat v1 r12), (IntKind.wrap .i64 (v2 + (1 : Int)))] [(p0.flatMap enIII)])) ⟨⟨lss_t h1, gtr_f h2, leq_t h10, lss_t h13, lss_t h14, tv⟩, ⟨⟨h10, _, rfl, flat_row enIII_len he11⟩, tv⟩, ⟨flat_length enIII_len _, tv⟩, tv, tv⟩ ⟨Kr12 _ _, tv⟩ (T := ⟨[(0, .gs 0 0 (.v 0) 3 false), (3, .ss (.v 1)), (4, (ys 2))], [some (.rows 0 [] 209 true)], [some (0, 0)]⟩) (ce := .normal) (qs := [(ns 0 0), .num (.cat (.v 1) (.v 6)) (.v 1), .num (.add .i64 (.v 2) (.c 1)) (.v 2), .lst 0 (some 0) []]) rfl tv hF hr (by kernel_rfl) ⟨(r (p0.length : Int)), (r (scat v1 r12)), (r (IntKind.wrap .i64 (v2 + (1 : Int)))), ⟨[], rfl, lnil _⟩, tv⟩ (at_re (V' := (vals [(p0.length : Int), v1, v2, e11.1, e11.2.1, e11.2.2, r12] [(p0.flatMap enIII)])) (T := ⟨[(0, .gs 0 0 (.v 0) 3 false), (3, .ss (.v 1)), (4, (ys 2))], [some (.rows 0 [] 209 true)], [some (0, 0)]⟩) (qs := [(ns 0 0), (ns 1 1), (ns 2 2), .lst 0 (some 0) []]) hat (by kernel_rfl) ⟨rfl, rfl, rfl, ⟨[], rfl, lnil _⟩, tv⟩) fun a' w' hat' => ?_
       exact r4_FormatDevices_L1_ok fu p0 n (scat v1 r12) (IntKind.wrap .i64 (v2 + (1 : Int))) o h _ _ _ _ _ _ _ hF hr hat' hx0
      ·rw [if_neg h14] at h
       cases h
     ·rw [if_neg h13] at h
      cases h
    ·rw [if_neg h10] at h
     cases h
  ·rw [if_neg h1] at h
   injection h with h; subst h
   exact to_done mixed ⟨[(.lss, (.v 2), (.v 0), false)], [], [(0, 3, (.v 0))], [], [], []⟩ (V := (vals [(p0.length : Int), v1, v2] [(p0.flatMap enIII)])) (n := 3000) (f := 3000) (fid := 51) (fun _ => rfl) (V' := (vals [(p0.length : Int), v1] [(p0.flatMap enIII)])) ⟨⟨lss_f h1, tv⟩, tv, ⟨flat_length enIII_len _, tv⟩, tv, tv⟩ tv (T := ⟨[(3, .ss (.v 1))], [some (.rows 0 [] 209 true)], [some (0, 0)]⟩) (ce := (.exit 0)) (qs := [(ns 1 1), .lst 0 (some 0) []]) rfl tv hF hr (by kernel_rfl) ⟨(r v1), ⟨[], rfl, lnil _⟩, tv⟩ hat fun a' w' hat' => hx0 v1 rfl a' w' hat'
def r4_FormatDevices (fu : Nat) (a0 : List (Int × Int × Int)) : Option (Int) := Option.bind (r4_FormatDevices_L1 fu a0 fu (0 : Int) (0 : Int)) fun o1 => some o1
theorem r4_FormatDevices_ok (fu : Nat) (a0 : List (Int × Int × Int)) (y : Int) (h : r4_FormatDevices fu a0 = some y) : CallOk Tryz.prog 51 (vals [(a0.length : Int)] [(a0.flatMap enIII)]) [.gs 0 0 (.v 0) 3 false] [some (.rows 0 [] 209 true)] 1 (vals [y] []) (.ss (.v 0)) [none] := by
 refine fun_of (nt := 35) (by kernel_rfl) (by kernel_rfl) fun φ0 w0 a w hat => ?_
 have hF := wide_fw
 have hr : Fence.wide.round = none := rfl
 unfold r4_FormatDevices at h
 obtain ⟨o1, ho1, h⟩ := bs1 h
 refine to_loop mixed ⟨[], [], [(0, 3, (.v 0))], [], [], []⟩ (V := (vals [(a0.length : Int)] [(a0.flatMap enIII)])) (n := 3000) (f := 3000) (fid := 51) (fun _ => rfl) (V' := (vals [(a0.length : Int), (0 : Int), (0 : Int)] [(a0.flatMap enIII)])) ⟨tv, tv, ⟨flat_length enIII_len _, tv⟩, tv, tv⟩ tv (T := ⟨[(0, .gs 0 0 (.v 0) 3 false), (3, .ss (.v 1)), (4, (ys 2))], [some (.rows 0 [] 209 true)], [some (0, 0)]⟩) (B := subAt (bodyOf Tryz.prog 51) [1, 1, 0, 1, 0, 0]) (K' := [.bk 0, .sq (subAt (bodyOf Tryz.prog 51) [1, 1, 1]) [1, 1, 1]]) (qs := [(ns 0 0), .num (.c 0) (.v 1), .num (.c 0) (.v 2), .lst 0 (some 0) []]) wok0 tv hF hr (by kernel_rfl) ⟨(r (a0.length : Int)), (r (0 : Int)), (r (0 : Int)), ⟨[], rfl, lnil _⟩, tv⟩ hat fun aa1 ww1 hat1 => loop_in (r4_FormatDevices_L1_ok fu a0 fu (0 : Int) (0 : Int) o1 ho1 _ _ _ _ _ _ _ hF hr hat1 ?_)
 ·intro yy hy aa2 ww2 hat
  subst hy
  show (Wk.out (.exit 0)).goal _ _ _ [.bk 0, .sq (subAt (bodyOf Tryz.prog 51) [1, 1, 1]) [1, 1, 1]] _ aa2 ww2
  injection h with h; subst h
  exact to_fin mixed ⟨[], [], [(0, 3, (.v 0))], [], [], []⟩ (V := (vals [(a0.length : Int), o1] [(a0.flatMap enIII)])) (n := 3000) (f := 3000) (fid := 51) (fun _ => rfl) ⟨tv, tv, ⟨flat_length enIII_len _, tv⟩, tv, tv⟩ tv (R := ⟨.ss (.v 0), [none], [some (0, 0)]⟩) (qs := [(ns 1 0)]) tv ⟨rfl, tv⟩ hF hr (by kernel_rfl) ⟨(r o1), tv⟩ hat
def r4_FormatScene_L1 (fu : Nat) (p0 : List (Int × Int × Int × Int × Bool)) (p1 : Int) (p2 : Int) : Nat → Int → Int → Option ((Int))
 | 0, _, _ => none
 | n + 1, v3, v4 => if v4 < (p0.length : Int) then (if (0 : Int) ≤ v4 then (Option.bind ((p0)[0 + (v4).toNat]?) fun e3 => if e3.2.2.2.2 = true then (if (sln v3) < (4611686018427387904 : Int) then (if (sln (30 : Int)) < (4611686018427387904 : Int) then (Option.bind (r4_text fu ([e3.1, e3.2.1, e3.2.2.1, e3.2.2.2.1, (1 : Int)] : List (Int))) fun r7 => if (sln (scat v3 (30 : Int))) < (4611686018427387904 : Int) then (if (sln r7) < (4611686018427387904 : Int) then (r4_FormatScene_L1 fu p0 p1 p2 n (scat (scat v3 (30 : Int)) r7) (IntKind.wrap .i64 (v4 + (1 : Int)))) else none) else none) else none) else none) else (if (sln v3) < (4611686018427387904 : Int) then (if (sln (30 : Int)) < (4611686018427387904 : Int) then (Option.bind (r4_text fu ([e3.1, e3.2.1, e3.2.2.1, e3.2.2.2.1, (0 : Int)] : List (Int))) fun r12 => if (sln (scat v3 (30 : Int))) < (4611686018427387904 : Int) then (if (sln r12) < (4611686018427387904 : Int) then (r4_FormatScene_L1 fu p0 p1 p2 n (scat (scat v3 (30 : Int)) r12) (IntKind.wrap .i64 (v4 + (1 : Int)))) else none) else none) else none) else none)) else none) else (some v3)
theorem r4_FormatScene_L1_ok (fu : Nat) (p0 : List (Int × Int × Int × Int × Bool)) (p1 : Int) (p2 : Int) : ∀ (n : Nat) (v3 : Int) (v4 : Int) (o : (Int)), r4_FormatScene_L1 fu p0 p1 p2 n v3 v4 = some o → ∀ (φ0 : Phi) (w0 : World) (F : Fence) (k : Nat) (R : Exit → Act → World → Prop) (a : Act) (w : World), FW F → F.round = none → AtS (vals [(p0.length : Int), p1, p2, v3, v4] [(p0.flatMap enIIIIB)]) [(1, .ptr 1 0), (3, .ss (.v 3)), (4, (ys 4))] [some (.rows 0 [] 214 true), some (.cells [(ys 1), (ys 2), .gs 0 0 (.v 0) 5 false] 74 false)] 46 1 1 φ0 w0 a w → (∀ (y : Int), o = y → ∀ a' w', AtS (vals [(p0.length : Int), y] [(p0.flatMap enIIIIB)]) [(3, .ss (.v 1))] [some (.rows 0 [] 214 true)] 46 1 1 φ0 w0 a' w' → R (Exit.exit 0) a' w') → Code.roundsIn F k Tryz.prog (subAt (bodyOf Tryz.prog 52) [1, 1, 0, 1, 0, 0]) R n a w
 | 0, _, _, _, h => by cases h
 | n + 1, v3, v4, o, h => by
  intro φ0 w0 F k R a w hF hr hat hx0
  rw [r4_FormatScene_L1] at h
  refine rounds_in (p := [1, 1, 0, 1, 0, 0]) ?_
  by_cases h1 : v4 < (p0.length : Int)
  ·rw [if_pos h1] at h
   by_cases h2 : (0 : Int) ≤ v4
   ·rw [if_pos h2] at h
    obtain ⟨e3, he3, h⟩ := bs1 h
    by_cases h4 : e3.2.2.2.2 = true
    ·rw [if_pos h4] at h
     by_cases h5 : (sln v3) < (4611686018427387904 : Int)
     ·rw [if_pos h5] at h
      by_cases h6 : (sln (30 : Int)) < (4611686018427387904 : Int)
      ·rw [if_pos h6] at h
       obtain ⟨r7, hr7, h⟩ := bs1 h
       have Kr7 : KO Tryz.prog [(p0.length : Int), p1, p2, v3, v4, e3.1, e3.2.1, e3.2.2.1, e3.2.2.2.1, bI e3.2.2.2.2, r7] [(p0.flatMap enIIIIB)] ⟨135, 4, [some (3, 0)], [.gs 0 0 (.v 0) 1 false], [some (.rows 0 [] 3 true)], [.num (.c 5) (.v 0), .lst 0 none [(ys 5), (ys 6), (ys 7), (ys 8), .int .i64 1]], 1, .ss (.v 0), [none], .ss (.v 10), [], []⟩ := fun N M => ⟨_, _, [(ns 0 10)], ⟨r4_text_ok fu ([e3.1, e3.2.1, e3.2.2.1, e3.2.2.2.1, (1 : Int)] : List (Int)) r7 hr7, ⟨rfl, rfl, tv⟩, by kernel_rfl, ⟨rfl, tv⟩⟩⟩
       by_cases h8 : (sln (scat v3 (30 : Int))) < (4611686018427387904 : Int)
       ·rw [if_pos h8] at h
        by_cases h9 : (sln r7) < (4611686018427387904 : Int)
        ·rw [if_pos h9] at h
         refine to_done mixed ⟨[(.lss, (.v 4), (.v 0), true), (.leq, (.c 0), (.v 4), true), (.neq, (.v 9), (.c 0), true), (.lss, (.sln (.v 3)), (.c 4611686018427387904), true), (.lss, (.sln (.c 30)), (.c 4611686018427387904), true), (.lss, (.sln (.cat (.v 3) (.c 30))), (.c 4611686018427387904), true), (.lss, (.sln (.v 10)), (.c 4611686018427387904), true)], [(0, 0, (.v 4), [(ys 5), (ys 6), (ys 7), (ys 8), .bs (.v 9)])], [(0, 5, (.v 0))], [⟨135, 4, [some (3, 0)], [.gs 0 0 (.v 0) 1 false], [some (.rows 0 [] 3 true)], [.num (.c 5) (.v 0), .lst 0 none [(ys 5), (ys 6), (ys 7), (ys 8), .int .i64 1]], 1, .ss (.v 0), [none], .ss (.v 10), [], []⟩], [], []⟩ (V := (vals [(p0.length : Int), p1, p2, v3, v4, e3.1, e3.2.1, e3.2.2.1, e3.2.2.2.1, bI e3.2.2.2.2, r7] [(p0.flatMap enIIIIB)])) (n := 3000) (f := 3000) (fid := 52) (fun _ => rfl) (V' := (vals [(p0.length : Int), p1, p2, (scat (scat v3 (30 : Int)) r7), (IntKind.wrap .i64 (v4 + (1 : Int)))] [(p0.flatMap enIIIIB)])) ⟨⟨lss_t h1, leq_t h2, bi_t h4, lss_t h5, lss_t h6, lss_t h8, lss_t h9, tv⟩, ⟨⟨h2, _, rfl, flat_row enIIIIB_len he3⟩, tv⟩, ⟨flat_length enIIIIB_len _, tv⟩, tv, tv⟩ ⟨Kr7 _ _, tv⟩ (T := ⟨[(1, .ptr 1 0), (3, .ss (.v 3)), (4, (ys 4))], [some (.rows 0 [] 214 true), some (.cells [(ys 1), (ys 2), .gs 0 0 (.v 0) 5 false] 74 false)], [some (0, 0), some (1, 0)]⟩) (ce := .normal) (qs := [.num (.cat (.cat (.v 3) (.c 30)) (.v 10)) (.v 3), .num (.add .i64 (.v 4) (.c 1)) (.v 4), .lst 0 (some 0) [], (ns 1 1), (ns 2 2), (ns 0 0)]) rfl tv hF hr (by kernel_rfl) ⟨(r (scat (scat v3 (30 : Int)) r7)), (r (IntKind.wrap .i64 (v4 + (1 : Int)))), ⟨[], rfl, lnil _⟩, (r p1), (r p2), (r (p0.length : Int)), tv⟩ (at_re (V' := (vals [(p0.length : Int), p1, p2, v3, v4, e3.1, e3.2.1, e3.2.2.1, e3.2.2.2.1, bI e3.2.2.2.2, r7] [(p0.flatMap enIIIIB)])) (T := ⟨[(1, .ptr 1 0), (3, .ss (.v 3)), (4, (ys 4))], [some (.rows 0 [] 214 true), some (.cells [(ys 1), (ys 2), .gs 0 0 (.v 0) 5 false] 74 false)], [some (0, 0), some (1, 0)]⟩) (qs := [(ns 3 3), (ns 4 4), .lst 0 (some 0) [], (ns 1 1), (ns 2 2), (ns 0 0)]) hat (by kernel_rfl) ⟨rfl, rfl, ⟨[], rfl, lnil _⟩, rfl, rfl, rfl, tv⟩) fun a' w' hat' => ?_
         exact r4_FormatScene_L1_ok fu p0 p1 p2 n (scat (scat v3 (30 : Int)) r7) (IntKind.wrap .i64 (v4 + (1 : Int))) o h _ _ _ _ _ _ _ hF hr hat' hx0
        ·rw [if_neg h9] at h
         cases h
       ·rw [if_neg h8] at h
        cases h
      ·rw [if_neg h6] at h
       cases h
     ·rw [if_neg h5] at h
      cases h
    ·rw [if_neg h4] at h
     by_cases h10 : (sln v3) < (4611686018427387904 : Int)
     ·rw [if_pos h10] at h
      by_cases h11 : (sln (30 : Int)) < (4611686018427387904 : Int)
      ·rw [if_pos h11] at h
       obtain ⟨r12, hr12, h⟩ := bs1 h
       have Kr12 : KO Tryz.prog [(p0.length : Int), p1, p2, v3, v4, e3.1, e3.2.1, e3.2.2.1, e3.2.2.2.1, bI e3.2.2.2.2, r12] [(p0.flatMap enIIIIB)] ⟨135, 4, [some (3, 0)], [.gs 0 0 (.v 0) 1 false], [some (.rows 0 [] 3 true)], [.num (.c 5) (.v 0), .lst 0 none [(ys 5), (ys 6), (ys 7), (ys 8), .int .i64 0]], 1, .ss (.v 0), [none], .ss (.v 10), [], []⟩ := fun N M => ⟨_, _, [(ns 0 10)], ⟨r4_text_ok fu ([e3.1, e3.2.1, e3.2.2.1, e3.2.2.2.1, (0 : Int)] : List (Int)) r12 hr12, ⟨rfl, rfl, tv⟩, by kernel_rfl, ⟨rfl, tv⟩⟩⟩
       by_cases h13 : (sln (scat v3 (30 : Int))) < (4611686018427387904 : Int)
       ·rw [if_pos h13] at h
        by_cases h14 : (sln r12) < (4611686018427387904 : Int)
        ·rw [if_pos h14] at h
         refine to_done mixed ⟨[(.lss, (.v 4), (.v 0), true), (.leq, (.c 0), (.v 4), true), (.neq, (.v 9), (.c 0), false), (.lss, (.sln (.v 3)), (.c 4611686018427387904), true), (.lss, (.sln (.c 30)), (.c 4611686018427387904), true), (.lss, (.sln (.cat (.v 3) (.c 30))), (.c 4611686018427387904), true), (.lss, (.sln (.v 10)), (.c 4611686018427387904), true)], [(0, 0, (.v 4), [(ys 5), (ys 6), (ys 7), (ys 8), .bs (.v 9)])], [(0, 5, (.v 0))], [⟨135, 4, [some (3, 0)], [.gs 0 0 (.v 0) 1 false], [some (.rows 0 [] 3 true)], [.num (.c 5) (.v 0), .lst 0 none [(ys 5), (ys 6), (ys 7), (ys 8), .int .i64 0]], 1, .ss (.v 0), [none], .ss (.v 10), [], []⟩], [], []⟩ (V := (vals [(p0.length : Int), p1, p2, v3, v4, e3.1, e3.2.1, e3.2.2.1, e3.2.2.2.1, bI e3.2.2.2.2, r12] [(p0.flatMap enIIIIB)])) (n := 3000) (f := 3000) (fid := 52) (fun _ => rfl) (V' := (vals [(p0.length : Int), p1, p2, (scat (scat v3 (30 : Int)) r12), (IntKind.wrap .i64 (v4 + (1 : Int)))] [(p0.flatMap enIIIIB)])) ⟨⟨lss_t h1, leq_t h2, bi_f h4, lss_t h10, lss_t h11, lss_t h13, lss_t h14, tv⟩, ⟨⟨h2, _, rfl, flat_row enIIIIB_len he3⟩, tv⟩, ⟨flat_length enIIIIB_len _, tv⟩, tv, tv⟩ ⟨Kr12 _ _, tv⟩ (T := ⟨[(1, .ptr 1 0), (3, .ss (.v 3)), (4, (ys 4))], [some (.rows 0 [] 214 true), some (.cells [(ys 1), (ys 2), .gs 0 0 (.v 0) 5 false] 74 false)], [some (0, 0), some (1, 0)]⟩) (ce := .normal) (qs := [.num (.cat (.cat (.v 3) (.c 30)) (.v 10)) (.v 3), .num (.add .i64 (.v 4) (.c 1)) (.v 4), .lst 0 (some 0) [], (ns 1 1), (ns 2 2), (ns 0 0)]) rfl tv hF hr (by kernel_rfl) ⟨(r (scat (scat v3 (30 : Int)) r12)), (r (IntKind.wrap .i64 (v4 + (1 : Int)))), ⟨[], rfl, lnil _⟩, (r p1), (r p2), (r (p0.length : Int)), tv⟩ (at_re (V' := (vals [(p0.length : Int), p1, p2, v3, v4, e3.1, e3.2.1, e3.2.2.1, e3.2.2.2.1, bI e3.2.2.2.2, r12] [(p0.flatMap enIIIIB)])) (T := ⟨[(1, .ptr 1 0), (3, .ss (.v 3)), (4, (ys 4))], [some (.rows 0 [] 214 true), some (.cells [(ys 1), (ys 2), .gs 0 0 (.v 0) 5 false] 74 false)], [some (0, 0), some (1, 0)]⟩) (qs := [(ns 3 3), (ns 4 4), .lst 0 (some 0) [], (ns 1 1), (ns 2 2), (ns 0 0)]) hat (by kernel_rfl) ⟨rfl, rfl, ⟨[], rfl, lnil _⟩, rfl, rfl, rfl, tv⟩) fun a' w' hat' => ?_
         exact r4_FormatScene_L1_ok fu p0 p1 p2 n (scat (scat v3 (30 : Int)) r12) (IntKind.wrap .i64 (v4 + (1 : Int))) o h _ _ _ _ _ _ _ hF hr hat' hx0
        ·rw [if_neg h14] at h
         cases h
       ·rw [if_neg h13] at h
        cases h
      ·rw [if_neg h11] at h
       cases h
     ·rw [if_neg h10] at h
      cases h
   ·rw [if_neg h2] at h
    cases h
  ·rw [if_neg h1] at h
   injection h with h; subst h
   exact to_done mixed ⟨[(.lss, (.v 4), (.v 0), false)], [], [(0, 5, (.v 0))], [], [], []⟩ (V := (vals [(p0.length : Int), p1, p2, v3, v4] [(p0.flatMap enIIIIB)])) (n := 3000) (f := 3000) (fid := 52) (fun _ => rfl) (V' := (vals [(p0.length : Int), v3] [(p0.flatMap enIIIIB)])) ⟨⟨lss_f h1, tv⟩, tv, ⟨flat_length enIIIIB_len _, tv⟩, tv, tv⟩ tv (T := ⟨[(3, .ss (.v 1))], [some (.rows 0 [] 214 true)], [some (0, 0)]⟩) (ce := (.exit 0)) (qs := [(ns 3 1), .lst 0 (some 0) []]) rfl tv hF hr (by kernel_rfl) ⟨(r v3), ⟨[], rfl, lnil _⟩, tv⟩ hat fun a' w' hat' => hx0 v3 rfl a' w' hat'
def r4_FormatScene (fu : Nat) (a0_0 : Int) (a0_1 : Int) (a0_2 : List (Int × Int × Int × Int × Bool)) : Option (Int) := Option.bind (r4_text fu ([a0_0, a0_1] : List (Int))) fun r1 => Option.bind (r4_FormatScene_L1 fu a0_2 a0_0 a0_1 fu r1 (0 : Int)) fun o2 => some o2
theorem r4_FormatScene_ok (fu : Nat) (a0_0 : Int) (a0_1 : Int) (a0_2 : List (Int × Int × Int × Int × Bool)) (y : Int) (h : r4_FormatScene fu a0_0 a0_1 a0_2 = some y) : CallOk Tryz.prog 52 (vals [a0_0, a0_1, (a0_2.length : Int)] [(a0_2.flatMap enIIIIB)]) [.agg [(ys 0), (ys 1), .gs 0 0 (.v 2) 5 false]] [some (.rows 0 [] 214 true)] 1 (vals [y] []) (.ss (.v 0)) [none] := by
 refine fun_of (nt := 46) (by kernel_rfl) (by kernel_rfl) fun φ0 w0 a w hat => ?_
 have hF := wide_fw
 have hr : Fence.wide.round = none := rfl
 unfold r4_FormatScene at h
 obtain ⟨r1, hr1, h⟩ := bs1 h
 have Kr1 : KO Tryz.prog [a0_0, a0_1, (a0_2.length : Int), r1] [(a0_2.flatMap enIIIIB)] ⟨135, 3, [some (2, 0)], [.gs 0 0 (.v 0) 1 false], [some (.rows 0 [] 3 true)], [.num (.c 2) (.v 0), .lst 0 none [(ys 0), (ys 1)]], 1, .ss (.v 0), [none], .ss (.v 3), [], []⟩ := fun N M => ⟨_, _, [(ns 0 3)], ⟨r4_text_ok fu ([a0_0, a0_1] : List (Int)) r1 hr1, ⟨rfl, rfl, tv⟩, by kernel_rfl, ⟨rfl, tv⟩⟩⟩
 obtain ⟨o2, ho2, h⟩ := bs1 h
 refine to_loop mixed ⟨[], [], [(0, 5, (.v 2))], [⟨135, 3, [some (2, 0)], [.gs 0 0 (.v 0) 1 false], [some (.rows 0 [] 3 true)], [.num (.c 2) (.v 0), .lst 0 none [(ys 0), (ys 1)]], 1, .ss (.v 0), [none], .ss (.v 3), [], []⟩], [], []⟩ (V := (vals [a0_0, a0_1, (a0_2.length : Int), r1] [(a0_2.flatMap enIIIIB)])) (n := 3000) (f := 3000) (fid := 52) (fun _ => rfl) (V' := (vals [(a0_2.length : Int), a0_0, a0_1, r1, (0 : Int)] [(a0_2.flatMap enIIIIB)])) ⟨tv, tv, ⟨flat_length enIIIIB_len _, tv⟩, tv, tv⟩ ⟨Kr1 _ _, tv⟩ (T := ⟨[(1, .ptr 1 0), (3, .ss (.v 3)), (4, (ys 4))], [some (.rows 0 [] 214 true), some (.cells [(ys 1), (ys 2), .gs 0 0 (.v 0) 5 false] 74 false)], [some (0, 0), some (1, 0)]⟩) (B := subAt (bodyOf Tryz.prog 52) [1, 1, 0, 1, 0, 0]) (K' := [.bk 0, .sq (subAt (bodyOf Tryz.prog 52) [1, 1, 1]) [1, 1, 1]]) (qs := [(ns 3 3), .num (.c 0) (.v 4), .lst 0 (some 0) [], (ns 0 1), (ns 1 2), (ns 2 0)]) wok0 tv hF hr (by kernel_rfl) ⟨(r r1), (r (0 : Int)), ⟨[], rfl, lnil _⟩, (r a0_0), (r a0_1), (r (a0_2.length : Int)), tv⟩ (at_re (V' := (vals [a0_0, a0_1, (a0_2.length : Int), r1] [(a0_2.flatMap enIIIIB)])) (T := ⟨[(0, .agg [(ys 0), (ys 1), .gs 0 0 (.v 2) 5 false])], [some (.rows 0 [] 214 true)], [some (0, 0)]⟩) (qs := [(ns 0 0), (ns 1 1), (ns 2 2), .lst 0 (some 0) []]) hat (by kernel_rfl) ⟨rfl, rfl, rfl, ⟨[], rfl, lnil _⟩, tv⟩) fun aa1 ww1 hat1 => loop_in (r4_FormatScene_L1_ok fu a0_2 a0_0 a0_1 fu r1 (0 : Int) o2 ho2 _ _ _ _ _ _ _ hF hr hat1 ?_)
 ·intro yy hy aa2 ww2 hat
  subst hy
  show (Wk.out (.exit 0)).goal _ _ _ [.bk 0, .sq (subAt (bodyOf Tryz.prog 52) [1, 1, 1]) [1, 1, 1]] _ aa2 ww2
  injection h with h; subst h
  exact to_fin mixed ⟨[], [], [(0, 5, (.v 0))], [], [], []⟩ (V := (vals [(a0_2.length : Int), o2] [(a0_2.flatMap enIIIIB)])) (n := 3000) (f := 3000) (fid := 52) (fun _ => rfl) ⟨tv, tv, ⟨flat_length enIIIIB_len _, tv⟩, tv, tv⟩ tv (R := ⟨.ss (.v 0), [none], [some (0, 0)]⟩) (qs := [(ns 1 0)]) tv ⟨rfl, tv⟩ hF hr (by kernel_rfl) ⟨(r o2), tv⟩ hat
def r4_numbers_L1 (fu : Nat) (p0 : List (Int)) : Nat → List (Int) → Int → Option ((Unit) ⊕ (List (Int)))
 | 0, _, _ => none
 | n + 1, v1, v2 => if v2 < (p0.length : Int) then (if (0 : Int) ≤ v2 then (Option.bind ((p0)[0 + (v2).toNat]?) fun e3 => Option.bind (b_Number fu e3 (3 : Int)) fun r4 => if r4.2 = true then (if r4.1 < (0 : Int) then (some (.inl ())) else (if (v1.length : Int) < (65536 : Int) then (r4_numbers_L1 fu p0 n (v1 ++ [r4.1]) (IntKind.wrap .i64 (v2 + (1 : Int)))) else none)) else (some (.inl ()))) else none) else (some (.inr v1))
theorem r4_numbers_L1_ok (fu : Nat) (p0 : List (Int)) : ∀ (n : Nat) (v1 : List (Int)) (v2 : Int) (o : (Unit) ⊕ (List (Int))), r4_numbers_L1 fu p0 n v1 v2 = some o → ∀ (φ0 : Phi) (w0 : World) (F : Fence) (k : Nat) (R : Exit → Act → World → Prop) (a : Act) (w : World), FW F → F.round = none → AtS (vals [(p0.length : Int), (v1.length : Int), v2] [(p0.flatMap enS), (v1.flatMap enI)]) [(6, .gs 0 0 (.v 0) 1 true), (7, .gs 1 0 (.v 1) 1 true), (8, (ys 2))] [some (.rows 0 [] 9 false), some (.rows 1 [] 3 false)] 42 0 0 φ0 w0 a w → (∀ (y : Unit), o = .inl y → ∀ a' w', AtS (vals [] []) [(4, .nils), (5, .bool false)] [] 42 0 0 φ0 w0 a' w' → R Exit.ret a' w') → (∀ (y : List (Int)), o = .inr y → ∀ a' w', AtS (vals [(y.length : Int)] [(y.flatMap enI)]) [(7, .gs 0 0 (.v 0) 1 true)] [some (.rows 0 [] 3 false)] 42 0 0 φ0 w0 a' w' → R (Exit.exit 0) a' w') → Code.roundsIn F k Tryz.prog (subAt (bodyOf Tryz.prog 134) [1, 1, 1, 1, 0, 1, 0, 0]) R n a w
 | 0, _, _, _, h => by cases h
 | n + 1, v1, v2, o, h => by
  intro φ0 w0 F k R a w hF hr hat hx0 hx1
  rw [r4_numbers_L1] at h
  refine rounds_in (p := [1, 1, 1, 1, 0, 1, 0, 0]) ?_
  by_cases h1 : v2 < (p0.length : Int)
  ·rw [if_pos h1] at h
   by_cases h2 : (0 : Int) ≤ v2
   ·rw [if_pos h2] at h
    obtain ⟨e3, he3, h⟩ := bs1 h
    obtain ⟨r4, hr4, h⟩ := bs1 h
    have Kr4 : KO Tryz.prog [(p0.length : Int), (v1.length : Int), v2, e3, r4.1, bI r4.2] [(p0.flatMap enS), (v1.flatMap enI)] ⟨199, 2, [], [.ss (.v 0), (ys 1)], [], [(ns 3 0), .num (.c 3) (.v 1)], 0, .tup [(ys 0), .bs (.v 1)], [], .tup [(ys 4), .bs (.v 5)], [], []⟩ := fun N M => ⟨_, _, [(ns 0 4), (ns 1 5)], ⟨b_Number_ok fu e3 (3 : Int) r4 hr4, ⟨(r e3), (r (3 : Int)), tv⟩, by kernel_rfl, ⟨rfl, rfl, tv⟩⟩⟩
    by_cases h5 : r4.2 = true
    ·rw [if_pos h5] at h
     by_cases h6 : r4.1 < (0 : Int)
     ·rw [if_pos h6] at h
      injection h with h; subst h
      exact to_done mixed ⟨[(.lss, (.v 2), (.v 0), true), (.leq, (.c 0), (.v 2), true), (.neq, (.v 5), (.c 0), true), (.lss, (.v 4), (.c 0), true)], [(0, 0, (.v 2), [.ss (.v 3)])], [(0, 1, (.v 0)), (1, 1, (.v 1))], [⟨199, 2, [], [.ss (.v 0), (ys 1)], [], [(ns 3 0), .num (.c 3) (.v 1)], 0, .tup [(ys 0), .bs (.v 1)], [], .tup [(ys 4), .bs (.v 5)], [], []⟩], [], []⟩ (V := (vals [(p0.length : Int), (v1.length : Int), v2, e3, r4.1, bI r4.2] [(p0.flatMap enS), (v1.flatMap enI)])) (n := 3000) (f := 3000) (fid := 134) (fun _ => rfl) (V' := (vals [] [])) ⟨⟨lss_t h1, leq_t h2, bi_t h5, lss_t h6, tv⟩, ⟨⟨h2, _, rfl, flat_row enS_len he3⟩, tv⟩, ⟨flat_length enS_len _, flat_length enI_len _, tv⟩, tv, tv⟩ ⟨Kr4 _ _, tv⟩ (T := ⟨[(4, .nils), (5, .bool false)], [], []⟩) (ce := .ret) (qs := []) rfl tv hF hr (by kernel_rfl) tv (at_re (V' := (vals [(p0.length : Int), (v1.length : Int), v2, e3, r4.1, bI r4.2] [(p0.flatMap enS), (v1.flatMap enI)])) (T := ⟨[(6, .gs 0 0 (.v 0) 1 true), (7, .gs 1 0 (.v 1) 1 true), (8, (ys 2))], [some (.rows 0 [] 9 false), some (.rows 1 [] 3 false)], [some (0, 0), some (1, 0)]⟩) (qs := [(ns 0 0), (ns 1 1), (ns 2 2), .lst 0 (some 0) [], .lst 1 (some 1) []]) hat (by kernel_rfl) ⟨rfl, rfl, rfl, ⟨[], rfl, lnil _⟩, ⟨[], rfl, lnil _⟩, tv⟩) fun a' w' hat' => hx0 () rfl a' w' hat'
     ·rw [if_neg h6] at h
      by_cases h7 : (v1.length : Int) < (65536 : Int)
      ·rw [if_pos h7] at h
       refine to_done mixed ⟨[(.lss, (.v 2), (.v 0), true), (.leq, (.c 0), (.v 2), true), (.neq, (.v 5), (.c 0), true), (.lss, (.v 4), (.c 0), false), (.lss, (.v 1), (.c 65536), true)], [(0, 0, (.v 2), [.ss (.v 3)])], [(0, 1, (.v 0)), (1, 1, (.v 1))], [⟨199, 2, [], [.ss (.v 0), (ys 1)], [], [(ns 3 0), .num (.c 3) (.v 1)], 0, .tup [(ys 0), .bs (.v 1)], [], .tup [(ys 4), .bs (.v 5)], [], []⟩], [], []⟩ (V := (vals [(p0.length : Int), (v1.length : Int), v2, e3, r4.1, bI r4.2] [(p0.flatMap enS), (v1.flatMap enI)])) (n := 3000) (f := 3000) (fid := 134) (fun _ => rfl) (V' := (vals [(p0.length : Int), ((v1 ++ [r4.1]).length : Int), (IntKind.wrap .i64 (v2 + (1 : Int)))] [(p0.flatMap enS), ((v1 ++ [r4.1]).flatMap enI)])) ⟨⟨lss_t h1, leq_t h2, bi_t h5, lss_f h6, lss_t h7, tv⟩, ⟨⟨h2, _, rfl, flat_row enS_len he3⟩, tv⟩, ⟨flat_length enS_len _, flat_length enI_len _, tv⟩, tv, tv⟩ ⟨Kr4 _ _, tv⟩ (T := ⟨[(6, .gs 0 0 (.v 0) 1 true), (7, .gs 1 0 (.v 1) 1 true), (8, (ys 2))], [some (.rows 0 [] 9 false), some (.rows 1 [] 3 false)], [some (0, 0), some (3, 0)]⟩) (ce := .normal) (qs := [(ns 0 0), .num (.add .i64 (.v 1) (.c 1)) (.v 1), .num (.add .i64 (.v 2) (.c 1)) (.v 2), .lst 0 (some 0) [], .lst 1 (some 1) [(ys 4)]]) rfl tv hF hr (by kernel_rfl) ⟨(r (p0.length : Int)), (show (IntKind.wrap .i64 ((v1.length : Int) + (1 : Int))) = ((v1 ++ [r4.1]).length : Int) by first | rfl | (simp only [List.length_append, List.length_cons, List.length_nil]; rw [IntKind.wrap_i64]; omega)), (r (IntKind.wrap .i64 (v2 + (1 : Int)))), ⟨[], rfl, lnil _⟩, ⟨_, rfl, List.flatMap_append⟩, tv⟩ (at_re (V' := (vals [(p0.length : Int), (v1.length : Int), v2, e3, r4.1, bI r4.2] [(p0.flatMap enS), (v1.flatMap enI)])) (T := ⟨[(6, .gs 0 0 (.v 0) 1 true), (7, .gs 1 0 (.v 1) 1 true), (8, (ys 2))], [some (.rows 0 [] 9 false), some (.rows 1 [] 3 false)], [some (0, 0), some (1, 0)]⟩) (qs := [(ns 0 0), (ns 1 1), (ns 2 2), .lst 0 (some 0) [], .lst 1 (some 1) []]) hat (by kernel_rfl) ⟨rfl, rfl, rfl, ⟨[], rfl, lnil _⟩, ⟨[], rfl, lnil _⟩, tv⟩) fun a' w' hat' => ?_
       exact r4_numbers_L1_ok fu p0 n (v1 ++ [r4.1]) (IntKind.wrap .i64 (v2 + (1 : Int))) o h _ _ _ _ _ _ _ hF hr hat' hx0 hx1
      ·rw [if_neg h7] at h
       cases h
    ·rw [if_neg h5] at h
     injection h with h; subst h
     exact to_done mixed ⟨[(.lss, (.v 2), (.v 0), true), (.leq, (.c 0), (.v 2), true), (.neq, (.v 5), (.c 0), false)], [(0, 0, (.v 2), [.ss (.v 3)])], [(0, 1, (.v 0)), (1, 1, (.v 1))], [⟨199, 2, [], [.ss (.v 0), (ys 1)], [], [(ns 3 0), .num (.c 3) (.v 1)], 0, .tup [(ys 0), .bs (.v 1)], [], .tup [(ys 4), .bs (.v 5)], [], []⟩], [], []⟩ (V := (vals [(p0.length : Int), (v1.length : Int), v2, e3, r4.1, bI r4.2] [(p0.flatMap enS), (v1.flatMap enI)])) (n := 3000) (f := 3000) (fid := 134) (fun _ => rfl) (V' := (vals [] [])) ⟨⟨lss_t h1, leq_t h2, bi_f h5, tv⟩, ⟨⟨h2, _, rfl, flat_row enS_len he3⟩, tv⟩, ⟨flat_length enS_len _, flat_length enI_len _, tv⟩, tv, tv⟩ ⟨Kr4 _ _, tv⟩ (T := ⟨[(4, .nils), (5, .bool false)], [], []⟩) (ce := .ret) (qs := []) rfl tv hF hr (by kernel_rfl) tv (at_re (V' := (vals [(p0.length : Int), (v1.length : Int), v2, e3, r4.1, bI r4.2] [(p0.flatMap enS), (v1.flatMap enI)])) (T := ⟨[(6, .gs 0 0 (.v 0) 1 true), (7, .gs 1 0 (.v 1) 1 true), (8, (ys 2))], [some (.rows 0 [] 9 false), some (.rows 1 [] 3 false)], [some (0, 0), some (1, 0)]⟩) (qs := [(ns 0 0), (ns 1 1), (ns 2 2), .lst 0 (some 0) [], .lst 1 (some 1) []]) hat (by kernel_rfl) ⟨rfl, rfl, rfl, ⟨[], rfl, lnil _⟩, ⟨[], rfl, lnil _⟩, tv⟩) fun a' w' hat' => hx0 () rfl a' w' hat'
   ·rw [if_neg h2] at h
    cases h
  ·rw [if_neg h1] at h
   injection h with h; subst h
   exact to_done mixed ⟨[(.lss, (.v 2), (.v 0), false)], [], [(0, 1, (.v 0)), (1, 1, (.v 1))], [], [], []⟩ (V := (vals [(p0.length : Int), (v1.length : Int), v2] [(p0.flatMap enS), (v1.flatMap enI)])) (n := 3000) (f := 3000) (fid := 134) (fun _ => rfl) (V' := (vals [(v1.length : Int)] [(v1.flatMap enI)])) ⟨⟨lss_f h1, tv⟩, tv, ⟨flat_length enS_len _, flat_length enI_len _, tv⟩, tv, tv⟩ tv (T := ⟨[(7, .gs 0 0 (.v 0) 1 true)], [some (.rows 0 [] 3 false)], [some (1, 0)]⟩) (ce := (.exit 0)) (qs := [(ns 1 0), .lst 0 (some 1) []]) rfl tv hF hr (by kernel_rfl) ⟨(r (v1.length : Int)), ⟨[], rfl, lnil _⟩, tv⟩ hat fun a' w' hat' => hx1 v1 rfl a' w' hat'
def r4_numbers (fu : Nat) (a0 : Int) (a1 : Int) : Option (List (Int) × Bool) := Option.bind (b_Cut fu a0 (32 : Int)) fun r1 => if (r1.length : Int) = a1 then (Option.bind (r4_numbers_L1 fu r1 fu ([] : List (Int)) (0 : Int)) fun o3 => (match o3 with | .inl y4 => (some (([] : List (Int)), false)) | .inr y5 => (some (y5, true)))) else (some (([] : List (Int)), false))
theorem r4_numbers_ok (fu : Nat) (a0 : Int) (a1 : Int) (y : List (Int) × Bool) (h : r4_numbers fu a0 a1 = some y) : CallOk Tryz.prog 134 (vals [a0, a1] []) [.ss (.v 0), (ys 1)] [] 0 (vals [(y.1.length : Int), bI y.2] [(y.1.flatMap enI)]) (.tup [.gs 0 0 (.v 0) 1 true, .bs (.v 1)]) [some (.rows 0 [] 3 false)] := by
 refine fun_of (nt := 42) (by kernel_rfl) (by kernel_rfl) fun φ0 w0 a w hat => ?_
 have hF := wide_fw
 have hr : Fence.wide.round = none := rfl
 unfold r4_numbers at h
 obtain ⟨r1, hr1, h⟩ := bs1 h
 have Kr1 : KO Tryz.prog [a0, a1, (r1.length : Int)] [(r1.flatMap enS)] ⟨95, 0, [], [.ss (.v 0), .sym .u8 (.v 1)], [], [(ns 0 0), .num (.c 32) (.v 1)], 0, .gs 0 0 (.v 0) 1 true, [some (.rows 0 [] 9 false)], .gs 0 0 (.v 2) 1 true, [some (.rows 0 [] 9 false)], []⟩ := fun N M => ⟨_, _, [(ns 0 2), .lst 0 (some 0) []], ⟨b_Cut_ok fu a0 (32 : Int) r1 hr1, ⟨(r a0), (r (32 : Int)), tv⟩, by kernel_rfl, ⟨rfl, ⟨[], rfl, lnil _⟩, tv⟩⟩⟩
 by_cases h2 : (r1.length : Int) = a1
 ·rw [if_pos h2] at h
  obtain ⟨o3, ho3, h⟩ := bs1 h
  refine to_loop mixed ⟨[(.neq, (.v 2), (.v 1), false)], [], [(0, 1, (.v 2))], [⟨95, 0, [], [.ss (.v 0), .sym .u8 (.v 1)], [], [(ns 0 0), .num (.c 32) (.v 1)], 0, .gs 0 0 (.v 0) 1 true, [some (.rows 0 [] 9 false)], .gs 0 0 (.v 2) 1 true, [some (.rows 0 [] 9 false)], []⟩], [], []⟩ (V := (vals [a0, a1, (r1.length : Int)] [(r1.flatMap enS)])) (n := 3000) (f := 3000) (fid := 134) (fun _ => rfl) (V' := (vals [(r1.length : Int), (([] : List (Int)).length : Int), (0 : Int)] [(r1.flatMap enS), (([] : List (Int)).flatMap enI)])) ⟨⟨neq_f h2, tv⟩, tv, ⟨flat_length enS_len _, tv⟩, tv, tv⟩ ⟨Kr1 _ _, tv⟩ (T := ⟨[(6, .gs 0 0 (.v 0) 1 true), (7, .gs 1 0 (.v 1) 1 true), (8, (ys 2))], [some (.rows 0 [] 9 false), some (.rows 1 [] 3 false)], [some (0, 0), none]⟩) (B := subAt (bodyOf Tryz.prog 134) [1, 1, 1, 1, 0, 1, 0, 0]) (K' := [.bk 0, .sq (subAt (bodyOf Tryz.prog 134) [1, 1, 1, 1, 1]) [1, 1, 1, 1, 1]]) (qs := [(ns 2 0), .num (.c 0) (.v 1), .num (.c 0) (.v 2), .lst 0 (some 0) []]) wok0 tv hF hr (by kernel_rfl) ⟨(r (r1.length : Int)), rfl, (r (0 : Int)), ⟨[], rfl, lnil _⟩, tv⟩ (at_re (V' := (vals [a0, a1, (r1.length : Int)] [(r1.flatMap enS)])) (T := ⟨[(0, .ss (.v 0)), (1, (ys 1))], [], []⟩) (qs := [(ns 0 0), (ns 1 1)]) hat (by kernel_rfl) ⟨rfl, rfl, tv⟩) fun aa1 ww1 hat1 => loop_in (r4_numbers_L1_ok fu r1 fu ([] : List (Int)) (0 : Int) o3 ho3 _ _ _ _ _ _ _ hF hr hat1 ?_ ?_)
  ·intro y4 hy aa2 ww2 hat
   subst hy
   dsimp only at h
   show (Wk.out .ret).goal _ _ _ [.bk 0, .sq (subAt (bodyOf Tryz.prog 134) [1, 1, 1, 1, 1]) [1, 1, 1, 1, 1]] _ aa2 ww2
   injection h with h; subst h
   exact to_fin mixed ⟨[], [], [], [], [], []⟩ (V := (vals [] [])) (n := 3000) (f := 3000) (fid := 134) (fun _ => rfl) ⟨tv, tv, tv, tv, tv⟩ tv (R := ⟨.tup [.gs 0 0 (.v 0) 1 true, .bs (.v 1)], [some (.rows 0 [] 3 false)], [none]⟩) (qs := [.num (.c 0) (.v 0), .num (.c 0) (.v 1)]) tv ⟨rfl, tv⟩ hF hr (by kernel_rfl) ⟨rfl, rfl, tv⟩ hat
  ·intro y5 hy aa2 ww2 hat
   subst hy
   dsimp only at h
   show (Wk.out (.exit 0)).goal _ _ _ [.bk 0, .sq (subAt (bodyOf Tryz.prog 134) [1, 1, 1, 1, 1]) [1, 1, 1, 1, 1]] _ aa2 ww2
   injection h with h; subst h
   exact to_fin mixed ⟨[], [], [(0, 1, (.v 0))], [], [], []⟩ (V := (vals [(y5.length : Int)] [(y5.flatMap enI)])) (n := 3000) (f := 3000) (fid := 134) (fun _ => rfl) ⟨tv, tv, ⟨flat_length enI_len _, tv⟩, tv, tv⟩ tv (R := ⟨.tup [.gs 0 0 (.v 0) 1 true, .bs (.v 1)], [some (.rows 0 [] 3 false)], [some (0, 0)]⟩) (qs := [(ns 0 0), .num (.c 1) (.v 1), .lst 0 (some 0) []]) tv ⟨rfl, tv⟩ hF hr (by kernel_rfl) ⟨(r (y5.length : Int)), rfl, ⟨[], rfl, lnil _⟩, tv⟩ hat
 ·rw [if_neg h2] at h
  injection h with h; subst h
  exact to_fin mixed ⟨[(.neq, (.v 2), (.v 1), true)], [], [(0, 1, (.v 2))], [⟨95, 0, [], [.ss (.v 0), .sym .u8 (.v 1)], [], [(ns 0 0), .num (.c 32) (.v 1)], 0, .gs 0 0 (.v 0) 1 true, [some (.rows 0 [] 9 false)], .gs 0 0 (.v 2) 1 true, [some (.rows 0 [] 9 false)], []⟩], [], []⟩ (V := (vals [a0, a1, (r1.length : Int)] [(r1.flatMap enS)])) (n := 3000) (f := 3000) (fid := 134) (fun _ => rfl) ⟨⟨neq_t h2, tv⟩, tv, ⟨flat_length enS_len _, tv⟩, tv, tv⟩ ⟨Kr1 _ _, tv⟩ (R := ⟨.tup [.gs 0 0 (.v 0) 1 true, .bs (.v 1)], [some (.rows 0 [] 3 false)], [none]⟩) (qs := [.num (.c 0) (.v 0), .num (.c 0) (.v 1)]) wok0 tv hF hr (by kernel_rfl) ⟨rfl, rfl, tv⟩ (at_re (V' := (vals [a0, a1, (r1.length : Int)] [(r1.flatMap enS)])) (T := ⟨[(0, .ss (.v 0)), (1, (ys 1))], [], []⟩) (qs := [(ns 0 0), (ns 1 1)]) hat (by kernel_rfl) ⟨rfl, rfl, tv⟩)
def r4_ParseDevices_L1 (fu : Nat) (p0 : List (Int)) : Nat → List (Int × Int × Int) → Int → Option ((Unit) ⊕ (List (Int × Int × Int)))
 | 0, _, _ => none
 | n + 1, v1, v2 => if v2 < (p0.length : Int) then (if (0 : Int) ≤ v2 then (Option.bind ((p0)[0 + (v2).toNat]?) fun e3 => Option.bind (r4_numbers fu e3 (3 : Int)) fun r4 => if r4.2 = true then (if (0 : Int) < (r4.1.length : Int) then (Option.bind ((r4.1)[0 + ((0 : Int)).toNat]?) fun e7 => if (1 : Int) < (r4.1.length : Int) then (Option.bind ((r4.1)[0 + ((1 : Int)).toNat]?) fun e9 => if (2 : Int) < (r4.1.length : Int) then (Option.bind ((r4.1)[0 + ((2 : Int)).toNat]?) fun e11 => if (v1.length : Int) < (65536 : Int) then (r4_ParseDevices_L1 fu p0 n (v1 ++ [(e7, e9, e11)]) (IntKind.wrap .i64 (v2 + (1 : Int)))) else none) else none) else none) else none) else (some (.inl ()))) else none) else (some (.inr v1))
theorem r4_ParseDevices_L1_ok (fu : Nat) (p0 : List (Int)) : ∀ (n : Nat) (v1 : List (Int × Int × Int)) (v2 : Int) (o : (Unit) ⊕ (List (Int × Int × Int))), r4_ParseDevices_L1 fu p0 n v1 v2 = some o → ∀ (φ0 : Phi) (w0 : World) (F : Fence) (k : Nat) (R : Exit → Act → World → Prop) (a : Act) (w : World), FW F → F.round = none → AtS (vals [(p0.length : Int), (v1.length : Int), v2] [(p0.flatMap enS), (v1.flatMap enIII)]) [(4, .gs 0 0 (.v 0) 1 true), (5, .gs 1 0 (.v 1) 3 true), (6, (ys 2))] [some (.rows 0 [] 9 false), some (.rows 1 [] 209 false)] 50 0 0 φ0 w0 a w → (∀ (y : Unit), o = .inl y → ∀ a' w', AtS (vals [] []) [(2, .nils), (3, .int .i64 7)] [] 50 0 0 φ0 w0 a' w' → R Exit.ret a' w') → (∀ (y : List (Int × Int × Int)), o = .inr y → ∀ a' w', AtS (vals [(y.length : Int)] [(y.flatMap enIII)]) [(5, .gs 0 0 (.v 0) 3 true)] [some (.rows 0 [] 209 false)] 50 0 0 φ0 w0 a' w' → R (Exit.exit 0) a' w') → Code.roundsIn F k Tryz.prog (subAt (bodyOf Tryz.prog 49) [1, 1, 1, 1, 0, 1, 0, 0]) R n a w
 | 0, _, _, _, h => by cases h
 | n + 1, v1, v2, o, h => by
  intro φ0 w0 F k R a w hF hr hat hx0 hx1
  rw [r4_ParseDevices_L1] at h
  refine rounds_in (p := [1, 1, 1, 1, 0, 1, 0, 0]) ?_
  by_cases h1 : v2 < (p0.length : Int)
  ·rw [if_pos h1] at h
   by_cases h2 : (0 : Int) ≤ v2
   ·rw [if_pos h2] at h
    obtain ⟨e3, he3, h⟩ := bs1 h
    obtain ⟨r4, hr4, h⟩ := bs1 h
    have Kr4 : KO Tryz.prog [(p0.length : Int), (v1.length : Int), v2, e3, (r4.1.length : Int), bI r4.2] [(p0.flatMap enS), (v1.flatMap enIII), (r4.1.flatMap enI)] ⟨134, 2, [], [.ss (.v 0), (ys 1)], [], [(ns 3 0), .num (.c 3) (.v 1)], 0, .tup [.gs 0 0 (.v 0) 1 true, .bs (.v 1)], [some (.rows 0 [] 3 false)], .tup [.gs 2 0 (.v 4) 1 true, .bs (.v 5)], [some (.rows 2 [] 3 false)], []⟩ := fun N M => ⟨_, _, [(ns 0 4), (ns 1 5), .lst 2 (some 0) []], ⟨r4_numbers_ok fu e3 (3 : Int) r4 hr4, ⟨(r e3), (r (3 : Int)), tv⟩, by kernel_rfl, ⟨rfl, rfl, ⟨[], rfl, lnil _⟩, tv⟩⟩⟩
    by_cases h5 : r4.2 = true
    ·rw [if_pos h5] at h
     by_cases h6 : (0 : Int) < (r4.1.length : Int)
     ·rw [if_pos h6] at h
      obtain ⟨e7, he7, h⟩ := bs1 h
      by_cases h8 : (1 : Int) < (r4.1.length : Int)
      ·rw [if_pos h8] at h
       obtain ⟨e9, he9, h⟩ := bs1 h
       by_cases h10 : (2 : Int) < (r4.1.length : Int)
       ·rw [if_pos h10] at h
        obtain ⟨e11, he11, h⟩ := bs1 h
        by_cases h12 : (v1.length : Int) < (65536 : Int)
        ·rw [if_pos h12] at h
         refine to_done mixed ⟨[(.lss, (.v 2), (.v 0), true), (.leq, (.c 0), (.v 2), true), (.neq, (.v 5), (.c 0), true), (.lss, (.c 0), (.v 4), true), (.lss, (.c 1), (.v 4), true), (.lss, (.c 2), (.v 4), true), (.lss, (.v 1), (.c 65536), true)], [(0, 0, (.v 2), [.ss (.v 3)]), (2, 0, (.c 0), [(ys 6)]), (2, 0, (.c 1), [(ys 7)]), (2, 0, (.c 2), [(ys 8)])], [(0, 1, (.v 0)), (1, 3, (.v 1)), (2, 1, (.v 4))], [⟨134, 2, [], [.ss (.v 0), (ys 1)], [], [(ns 3 0), .num (.c 3) (.v 1)], 0, .tup [.gs 0 0 (.v 0) 1 true, .bs (.v 1)], [some (.rows 0 [] 3 false)], .tup [.gs 2 0 (.v 4) 1 true, .bs (.v 5)], [some (.rows 2 [] 3 false)], []⟩], [], []⟩ (V := (vals [(p0.length : Int), (v1.length : Int), v2, e3, (r4.1.length : Int), bI r4.2, e7, e9, e11] [(p0.flatMap enS), (v1.flatMap enIII), (r4.1.flatMap enI)])) (n := 3000) (f := 3000) (fid := 49) (fun _ => rfl) (V' := (vals [(p0.length : Int), ((v1 ++ [(e7, e9, e11)]).length : Int), (IntKind.wrap .i64 (v2 + (1 : Int)))] [(p0.flatMap enS), ((v1 ++ [(e7, e9, e11)]).flatMap enIII)])) ⟨⟨lss_t h1, leq_t h2, bi_t h5, lss_t h6, lss_t h8, lss_t h10, lss_t h12, tv⟩, ⟨⟨h2, _, rfl, flat_row enS_len he3⟩, ⟨(show (0 : Int) ≤ 0 by omega), _, rfl, flat_row enI_len he7⟩, ⟨(show (0 : Int) ≤ 1 by omega), _, rfl, flat_row enI_len he9⟩, ⟨(show (0 : Int) ≤ 2 by omega), _, rfl, flat_row enI_len he11⟩, tv⟩, ⟨flat_length enS_len _, flat_length enIII_len _, flat_length enI_len _, tv⟩, tv, tv⟩ ⟨Kr4 _ _, tv⟩ (T := ⟨[(4, .gs 0 0 (.v 0) 1 true), (5, .gs 1 0 (.v 1) 3 true), (6, (ys 2))], [some (.rows 0 [] 9 false), some (.rows 1 [] 209 false)], [some (0, 0), some (4, 0)]⟩) (ce := .normal) (qs := [(ns 0 0), .num (.add .i64 (.v 1) (.c 1)) (.v 1), .num (.add .i64 (.v 2) (.c 1)) (.v 2), .lst 0 (some 0) [], .lst 1 (some 1) [(ys 6), (ys 7), (ys 8)]]) rfl tv hF hr (by kernel_rfl) ⟨(r (p0.length : Int)), (show (IntKind.wrap .i64 ((v1.length : Int) + (1 : Int))) = ((v1 ++ [(e7, e9, e11)]).length : Int) by first | rfl | (simp only [List.length_append, List.length_cons, List.length_nil]; rw [IntKind.wrap_i64]; omega)), (r (IntKind.wrap .i64 (v2 + (1 : Int)))), ⟨[], rfl, lnil _⟩, ⟨_, rfl, List.flatMap_append⟩, tv⟩ (at_re (V' := (vals [(p0.length : Int), (v1.length : Int), v2, e3, (r4.1.length : Int), bI r4.2, e7, e9, e11] [(p0.flatMap enS), (v1.flatMap enIII), (r4.1.flatMap enI)])) (T := ⟨[(4, .gs 0 0 (.v 0) 1 true), (5, .gs 1 0 (.v 1) 3 true), (6, (ys 2))], [some (.rows 0 [] 9 false), some (.rows 1 [] 209 false)], [some (0, 0), some (1, 0)]⟩) (qs := [(ns 0 0), (ns 1 1), (ns 2 2), .lst 0 (some 0) [], .lst 1 (some 1) []]) hat (by kernel_rfl) ⟨rfl, rfl, rfl, ⟨[], rfl, lnil _⟩, ⟨[], rfl, lnil _⟩, tv⟩) fun a' w' hat' => ?_
         exact r4_ParseDevices_L1_ok fu p0 n (v1 ++ [(e7, e9, e11)]) (IntKind.wrap .i64 (v2 + (1 : Int))) o h _ _ _ _ _ _ _ hF hr hat' hx0 hx1
        ·rw [if_neg h12] at h
         cases h
       ·rw [if_neg h10] at h
        cases h
      ·rw [if_neg h8] at h
       cases h
     ·rw [if_neg h6] at h
      cases h
    ·rw [if_neg h5] at h
     injection h with h; subst h
     exact to_done mixed ⟨[(.lss, (.v 2), (.v 0), true), (.leq, (.c 0), (.v 2), true), (.neq, (.v 5), (.c 0), false)], [(0, 0, (.v 2), [.ss (.v 3)])], [(0, 1, (.v 0)), (1, 3, (.v 1)), (2, 1, (.v 4))], [⟨134, 2, [], [.ss (.v 0), (ys 1)], [], [(ns 3 0), .num (.c 3) (.v 1)], 0, .tup [.gs 0 0 (.v 0) 1 true, .bs (.v 1)], [some (.rows 0 [] 3 false)], .tup [.gs 2 0 (.v 4) 1 true, .bs (.v 5)], [some (.rows 2 [] 3 false)], []⟩], [], []⟩ (V := (vals [(p0.length : Int), (v1.length : Int), v2, e3, (r4.1.length : Int), bI r4.2] [(p0.flatMap enS), (v1.flatMap enIII), (r4.1.flatMap enI)])) (n := 3000) (f := 3000) (fid := 49) (fun _ => rfl) (V' := (vals [] [])) ⟨⟨lss_t h1, leq_t h2, bi_f h5, tv⟩, ⟨⟨h2, _, rfl, flat_row enS_len he3⟩, tv⟩, ⟨flat_length enS_len _, flat_length enIII_len _, flat_length enI_len _, tv⟩, tv, tv⟩ ⟨Kr4 _ _, tv⟩ (T := ⟨[(2, .nils), (3, .int .i64 7)], [], []⟩) (ce := .ret) (qs := []) rfl tv hF hr (by kernel_rfl) tv (at_re (V' := (vals [(p0.length : Int), (v1.length : Int), v2, e3, (r4.1.length : Int), bI r4.2] [(p0.flatMap enS), (v1.flatMap enIII), (r4.1.flatMap enI)])) (T := ⟨[(4, .gs 0 0 (.v 0) 1 true), (5, .gs 1 0 (.v 1) 3 true), (6, (ys 2))], [some (.rows 0 [] 9 false), some (.rows 1 [] 209 false)], [some (0, 0), some (1, 0)]⟩) (qs := [(ns 0 0), (ns 1 1), (ns 2 2), .lst 0 (some 0) [], .lst 1 (some 1) []]) hat (by kernel_rfl) ⟨rfl, rfl, rfl, ⟨[], rfl, lnil _⟩, ⟨[], rfl, lnil _⟩, tv⟩) fun a' w' hat' => hx0 () rfl a' w' hat'
   ·rw [if_neg h2] at h
    cases h
  ·rw [if_neg h1] at h
   injection h with h; subst h
   exact to_done mixed ⟨[(.lss, (.v 2), (.v 0), false)], [], [(0, 1, (.v 0)), (1, 3, (.v 1))], [], [], []⟩ (V := (vals [(p0.length : Int), (v1.length : Int), v2] [(p0.flatMap enS), (v1.flatMap enIII)])) (n := 3000) (f := 3000) (fid := 49) (fun _ => rfl) (V' := (vals [(v1.length : Int)] [(v1.flatMap enIII)])) ⟨⟨lss_f h1, tv⟩, tv, ⟨flat_length enS_len _, flat_length enIII_len _, tv⟩, tv, tv⟩ tv (T := ⟨[(5, .gs 0 0 (.v 0) 3 true)], [some (.rows 0 [] 209 false)], [some (1, 0)]⟩) (ce := (.exit 0)) (qs := [(ns 1 0), .lst 0 (some 1) []]) rfl tv hF hr (by kernel_rfl) ⟨(r (v1.length : Int)), ⟨[], rfl, lnil _⟩, tv⟩ hat fun a' w' hat' => hx1 v1 rfl a' w' hat'
def r4_CheckDevices_L1 (fu : Nat) (p0 : List (Int × Int × Int)) : Nat → Int → Option ((Int) ⊕ (Unit))
 | 0, _ => none
 | n + 1, v1 => if v1 < (p0.length : Int) then (if (0 : Int) ≤ v1 then (Option.bind ((p0)[0 + (v1).toNat]?) fun e3 => Option.bind (b_Within e3.1 (0 : Int) (20 : Int)) fun r4 => if r4 = true then (Option.bind (b_Within e3.2.1 (1 : Int) (10 : Int)) fun r6 => if r6 = true then (Option.bind (b_Within e3.2.2 (0 : Int) (10 : Int)) fun r8 => if r8 = true then (r4_CheckDevices_L1 fu p0 n (IntKind.wrap .i64 (v1 + (1 : Int)))) else (some (.inl v1))) else (some (.inl v1))) else (some (.inl v1))) else none) else (some (.inr ()))
theorem r4_CheckDevices_L1_ok (fu : Nat) (p0 : List (Int × Int × Int)) : ∀ (n : Nat) (v1 : Int) (o : (Int) ⊕ (Unit)), r4_CheckDevices_L1 fu p0 n v1 = some o → ∀ (φ0 : Phi) (w0 : World) (F : Fence) (k : Nat) (R : Exit → Act → World → Prop) (a : Act) (w : World), FW F → F.round = none → AtS (vals [(p0.length : Int), v1] [(p0.flatMap enIII)]) [(0, .gs 0 0 (.v 0) 3 false), (4, (ys 1))] [some (.rows 0 [] 209 true)] 43 1 1 φ0 w0 a w → (∀ (y : Int), o = .inl y → ∀ a' w', AtS (vals [(p0.length : Int), y] [(p0.flatMap enIII)]) [(2, (ys 1)), (3, .int .i64 2)] [some (.rows 0 [] 209 true)] 43 1 1 φ0 w0 a' w' → R Exit.ret a' w') → (∀ (y : Unit), o = .inr y → ∀ a' w', AtS (vals [(p0.length : Int)] [(p0.flatMap enIII)]) [] [some (.rows 0 [] 209 true)] 43 1 1 φ0 w0 a' w' → R (Exit.exit 0) a' w') → Code.roundsIn F k Tryz.prog (subAt (bodyOf Tryz.prog 136) [1, 1, 1, 0, 1, 0, 0]) R n a w
 | 0, _, _, h => by cases h
 | n + 1, v1, o, h => by
  intro φ0 w0 F k R a w hF hr hat hx0 hx1
  rw [r4_CheckDevices_L1] at h
  refine rounds_in (p := [1, 1, 1, 0, 1, 0, 0]) ?_
  by_cases h1 : v1 < (p0.length : Int)
  ·rw [if_pos h1] at h
   by_cases h2 : (0 : Int) ≤ v1
   ·rw [if_pos h2] at h
    obtain ⟨e3, he3, h⟩ := bs1 h
    obtain ⟨r4, hr4, h⟩ := bs1 h
    have Kr4 : KO Tryz.prog [(p0.length : Int), v1, e3.1, e3.2.1, e3.2.2, bI r4] [(p0.flatMap enIII)] ⟨71, 1, [], [(ys 0), (ys 1), (ys 2)], [], [(ns 2 0), .num (.c 0) (.v 1), .num (.c 20) (.v 2)], 0, .bs (.v 0), [], .bs (.v 5), [], []⟩ := fun N M => ⟨_, _, [(ns 0 5)], ⟨b_Within_ok e3.1 (0 : Int) (20 : Int) r4 hr4, ⟨(r e3.1), (r (0 : Int)), (r (20 : Int)), tv⟩, by kernel_rfl, ⟨rfl, tv⟩⟩⟩
    by_cases h5 : r4 = true
    ·rw [if_pos h5] at h
     obtain ⟨r6, hr6, h⟩ := bs1 h
     have Kr6 : KO Tryz.prog [(p0.length : Int), v1, e3.1, e3.2.1, e3.2.2, bI r4, bI r6] [(p0.flatMap enIII)] ⟨71, 1, [], [(ys 0), (ys 1), (ys 2)], [], [(ns 3 0), .num (.c 1) (.v 1), .num (.c 10) (.v 2)], 0, .bs (.v 0), [], .bs (.v 6), [], []⟩ := fun N M => ⟨_, _, [(ns 0 6)], ⟨b_Within_ok e3.2.1 (1 : Int) (10 : Int) r6 hr6, ⟨(r e3.2.1), (r (1 : Int)), (r (10 : Int)), tv⟩, by kernel_rfl, ⟨rfl, tv⟩⟩⟩
     by_cases h7 : r6 = true
     ·rw [if_pos h7] at h
      obtain ⟨r8, hr8, h⟩ := bs1 h
      have Kr8 : KO Tryz.prog [(p0.length : Int), v1, e3.1, e3.2.1, e3.2.2, bI r4, bI r6, bI r8] [(p0.flatMap enIII)] ⟨71, 1, [], [(ys 0), (ys 1), (ys 2)], [], [(ns 4 0), .num (.c 0) (.v 1), .num (.c 10) (.v 2)], 0, .bs (.v 0), [], .bs (.v 7), [], []⟩ := fun N M => ⟨_, _, [(ns 0 7)], ⟨b_Within_ok e3.2.2 (0 : Int) (10 : Int) r8 hr8, ⟨(r e3.2.2), (r (0 : Int)), (r (10 : Int)), tv⟩, by kernel_rfl, ⟨rfl, tv⟩⟩⟩
      by_cases h9 : r8 = true
      ·rw [if_pos h9] at h
       refine to_done mixed ⟨[(.lss, (.v 1), (.v 0), true), (.leq, (.c 0), (.v 1), true), (.neq, (.v 5), (.c 0), true), (.neq, (.v 6), (.c 0), true), (.neq, (.v 7), (.c 0), true)], [(0, 0, (.v 1), [(ys 2), (ys 3), (ys 4)])], [(0, 3, (.v 0))], [⟨71, 1, [], [(ys 0), (ys 1), (ys 2)], [], [(ns 2 0), .num (.c 0) (.v 1), .num (.c 20) (.v 2)], 0, .bs (.v 0), [], .bs (.v 5), [], []⟩, ⟨71, 1, [], [(ys 0), (ys 1), (ys 2)], [], [(ns 3 0), .num (.c 1) (.v 1), .num (.c 10) (.v 2)], 0, .bs (.v 0), [], .bs (.v 6), [], []⟩, ⟨71, 1, [], [(ys 0), (ys 1), (ys 2)], [], [(ns 4 0), .num (.c 0) (.v 1), .num (.c 10) (.v 2)], 0, .bs (.v 0), [], .bs (.v 7), [], []⟩], [], []⟩ (V := (vals [(p0.length : Int), v1, e3.1, e3.2.1, e3.2.2, bI r4, bI r6, bI r8] [(p0.flatMap enIII)])) (n := 3000) (f := 3000) (fid := 136) (fun _ => rfl) (V' := (vals [(p0.length : Int), (IntKind.wrap .i64 (v1 + (1 : Int)))] [(p0.flatMap enIII)])) ⟨⟨lss_t h1, leq_t h2, bi_t h5, bi_t h7, bi_t h9, tv⟩, ⟨⟨h2, _, rfl, flat_row enIII_len he3⟩, tv⟩, ⟨flat_length enIII_len _, tv⟩, tv, tv⟩ ⟨Kr4 _ _, Kr6 _ _, Kr8 _ _, tv⟩ (T := ⟨[(0, .gs 0 0 (.v 0) 3 false), (4, (ys 1))], [some (.rows 0 [] 209 true)], [some (0, 0)]⟩) (ce := .normal) (qs := [(ns 0 0), .num (.add .i64 (.v 1) (.c 1)) (.v 1), .lst 0 (some 0) []]) rfl tv hF hr (by kernel_rfl) ⟨(r (p0.length : Int)), (r (IntKind.wrap .i64 (v1 + (1 : Int)))), ⟨[], rfl, lnil _⟩, tv⟩ (at_re (V' := (vals [(p0.length : Int), v1, e3.1, e3.2.1, e3.2.2, bI r4, bI r6, bI r8] [(p0.flatMap enIII)])) (T := ⟨[(0, .gs 0 0 (.v 0) 3 false), (4, (ys 1))], [some (.rows 0 [] 209 true)], [some (0, 0)]⟩) (qs := [(ns 0 0), (ns 1 1), .lst 0 (some 0) []]) hat (by kernel_rfl) ⟨rfl, rfl, ⟨[], rfl, lnil _⟩, tv⟩) fun a' w' hat' => ?_
       exact r4_CheckDevices_L1_ok fu p0 n (IntKind.wrap .i64 (v1 + (1 : Int))) o h _ _ _ _ _ _ _ hF hr hat' hx0 hx1
      ·rw [if_neg h9] at h
       injection h with h; subst h
       exact to_done mixed ⟨[(.lss, (.v 1), (.v 0), true), (.leq, (.c 0), (.v 1), true), (.neq, (.v 5), (.c 0), true), (.neq, (.v 6), (.c 0), true), (.neq, (.v 7), (.c 0), false)], [(0, 0, (.v 1), [(ys 2), (ys 3), (ys 4)])], [(0, 3, (.v 0))], [⟨71, 1, [], [(ys 0), (ys 1), (ys 2)], [], [(ns 2 0), .num (.c 0) (.v 1), .num (.c 20) (.v 2)], 0, .bs (.v 0), [], .bs (.v 5), [], []⟩, ⟨71, 1, [], [(ys 0), (ys 1), (ys 2)], [], [(ns 3 0), .num (.c 1) (.v 1), .num (.c 10) (.v 2)], 0, .bs (.v 0), [], .bs (.v 6), [], []⟩, ⟨71, 1, [], [(ys 0), (ys 1), (ys 2)], [], [(ns 4 0), .num (.c 0) (.v 1), .num (.c 10) (.v 2)], 0, .bs (.v 0), [], .bs (.v 7), [], []⟩], [], []⟩ (V := (vals [(p0.length : Int), v1, e3.1, e3.2.1, e3.2.2, bI r4, bI r6, bI r8] [(p0.flatMap enIII)])) (n := 3000) (f := 3000) (fid := 136) (fun _ => rfl) (V' := (vals [(p0.length : Int), v1] [(p0.flatMap enIII)])) ⟨⟨lss_t h1, leq_t h2, bi_t h5, bi_t h7, bi_f h9, tv⟩, ⟨⟨h2, _, rfl, flat_row enIII_len he3⟩, tv⟩, ⟨flat_length enIII_len _, tv⟩, tv, tv⟩ ⟨Kr4 _ _, Kr6 _ _, Kr8 _ _, tv⟩ (T := ⟨[(2, (ys 1)), (3, .int .i64 2)], [some (.rows 0 [] 209 true)], [some (0, 0)]⟩) (ce := .ret) (qs := [(ns 1 1), .lst 0 (some 0) []]) rfl tv hF hr (by kernel_rfl) ⟨(r v1), ⟨[], rfl, lnil _⟩, tv⟩ (at_re (V' := (vals [(p0.length : Int), v1, e3.1, e3.2.1, e3.2.2, bI r4, bI r6, bI r8] [(p0.flatMap enIII)])) (T := ⟨[(0, .gs 0 0 (.v 0) 3 false), (4, (ys 1))], [some (.rows 0 [] 209 true)], [some (0, 0)]⟩) (qs := [(ns 0 0), (ns 1 1), .lst 0 (some 0) []]) hat (by kernel_rfl) ⟨rfl, rfl, ⟨[], rfl, lnil _⟩, tv⟩) fun a' w' hat' => hx0 v1 rfl a' w' hat'
     ·rw [if_neg h7] at h
      injection h with h; subst h
      exact to_done mixed ⟨[(.lss, (.v 1), (.v 0), true), (.leq, (.c 0), (.v 1), true), (.neq, (.v 5), (.c 0), true), (.neq, (.v 6), (.c 0), false)], [(0, 0, (.v 1), [(ys 2), (ys 3), (ys 4)])], [(0, 3, (.v 0))], [⟨71, 1, [], [(ys 0), (ys 1), (ys 2)], [], [(ns 2 0), .num (.c 0) (.v 1), .num (.c 20) (.v 2)], 0, .bs (.v 0), [], .bs (.v 5), [], []⟩, ⟨71, 1, [], [(ys 0), (ys 1), (ys 2)], [], [(ns 3 0), .num (.c 1) (.v 1), .num (.c 10) (.v 2)], 0, .bs (.v 0), [], .bs (.v 6), [], []⟩], [], []⟩ (V := (vals [(p0.length : Int), v1, e3.1, e3.2.1, e3.2.2, bI r4, bI r6] [(p0.flatMap enIII)])) (n := 3000) (f := 3000) (fid := 136) (fun _ => rfl) (V' := (vals [(p0.length : Int), v1] [(p0.flatMap enIII)])) ⟨⟨lss_t h1, leq_t h2, bi_t h5, bi_f h7, tv⟩, ⟨⟨h2, _, rfl, flat_row enIII_len he3⟩, tv⟩, ⟨flat_length enIII_len _, tv⟩, tv, tv⟩ ⟨Kr4 _ _, Kr6 _ _, tv⟩ (T := ⟨[(2, (ys 1)), (3, .int .i64 2)], [some (.rows 0 [] 209 true)], [some (0, 0)]⟩) (ce := .ret) (qs := [(ns 1 1), .lst 0 (some 0) []]) rfl tv hF hr (by kernel_rfl) ⟨(r v1), ⟨[], rfl, lnil _⟩, tv⟩ (at_re (V' := (vals [(p0.length : Int), v1, e3.1, e3.2.1, e3.2.2, bI r4, bI r6] [(p0.flatMap enIII)])) (T := ⟨[(0, .gs 0 0 (.v 0) 3 false), (4, (ys 1))], [some (.rows 0 [] 209 true)], [some (0, 0)]⟩) (qs := [(ns 0 0), (ns 1 1), .lst 0 (some 0) []]) hat (by kernel_rfl) ⟨rfl, rfl, ⟨[], rfl, lnil _⟩, tv⟩) fun a' w' hat' => hx0 v1 rfl a' w' hat'
    ·rw [if_neg h5] at h
     injection h with h; subst h
     exact to_done mixed ⟨[(.lss, (.v 1), (.v 0), true), (.leq, (.c 0), (.v 1), true), (.neq, (.v 5), (.c 0), false)], [(0, 0, (.v 1), [(ys 2), (ys 3), (ys 4)])], [(0, 3, (.v 0))], [⟨71, 1, [], [(ys 0), (ys 1), (ys 2)], [], [(ns 2 0), .num (.c 0) (.v 1), .num (.c 20) (.v 2)], 0, .bs (.v 0), [], .bs (.v 5), [], []⟩], [], []⟩ (V := (vals [(p0.length : Int), v1, e3.1, e3.2.1, e3.2.2, bI r4] [(p0.flatMap enIII)])) (n := 3000) (f := 3000) (fid := 136) (fun _ => rfl) (V' := (vals [(p0.length : Int), v1] [(p0.flatMap enIII)])) ⟨⟨lss_t h1, leq_t h2, bi_f h5, tv⟩, ⟨⟨h2, _, rfl, flat_row enIII_len he3⟩, tv⟩, ⟨flat_length enIII_len _, tv⟩, tv, tv⟩ ⟨Kr4 _ _, tv⟩ (T := ⟨[(2, (ys 1)), (3, .int .i64 2)], [some (.rows 0 [] 209 true)], [some (0, 0)]⟩) (ce := .ret) (qs := [(ns 1 1), .lst 0 (some 0) []]) rfl tv hF hr (by kernel_rfl) ⟨(r v1), ⟨[], rfl, lnil _⟩, tv⟩ (at_re (V' := (vals [(p0.length : Int), v1, e3.1, e3.2.1, e3.2.2, bI r4] [(p0.flatMap enIII)])) (T := ⟨[(0, .gs 0 0 (.v 0) 3 false), (4, (ys 1))], [some (.rows 0 [] 209 true)], [some (0, 0)]⟩) (qs := [(ns 0 0), (ns 1 1), .lst 0 (some 0) []]) hat (by kernel_rfl) ⟨rfl, rfl, ⟨[], rfl, lnil _⟩, tv⟩) fun a' w' hat' => hx0 v1 rfl a' w' hat'
   ·rw [if_neg h2] at h
    cases h
  ·rw [if_neg h1] at h
   injection h with h; subst h
   exact to_done mixed ⟨[(.lss, (.v 1), (.v 0), false)], [], [(0, 3, (.v 0))], [], [], []⟩ (V := (vals [(p0.length : Int), v1] [(p0.flatMap enIII)])) (n := 3000) (f := 3000) (fid := 136) (fun _ => rfl) (V' := (vals [(p0.length : Int)] [(p0.flatMap enIII)])) ⟨⟨lss_f h1, tv⟩, tv, ⟨flat_length enIII_len _, tv⟩, tv, tv⟩ tv (T := ⟨[], [some (.rows 0 [] 209 true)], [some (0, 0)]⟩) (ce := (.exit 0)) (qs := [.lst 0 (some 0) []]) rfl tv hF hr (by kernel_rfl) ⟨⟨[], rfl, lnil _⟩, tv⟩ hat fun a' w' hat' => hx1 () rfl a' w' hat'
def r4_CheckDevices (fu : Nat) (a0 : List (Int × Int × Int)) : Option (Int × Int) := if (a0.length : Int) = (0 : Int) then (some ((0 : Int), (10 : Int))) else (if (5 : Int) < (a0.length : Int) then (some ((0 : Int), (8 : Int))) else (Option.bind (r4_CheckDevices_L1 fu a0 fu (0 : Int)) fun o3 => (match o3 with | .inl y4 => (some (y4, (2 : Int))) | .inr y5 => (some ((0 : Int), (0 : Int))))))
theorem r4_CheckDevices_ok (fu : Nat) (a0 : List (Int × Int × Int)) (y : Int × Int) (h : r4_CheckDevices fu a0 = some y) : CallOk Tryz.prog 136 (vals [(a0.length : Int)] [(a0.flatMap enIII)]) [.gs 0 0 (.v 0) 3 false] [some (.rows 0 [] 209 true)] 1 (vals [y.1, y.2] []) (.tup [(ys 0), (ys 1)]) [none] := by
 refine fun_of (nt := 43) (by kernel_rfl) (by kernel_rfl) fun φ0 w0 a w hat => ?_
 have hF := wide_fw
 have hr : Fence.wide.round = none := rfl
 unfold r4_CheckDevices at h
 by_cases h1 : (a0.length : Int) = (0 : Int)
 ·rw [if_pos h1] at h
  injection h with h; subst h
  exact to_fin mixed ⟨[(.eql, (.v 0), (.c 0), true)], [], [(0, 3, (.v 0))], [], [], []⟩ (V := (vals [(a0.length : Int)] [(a0.flatMap enIII)])) (n := 3000) (f := 3000) (fid := 136) (fun _ => rfl) ⟨⟨eql_t h1, tv⟩, tv, ⟨flat_length enIII_len _, tv⟩, tv, tv⟩ tv (R := ⟨.tup [(ys 0), (ys 1)], [none], [some (0, 0)]⟩) (qs := [.num (.c 0) (.v 0), .num (.c 10) (.v 1)]) wok0 tv hF hr (by kernel_rfl) ⟨(r (0 : Int)), (r (10 : Int)), tv⟩ hat
 ·rw [if_neg h1] at h
  by_cases h2 : (5 : Int) < (a0.length : Int)
  ·rw [if_pos h2] at h
   injection h with h; subst h
   exact to_fin mixed ⟨[(.eql, (.v 0), (.c 0), false), (.gtr, (.v 0), (.c 5), true)], [], [(0, 3, (.v 0))], [], [], []⟩ (V := (vals [(a0.length : Int)] [(a0.flatMap enIII)])) (n := 3000) (f := 3000) (fid := 136) (fun _ => rfl) ⟨⟨eql_f h1, gtr_t h2, tv⟩, tv, ⟨flat_length enIII_len _, tv⟩, tv, tv⟩ tv (R := ⟨.tup [(ys 0), (ys 1)], [none], [some (0, 0)]⟩) (qs := [.num (.c 0) (.v 0), .num (.c 8) (.v 1)]) wok0 tv hF hr (by kernel_rfl) ⟨(r (0 : Int)), (r (8 : Int)), tv⟩ hat
  ·rw [if_neg h2] at h
   obtain ⟨o3, ho3, h⟩ := bs1 h
   refine to_loop mixed ⟨[(.eql, (.v 0), (.c 0), false), (.gtr, (.v 0), (.c 5), false)], [], [(0, 3, (.v 0))], [], [], []⟩ (V := (vals [(a0.length : Int)] [(a0.flatMap enIII)])) (n := 3000) (f := 3000) (fid := 136) (fun _ => rfl) (V' := (vals [(a0.length : Int), (0 : Int)] [(a0.flatMap enIII)])) ⟨⟨eql_f h1, gtr_f h2, tv⟩, tv, ⟨flat_length enIII_len _, tv⟩, tv, tv⟩ tv (T := ⟨[(0, .gs 0 0 (.v 0) 3 false), (4, (ys 1))], [some (.rows 0 [] 209 true)], [some (0, 0)]⟩) (B := subAt (bodyOf Tryz.prog 136) [1, 1, 1, 0, 1, 0, 0]) (K' := [.bk 0, .sq (subAt (bodyOf Tryz.prog 136) [1, 1, 1, 1]) [1, 1, 1, 1]]) (qs := [(ns 0 0), .num (.c 0) (.v 1), .lst 0 (some 0) []]) wok0 tv hF hr (by kernel_rfl) ⟨(r (a0.length : Int)), (r (0 : Int)), ⟨[], rfl, lnil _⟩, tv⟩ hat fun aa1 ww1 hat1 => loop_in (r4_CheckDevices_L1_ok fu a0 fu (0 : Int) o3 ho3 _ _ _ _ _ _ _ hF hr hat1 ?_ ?_)
   ·intro y4 hy aa2 ww2 hat
    subst hy
    dsimp only at h
    show (Wk.out .ret).goal _ _ _ [.bk 0, .sq (subAt (bodyOf Tryz.prog 136) [1, 1, 1, 1]) [1, 1, 1, 1]] _ aa2 ww2
    injection h with h; subst h
    exact to_fin mixed ⟨[], [], [(0, 3, (.v 0))], [], [], []⟩ (V := (vals [(a0.length : Int), y4] [(a0.flatMap enIII)])) (n := 3000) (f := 3000) (fid := 136) (fun _ => rfl) ⟨tv, tv, ⟨flat_length enIII_len _, tv⟩, tv, tv⟩ tv (R := ⟨.tup [(ys 0), (ys 1)], [none], [some (0, 0)]⟩) (qs := [(ns 1 0), .num (.c 2) (.v 1)]) tv ⟨rfl, tv⟩ hF hr (by kernel_rfl) ⟨(r y4), (r (2 : Int)), tv⟩ hat
   ·intro y5 hy aa2 ww2 hat
    subst hy
    dsimp only at h
    show (Wk.out (.exit 0)).goal _ _ _ [.bk 0, .sq (subAt (bodyOf Tryz.prog 136) [1, 1, 1, 1]) [1, 1, 1, 1]] _ aa2 ww2
    injection h with h; subst h
    exact to_fin mixed ⟨[], [], [(0, 3, (.v 0))], [], [], []⟩ (V := (vals [(a0.length : Int)] [(a0.flatMap enIII)])) (n := 3000) (f := 3000) (fid := 136) (fun _ => rfl) ⟨tv, tv, ⟨flat_length enIII_len _, tv⟩, tv, tv⟩ tv (R := ⟨.tup [(ys 0), (ys 1)], [none], [some (0, 0)]⟩) (qs := [.num (.c 0) (.v 0), .num (.c 0) (.v 1)]) tv ⟨rfl, tv⟩ hF hr (by kernel_rfl) ⟨(r (0 : Int)), (r (0 : Int)), tv⟩ hat
def r4_DevicesErr (fu : Nat) (a0 : List (Int × Int × Int)) : Option (Int) := Option.bind (r4_CheckDevices fu a0) fun r1 => some r1.2
theorem r4_DevicesErr_ok (fu : Nat) (a0 : List (Int × Int × Int)) (y : Int) (h : r4_DevicesErr fu a0 = some y) : CallOk Tryz.prog 55 (vals [(a0.length : Int)] [(a0.flatMap enIII)]) [.gs 0 0 (.v 0) 3 false] [some (.rows 0 [] 209 true)] 1 (vals [y] []) ((ys 0)) [none] := by
 refine fun_of (nt := 11) (by kernel_rfl) (by kernel_rfl) fun φ0 w0 a w hat => ?_
 have hF := wide_fw
 have hr : Fence.wide.round = none := rfl
 unfold r4_DevicesErr at h
 obtain ⟨r1, hr1, h⟩ := bs1 h
 have Kr1 : KO Tryz.prog [(a0.length : Int), r1.1, r1.2] [(a0.flatMap enIII)] ⟨136, 1, [some (0, 0)], [.gs 0 0 (.v 0) 3 false], [some (.rows 0 [] 209 true)], [(ns 0 0), .lst 0 (some 0) []], 1, .tup [(ys 0), (ys 1)], [none], .tup [(ys 1), (ys 2)], [], []⟩ := fun N M => ⟨_, _, [(ns 0 1), (ns 1 2)], ⟨r4_CheckDevices_ok fu a0 r1 hr1, ⟨(r (a0.length : Int)), ⟨[], rfl, lnil _⟩, tv⟩, by kernel_rfl, ⟨rfl, rfl, tv⟩⟩⟩
 injection h with h; subst h
 exact to_fin mixed ⟨[], [], [(0, 3, (.v 0))], [⟨136, 1, [some (0, 0)], [.gs 0 0 (.v 0) 3 false], [some (.rows 0 [] 209 true)], [(ns 0 0), .lst 0 (some 0) []], 1, .tup [(ys 0), (ys 1)], [none], .tup [(ys 1), (ys 2)], [], []⟩], [], []⟩ (V := (vals [(a0.length : Int), r1.1, r1.2] [(a0.flatMap enIII)])) (n := 3000) (f := 3000) (fid := 55) (fun _ => rfl) ⟨tv, tv, ⟨flat_length enIII_len _, tv⟩, tv, tv⟩ ⟨Kr1 _ _, tv⟩ (R := ⟨(ys 0), [none], [some (0, 0)]⟩) (qs := [(ns 2 0)]) wok0 tv hF hr (by kernel_rfl) ⟨(r r1.2), tv⟩ (at_re (V' := (vals [(a0.length : Int), r1.1, r1.2] [(a0.flatMap enIII)])) (T := ⟨[(0, .gs 0 0 (.v 0) 3 false)], [some (.rows 0 [] 209 true)], [some (0, 0)]⟩) (qs := [(ns 0 0), .lst 0 (some 0) []]) hat (by kernel_rfl) ⟨rfl, ⟨[], rfl, lnil _⟩, tv⟩)
def r4_ParseDevices (fu : Nat) (a0 : Int) : Option (List (Int × Int × Int) × Int) := if (60000 : Int) < (sln a0) then (some (([] : List (Int × Int × Int)), (8 : Int))) else (Option.bind (b_Cut fu a0 (59 : Int)) fun r2 => Option.bind (r4_ParseDevices_L1 fu r2 fu ([] : List (Int × Int × Int)) (0 : Int)) fun o3 => (match o3 with | .inl y4 => (some (([] : List (Int × Int × Int)), (7 : Int))) | .inr y5 => (Option.bind (r4_DevicesErr fu y5) fun r6 => if r6 = (0 : Int) then (some (y5, (0 : Int))) else (some (([] : List (Int × Int × Int)), r6)))))
theorem r4_ParseDevices_ok (fu : Nat) (a0 : Int) (y : List (Int × Int × Int) × Int) (h : r4_ParseDevices fu a0 = some y) : CallOk Tryz.prog 49 (vals [a0] []) [.ss (.v 0)] [] 0 (vals [(y.1.length : Int), y.2] [(y.1.flatMap enIII)]) (.tup [.gs 0 0 (.v 0) 3 true, (ys 1)]) [some (.rows 0 [] 209 false)] := by
 refine fun_of (nt := 50) (by kernel_rfl) (by kernel_rfl) fun φ0 w0 a w hat => ?_
 have hF := wide_fw
 have hr : Fence.wide.round = none := rfl
 unfold r4_ParseDevices at h
 by_cases h1 : (60000 : Int) < (sln a0)
 ·rw [if_pos h1] at h
  injection h with h; subst h
  exact to_fin mixed ⟨[(.gtr, (.sln (.v 0)), (.c 60000), true)], [], [], [], [], []⟩ (V := (vals [a0] [])) (n := 3000) (f := 3000) (fid := 49) (fun _ => rfl) ⟨⟨gtr_t h1, tv⟩, tv, tv, tv, tv⟩ tv (R := ⟨.tup [.gs 0 0 (.v 0) 3 true, (ys 1)], [some (.rows 0 [] 209 false)], [none]⟩) (qs := [.num (.c 0) (.v 0), .num (.c 8) (.v 1)]) wok0 tv hF hr (by kernel_rfl) ⟨rfl, (r (8 : Int)), tv⟩ hat
 ·rw [if_neg h1] at h
  obtain ⟨r2, hr2, h⟩ := bs1 h
  have Kr2 : KO Tryz.prog [a0, (r2.length : Int)] [(r2.flatMap enS)] ⟨95, 0, [], [.ss (.v 0), .sym .u8 (.v 1)], [], [(ns 0 0), .num (.c 59) (.v 1)], 0, .gs 0 0 (.v 0) 1 true, [some (.rows 0 [] 9 false)], .gs 0 0 (.v 1) 1 true, [some (.rows 0 [] 9 false)], []⟩ := fun N M => ⟨_, _, [(ns 0 1), .lst 0 (some 0) []], ⟨b_Cut_ok fu a0 (59 : Int) r2 hr2, ⟨(r a0), (r (59 : Int)), tv⟩, by kernel_rfl, ⟨rfl, ⟨[], rfl, lnil _⟩, tv⟩⟩⟩
  obtain ⟨o3, ho3, h⟩ := bs1 h
  refine to_loop mixed ⟨[(.gtr, (.sln (.v 0)), (.c 60000), false)], [], [(0, 1, (.v 1))], [⟨95, 0, [], [.ss (.v 0), .sym .u8 (.v 1)], [], [(ns 0 0), .num (.c 59) (.v 1)], 0, .gs 0 0 (.v 0) 1 true, [some (.rows 0 [] 9 false)], .gs 0 0 (.v 1) 1 true, [some (.rows 0 [] 9 false)], []⟩], [], []⟩ (V := (vals [a0, (r2.length : Int)] [(r2.flatMap enS)])) (n := 3000) (f := 3000) (fid := 49) (fun _ => rfl) (V' := (vals [(r2.length : Int), (([] : List (Int × Int × Int)).length : Int), (0 : Int)] [(r2.flatMap enS), (([] : List (Int × Int × Int)).flatMap enIII)])) ⟨⟨gtr_f h1, tv⟩, tv, ⟨flat_length enS_len _, tv⟩, tv, tv⟩ ⟨Kr2 _ _, tv⟩ (T := ⟨[(4, .gs 0 0 (.v 0) 1 true), (5, .gs 1 0 (.v 1) 3 true), (6, (ys 2))], [some (.rows 0 [] 9 false), some (.rows 1 [] 209 false)], [some (0, 0), none]⟩) (B := subAt (bodyOf Tryz.prog 49) [1, 1, 1, 1, 0, 1, 0, 0]) (K' := [.bk 0, .sq (subAt (bodyOf Tryz.prog 49) [1, 1, 1, 1, 1]) [1, 1, 1, 1, 1]]) (qs := [(ns 1 0), .num (.c 0) (.v 1), .num (.c 0) (.v 2), .lst 0 (some 0) []]) wok0 tv hF hr (by kernel_rfl) ⟨(r (r2.length : Int)), rfl, (r (0 : Int)), ⟨[], rfl, lnil _⟩, tv⟩ (at_re (V' := (vals [a0, (r2.length : Int)] [(r2.flatMap enS)])) (T := ⟨[(0, .ss (.v 0))], [], []⟩) (qs := [(ns 0 0)]) hat (by kernel_rfl) ⟨rfl, tv⟩) fun aa1 ww1 hat1 => loop_in (r4_ParseDevices_L1_ok fu r2 fu ([] : List (Int × Int × Int)) (0 : Int) o3 ho3 _ _ _ _ _ _ _ hF hr hat1 ?_ ?_)
  ·intro y4 hy aa2 ww2 hat
   subst hy
   dsimp only at h
   show (Wk.out .ret).goal _ _ _ [.bk 0, .sq (subAt (bodyOf Tryz.prog 49) [1, 1, 1, 1, 1]) [1, 1, 1, 1, 1]] _ aa2 ww2
   injection h with h; subst h
   exact to_fin mixed ⟨[], [], [], [], [], []⟩ (V := (vals [] [])) (n := 3000) (f := 3000) (fid := 49) (fun _ => rfl) ⟨tv, tv, tv, tv, tv⟩ tv (R := ⟨.tup [.gs 0 0 (.v 0) 3 true, (ys 1)], [some (.rows 0 [] 209 false)], [none]⟩) (qs := [.num (.c 0) (.v 0), .num (.c 7) (.v 1)]) tv ⟨rfl, tv⟩ hF hr (by kernel_rfl) ⟨rfl, (r (7 : Int)), tv⟩ hat
  ·intro y5 hy aa2 ww2 hat
   subst hy
   dsimp only at h
   show (Wk.out (.exit 0)).goal _ _ _ [.bk 0, .sq (subAt (bodyOf Tryz.prog 49) [1, 1, 1, 1, 1]) [1, 1, 1, 1, 1]] _ aa2 ww2
   obtain ⟨r6, hr6, h⟩ := bs1 h
   have Kr6 : KO Tryz.prog [(y5.length : Int), r6] [(y5.flatMap enIII)] ⟨55, 1, [some (0, 0)], [.gs 0 0 (.v 0) 3 false], [some (.rows 0 [] 209 true)], [(ns 0 0), .lst 0 (some 0) []], 1, (ys 0), [none], (ys 1), [], []⟩ := fun N M => ⟨_, _, [(ns 0 1)], ⟨r4_DevicesErr_ok fu y5 r6 hr6, ⟨(r (y5.length : Int)), ⟨[], rfl, lnil _⟩, tv⟩, by kernel_rfl, ⟨rfl, tv⟩⟩⟩
   by_cases h7 : r6 = (0 : Int)
   ·rw [if_pos h7] at h
    injection h with h; subst h
    exact to_fin mixed ⟨[(.neq, (.v 1), (.c 0), false)], [], [(0, 3, (.v 0))], [⟨55, 1, [some (0, 0)], [.gs 0 0 (.v 0) 3 false], [some (.rows 0 [] 209 true)], [(ns 0 0), .lst 0 (some 0) []], 1, (ys 0), [none], (ys 1), [], []⟩], [], []⟩ (V := (vals [(y5.length : Int), r6] [(y5.flatMap enIII)])) (n := 3000) (f := 3000) (fid := 49) (fun _ => rfl) ⟨⟨neq_f h7, tv⟩, tv, ⟨flat_length enIII_len _, tv⟩, tv, tv⟩ ⟨Kr6 _ _, tv⟩ (R := ⟨.tup [.gs 0 0 (.v 0) 3 true, (ys 1)], [some (.rows 0 [] 209 false)], [some (0, 0)]⟩) (qs := [(ns 0 0), .num (.c 0) (.v 1), .lst 0 (some 0) []]) tv ⟨rfl, tv⟩ hF hr (by kernel_rfl) ⟨(r (y5.length : Int)), (r (0 : Int)), ⟨[], rfl, lnil _⟩, tv⟩ (at_re (V' := (vals [(y5.length : Int), r6] [(y5.flatMap enIII)])) (T := ⟨[(5, .gs 0 0 (.v 0) 3 true)], [some (.rows 0 [] 209 false)], [some (0, 0)]⟩) (qs := [(ns 0 0), .lst 0 (some 0) []]) hat (by kernel_rfl) ⟨rfl, ⟨[], rfl, lnil _⟩, tv⟩)
   ·rw [if_neg h7] at h
    injection h with h; subst h
    exact to_fin mixed ⟨[(.neq, (.v 1), (.c 0), true)], [], [(0, 3, (.v 0))], [⟨55, 1, [some (0, 0)], [.gs 0 0 (.v 0) 3 false], [some (.rows 0 [] 209 true)], [(ns 0 0), .lst 0 (some 0) []], 1, (ys 0), [none], (ys 1), [], []⟩], [], []⟩ (V := (vals [(y5.length : Int), r6] [(y5.flatMap enIII)])) (n := 3000) (f := 3000) (fid := 49) (fun _ => rfl) ⟨⟨neq_t h7, tv⟩, tv, ⟨flat_length enIII_len _, tv⟩, tv, tv⟩ ⟨Kr6 _ _, tv⟩ (R := ⟨.tup [.gs 0 0 (.v 0) 3 true, (ys 1)], [some (.rows 0 [] 209 false)], [none]⟩) (qs := [.num (.c 0) (.v 0), (ns 1 1)]) tv ⟨rfl, tv⟩ hF hr (by kernel_rfl) ⟨rfl, (r r6), tv⟩ (at_re (V' := (vals [(y5.length : Int), r6] [(y5.flatMap enIII)])) (T := ⟨[(5, .gs 0 0 (.v 0) 3 true)], [some (.rows 0 [] 209 false)], [some (0, 0)]⟩) (qs := [(ns 0 0), .lst 0 (some 0) []]) hat (by kernel_rfl) ⟨rfl, ⟨[], rfl, lnil _⟩, tv⟩)
def r4_ParseScene_L1 (fu : Nat) (p0 : List (Int)) (p1 : Int) (p2 : Int) : Nat → List (Int × Int × Int × Int × Bool) → Int → Option ((Unit) ⊕ (List (Int × Int × Int × Int × Bool)))
 | 0, _, _ => none
 | n + 1, v3, v4 => if v4 < (p0.length : Int) then (if (0 : Int) ≤ v4 then (Option.bind ((p0)[0 + (v4).toNat]?) fun e3 => Option.bind (r4_numbers fu e3 (5 : Int)) fun r4 => if r4.2 = true then (if (4 : Int) < (r4.1.length : Int) then (Option.bind ((r4.1)[0 + ((4 : Int)).toNat]?) fun e7 => if (1 : Int) < e7 then (some (.inl ())) else (if (0 : Int) < (r4.1.length : Int) then (Option.bind ((r4.1)[0 + ((0 : Int)).toNat]?) fun e10 => if (1 : Int) < (r4.1.length : Int) then (Option.bind ((r4.1)[0 + ((1 : Int)).toNat]?) fun e12 => if (2 : Int) < (r4.1.length : Int) then (Option.bind ((r4.1)[0 + ((2 : Int)).toNat]?) fun e14 => if (3 : Int) < (r4.1.length : Int) then (Option.bind ((r4.1)[0 + ((3 : Int)).toNat]?) fun e16 => if e7 = (1 : Int) then (if (v3.length : Int) < (65536 : Int) then (r4_ParseScene_L1 fu p0 p1 p2 n (v3 ++ [(e10, e12, e14, e16, true)]) (IntKind.wrap .i64 (v4 + (1 : Int)))) else none) else (if (v3.length : Int) < (65536 : Int) then (r4_ParseScene_L1 fu p0 p1 p2 n (v3 ++ [(e10, e12, e14, e16, false)]) (IntKind.wrap .i64 (v4 + (1 : Int)))) else none)) else none) else none) else none) else none)) else none) else (some (.inl ()))) else none) else (some (.inr v3))
theorem r4_ParseScene_L1_ok (fu : Nat) (p0 : List (Int)) (p1 : Int) (p2 : Int) : ∀ (n : Nat) (v3 : List (Int × Int × Int × Int × Bool)) (v4 : Int) (o : (Unit) ⊕ (List (Int × Int × Int × Int × Bool))), r4_ParseScene_L1 fu p0 p1 p2 n v3 v4 = some o → ∀ (φ0 : Phi) (w0 : World) (F : Fence) (k : Nat) (R : Exit → Act → World → Prop) (a : Act) (w : World), FW F → F.round = none → AtS (vals [(p0.length : Int), p1, p2, (v3.length : Int), v4] [(p0.flatMap enS), (v3.flatMap enIIIIB)]) [(2, .ptr 0 0), (4, .ptr 1 0), (5, .gs 2 0 (.v 0) 1 true), (8, .ptr 3 0), (9, (ys 4))] [some (.cells [.int .i64 0, .int .i64 0, .nils] 74 false), some (.cells [.int .i64 0, .int .i64 0, .nils] 74 false), some (.rows 0 [] 9 false), some (.cells [(ys 1), (ys 2), .gs 4 0 (.v 3) 5 true] 74 false), some (.rows 1 [] 214 false)] 91 0 0 φ0 w0 a w → (∀ (y : Unit), o = .inl y → ∀ a' w', AtS (vals [] []) [(2, .ptr 0 0), (3, .int .i64 7)] [some (.cells [.int .i64 0, .int .i64 0, .nils] 74 false)] 91 0 0 φ0 w0 a' w' → R Exit.ret a' w') → (∀ (y : List (Int × Int × Int × Int × Bool)), o = .inr y → ∀ a' w', AtS (vals [p1, p2, (y.length : Int)] [(y.flatMap enIIIIB)]) [(2, .ptr 0 0), (4, .ptr 1 0), (8, .ptr 2 0)] [some (.cells [.int .i64 0, .int .i64 0, .nils] 74 false), some (.cells [.int .i64 0, .int .i64 0, .nils] 74 false), some (.cells [(ys 0), (ys 1), .gs 3 0 (.v 2) 5 true] 74 false), some (.rows 0 [] 214 false)] 91 0 0 φ0 w0 a' w' → R (Exit.exit 0) a' w') → Code.roundsIn F k Tryz.prog (subAt (bodyOf Tryz.prog 50) [1, 1, 1, 1, 1, 1, 1, 0, 1, 0, 0]) R n a w
 | 0, _, _, _, h => by cases h
 | n + 1, v3, v4, o, h => by
  intro φ0 w0 F k R a w hF hr hat hx0 hx1
  rw [r4_ParseScene_L1] at h
  refine rounds_in (p := [1, 1, 1, 1, 1, 1, 1, 0, 1, 0, 0]) ?_
  by_cases h1 : v4 < (p0.length : Int)
  ·rw [if_pos h1] at h
   by_cases h2 : (0 : Int) ≤ v4
   ·rw [if_pos h2] at h
    obtain ⟨e3, he3, h⟩ := bs1 h
    obtain ⟨r4, hr4, h⟩ := bs1 h
    have Kr4 : KO Tryz.prog [(p0.length : Int), p1, p2, (v3.length : Int), v4, e3, (r4.1.length : Int), bI r4.2] [(p0.flatMap enS), (v3.flatMap enIIIIB), (r4.1.flatMap enI)] ⟨134, 5, [], [.ss (.v 0), (ys 1)], [], [(ns 5 0), .num (.c 5) (.v 1)], 0, .tup [.gs 0 0 (.v 0) 1 true, .bs (.v 1)], [some (.rows 0 [] 3 false)], .tup [.gs 5 0 (.v 6) 1 true, .bs (.v 7)], [some (.rows 2 [] 3 false)], []⟩ := fun N M => ⟨_, _, [(ns 0 6), (ns 1 7), .lst 2 (some 0) []], ⟨r4_numbers_ok fu e3 (5 : Int) r4 hr4, ⟨(r e3), (r (5 : Int)), tv⟩, by kernel_rfl, ⟨rfl, rfl, ⟨[], rfl, lnil _⟩, tv⟩⟩⟩
    by_cases h5 : r4.2 = true
    ·rw [if_pos h5] at h
     by_cases h6 : (4 : Int) < (r4.1.length : Int)
     ·rw [if_pos h6] at h
      obtain ⟨e7, he7, h⟩ := bs1 h
      by_cases h8 : (1 : Int) < e7
      ·rw [if_pos h8] at h
       injection h with h; subst h
       exact to_done mixed ⟨[(.lss, (.v 4), (.v 0), true), (.leq, (.c 0), (.v 4), true), (.neq, (.v 7), (.c 0), true), (.lss, (.c 4), (.v 6), true), (.gtr, (.v 8), (.c 1), true)], [(0, 0, (.v 4), [.ss (.v 5)]), (2, 0, (.c 4), [(ys 8)])], [(0, 1, (.v 0)), (1, 5, (.v 3)), (2, 1, (.v 6))], [⟨134, 5, [], [.ss (.v 0), (ys 1)], [], [(ns 5 0), .num (.c 5) (.v 1)], 0, .tup [.gs 0 0 (.v 0) 1 true, .bs (.v 1)], [some (.rows 0 [] 3 false)], .tup [.gs 5 0 (.v 6) 1 true, .bs (.v 7)], [some (.rows 2 [] 3 false)], []⟩], [], []⟩ (V := (vals [(p0.length : Int), p1, p2, (v3.length : Int), v4, e3, (r4.1.length : Int), bI r4.2, e7] [(p0.flatMap enS), (v3.flatMap enIIIIB), (r4.1.flatMap enI)])) (n := 3000) (f := 3000) (fid := 50) (fun _ => rfl) (V' := (vals [] [])) ⟨⟨lss_t h1, leq_t h2, bi_t h5, lss_t h6, gtr_t h8, tv⟩, ⟨⟨h2, _, rfl, flat_row enS_len he3⟩, ⟨(show (0 : Int) ≤ 4 by omega), _, rfl, flat_row enI_len he7⟩, tv⟩, ⟨flat_length enS_len _, flat_length enIIIIB_len _, flat_length enI_len _, tv⟩, tv, tv⟩ ⟨Kr4 _ _, tv⟩ (T := ⟨[(2, .ptr 0 0), (3, .int .i64 7)], [some (.cells [.int .i64 0, .int .i64 0, .nils] 74 false)], [some (0, 0)]⟩) (ce := .ret) (qs := []) rfl tv hF hr (by kernel_rfl) tv (at_re (V' := (vals [(p0.length : Int), p1, p2, (v3.length : Int), v4, e3, (r4.1.length : Int), bI r4.2, e7] [(p0.flatMap enS), (v3.flatMap enIIIIB), (r4.1.flatMap enI)])) (T := ⟨[(2, .ptr 0 0), (4, .ptr 1 0), (5, .gs 2 0 (.v 0) 1 true), (8, .ptr 3 0), (9, (ys 4))], [some (.cells [.int .i64 0, .int .i64 0, .nils] 74 false), some (.cells [.int .i64 0, .int .i64 0, .nils] 74 false), some (.rows 0 [] 9 false), some (.cells [(ys 1), (ys 2), .gs 4 0 (.v 3) 5 true] 74 false), some (.rows 1 [] 214 false)], [some (0, 0), some (1, 0), some (2, 0), some (3, 0), some (4, 0)]⟩) (qs := [(ns 0 0), (ns 4 4), .lst 0 (some 0) [], (ns 1 1), (ns 2 2), (ns 3 3), .lst 1 (some 1) []]) hat (by kernel_rfl) ⟨rfl, rfl, ⟨[], rfl, lnil _⟩, rfl, rfl, rfl, ⟨[], rfl, lnil _⟩, tv⟩) fun a' w' hat' => hx0 () rfl a' w' hat'
      ·rw [if_neg h8] at h
       by_cases h9 : (0 : Int) < (r4.1.length : Int)
       ·rw [if_pos h9] at h
        obtain ⟨e10, he10, h⟩ := bs1 h
        by_cases h11 : (1 : Int) < (r4.1.length : Int)
        ·rw [if_pos h11] at h
         obtain ⟨e12, he12, h⟩ := bs1 h
         by_cases h13 : (2 : Int) < (r4.1.length : Int)
         ·rw [if_pos h13] at h
          obtain ⟨e14, he14, h⟩ := bs1 h
          by_cases h15 : (3 : Int) < (r4.1.length : Int)
          ·rw [if_pos h15] at h
           obtain ⟨e16, he16, h⟩ := bs1 h
           by_cases h17 : e7 = (1 : Int)
           ·rw [if_pos h17] at h
            by_cases h18 : (v3.length : Int) < (65536 : Int)
            ·rw [if_pos h18] at h
             refine to_done mixed ⟨[(.lss, (.v 4), (.v 0), true), (.leq, (.c 0), (.v 4), true), (.neq, (.v 7), (.c 0), true), (.lss, (.c 4), (.v 6), true), (.gtr, (.v 8), (.c 1), false), (.lss, (.c 0), (.v 6), true), (.lss, (.c 1), (.v 6), true), (.lss, (.c 2), (.v 6), true), (.lss, (.c 3), (.v 6), true), (.eql, (.v 8), (.c 1), true), (.lss, (.v 3), (.c 65536), true)], [(0, 0, (.v 4), [.ss (.v 5)]), (2, 0, (.c 4), [(ys 8)]), (2, 0, (.c 0), [(ys 9)]), (2, 0, (.c 1), [(ys 10)]), (2, 0, (.c 2), [(ys 11)]), (2, 0, (.c 3), [(ys 12)])], [(0, 1, (.v 0)), (1, 5, (.v 3)), (2, 1, (.v 6))], [⟨134, 5, [], [.ss (.v 0), (ys 1)], [], [(ns 5 0), .num (.c 5) (.v 1)], 0, .tup [.gs 0 0 (.v 0) 1 true, .bs (.v 1)], [some (.rows 0 [] 3 false)], .tup [.gs 5 0 (.v 6) 1 true, .bs (.v 7)], [some (.rows 2 [] 3 false)], []⟩], [], []⟩ (V := (vals [(p0.length : Int), p1, p2, (v3.length : Int), v4, e3, (r4.1.length : Int), bI r4.2, e7, e10, e12, e14, e16] [(p0.flatMap enS), (v3.flatMap enIIIIB), (r4.1.flatMap enI)])) (n := 3000) (f := 3000) (fid := 50) (fun _ => rfl) (V' := (vals [(p0.length : Int), p1, p2, ((v3 ++ [(e10, e12, e14, e16, true)]).length : Int), (IntKind.wrap .i64 (v4 + (1 : Int)))] [(p0.flatMap enS), ((v3 ++ [(e10, e12, e14, e16, true)]).flatMap enIIIIB)])) ⟨⟨lss_t h1, leq_t h2, bi_t h5, lss_t h6, gtr_f h8, lss_t h9, lss_t h11, lss_t h13, lss_t h15, eql_t h17, lss_t h18, tv⟩, ⟨⟨h2, _, rfl, flat_row enS_len he3⟩, ⟨(show (0 : Int) ≤ 4 by omega), _, rfl, flat_row enI_len he7⟩, ⟨(show (0 : Int) ≤ 0 by omega), _, rfl, flat_row enI_len he10⟩, ⟨(show (0 : Int) ≤ 1 by omega), _, rfl, flat_row enI_len he12⟩, ⟨(show (0 : Int) ≤ 2 by omega), _, rfl, flat_row enI_len he14⟩, ⟨(show (0 : Int) ≤ 3 by omega), _, rfl, flat_row enI_len he16⟩, tv⟩, ⟨flat_length enS_len _, flat_length enIIIIB_len _, flat_length enI_len _, tv⟩, tv, tv⟩ ⟨Kr4 _ _, tv⟩ (T := ⟨[(2, .ptr 0 0), (4, .ptr 1 0), (5, .gs 2 0 (.v 0) 1 true), (8, .ptr 3 0), (9, (ys 4))], [some (.cells [.int .i64 0, .int .i64 0, .nils] 74 false), some (.cells [.int .i64 0, .int .i64 0, .nils] 74 false), some (.rows 0 [] 9 false), some (.cells [(ys 1), (ys 2), .gs 4 0 (.v 3) 5 true] 74 false), some (.rows 1 [] 214 false)], [some (0, 0), some (1, 0), some (2, 0), some (3, 0), some (7, 0)]⟩) (ce := .normal) (qs := [(ns 0 0), .num (.add .i64 (.v 4) (.c 1)) (.v 4), .lst 0 (some 0) [], (ns 1 1), (ns 2 2), .num (.add .i64 (.v 3) (.c 1)) (.v 3), .lst 1 (some 1) [(ys 9), (ys 10), (ys 11), (ys 12), .bool true]]) rfl tv hF hr (by kernel_rfl) ⟨(r (p0.length : Int)), (r (IntKind.wrap .i64 (v4 + (1 : Int)))), ⟨[], rfl, lnil _⟩, (r p1), (r p2), (show (IntKind.wrap .i64 ((v3.length : Int) + (1 : Int))) = ((v3 ++ [(e10, e12, e14, e16, true)]).length : Int) by first | rfl | (simp only [List.length_append, List.length_cons, List.length_nil]; rw [IntKind.wrap_i64]; omega)), ⟨_, rfl, List.flatMap_append⟩, tv⟩ (at_re (V' := (vals [(p0.length : Int), p1, p2, (v3.length : Int), v4, e3, (r4.1.length : Int), bI r4.2, e7, e10, e12, e14, e16] [(p0.flatMap enS), (v3.flatMap enIIIIB), (r4.1.flatMap enI)])) (T := ⟨[(2, .ptr 0 0), (4, .ptr 1 0), (5, .gs 2 0 (.v 0) 1 true), (8, .ptr 3 0), (9, (ys 4))], [some (.cells [.int .i64 0, .int .i64 0, .nils] 74 false), some (.cells [.int .i64 0, .int .i64 0, .nils] 74 false), some (.rows 0 [] 9 false), some (.cells [(ys 1), (ys 2), .gs 4 0 (.v 3) 5 true] 74 false), some (.rows 1 [] 214 false)], [some (0, 0), some (1, 0), some (2, 0), some (3, 0), some (4, 0)]⟩) (qs := [(ns 0 0), (ns 4 4), .lst 0 (some 0) [], (ns 1 1), (ns 2 2), (ns 3 3), .lst 1 (some 1) []]) hat (by kernel_rfl) ⟨rfl, rfl, ⟨[], rfl, lnil _⟩, rfl, rfl, rfl, ⟨[], rfl, lnil _⟩, tv⟩) fun a' w' hat' => ?_
             exact r4_ParseScene_L1_ok fu p0 p1 p2 n (v3 ++ [(e10, e12, e14, e16, true)]) (IntKind.wrap .i64 (v4 + (1 : Int))) o h _ _ _ _ _ _ _ hF hr hat' hx0 hx1
            ·rw [if_neg h18] at h
             cases h
           ·rw [if_neg h17] at h
            by_cases h19 : (v3.length : Int) < (65536 : Int)
            ·rw [if_pos h19] at h
             refine to_done mixed ⟨[(.lss, (.v 4), (.v 0), true), (.leq, (.c 0), (.v 4), true), (.neq, (.v 7), (.c 0), true), (.lss, (.c 4), (.v 6), true), (.gtr, (.v 8), (.c 1), false), (.lss, (.c 0), (.v 6), true), (.lss, (.c 1), (.v 6), true), (.lss, (.c 2), (.v 6), true), (.lss, (.c 3), (.v 6), true), (.eql, (.v 8), (.c 1), false), (.lss, (.v 3), (.c 65536), true)], [(0, 0, (.v 4), [.ss (.v 5)]), (2, 0, (.c 4), [(ys 8)]), (2, 0, (.c 0), [(ys 9)]), (2, 0, (.c 1), [(ys 10)]), (2, 0, (.c 2), [(ys 11)]), (2, 0, (.c 3), [(ys 12)])], [(0, 1, (.v 0)), (1, 5, (.v 3)), (2, 1, (.v 6))], [⟨134, 5, [], [.ss (.v 0), (ys 1)], [], [(ns 5 0), .num (.c 5) (.v 1)], 0, .tup [.gs 0 0 (.v 0) 1 true, .bs (.v 1)], [some (.rows 0 [] 3 false)], .tup [.gs 5 0 (.v 6) 1 true, .bs (.v 7)], [some (.rows 2 [] 3 false)], []⟩], [], []⟩ (V := (vals [(p0.length : Int), p1, p2, (v3.length : Int), v4, e3, (r4.1.length : Int), bI r4.2, e7, e10, e12, e14, e16] [(p0.flatMap enS), (v3.flatMap enIIIIB), (r4.1.flatMap enI)])) (n := 3000) (f := 3000) (fid := 50) (fun _ => rfl) (V' := (vals [(p0.length : Int), p1, p2, ((v3 ++ [(e10, e12, e14, e16, false)]).length : Int), (IntKind.wrap .i64 (v4 + (1 : Int)))] [(p0.flatMap enS), ((v3 ++ [(e10, e12, e14, e16, false)]).flatMap enIIIIB)])) ⟨⟨lss_t h1, leq_t h2, bi_t h5, lss_t h6, gtr_f h8, lss_t h9, lss_t h11, lss_t h13, lss_t h15, eql_f h17, lss_t h19, tv⟩, ⟨⟨h2, _, rfl, flat_row enS_len he3⟩, ⟨(show (0 : Int) ≤ 4 by omega), _, rfl, flat_row enI_len he7⟩, ⟨(show (0 : Int) ≤ 0 by omega), _, rfl, flat_row enI_len he10⟩, ⟨(show (0 : Int) ≤ 1 by omega), _, rfl, flat_row enI_len he12⟩, ⟨(show (0 : Int) ≤ 2 by omega), _, rfl, flat_row enI_len he14⟩, ⟨(show (0 : Int) ≤ 3 by omega), _, rfl, flat_row enI_len he16⟩, tv⟩, ⟨flat_length enS_len _, flat_length enIIIIB_len _, flat_length enI_len _, tv⟩, tv, tv⟩ ⟨Kr4 _ _, tv⟩ (T := ⟨[(2, .ptr 0 0), (4, .ptr 1 0), (5, .gs 2 0 (.v 0) 1 true), (8, .ptr 3 0), (9, (ys 4))], [some (.cells [.int .i64 0, .int .i64 0, .nils] 74 false), some (.cells [.int .i64 0, .int .i64 0, .nils] 74 false), some (.rows 0 [] 9 false), some (.cells [(ys 1), (ys 2), .gs 4 0 (.v 3) 5 true] 74 false), some (.rows 1 [] 214 false)], [some (0, 0), some (1, 0), some (2, 0), some (3, 0), some (7, 0)]⟩) (ce := .normal) (qs := [(ns 0 0), .num (.add .i64 (.v 4) (.c 1)) (.v 4), .lst 0 (some 0) [], (ns 1 1), (ns 2 2), .num (.add .i64 (.v 3) (.c 1)) (.v 3), .lst 1 (some 1) [(ys 9), (ys 10), (ys 11), (ys 12), .bool false]]) rfl tv hF hr (by kernel_rfl) ⟨(r (p0.length : Int)), (r (IntKind.wrap .i64 (v4 + (1 : Int)))), ⟨[], rfl, lnil _⟩, (r p1), (r p2), (show (IntKind.wrap .i64 ((v3.length : Int) + (1 : Int))) = ((v3 ++ [(e10, e12, e14, e16, false)]).length : Int) by first | rfl | (simp only [List.length_append, List.length_cons, List.length_nil]; rw [IntKind.wrap_i64]; omega)), ⟨_, rfl, List.flatMap_append⟩, tv⟩ (at_re (V' := (vals [(p0.length : Int), p1, p2, (v3.length : Int), v4, e3, (r4.1.length : Int), bI r4.2, e7, e10, e12, e14, e16] [(p0.flatMap enS), (v3.flatMap enIIIIB), (r4.1.flatMap enI)])) (T := ⟨[(2, .ptr 0 0), (4, .ptr 1 0), (5, .gs 2 0 (.v 0) 1 true), (8, .ptr 3 0), (9, (ys 4))], [some (.cells [.int .i64 0, .int .i64 0, .nils] 74 false), some (.cells [.int .i64 0, .int .i64 0, .nils] 74 false), some (.rows 0 [] 9 false), some (.cells [(ys 1), (ys 2), .gs 4 0 (.v 3) 5 true] 74 false), some (.rows 1 [] 214 false)], [some (0, 0), some (1, 0), some (2, 0), some (3, 0), some (4, 0)]⟩) (qs := [(ns 0 0), (ns 4 4), .lst 0 (some 0) [], (ns 1 1), (ns 2 2), (ns 3 3), .lst 1 (some 1) []]) hat (by kernel_rfl) ⟨rfl, rfl, ⟨[], rfl, lnil _⟩, rfl, rfl, rfl, ⟨[], rfl, lnil _⟩, tv⟩) fun a' w' hat' => ?_
             exact r4_ParseScene_L1_ok fu p0 p1 p2 n (v3 ++ [(e10, e12, e14, e16, false)]) (IntKind.wrap .i64 (v4 + (1 : Int))) o h _ _ _ _ _ _ _ hF hr hat' hx0 hx1
            ·rw [if_neg h19] at h
             cases h
          ·rw [if_neg h15] at h
           cases h
         ·rw [if_neg h13] at h
          cases h
        ·rw [if_neg h11] at h
         cases h
       ·rw [if_neg h9] at h
        cases h
     ·rw [if_neg h6] at h
      cases h
    ·rw [if_neg h5] at h
     injection h with h; subst h
     exact to_done mixed ⟨[(.lss, (.v 4), (.v 0), true), (.leq, (.c 0), (.v 4), true), (.neq, (.v 7), (.c 0), false)], [(0, 0, (.v 4), [.ss (.v 5)])], [(0, 1, (.v 0)), (1, 5, (.v 3)), (2, 1, (.v 6))], [⟨134, 5, [], [.ss (.v 0), (ys 1)], [], [(ns 5 0), .num (.c 5) (.v 1)], 0, .tup [.gs 0 0 (.v 0) 1 true, .bs (.v 1)], [some (.rows 0 [] 3 false)], .tup [.gs 5 0 (.v 6) 1 true, .bs (.v 7)], [some (.rows 2 [] 3 false)], []⟩], [], []⟩ (V := (vals [(p0.length : Int), p1, p2, (v3.length : Int), v4, e3, (r4.1.length : Int), bI r4.2] [(p0.flatMap enS), (v3.flatMap enIIIIB), (r4.1.flatMap enI)])) (n := 3000) (f := 3000) (fid := 50) (fun _ => rfl) (V' := (vals [] [])) ⟨⟨lss_t h1, leq_t h2, bi_f h5, tv⟩, ⟨⟨h2, _, rfl, flat_row enS_len he3⟩, tv⟩, ⟨flat_length enS_len _, flat_length enIIIIB_len _, flat_length enI_len _, tv⟩, tv, tv⟩ ⟨Kr4 _ _, tv⟩ (T := ⟨[(2, .ptr 0 0), (3, .int .i64 7)], [some (.cells [.int .i64 0, .int .i64 0, .nils] 74 false)], [some (0, 0)]⟩) (ce := .ret) (qs := []) rfl tv hF hr (by kernel_rfl) tv (at_re (V' := (vals [(p0.length : Int), p1, p2, (v3.length : Int), v4, e3, (r4.1.length : Int), bI r4.2] [(p0.flatMap enS), (v3.flatMap enIIIIB), (r4.1.flatMap enI)])) (T := ⟨[(2, .ptr 0 0), (4, .ptr 1 0), (5, .gs 2 0 (.v 0) 1 true), (8, .ptr 3 0), (9, (ys 4))], [some (.cells [.int .i64 0, .int .i64 0, .nils] 74 false), some (.cells [.int .i64 0, .int .i64 0, .nils] 74 false), some (.rows 0 [] 9 false), some (.cells [(ys 1), (ys 2), .gs 4 0 (.v 3) 5 true] 74 false), some (.rows 1 [] 214 false)], [some (0, 0), some (1, 0), some (2, 0), some (3, 0), some (4, 0)]⟩) (qs := [(ns 0 0), (ns 4 4), .lst 0 (some 0) [], (ns 1 1), (ns 2 2), (ns 3 3), .lst 1 (some 1) []]) hat (by kernel_rfl) ⟨rfl, rfl, ⟨[], rfl, lnil _⟩, rfl, rfl, rfl, ⟨[], rfl, lnil _⟩, tv⟩) fun a' w' hat' => hx0 () rfl a' w' hat'
   ·rw [if_neg h2] at h
    cases h
  ·rw [if_neg h1] at h
   injection h with h; subst h
   exact to_done mixed ⟨[(.lss, (.v 4), (.v 0), false)], [], [(0, 1, (.v 0)), (1, 5, (.v 3))], [], [], []⟩ (V := (vals [(p0.length : Int), p1, p2, (v3.length : Int), v4] [(p0.flatMap enS), (v3.flatMap enIIIIB)])) (n := 3000) (f := 3000) (fid := 50) (fun _ => rfl) (V' := (vals [p1, p2, (v3.length : Int)] [(v3.flatMap enIIIIB)])) ⟨⟨lss_f h1, tv⟩, tv, ⟨flat_length enS_len _, flat_length enIIIIB_len _, tv⟩, tv, tv⟩ tv (T := ⟨[(2, .ptr 0 0), (4, .ptr 1 0), (8, .ptr 2 0)], [some (.cells [.int .i64 0, .int .i64 0, .nils] 74 false), some (.cells [.int .i64 0, .int .i64 0, .nils] 74 false), some (.cells [(ys 0), (ys 1), .gs 3 0 (.v 2) 5 true] 74 false), some (.rows 0 [] 214 false)], [some (0, 0), some (1, 0), some (3, 0), some (4, 0)]⟩) (ce := (.exit 0)) (qs := [(ns 1 0), (ns 2 1), (ns 3 2), .lst 0 (some 1) []]) rfl tv hF hr (by kernel_rfl) ⟨(r p1), (r p2), (r (v3.length : Int)), ⟨[], rfl, lnil _⟩, tv⟩ hat fun a' w' hat' => hx1 v3 rfl a' w' hat'
def r4_gridErr (a0 : Int) (a1 : Int) : Option (Int) := Option.bind (b_Within a0 (1 : Int) (12 : Int)) fun r1 => if r1 = true then (Option.bind (b_Within a1 (1 : Int) (12 : Int)) fun r3 => if r3 = true then (some (0 : Int)) else (some (2 : Int))) else (some (2 : Int))
theorem r4_gridErr_ok (a0 : Int) (a1 : Int) (y : Int) (h : r4_gridErr a0 a1 = some y) : CallOk Tryz.prog 248 (vals [a0, a1] []) [(ys 0), (ys 1)] [] 0 (vals [y] []) ((ys 0)) [] := by
 refine fun_of (nt := 13) (by kernel_rfl) (by kernel_rfl) fun φ0 w0 a w hat => ?_
 have hF := wide_fw
 have hr : Fence.wide.round = none := rfl
 unfold r4_gridErr at h
 obtain ⟨r1, hr1, h⟩ := bs1 h
 have Kr1 : KO Tryz.prog [a0, a1, bI r1] [] ⟨71, 0, [], [(ys 0), (ys 1), (ys 2)], [], [(ns 0 0), .num (.c 1) (.v 1), .num (.c 12) (.v 2)], 0, .bs (.v 0), [], .bs (.v 2), [], []⟩ := fun N M => ⟨_, _, [(ns 0 2)], ⟨b_Within_ok a0 (1 : Int) (12 : Int) r1 hr1, ⟨(r a0), (r (1 : Int)), (r (12 : Int)), tv⟩, by kernel_rfl, ⟨rfl, tv⟩⟩⟩
 by_cases h2 : r1 = true
 ·rw [if_pos h2] at h
  obtain ⟨r3, hr3, h⟩ := bs1 h
  have Kr3 : KO Tryz.prog [a0, a1, bI r1, bI r3] [] ⟨71, 0, [], [(ys 0), (ys 1), (ys 2)], [], [(ns 1 0), .num (.c 1) (.v 1), .num (.c 12) (.v 2)], 0, .bs (.v 0), [], .bs (.v 3), [], []⟩ := fun N M => ⟨_, _, [(ns 0 3)], ⟨b_Within_ok a1 (1 : Int) (12 : Int) r3 hr3, ⟨(r a1), (r (1 : Int)), (r (12 : Int)), tv⟩, by kernel_rfl, ⟨rfl, tv⟩⟩⟩
  by_cases h4 : r3 = true
  ·rw [if_pos h4] at h
   injection h with h; subst h
   exact to_fin mixed ⟨[(.neq, (.v 2), (.c 0), true), (.neq, (.v 3), (.c 0), true)], [], [], [⟨71, 0, [], [(ys 0), (ys 1), (ys 2)], [], [(ns 0 0), .num (.c 1) (.v 1), .num (.c 12) (.v 2)], 0, .bs (.v 0), [], .bs (.v 2), [], []⟩, ⟨71, 0, [], [(ys 0), (ys 1), (ys 2)], [], [(ns 1 0), .num (.c 1) (.v 1), .num (.c 12) (.v 2)], 0, .bs (.v 0), [], .bs (.v 3), [], []⟩], [], []⟩ (V := (vals [a0, a1, bI r1, bI r3] [])) (n := 3000) (f := 3000) (fid := 248) (fun _ => rfl) ⟨⟨bi_t h2, bi_t h4, tv⟩, tv, tv, tv, tv⟩ ⟨Kr1 _ _, Kr3 _ _, tv⟩ (R := ⟨(ys 0), [], []⟩) (qs := [.num (.c 0) (.v 0)]) wok0 tv hF hr (by kernel_rfl) ⟨(r (0 : Int)), tv⟩ (at_re (V' := (vals [a0, a1, bI r1, bI r3] [])) (T := ⟨[(0, (ys 0)), (1, (ys 1))], [], []⟩) (qs := [(ns 0 0), (ns 1 1)]) hat (by kernel_rfl) ⟨rfl, rfl, tv⟩)
  ·rw [if_neg h4] at h
   injection h with h; subst h
   exact to_fin mixed ⟨[(.neq, (.v 2), (.c 0), true), (.neq, (.v 3), (.c 0), false)], [], [], [⟨71, 0, [], [(ys 0), (ys 1), (ys 2)], [], [(ns 0 0), .num (.c 1) (.v 1), .num (.c 12) (.v 2)], 0, .bs (.v 0), [], .bs (.v 2), [], []⟩, ⟨71, 0, [], [(ys 0), (ys 1), (ys 2)], [], [(ns 1 0), .num (.c 1) (.v 1), .num (.c 12) (.v 2)], 0, .bs (.v 0), [], .bs (.v 3), [], []⟩], [], []⟩ (V := (vals [a0, a1, bI r1, bI r3] [])) (n := 3000) (f := 3000) (fid := 248) (fun _ => rfl) ⟨⟨bi_t h2, bi_f h4, tv⟩, tv, tv, tv, tv⟩ ⟨Kr1 _ _, Kr3 _ _, tv⟩ (R := ⟨(ys 0), [], []⟩) (qs := [.num (.c 2) (.v 0)]) wok0 tv hF hr (by kernel_rfl) ⟨(r (2 : Int)), tv⟩ (at_re (V' := (vals [a0, a1, bI r1, bI r3] [])) (T := ⟨[(0, (ys 0)), (1, (ys 1))], [], []⟩) (qs := [(ns 0 0), (ns 1 1)]) hat (by kernel_rfl) ⟨rfl, rfl, tv⟩)
 ·rw [if_neg h2] at h
  injection h with h; subst h
  exact to_fin mixed ⟨[(.neq, (.v 2), (.c 0), false)], [], [], [⟨71, 0, [], [(ys 0), (ys 1), (ys 2)], [], [(ns 0 0), .num (.c 1) (.v 1), .num (.c 12) (.v 2)], 0, .bs (.v 0), [], .bs (.v 2), [], []⟩], [], []⟩ (V := (vals [a0, a1, bI r1] [])) (n := 3000) (f := 3000) (fid := 248) (fun _ => rfl) ⟨⟨bi_f h2, tv⟩, tv, tv, tv, tv⟩ ⟨Kr1 _ _, tv⟩ (R := ⟨(ys 0), [], []⟩) (qs := [.num (.c 2) (.v 0)]) wok0 tv hF hr (by kernel_rfl) ⟨(r (2 : Int)), tv⟩ (at_re (V' := (vals [a0, a1, bI r1] [])) (T := ⟨[(0, (ys 0)), (1, (ys 1))], [], []⟩) (qs := [(ns 0 0), (ns 1 1)]) hat (by kernel_rfl) ⟨rfl, rfl, tv⟩)
def r4_isCell (a0_0 : Int) (a0_1 : Int) (a1 : Int) (a2 : Int) : Option (Bool) := Option.bind (b_Within a0_0 (0 : Int) (IntKind.wrap .i64 (a1 - (1 : Int)))) fun r1 => if r1 = true then (Option.bind (b_Within a0_1 (0 : Int) (IntKind.wrap .i64 (a2 - (1 : Int)))) fun r3 => if r3 = true then (some true) else (some false)) else (some false)
theorem r4_isCell_ok (a0_0 : Int) (a0_1 : Int) (a1 : Int) (a2 : Int) (y : Bool) (h : r4_isCell a0_0 a0_1 a1 a2 = some y) : CallOk Tryz.prog 344 (vals [a0_0, a0_1, a1, a2] []) [.agg [(ys 0), (ys 1)], (ys 2), (ys 3)] [] 0 (vals [bI y] []) (.bs (.v 0)) [] := by
 refine fun_of (nt := 19) (by kernel_rfl) (by kernel_rfl) fun φ0 w0 a w hat => ?_
 have hF := wide_fw
 have hr : Fence.wide.round = none := rfl
 unfold r4_isCell at h
 obtain ⟨r1, hr1, h⟩ := bs1 h
 have Kr1 : KO Tryz.prog [a0_0, a0_1, a1, a2, bI r1] [] ⟨71, 1, [], [(ys 0), (ys 1), (ys 2)], [], [(ns 0 0), .num (.c 0) (.v 1), .num (.sub .i64 (.v 2) (.c 1)) (.v 2)], 0, .bs (.v 0), [], .bs (.v 4), [], []⟩ := fun N M => ⟨_, _, [(ns 0 4)], ⟨b_Within_ok a0_0 (0 : Int) (IntKind.wrap .i64 (a1 - (1 : Int))) r1 hr1, ⟨(r a0_0), (r (0 : Int)), (show (IntKind.wrap .i64 (a1 - (1 : Int))) = (IntKind.wrap .i64 (a1 - (1 : Int))) from rfl), tv⟩, by kernel_rfl, ⟨rfl, tv⟩⟩⟩
 by_cases h2 : r1 = true
 ·rw [if_pos h2] at h
  obtain ⟨r3, hr3, h⟩ := bs1 h
  have Kr3 : KO Tryz.prog [a0_0, a0_1, a1, a2, bI r1, bI r3] [] ⟨71, 1, [], [(ys 0), (ys 1), (ys 2)], [], [(ns 1 0), .num (.c 0) (.v 1), .num (.sub .i64 (.v 3) (.c 1)) (.v 2)], 0, .bs (.v 0), [], .bs (.v 5), [], []⟩ := fun N M => ⟨_, _, [(ns 0 5)], ⟨b_Within_ok a0_1 (0 : Int) (IntKind.wrap .i64 (a2 - (1 : Int))) r3 hr3, ⟨(r a0_1), (r (0 : Int)), (show (IntKind.wrap .i64 (a2 - (1 : Int))) = (IntKind.wrap .i64 (a2 - (1 : Int))) from rfl), tv⟩, by kernel_rfl, ⟨rfl, tv⟩⟩⟩
  by_cases h4 : r3 = true
  ·rw [if_pos h4] at h
   injection h with h; subst h
   exact to_fin mixed ⟨[(.neq, (.v 4), (.c 0), true), (.neq, (.v 5), (.c 0), true)], [], [], [⟨71, 1, [], [(ys 0), (ys 1), (ys 2)], [], [(ns 0 0), .num (.c 0) (.v 1), .num (.sub .i64 (.v 2) (.c 1)) (.v 2)], 0, .bs (.v 0), [], .bs (.v 4), [], []⟩, ⟨71, 1, [], [(ys 0), (ys 1), (ys 2)], [], [(ns 1 0), .num (.c 0) (.v 1), .num (.sub .i64 (.v 3) (.c 1)) (.v 2)], 0, .bs (.v 0), [], .bs (.v 5), [], []⟩], [], []⟩ (V := (vals [a0_0, a0_1, a1, a2, bI r1, bI r3] [])) (n := 3000) (f := 3000) (fid := 344) (fun _ => rfl) ⟨⟨bi_t h2, bi_t h4, tv⟩, tv, tv, tv, tv⟩ ⟨Kr1 _ _, Kr3 _ _, tv⟩ (R := ⟨.bs (.v 0), [], []⟩) (qs := [.num (.c 1) (.v 0)]) wok0 tv hF hr (by kernel_rfl) ⟨rfl, tv⟩ (at_re (V' := (vals [a0_0, a0_1, a1, a2, bI r1, bI r3] [])) (T := ⟨[(0, .agg [(ys 0), (ys 1)]), (1, (ys 2)), (2, (ys 3))], [], []⟩) (qs := [(ns 0 0), (ns 1 1), (ns 2 2), (ns 3 3)]) hat (by kernel_rfl) ⟨rfl, rfl, rfl, rfl, tv⟩)
  ·rw [if_neg h4] at h
   injection h with h; subst h
   exact to_fin mixed ⟨[(.neq, (.v 4), (.c 0), true), (.neq, (.v 5), (.c 0), false)], [], [], [⟨71, 1, [], [(ys 0), (ys 1), (ys 2)], [], [(ns 0 0), .num (.c 0) (.v 1), .num (.sub .i64 (.v 2) (.c 1)) (.v 2)], 0, .bs (.v 0), [], .bs (.v 4), [], []⟩, ⟨71, 1, [], [(ys 0), (ys 1), (ys 2)], [], [(ns 1 0), .num (.c 0) (.v 1), .num (.sub .i64 (.v 3) (.c 1)) (.v 2)], 0, .bs (.v 0), [], .bs (.v 5), [], []⟩], [], []⟩ (V := (vals [a0_0, a0_1, a1, a2, bI r1, bI r3] [])) (n := 3000) (f := 3000) (fid := 344) (fun _ => rfl) ⟨⟨bi_t h2, bi_f h4, tv⟩, tv, tv, tv, tv⟩ ⟨Kr1 _ _, Kr3 _ _, tv⟩ (R := ⟨.bs (.v 0), [], []⟩) (qs := [.num (.c 0) (.v 0)]) wok0 tv hF hr (by kernel_rfl) ⟨rfl, tv⟩ (at_re (V' := (vals [a0_0, a0_1, a1, a2, bI r1, bI r3] [])) (T := ⟨[(0, .agg [(ys 0), (ys 1)]), (1, (ys 2)), (2, (ys 3))], [], []⟩) (qs := [(ns 0 0), (ns 1 1), (ns 2 2), (ns 3 3)]) hat (by kernel_rfl) ⟨rfl, rfl, rfl, rfl, tv⟩)
 ·rw [if_neg h2] at h
  injection h with h; subst h
  exact to_fin mixed ⟨[(.neq, (.v 4), (.c 0), false)], [], [], [⟨71, 1, [], [(ys 0), (ys 1), (ys 2)], [], [(ns 0 0), .num (.c 0) (.v 1), .num (.sub .i64 (.v 2) (.c 1)) (.v 2)], 0, .bs (.v 0), [], .bs (.v 4), [], []⟩], [], []⟩ (V := (vals [a0_0, a0_1, a1, a2, bI r1] [])) (n := 3000) (f := 3000) (fid := 344) (fun _ => rfl) ⟨⟨bi_f h2, tv⟩, tv, tv, tv, tv⟩ ⟨Kr1 _ _, tv⟩ (R := ⟨.bs (.v 0), [], []⟩) (qs := [.num (.c 0) (.v 0)]) wok0 tv hF hr (by kernel_rfl) ⟨rfl, tv⟩ (at_re (V' := (vals [a0_0, a0_1, a1, a2, bI r1] [])) (T := ⟨[(0, .agg [(ys 0), (ys 1)]), (1, (ys 2)), (2, (ys 3))], [], []⟩) (qs := [(ns 0 0), (ns 1 1), (ns 2 2), (ns 3 3)]) hat (by kernel_rfl) ⟨rfl, rfl, rfl, rfl, tv⟩)
def r4_RayErr (a0_0 : Int) (a0_1 : Int) (a0_2 : Int) (a0_3 : Int) (a0_4 : Bool) (a1 : Int) (a2 : Int) : Option (Int) := Option.bind (r4_isCell a0_0 a0_1 a1 a2) fun r1 => if r1 = true then (Option.bind (r4_isCell a0_2 a0_3 a1 a2) fun r3 => if r3 = true then (some (0 : Int)) else (some (6 : Int))) else (some (6 : Int))
theorem r4_RayErr_ok (a0_0 : Int) (a0_1 : Int) (a0_2 : Int) (a0_3 : Int) (a0_4 : Bool) (a1 : Int) (a2 : Int) (y : Int) (h : r4_RayErr a0_0 a0_1 a0_2 a0_3 a0_4 a1 a2 = some y) : CallOk Tryz.prog 249 (vals [a0_0, a0_1, a0_2, a0_3, bI a0_4, a1, a2] []) [.agg [(ys 0), (ys 1), (ys 2), (ys 3), .bs (.v 4)], (ys 5), (ys 6)] [] 0 (vals [y] []) ((ys 0)) [] := by
 refine fun_of (nt := 21) (by kernel_rfl) (by kernel_rfl) fun φ0 w0 a w hat => ?_
 have hF := wide_fw
 have hr : Fence.wide.round = none := rfl
 unfold r4_RayErr at h
 obtain ⟨r1, hr1, h⟩ := bs1 h
 have Kr1 : KO Tryz.prog [a0_0, a0_1, a0_2, a0_3, bI a0_4, a1, a2, bI r1] [] ⟨344, 1, [], [.agg [(ys 0), (ys 1)], (ys 2), (ys 3)], [], [(ns 0 0), (ns 1 1), (ns 5 2), (ns 6 3)], 0, .bs (.v 0), [], .bs (.v 7), [], []⟩ := fun N M => ⟨_, _, [(ns 0 7)], ⟨r4_isCell_ok a0_0 a0_1 a1 a2 r1 hr1, ⟨(r a0_0), (r a0_1), (r a1), (r a2), tv⟩, by kernel_rfl, ⟨rfl, tv⟩⟩⟩
 by_cases h2 : r1 = true
 ·rw [if_pos h2] at h
  obtain ⟨r3, hr3, h⟩ := bs1 h
  have Kr3 : KO Tryz.prog [a0_0, a0_1, a0_2, a0_3, bI a0_4, a1, a2, bI r1, bI r3] [] ⟨344, 1, [], [.agg [(ys 0), (ys 1)], (ys 2), (ys 3)], [], [(ns 2 0), (ns 3 1), (ns 5 2), (ns 6 3)], 0, .bs (.v 0), [], .bs (.v 8), [], []⟩ := fun N M => ⟨_, _, [(ns 0 8)], ⟨r4_isCell_ok a0_2 a0_3 a1 a2 r3 hr3, ⟨(r a0_2), (r a0_3), (r a1), (r a2), tv⟩, by kernel_rfl, ⟨rfl, tv⟩⟩⟩
  by_cases h4 : r3 = true
  ·rw [if_pos h4] at h
   injection h with h; subst h
   exact to_fin mixed ⟨[(.neq, (.v 7), (.c 0), true), (.neq, (.v 8), (.c 0), true)], [], [], [⟨344, 1, [], [.agg [(ys 0), (ys 1)], (ys 2), (ys 3)], [], [(ns 0 0), (ns 1 1), (ns 5 2), (ns 6 3)], 0, .bs (.v 0), [], .bs (.v 7), [], []⟩, ⟨344, 1, [], [.agg [(ys 0), (ys 1)], (ys 2), (ys 3)], [], [(ns 2 0), (ns 3 1), (ns 5 2), (ns 6 3)], 0, .bs (.v 0), [], .bs (.v 8), [], []⟩], [], []⟩ (V := (vals [a0_0, a0_1, a0_2, a0_3, bI a0_4, a1, a2, bI r1, bI r3] [])) (n := 3000) (f := 3000) (fid := 249) (fun _ => rfl) ⟨⟨bi_t h2, bi_t h4, tv⟩, tv, tv, tv, tv⟩ ⟨Kr1 _ _, Kr3 _ _, tv⟩ (R := ⟨(ys 0), [], []⟩) (qs := [.num (.c 0) (.v 0)]) wok0 tv hF hr (by kernel_rfl) ⟨(r (0 : Int)), tv⟩ (at_re (V' := (vals [a0_0, a0_1, a0_2, a0_3, bI a0_4, a1, a2, bI r1, bI r3] [])) (T := ⟨[(0, .agg [(ys 0), (ys 1), (ys 2), (ys 3), .bs (.v 4)]), (1, (ys 5)), (2, (ys 6))], [], []⟩) (qs := [(ns 0 0), (ns 1 1), (ns 2 2), (ns 3 3), (ns 4 4), (ns 5 5), (ns 6 6)]) hat (by kernel_rfl) ⟨rfl, rfl, rfl, rfl, rfl, rfl, rfl, tv⟩)
  ·rw [if_neg h4] at h
   injection h with h; subst h
   exact to_fin mixed ⟨[(.neq, (.v 7), (.c 0), true), (.neq, (.v 8), (.c 0), false)], [], [], [⟨344, 1, [], [.agg [(ys 0), (ys 1)], (ys 2), (ys 3)], [], [(ns 0 0), (ns 1 1), (ns 5 2), (ns 6 3)], 0, .bs (.v 0), [], .bs (.v 7), [], []⟩, ⟨344, 1, [], [.agg [(ys 0), (ys 1)], (ys 2), (ys 3)], [], [(ns 2 0), (ns 3 1), (ns 5 2), (ns 6 3)], 0, .bs (.v 0), [], .bs (.v 8), [], []⟩], [], []⟩ (V := (vals [a0_0, a0_1, a0_2, a0_3, bI a0_4, a1, a2, bI r1, bI r3] [])) (n := 3000) (f := 3000) (fid := 249) (fun _ => rfl) ⟨⟨bi_t h2, bi_f h4, tv⟩, tv, tv, tv, tv⟩ ⟨Kr1 _ _, Kr3 _ _, tv⟩ (R := ⟨(ys 0), [], []⟩) (qs := [.num (.c 6) (.v 0)]) wok0 tv hF hr (by kernel_rfl) ⟨(r (6 : Int)), tv⟩ (at_re (V' := (vals [a0_0, a0_1, a0_2, a0_3, bI a0_4, a1, a2, bI r1, bI r3] [])) (T := ⟨[(0, .agg [(ys 0), (ys 1), (ys 2), (ys 3), .bs (.v 4)]), (1, (ys 5)), (2, (ys 6))], [], []⟩) (qs := [(ns 0 0), (ns 1 1), (ns 2 2), (ns 3 3), (ns 4 4), (ns 5 5), (ns 6 6)]) hat (by kernel_rfl) ⟨rfl, rfl, rfl, rfl, rfl, rfl, rfl, tv⟩)
 ·rw [if_neg h2] at h
  injection h with h; subst h
  exact to_fin mixed ⟨[(.neq, (.v 7), (.c 0), false)], [], [], [⟨344, 1, [], [.agg [(ys 0), (ys 1)], (ys 2), (ys 3)], [], [(ns 0 0), (ns 1 1), (ns 5 2), (ns 6 3)], 0, .bs (.v 0), [], .bs (.v 7), [], []⟩], [], []⟩ (V := (vals [a0_0, a0_1, a0_2, a0_3, bI a0_4, a1, a2, bI r1] [])) (n := 3000) (f := 3000) (fid := 249) (fun _ => rfl) ⟨⟨bi_f h2, tv⟩, tv, tv, tv, tv⟩ ⟨Kr1 _ _, tv⟩ (R := ⟨(ys 0), [], []⟩) (qs := [.num (.c 6) (.v 0)]) wok0 tv hF hr (by kernel_rfl) ⟨(r (6 : Int)), tv⟩ (at_re (V' := (vals [a0_0, a0_1, a0_2, a0_3, bI a0_4, a1, a2, bI r1] [])) (T := ⟨[(0, .agg [(ys 0), (ys 1), (ys 2), (ys 3), .bs (.v 4)]), (1, (ys 5)), (2, (ys 6))], [], []⟩) (qs := [(ns 0 0), (ns 1 1), (ns 2 2), (ns 3 3), (ns 4 4), (ns 5 5), (ns 6 6)]) hat (by kernel_rfl) ⟨rfl, rfl, rfl, rfl, rfl, rfl, rfl, tv⟩)
def r4_CheckScene_L1 (fu : Nat) (p0 : List (Int × Int × Int × Int × Bool)) (p1 : Int) (p2 : Int) : Nat → Int → Option ((Int × Int) ⊕ (Unit))
 | 0, _ => none
 | n + 1, v3 => if v3 < (p0.length : Int) then (if (0 : Int) ≤ v3 then (Option.bind ((p0)[0 + (v3).toNat]?) fun e3 => Option.bind (r4_RayErr e3.1 e3.2.1 e3.2.2.1 e3.2.2.2.1 e3.2.2.2.2 p1 p2) fun r4 => if r4 = (0 : Int) then (r4_CheckScene_L1 fu p0 p1 p2 n (IntKind.wrap .i64 (v3 + (1 : Int)))) else (some (.inl (v3, r4)))) else none) else (some (.inr ()))
theorem r4_CheckScene_L1_ok (fu : Nat) (p0 : List (Int × Int × Int × Int × Bool)) (p1 : Int) (p2 : Int) : ∀ (n : Nat) (v3 : Int) (o : (Int × Int) ⊕ (Unit)), r4_CheckScene_L1 fu p0 p1 p2 n v3 = some o → ∀ (φ0 : Phi) (w0 : World) (F : Fence) (k : Nat) (R : Exit → Act → World → Prop) (a : Act) (w : World), FW F → F.round = none → AtS (vals [(p0.length : Int), p1, p2, v3] [(p0.flatMap enIIIIB)]) [(1, .ptr 1 0), (5, (ys 3))] [some (.rows 0 [] 214 true), some (.cells [(ys 1), (ys 2), .gs 0 0 (.v 0) 5 false] 74 false)] 40 1 1 φ0 w0 a w → (∀ (y : Int × Int), o = .inl y → ∀ a' w', AtS (vals [(p0.length : Int), y.1, y.2] [(p0.flatMap enIIIIB)]) [(2, (ys 1)), (3, (ys 2))] [some (.rows 0 [] 214 true)] 40 1 1 φ0 w0 a' w' → R Exit.ret a' w') → (∀ (y : Unit), o = .inr y → ∀ a' w', AtS (vals [(p0.length : Int)] [(p0.flatMap enIIIIB)]) [] [some (.rows 0 [] 214 true)] 40 1 1 φ0 w0 a' w' → R (Exit.exit 0) a' w') → Code.roundsIn F k Tryz.prog (subAt (bodyOf Tryz.prog 137) [1, 1, 1, 0, 1, 0, 0]) R n a w
 | 0, _, _, h => by cases h
 | n + 1, v3, o, h => by
  intro φ0 w0 F k R a w hF hr hat hx0 hx1
  rw [r4_CheckScene_L1] at h
  refine rounds_in (p := [1, 1, 1, 0, 1, 0, 0]) ?_
  by_cases h1 : v3 < (p0.length : Int)
  ·rw [if_pos h1] at h
   by_cases h2 : (0 : Int) ≤ v3
   ·rw [if_pos h2] at h
    obtain ⟨e3, he3, h⟩ := bs1 h
    obtain ⟨r4, hr4, h⟩ := bs1 h
    have Kr4 : KO Tryz.prog [(p0.length : Int), p1, p2, v3, e3.1, e3.2.1, e3.2.2.1, e3.2.2.2.1, bI e3.2.2.2.2, r4] [(p0.flatMap enIIIIB)] ⟨249, 2, [], [.agg [(ys 0), (ys 1), (ys 2), (ys 3), .bs (.v 4)], (ys 5), (ys 6)], [], [(ns 4 0), (ns 5 1), (ns 6 2), (ns 7 3), (ns 8 4), (ns 1 5), (ns 2 6)], 0, (ys 0), [], (ys 9), [], []⟩ := fun N M => ⟨_, _, [(ns 0 9)], ⟨r4_RayErr_ok e3.1 e3.2.1 e3.2.2.1 e3.2.2.2.1 e3.2.2.2.2 p1 p2 r4 hr4, ⟨(r e3.1), (r e3.2.1), (r e3.2.2.1), (r e3.2.2.2.1), (r (bI e3.2.2.2.2)), (r p1), (r p2), tv⟩, by kernel_rfl, ⟨rfl, tv⟩⟩⟩
    by_cases h5 : r4 = (0 : Int)
    ·rw [if_pos h5] at h
     refine to_done mixed ⟨[(.lss, (.v 3), (.v 0), true), (.leq, (.c 0), (.v 3), true), (.neq, (.v 9), (.c 0), false)], [(0, 0, (.v 3), [(ys 4), (ys 5), (ys 6), (ys 7), .bs (.v 8)])], [(0, 5, (.v 0))], [⟨249, 2, [], [.agg [(ys 0), (ys 1), (ys 2), (ys 3), .bs (.v 4)], (ys 5), (ys 6)], [], [(ns 4 0), (ns 5 1), (ns 6 2), (ns 7 3), (ns 8 4), (ns 1 5), (ns 2 6)], 0, (ys 0), [], (ys 9), [], []⟩], [], []⟩ (V := (vals [(p0.length : Int), p1, p2, v3, e3.1, e3.2.1, e3.2.2.1, e3.2.2.2.1, bI e3.2.2.2.2, r4] [(p0.flatMap enIIIIB)])) (n := 3000) (f := 3000) (fid := 137) (fun _ => rfl) (V' := (vals [(p0.length : Int), p1, p2, (IntKind.wrap .i64 (v3 + (1 : Int)))] [(p0.flatMap enIIIIB)])) ⟨⟨lss_t h1, leq_t h2, neq_f h5, tv⟩, ⟨⟨h2, _, rfl, flat_row enIIIIB_len he3⟩, tv⟩, ⟨flat_length enIIIIB_len _, tv⟩, tv, tv⟩ ⟨Kr4 _ _, tv⟩ (T := ⟨[(1, .ptr 1 0), (5, (ys 3))], [some (.rows 0 [] 214 true), some (.cells [(ys 1), (ys 2), .gs 0 0 (.v 0) 5 false] 74 false)], [some (0, 0), some (1, 0)]⟩) (ce := .normal) (qs := [.num (.add .i64 (.v 3) (.c 1)) (.v 3), .lst 0 (some 0) [], (ns 1 1), (ns 2 2), (ns 0 0)]) rfl tv hF hr (by kernel_rfl) ⟨(r (IntKind.wrap .i64 (v3 + (1 : Int)))), ⟨[], rfl, lnil _⟩, (r p1), (r p2), (r (p0.length : Int)), tv⟩ (at_re (V' := (vals [(p0.length : Int), p1, p2, v3, e3.1, e3.2.1, e3.2.2.1, e3.2.2.2.1, bI e3.2.2.2.2, r4] [(p0.flatMap enIIIIB)])) (T := ⟨[(1, .ptr 1 0), (5, (ys 3))], [some (.rows 0 [] 214 true), some (.cells [(ys 1), (ys 2), .gs 0 0 (.v 0) 5 false] 74 false)], [some (0, 0), some (1, 0)]⟩) (qs := [(ns 3 3), .lst 0 (some 0) [], (ns 1 1), (ns 2 2), (ns 0 0)]) hat (by kernel_rfl) ⟨rfl, ⟨[], rfl, lnil _⟩, rfl, rfl, rfl, tv⟩) fun a' w' hat' => ?_
     exact r4_CheckScene_L1_ok fu p0 p1 p2 n (IntKind.wrap .i64 (v3 + (1 : Int))) o h _ _ _ _ _ _ _ hF hr hat' hx0 hx1
    ·rw [if_neg h5] at h
     injection h with h; subst h
     exact to_done mixed ⟨[(.lss, (.v 3), (.v 0), true), (.leq, (.c 0), (.v 3), true), (.neq, (.v 9), (.c 0), true)], [(0, 0, (.v 3), [(ys 4), (ys 5), (ys 6), (ys 7), .bs (.v 8)])], [(0, 5, (.v 0))], [⟨249, 2, [], [.agg [(ys 0), (ys 1), (ys 2), (ys 3), .bs (.v 4)], (ys 5), (ys 6)], [], [(ns 4 0), (ns 5 1), (ns 6 2), (ns 7 3), (ns 8 4), (ns 1 5), (ns 2 6)], 0, (ys 0), [], (ys 9), [], []⟩], [], []⟩ (V := (vals [(p0.length : Int), p1, p2, v3, e3.1, e3.2.1, e3.2.2.1, e3.2.2.2.1, bI e3.2.2.2.2, r4] [(p0.flatMap enIIIIB)])) (n := 3000) (f := 3000) (fid := 137) (fun _ => rfl) (V' := (vals [(p0.length : Int), v3, r4] [(p0.flatMap enIIIIB)])) ⟨⟨lss_t h1, leq_t h2, neq_t h5, tv⟩, ⟨⟨h2, _, rfl, flat_row enIIIIB_len he3⟩, tv⟩, ⟨flat_length enIIIIB_len _, tv⟩, tv, tv⟩ ⟨Kr4 _ _, tv⟩ (T := ⟨[(2, (ys 1)), (3, (ys 2))], [some (.rows 0 [] 214 true)], [some (0, 0)]⟩) (ce := .ret) (qs := [(ns 3 1), (ns 9 2), .lst 0 (some 0) []]) rfl tv hF hr (by kernel_rfl) ⟨(r v3), (r r4), ⟨[], rfl, lnil _⟩, tv⟩ (at_re (V' := (vals [(p0.length : Int), p1, p2, v3, e3.1, e3.2.1, e3.2.2.1, e3.2.2.2.1, bI e3.2.2.2.2, r4] [(p0.flatMap enIIIIB)])) (T := ⟨[(1, .ptr 1 0), (5, (ys 3))], [some (.rows 0 [] 214 true), some (.cells [(ys 1), (ys 2), .gs 0 0 (.v 0) 5 false] 74 false)], [some (0, 0), some (1, 0)]⟩) (qs := [(ns 3 3), .lst 0 (some 0) [], (ns 1 1), (ns 2 2), (ns 0 0)]) hat (by kernel_rfl) ⟨rfl, ⟨[], rfl, lnil _⟩, rfl, rfl, rfl, tv⟩) fun a' w' hat' => hx0 (v3, r4) rfl a' w' hat'
   ·rw [if_neg h2] at h
    cases h
  ·rw [if_neg h1] at h
   injection h with h; subst h
   exact to_done mixed ⟨[(.lss, (.v 3), (.v 0), false)], [], [(0, 5, (.v 0))], [], [], []⟩ (V := (vals [(p0.length : Int), p1, p2, v3] [(p0.flatMap enIIIIB)])) (n := 3000) (f := 3000) (fid := 137) (fun _ => rfl) (V' := (vals [(p0.length : Int)] [(p0.flatMap enIIIIB)])) ⟨⟨lss_f h1, tv⟩, tv, ⟨flat_length enIIIIB_len _, tv⟩, tv, tv⟩ tv (T := ⟨[], [some (.rows 0 [] 214 true)], [some (0, 0)]⟩) (ce := (.exit 0)) (qs := [.lst 0 (some 0) []]) rfl tv hF hr (by kernel_rfl) ⟨⟨[], rfl, lnil _⟩, tv⟩ hat fun a' w' hat' => hx1 () rfl a' w' hat'
def r4_CheckScene (fu : Nat) (a0_0 : Int) (a0_1 : Int) (a0_2 : List (Int × Int × Int × Int × Bool)) : Option (Int × Int) := Option.bind (r4_gridErr a0_0 a0_1) fun r1 => if r1 = (0 : Int) then (if (10 : Int) < (a0_2.length : Int) then (some ((0 : Int), (8 : Int))) else (Option.bind (r4_CheckScene_L1 fu a0_2 a0_0 a0_1 fu (0 : Int)) fun o4 => (match o4 with | .inl y5 => (some (y5.1, y5.2)) | .inr y6 => (some ((0 : Int), (0 : Int)))))) else (some ((0 : Int), r1))
theorem r4_CheckScene_ok (fu : Nat) (a0_0 : Int) (a0_1 : Int) (a0_2 : List (Int × Int × Int × Int × Bool)) (y : Int × Int) (h : r4_CheckScene fu a0_0 a0_1 a0_2 = some y) : CallOk Tryz.prog 137 (vals [a0_0, a0_1, (a0_2.length : Int)] [(a0_2.flatMap enIIIIB)]) [.agg [(ys 0), (ys 1), .gs 0 0 (.v 2) 5 false]] [some (.rows 0 [] 214 true)] 1 (vals [y.1, y.2] []) (.tup [(ys 0), (ys 1)]) [none] := by
 refine fun_of (nt := 40) (by kernel_rfl) (by kernel_rfl) fun φ0 w0 a w hat => ?_
 have hF := wide_fw
 have hr : Fence.wide.round = none := rfl
 unfold r4_CheckScene at h
 obtain ⟨r1, hr1, h⟩ := bs1 h
 have Kr1 : KO Tryz.prog [a0_0, a0_1, (a0_2.length : Int), r1] [(a0_2.flatMap enIIIIB)] ⟨248, 2, [], [(ys 0), (ys 1)], [], [(ns 0 0), (ns 1 1)], 0, (ys 0), [], (ys 3), [], []⟩ := fun N M => ⟨_, _, [(ns 0 3)], ⟨r4_gridErr_ok a0_0 a0_1 r1 hr1, ⟨(r a0_0), (r a0_1), tv⟩, by kernel_rfl, ⟨rfl, tv⟩⟩⟩
 by_cases h2 : r1 = (0 : Int)
 ·rw [if_pos h2] at h
  by_cases h3 : (10 : Int) < (a0_2.length : Int)
  ·rw [if_pos h3] at h
   injection h with h; subst h
   exact to_fin mixed ⟨[(.neq, (.v 3), (.c 0), false), (.gtr, (.v 2), (.c 10), true)], [], [(0, 5, (.v 2))], [⟨248, 2, [], [(ys 0), (ys 1)], [], [(ns 0 0), (ns 1 1)], 0, (ys 0), [], (ys 3), [], []⟩], [], []⟩ (V := (vals [a0_0, a0_1, (a0_2.length : Int), r1] [(a0_2.flatMap enIIIIB)])) (n := 3000) (f := 3000) (fid := 137) (fun _ => rfl) ⟨⟨neq_f h2, gtr_t h3, tv⟩, tv, ⟨flat_length enIIIIB_len _, tv⟩, tv, tv⟩ ⟨Kr1 _ _, tv⟩ (R := ⟨.tup [(ys 0), (ys 1)], [none], [some (0, 0)]⟩) (qs := [.num (.c 0) (.v 0), .num (.c 8) (.v 1)]) wok0 tv hF hr (by kernel_rfl) ⟨(r (0 : Int)), (r (8 : Int)), tv⟩ (at_re (V' := (vals [a0_0, a0_1, (a0_2.length : Int), r1] [(a0_2.flatMap enIIIIB)])) (T := ⟨[(0, .agg [(ys 0), (ys 1), .gs 0 0 (.v 2) 5 false])], [some (.rows 0 [] 214 true)], [some (0, 0)]⟩) (qs := [(ns 0 0), (ns 1 1), (ns 2 2), .lst 0 (some 0) []]) hat (by kernel_rfl) ⟨rfl, rfl, rfl, ⟨[], rfl, lnil _⟩, tv⟩)
  ·rw [if_neg h3] at h
   obtain ⟨o4, ho4, h⟩ := bs1 h
   refine to_loop mixed ⟨[(.neq, (.v 3), (.c 0), false), (.gtr, (.v 2), (.c 10), false)], [], [(0, 5, (.v 2))], [⟨248, 2, [], [(ys 0), (ys 1)], [], [(ns 0 0), (ns 1 1)], 0, (ys 0), [], (ys 3), [], []⟩], [], []⟩ (V := (vals [a0_0, a0_1, (a0_2.length : Int), r1] [(a0_2.flatMap enIIIIB)])) (n := 3000) (f := 3000) (fid := 137) (fun _ => rfl) (V' := (vals [(a0_2.length : Int), a0_0, a0_1, (0 : Int)] [(a0_2.flatMap enIIIIB)])) ⟨⟨neq_f h2, gtr_f h3, tv⟩, tv, ⟨flat_length enIIIIB_len _, tv⟩, tv, tv⟩ ⟨Kr1 _ _, tv⟩ (T := ⟨[(1, .ptr 1 0), (5, (ys 3))], [some (.rows 0 [] 214 true), some (.cells [(ys 1), (ys 2), .gs 0 0 (.v 0) 5 false] 74 false)], [some (0, 0), some (1, 0)]⟩) (B := subAt (bodyOf Tryz.prog 137) [1, 1, 1, 0, 1, 0, 0]) (K' := [.bk 0, .sq (subAt (bodyOf Tryz.prog 137) [1, 1, 1, 1]) [1, 1, 1, 1]]) (qs := [.num (.c 0) (.v 3), .lst 0 (some 0) [], (ns 0 1), (ns 1 2), (ns 2 0)]) wok0 tv hF hr (by kernel_rfl) ⟨(r (0 : Int)), ⟨[], rfl, lnil _⟩, (r a0_0), (r a0_1), (r (a0_2.length : Int)), tv⟩ (at_re (V' := (vals [a0_0, a0_1, (a0_2.length : Int), r1] [(a0_2.flatMap enIIIIB)])) (T := ⟨[(0, .agg [(ys 0), (ys 1), .gs 0 0 (.v 2) 5 false])], [some (.rows 0 [] 214 true)], [some (0, 0)]⟩) (qs := [(ns 0 0), (ns 1 1), (ns 2 2), .lst 0 (some 0) []]) hat (by kernel_rfl) ⟨rfl, rfl, rfl, ⟨[], rfl, lnil _⟩, tv⟩) fun aa1 ww1 hat1 => loop_in (r4_CheckScene_L1_ok fu a0_2 a0_0 a0_1 fu (0 : Int) o4 ho4 _ _ _ _ _ _ _ hF hr hat1 ?_ ?_)
   ·intro y5 hy aa2 ww2 hat
    subst hy
    dsimp only at h
    show (Wk.out .ret).goal _ _ _ [.bk 0, .sq (subAt (bodyOf Tryz.prog 137) [1, 1, 1, 1]) [1, 1, 1, 1]] _ aa2 ww2
    injection h with h; subst h
    exact to_fin mixed ⟨[], [], [(0, 5, (.v 0))], [], [], []⟩ (V := (vals [(a0_2.length : Int), y5.1, y5.2] [(a0_2.flatMap enIIIIB)])) (n := 3000) (f := 3000) (fid := 137) (fun _ => rfl) ⟨tv, tv, ⟨flat_length enIIIIB_len _, tv⟩, tv, tv⟩ tv (R := ⟨.tup [(ys 0), (ys 1)], [none], [some (0, 0)]⟩) (qs := [(ns 1 0), (ns 2 1)]) tv ⟨rfl, tv⟩ hF hr (by kernel_rfl) ⟨(r y5.1), (r y5.2), tv⟩ hat
   ·intro y6 hy aa2 ww2 hat
    subst hy
    dsimp only at h
    show (Wk.out (.exit 0)).goal _ _ _ [.bk 0, .sq (subAt (bodyOf Tryz.prog 137) [1, 1, 1, 1]) [1, 1, 1, 1]] _ aa2 ww2
    injection h with h; subst h
    exact to_fin mixed ⟨[], [], [(0, 5, (.v 0))], [], [], []⟩ (V := (vals [(a0_2.length : Int)] [(a0_2.flatMap enIIIIB)])) (n := 3000) (f := 3000) (fid := 137) (fun _ => rfl) ⟨tv, tv, ⟨flat_length enIIIIB_len _, tv⟩, tv, tv⟩ tv (R := ⟨.tup [(ys 0), (ys 1)], [none], [some (0, 0)]⟩) (qs := [.num (.c 0) (.v 0), .num (.c 0) (.v 1)]) tv ⟨rfl, tv⟩ hF hr (by kernel_rfl) ⟨(r (0 : Int)), (r (0 : Int)), tv⟩ hat
 ·rw [if_neg h2] at h
  injection h with h; subst h
  exact to_fin mixed ⟨[(.neq, (.v 3), (.c 0), true)], [], [(0, 5, (.v 2))], [⟨248, 2, [], [(ys 0), (ys 1)], [], [(ns 0 0), (ns 1 1)], 0, (ys 0), [], (ys 3), [], []⟩], [], []⟩ (V := (vals [a0_0, a0_1, (a0_2.length : Int), r1] [(a0_2.flatMap enIIIIB)])) (n := 3000) (f := 3000) (fid := 137) (fun _ => rfl) ⟨⟨neq_t h2, tv⟩, tv, ⟨flat_length enIIIIB_len _, tv⟩, tv, tv⟩ ⟨Kr1 _ _, tv⟩ (R := ⟨.tup [(ys 0), (ys 1)], [none], [some (0, 0)]⟩) (qs := [.num (.c 0) (.v 0), (ns 3 1)]) wok0 tv hF hr (by kernel_rfl) ⟨(r (0 : Int)), (r r1), tv⟩ (at_re (V' := (vals [a0_0, a0_1, (a0_2.length : Int), r1] [(a0_2.flatMap enIIIIB)])) (T := ⟨[(0, .agg [(ys 0), (ys 1), .gs 0 0 (.v 2) 5 false])], [some (.rows 0 [] 214 true)], [some (0, 0)]⟩) (qs := [(ns 0 0), (ns 1 1), (ns 2 2), .lst 0 (some 0) []]) hat (by kernel_rfl) ⟨rfl, rfl, rfl, ⟨[], rfl, lnil _⟩, tv⟩)
def r4_SceneErr (fu : Nat) (a0_0 : Int) (a0_1 : Int) (a0_2 : List (Int × Int × Int × Int × Bool)) : Option (Int) := Option.bind (r4_CheckScene fu a0_0 a0_1 a0_2) fun r1 => some r1.2
theorem r4_SceneErr_ok (fu : Nat) (a0_0 : Int) (a0_1 : Int) (a0_2 : List (Int × Int × Int × Int × Bool)) (y : Int) (h : r4_SceneErr fu a0_0 a0_1 a0_2 = some y) : CallOk Tryz.prog 56 (vals [a0_0, a0_1, (a0_2.length : Int)] [(a0_2.flatMap enIIIIB)]) [.agg [(ys 0), (ys 1), .gs 0 0 (.v 2) 5 false]] [some (.rows 0 [] 214 true)] 1 (vals [y] []) ((ys 0)) [none] := by
 refine fun_of (nt := 11) (by kernel_rfl) (by kernel_rfl) fun φ0 w0 a w hat => ?_
 have hF := wide_fw
 have hr : Fence.wide.round = none := rfl
 unfold r4_SceneErr at h
 obtain ⟨r1, hr1, h⟩ := bs1 h
 have Kr1 : KO Tryz.prog [a0_0, a0_1, (a0_2.length : Int), r1.1, r1.2] [(a0_2.flatMap enIIIIB)] ⟨137, 2, [some (0, 0)], [.agg [(ys 0), (ys 1), .gs 0 0 (.v 2) 5 false]], [some (.rows 0 [] 214 true)], [(ns 0 0), (ns 1 1), (ns 2 2), .lst 0 (some 0) []], 1, .tup [(ys 0), (ys 1)], [none], .tup [(ys 3), (ys 4)], [], []⟩ := fun N M => ⟨_, _, [(ns 0 3), (ns 1 4)], ⟨r4_CheckScene_ok fu a0_0 a0_1 a0_2 r1 hr1, ⟨(r a0_0), (r a0_1), (r (a0_2.length : Int)), ⟨[], rfl, lnil _⟩, tv⟩, by kernel_rfl, ⟨rfl, rfl, tv⟩⟩⟩
 injection h with h; subst h
 exact to_fin mixed ⟨[], [], [(0, 5, (.v 2))], [⟨137, 2, [some (0, 0)], [.agg [(ys 0), (ys 1), .gs 0 0 (.v 2) 5 false]], [some (.rows 0 [] 214 true)], [(ns 0 0), (ns 1 1), (ns 2 2), .lst 0 (some 0) []], 1, .tup [(ys 0), (ys 1)], [none], .tup [(ys 3), (ys 4)], [], []⟩], [], []⟩ (V := (vals [a0_0, a0_1, (a0_2.length : Int), r1.1, r1.2] [(a0_2.flatMap enIIIIB)])) (n := 3000) (f := 3000) (fid := 56) (fun _ => rfl) ⟨tv, tv, ⟨flat_length enIIIIB_len _, tv⟩, tv, tv⟩ ⟨Kr1 _ _, tv⟩ (R := ⟨(ys 0), [none], [some (0, 0)]⟩) (qs := [(ns 4 0)]) wok0 tv hF hr (by kernel_rfl) ⟨(r r1.2), tv⟩ (at_re (V' := (vals [a0_0, a0_1, (a0_2.length : Int), r1.1, r1.2] [(a0_2.flatMap enIIIIB)])) (T := ⟨[(0, .agg [(ys 0), (ys 1), .gs 0 0 (.v 2) 5 false])], [some (.rows 0 [] 214 true)], [some (0, 0)]⟩) (qs := [(ns 0 0), (ns 1 1), (ns 2 2), .lst 0 (some 0) []]) hat (by kernel_rfl) ⟨rfl, rfl, rfl, ⟨[], rfl, lnil _⟩, tv⟩)
def r4_ParseScene (fu : Nat) (a0 : Int) : Option (Int × Int × List (Int × Int × Int × Int × Bool) × Int) := if (60000 : Int) < (sln a0) then (some ((0 : Int), (0 : Int), ([] : List (Int × Int × Int × Int × Bool)), (8 : Int))) else (Option.bind (b_Cut fu a0 (59 : Int)) fun r2 => if (0 : Int) < (r2.length : Int) then (Option.bind ((r2)[0 + ((0 : Int)).toNat]?) fun e4 => Option.bind (r4_numbers fu e4 (2 : Int)) fun r5 => if r5.2 = true then (if (0 : Int) < (r5.1.length : Int) then (Option.bind ((r5.1)[0 + ((0 : Int)).toNat]?) fun e8 => if (1 : Int) < (r5.1.length : Int) then (Option.bind ((r5.1)[0 + ((1 : Int)).toNat]?) fun e10 => Option.bind (r4_ParseScene_L1 fu r2 e8 e10 fu ([] : List (Int × Int × Int × Int × Bool)) (1 : Int)) fun o11 => (match o11 with | .inl y12 => (some ((0 : Int), (0 : Int), ([] : List (Int × Int × Int × Int × Bool)), (7 : Int))) | .inr y13 => (Option.bind (r4_SceneErr fu e8 e10 y13) fun r14 => if r14 = (0 : Int) then (some (e8, e10, y13, (0 : Int))) else (some ((0 : Int), (0 : Int), ([] : List (Int × Int × Int × Int × Bool)), r14))))) else none) else none) else (some ((0 : Int), (0 : Int), ([] : List (Int × Int × Int × Int × Bool)), (7 : Int)))) else none)
theorem r4_ParseScene_ok (fu : Nat) (a0 : Int) (y : Int × Int × List (Int × Int × Int × Int × Bool) × Int) (h : r4_ParseScene fu a0 = some y) : CallOk Tryz.prog 50 (vals [a0] []) [.ss (.v 0)] [] 0 (vals [y.1, y.2.1, (y.2.2.1.length : Int), y.2.2.2] [(y.2.2.1.flatMap enIIIIB)]) (.tup [.agg [(ys 0), (ys 1), .gs 0 0 (.v 2) 5 true], (ys 3)]) [some (.rows 0 [] 214 false)] := by
 refine fun_of (nt := 91) (by kernel_rfl) (by kernel_rfl) fun φ0 w0 a w hat => ?_
 have hF := wide_fw
 have hr : Fence.wide.round = none := rfl
 unfold r4_ParseScene at h
 by_cases h1 : (60000 : Int) < (sln a0)
 ·rw [if_pos h1] at h
  injection h with h; subst h
  exact to_fin mixed ⟨[(.gtr, (.sln (.v 0)), (.c 60000), true)], [], [], [], [], []⟩ (V := (vals [a0] [])) (n := 3000) (f := 3000) (fid := 50) (fun _ => rfl) ⟨⟨gtr_t h1, tv⟩, tv, tv, tv, tv⟩ tv (R := ⟨.tup [.agg [(ys 0), (ys 1), .gs 0 0 (.v 2) 5 true], (ys 3)], [some (.rows 0 [] 214 false)], [none]⟩) (qs := [.num (.c 0) (.v 0), .num (.c 0) (.v 1), .num (.c 0) (.v 2), .num (.c 8) (.v 3)]) wok0 tv hF hr (by kernel_rfl) ⟨(r (0 : Int)), (r (0 : Int)), rfl, (r (8 : Int)), tv⟩ hat
 ·rw [if_neg h1] at h
  obtain ⟨r2, hr2, h⟩ := bs1 h
  have Kr2 : KO Tryz.prog [a0, (r2.length : Int)] [(r2.flatMap enS)] ⟨95, 2, [], [.ss (.v 0), .sym .u8 (.v 1)], [], [(ns 0 0), .num (.c 59) (.v 1)], 0, .gs 0 0 (.v 0) 1 true, [some (.rows 0 [] 9 false)], .gs 2 0 (.v 1) 1 true, [some (.rows 0 [] 9 false)], []⟩ := fun N M => ⟨_, _, [(ns 0 1), .lst 0 (some 0) []], ⟨b_Cut_ok fu a0 (59 : Int) r2 hr2, ⟨(r a0), (r (59 : Int)), tv⟩, by kernel_rfl, ⟨rfl, ⟨[], rfl, lnil _⟩, tv⟩⟩⟩
  by_cases h3 : (0 : Int) < (r2.length : Int)
  ·rw [if_pos h3] at h
   obtain ⟨e4, he4, h⟩ := bs1 h
   obtain ⟨r5, hr5, h⟩ := bs1 h
   have Kr5 : KO Tryz.prog [a0, (r2.length : Int), e4, (r5.1.length : Int), bI r5.2] [(r2.flatMap enS), (r5.1.flatMap enI)] ⟨134, 3, [], [.ss (.v 0), (ys 1)], [], [(ns 2 0), .num (.c 2) (.v 1)], 0, .tup [.gs 0 0 (.v 0) 1 true, .bs (.v 1)], [some (.rows 0 [] 3 false)], .tup [.gs 3 0 (.v 3) 1 true, .bs (.v 4)], [some (.rows 1 [] 3 false)], []⟩ := fun N M => ⟨_, _, [(ns 0 3), (ns 1 4), .lst 1 (some 0) []], ⟨r4_numbers_ok fu e4 (2 : Int) r5 hr5, ⟨(r e4), (r (2 : Int)), tv⟩, by kernel_rfl, ⟨rfl, rfl, ⟨[], rfl, lnil _⟩, tv⟩⟩⟩
   by_cases h6 : r5.2 = true
   ·rw [if_pos h6] at h
    by_cases h7 : (0 : Int) < (r5.1.length : Int)
    ·rw [if_pos h7] at h
     obtain ⟨e8, he8, h⟩ := bs1 h
     by_cases h9 : (1 : Int) < (r5.1.length : Int)
     ·rw [if_pos h9] at h
      obtain ⟨e10, he10, h⟩ := bs1 h
      obtain ⟨o11, ho11, h⟩ := bs1 h
      refine to_loop mixed ⟨[(.gtr, (.sln (.v 0)), (.c 60000), false), (.lss, (.c 0), (.v 1), true), (.neq, (.v 4), (.c 0), true), (.lss, (.c 0), (.v 3), true), (.lss, (.c 1), (.v 3), true)], [(0, 0, (.c 0), [.ss (.v 2)]), (1, 0, (.c 0), [(ys 5)]), (1, 0, (.c 1), [(ys 6)])], [(0, 1, (.v 1)), (1, 1, (.v 3))], [⟨95, 2, [], [.ss (.v 0), .sym .u8 (.v 1)], [], [(ns 0 0), .num (.c 59) (.v 1)], 0, .gs 0 0 (.v 0) 1 true, [some (.rows 0 [] 9 false)], .gs 2 0 (.v 1) 1 true, [some (.rows 0 [] 9 false)], []⟩, ⟨134, 3, [], [.ss (.v 0), (ys 1)], [], [(ns 2 0), .num (.c 2) (.v 1)], 0, .tup [.gs 0 0 (.v 0) 1 true, .bs (.v 1)], [some (.rows 0 [] 3 false)], .tup [.gs 3 0 (.v 3) 1 true, .bs (.v 4)], [some (.rows 1 [] 3 false)], []⟩], [], []⟩ (V := (vals [a0, (r2.length : Int), e4, (r5.1.length : Int), bI r5.2, e8, e10] [(r2.flatMap enS), (r5.1.flatMap enI)])) (n := 3000) (f := 3000) (fid := 50) (fun _ => rfl) (V' := (vals [(r2.length : Int), e8, e10, (([] : List (Int × Int × Int × Int × Bool)).length : Int), (1 : Int)] [(r2.flatMap enS), (([] : List (Int × Int × Int × Int × Bool)).flatMap enIIIIB)])) ⟨⟨gtr_f h1, lss_t h3, bi_t h6, lss_t h7, lss_t h9, tv⟩, ⟨⟨(show (0 : Int) ≤ 0 by omega), _, rfl, flat_row enS_len he4⟩, ⟨(show (0 : Int) ≤ 0 by omega), _, rfl, flat_row enI_len he8⟩, ⟨(show (0 : Int) ≤ 1 by omega), _, rfl, flat_row enI_len he10⟩, tv⟩, ⟨flat_length enS_len _, flat_length enI_len _, tv⟩, tv, tv⟩ ⟨Kr2 _ _, Kr5 _ _, tv⟩ (T := ⟨[(2, .ptr 0 0), (4, .ptr 1 0), (5, .gs 2 0 (.v 0) 1 true), (8, .ptr 3 0), (9, (ys 4))], [some (.cells [.int .i64 0, .int .i64 0, .nils] 74 false), some (.cells [.int .i64 0, .int .i64 0, .nils] 74 false), some (.rows 0 [] 9 false), some (.cells [(ys 1), (ys 2), .gs 4 0 (.v 3) 5 true] 74 false), some (.rows 1 [] 214 false)], [some (0, 0), some (1, 0), some (2, 0), some (4, 0), none]⟩) (B := subAt (bodyOf Tryz.prog 50) [1, 1, 1, 1, 1, 1, 1, 0, 1, 0, 0]) (K' := [.bk 0, .sq (subAt (bodyOf Tryz.prog 50) [1, 1, 1, 1, 1, 1, 1, 1]) [1, 1, 1, 1, 1, 1, 1, 1]]) (qs := [(ns 1 0), .num (.c 1) (.v 4), .lst 0 (some 0) [], (ns 5 1), (ns 6 2), .num (.c 0) (.v 3)]) wok0 tv hF hr (by kernel_rfl) ⟨(r (r2.length : Int)), (r (1 : Int)), ⟨[], rfl, lnil _⟩, (r e8), (r e10), rfl, tv⟩ (at_re (V' := (vals [a0, (r2.length : Int), e4, (r5.1.length : Int), bI r5.2, e8, e10] [(r2.flatMap enS), (r5.1.flatMap enI)])) (T := ⟨[(0, .ss (.v 0))], [], []⟩) (qs := [(ns 0 0)]) hat (by kernel_rfl) ⟨rfl, tv⟩) fun aa1 ww1 hat1 => loop_in (r4_ParseScene_L1_ok fu r2 e8 e10 fu ([] : List (Int × Int × Int × Int × Bool)) (1 : Int) o11 ho11 _ _ _ _ _ _ _ hF hr hat1 ?_ ?_)
      ·intro y12 hy aa2 ww2 hat
       subst hy
       dsimp only at h
       show (Wk.out .ret).goal _ _ _ [.bk 0, .sq (subAt (bodyOf Tryz.prog 50) [1, 1, 1, 1, 1, 1, 1, 1]) [1, 1, 1, 1, 1, 1, 1, 1]] _ aa2 ww2
       injection h with h; subst h
       exact to_fin mixed ⟨[], [], [], [], [], []⟩ (V := (vals [] [])) (n := 3000) (f := 3000) (fid := 50) (fun _ => rfl) ⟨tv, tv, tv, tv, tv⟩ tv (R := ⟨.tup [.agg [(ys 0), (ys 1), .gs 0 0 (.v 2) 5 true], (ys 3)], [some (.rows 0 [] 214 false)], [none]⟩) (qs := [.num (.c 0) (.v 0), .num (.c 0) (.v 1), .num (.c 0) (.v 2), .num (.c 7) (.v 3)]) tv ⟨rfl, tv⟩ hF hr (by kernel_rfl) ⟨(r (0 : Int)), (r (0 : Int)), rfl, (r (7 : Int)), tv⟩ hat
      ·intro y13 hy aa2 ww2 hat
       subst hy
       dsimp only at h
       show (Wk.out (.exit 0)).goal _ _ _ [.bk 0, .sq (subAt (bodyOf Tryz.prog 50) [1, 1, 1, 1, 1, 1, 1, 1]) [1, 1, 1, 1, 1, 1, 1, 1]] _ aa2 ww2
       obtain ⟨r14, hr14, h⟩ := bs1 h
       have Kr14 : KO Tryz.prog [e8, e10, (y13.length : Int), r14] [(y13.flatMap enIIIIB)] ⟨56, 4, [some (3, 0)], [.agg [(ys 0), (ys 1), .gs 0 0 (.v 2) 5 false]], [some (.rows 0 [] 214 true)], [(ns 0 0), (ns 1 1), (ns 2 2), .lst 0 (some 0) []], 1, (ys 0), [none], (ys 3), [], []⟩ := fun N M => ⟨_, _, [(ns 0 3)], ⟨r4_SceneErr_ok fu e8 e10 y13 r14 hr14, ⟨(r e8), (r e10), (r (y13.length : Int)), ⟨[], rfl, lnil _⟩, tv⟩, by kernel_rfl, ⟨rfl, tv⟩⟩⟩
       by_cases h15 : r14 = (0 : Int)
       ·rw [if_pos h15] at h
        injection h with h; subst h
        exact to_fin mixed ⟨[(.neq, (.v 3), (.c 0), false)], [], [(0, 5, (.v 2))], [⟨56, 4, [some (3, 0)], [.agg [(ys 0), (ys 1), .gs 0 0 (.v 2) 5 false]], [some (.rows 0 [] 214 true)], [(ns 0 0), (ns 1 1), (ns 2 2), .lst 0 (some 0) []], 1, (ys 0), [none], (ys 3), [], []⟩], [], []⟩ (V := (vals [e8, e10, (y13.length : Int), r14] [(y13.flatMap enIIIIB)])) (n := 3000) (f := 3000) (fid := 50) (fun _ => rfl) ⟨⟨neq_f h15, tv⟩, tv, ⟨flat_length enIIIIB_len _, tv⟩, tv, tv⟩ ⟨Kr14 _ _, tv⟩ (R := ⟨.tup [.agg [(ys 0), (ys 1), .gs 0 0 (.v 2) 5 true], (ys 3)], [some (.rows 0 [] 214 false)], [some (3, 0)]⟩) (qs := [(ns 0 0), (ns 1 1), (ns 2 2), .num (.c 0) (.v 3), .lst 0 (some 0) []]) tv ⟨rfl, tv⟩ hF hr (by kernel_rfl) ⟨(r e8), (r e10), (r (y13.length : Int)), (r (0 : Int)), ⟨[], rfl, lnil _⟩, tv⟩ (at_re (V' := (vals [e8, e10, (y13.length : Int), r14] [(y13.flatMap enIIIIB)])) (T := ⟨[(2, .ptr 0 0), (4, .ptr 1 0), (8, .ptr 2 0)], [some (.cells [.int .i64 0, .int .i64 0, .nils] 74 false), some (.cells [.int .i64 0, .int .i64 0, .nils] 74 false), some (.cells [(ys 0), (ys 1), .gs 3 0 (.v 2) 5 true] 74 false), some (.rows 0 [] 214 false)], [some (0, 0), some (1, 0), some (2, 0), some (3, 0)]⟩) (qs := [(ns 0 0), (ns 1 1), (ns 2 2), .lst 0 (some 0) []]) hat (by kernel_rfl) ⟨rfl, rfl, rfl, ⟨[], rfl, lnil _⟩, tv⟩)
       ·rw [if_neg h15] at h
        injection h with h; subst h
        exact to_fin mixed ⟨[(.neq, (.v 3), (.c 0), true)], [], [(0, 5, (.v 2))], [⟨56, 4, [some (3, 0)], [.agg [(ys 0), (ys 1), .gs 0 0 (.v 2) 5 false]], [some (.rows 0 [] 214 true)], [(ns 0 0), (ns 1 1), (ns 2 2), .lst 0 (some 0) []], 1, (ys 0), [none], (ys 3), [], []⟩], [], []⟩ (V := (vals [e8, e10, (y13.length : Int), r14] [(y13.flatMap enIIIIB)])) (n := 3000) (f := 3000) (fid := 50) (fun _ => rfl) ⟨⟨neq_t h15, tv⟩, tv, ⟨flat_length enIIIIB_len _, tv⟩, tv, tv⟩ ⟨Kr14 _ _, tv⟩ (R := ⟨.tup [.agg [(ys 0), (ys 1), .gs 0 0 (.v 2) 5 true], (ys 3)], [some (.rows 0 [] 214 false)], [none]⟩) (qs := [.num (.c 0) (.v 0), .num (.c 0) (.v 1), .num (.c 0) (.v 2), (ns 3 3)]) tv ⟨rfl, tv⟩ hF hr (by kernel_rfl) ⟨(r (0 : Int)), (r (0 : Int)), rfl, (r r14), tv⟩ (at_re (V' := (vals [e8, e10, (y13.length : Int), r14] [(y13.flatMap enIIIIB)])) (T := ⟨[(2, .ptr 0 0), (4, .ptr 1 0), (8, .ptr 2 0)], [some (.cells [.int .i64 0, .int .i64 0, .nils] 74 false), some (.cells [.int .i64 0, .int .i64 0, .nils] 74 false), some (.cells [(ys 0), (ys 1), .gs 3 0 (.v 2) 5 true] 74 false), some (.rows 0 [] 214 false)], [some (0, 0), some (1, 0), some (2, 0), some (3, 0)]⟩) (qs := [(ns 0 0), (ns 1 1), (ns 2 2), .lst 0 (some 0) []]) hat (by kernel_rfl) ⟨rfl, rfl, rfl, ⟨[], rfl, lnil _⟩, tv⟩)
     ·rw [if_neg h9] at h
      cases h
    ·rw [if_neg h7] at h
     cases h
   ·rw [if_neg h6] at h
    injection h with h; subst h
    exact to_fin mixed ⟨[(.gtr, (.sln (.v 0)), (.c 60000), false), (.lss, (.c 0), (.v 1), true), (.neq, (.v 4), (.c 0), false)], [(0, 0, (.c 0), [.ss (.v 2)])], [(0, 1, (.v 1)), (1, 1, (.v 3))], [⟨95, 2, [], [.ss (.v 0), .sym .u8 (.v 1)], [], [(ns 0 0), .num (.c 59) (.v 1)], 0, .gs 0 0 (.v 0) 1 true, [some (.rows 0 [] 9 false)], .gs 2 0 (.v 1) 1 true, [some (.rows 0 [] 9 false)], []⟩, ⟨134, 3, [], [.ss (.v 0), (ys 1)], [], [(ns 2 0), .num (.c 2) (.v 1)], 0, .tup [.gs 0 0 (.v 0) 1 true, .bs (.v 1)], [some (.rows 0 [] 3 false)], .tup [.gs 3 0 (.v 3) 1 true, .bs (.v 4)], [some (.rows 1 [] 3 false)], []⟩], [], []⟩ (V := (vals [a0, (r2.length : Int), e4, (r5.1.length : Int), bI r5.2] [(r2.flatMap enS), (r5.1.flatMap enI)])) (n := 3000) (f := 3000) (fid := 50) (fun _ => rfl) ⟨⟨gtr_f h1, lss_t h3, bi_f h6, tv⟩, ⟨⟨(show (0 : Int) ≤ 0 by omega), _, rfl, flat_row enS_len he4⟩, tv⟩, ⟨flat_length enS_len _, flat_length enI_len _, tv⟩, tv, tv⟩ ⟨Kr2 _ _, Kr5 _ _, tv⟩ (R := ⟨.tup [.agg [(ys 0), (ys 1), .gs 0 0 (.v 2) 5 true], (ys 3)], [some (.rows 0 [] 214 false)], [none]⟩) (qs := [.num (.c 0) (.v 0), .num (.c 0) (.v 1), .num (.c 0) (.v 2), .num (.c 7) (.v 3)]) wok0 tv hF hr (by kernel_rfl) ⟨(r (0 : Int)), (r (0 : Int)), rfl, (r (7 : Int)), tv⟩ (at_re (V' := (vals [a0, (r2.length : Int), e4, (r5.1.length : Int), bI r5.2] [(r2.flatMap enS), (r5.1.flatMap enI)])) (T := ⟨[(0, .ss (.v 0))], [], []⟩) (qs := [(ns 0 0)]) hat (by kernel_rfl) ⟨rfl, tv⟩)
  ·rw [if_neg h3] at h
   cases h
def r4_SameDevices_L1 (fu : Nat) (p0 : List (Int × Int × Int)) (p1 : List (Int × Int × Int)) : Nat → Int → Option ((Unit) ⊕ (Unit))
 | 0, _ => none
 | n + 1, v2 => if v2 < (p0.length : Int) then (if (0 : Int) ≤ v2 then (Option.bind ((p0)[0 + (v2).toNat]?) fun e3 => if v2 < (p1.length : Int) then (Option.bind ((p1)[0 + (v2).toNat]?) fun e5 => if e3.1 = e5.1 then (if e3.2.1 = e5.2.1 then (if e3.2.2 = e5.2.2 then (r4_SameDevices_L1 fu p0 p1 n (IntKind.wrap .i64 (v2 + (1 : Int)))) else (some (.inl ()))) else (some (.inl ()))) else (some (.inl ()))) else none) else none) else (some (.inr ()))
theorem r4_SameDevices_L1_ok (fu : Nat) (p0 : List (Int × Int × Int)) (p1 : List (Int × Int × Int)) : ∀ (n : Nat) (v2 : Int) (o : (Unit) ⊕ (Unit)), r4_SameDevices_L1 fu p0 p1 n v2 = some o → ∀ (φ0 : Phi) (w0 : World) (F : Fence) (k : Nat) (R : Exit → Act → World → Prop) (a : Act) (w : World), FW F → F.round = none → AtS (vals [(p0.length : Int), (p1.length : Int), v2] [(p0.flatMap enIII), (p1.flatMap enIII)]) [(0, .gs 0 0 (.v 0) 3 false), (1, .gs 1 0 (.v 1) 3 false), (5, (ys 2))] [some (.rows 0 [] 209 true), some (.rows 1 [] 209 true)] 26 2 2 φ0 w0 a w → (∀ (y : Unit), o = .inl y → ∀ a' w', AtS (vals [(p0.length : Int), (p1.length : Int)] [(p0.flatMap enIII), (p1.flatMap enIII)]) [(4, .bool false)] [some (.rows 0 [] 209 true), some (.rows 1 [] 209 true)] 26 2 2 φ0 w0 a' w' → R Exit.ret a' w') → (∀ (y : Unit), o = .inr y → ∀ a' w', AtS (vals [(p0.length : Int), (p1.length : Int)] [(p0.flatMap enIII), (p1.flatMap enIII)]) [] [some (.rows 0 [] 209 true), some (.rows 1 [] 209 true)] 26 2 2 φ0 w0 a' w' → R (Exit.exit 0) a' w') → Code.roundsIn F k Tryz.prog (subAt (bodyOf Tryz.prog 53) [1, 1, 0, 1, 0, 0]) R n a w
 | 0, _, _, h => by cases h
 | n + 1, v2, o, h => by
  intro φ0 w0 F k R a w hF hr hat hx0 hx1
  rw [r4_SameDevices_L1] at h
  refine rounds_in (p := [1, 1, 0, 1, 0, 0]) ?_
  by_cases h1 : v2 < (p0.length : Int)
  ·rw [if_pos h1] at h
   by_cases h2 : (0 : Int) ≤ v2
   ·rw [if_pos h2] at h
    obtain ⟨e3, he3, h⟩ := bs1 h
    by_cases h4 : v2 < (p1.length : Int)
    ·rw [if_pos h4] at h
     obtain ⟨e5, he5, h⟩ := bs1 h
     by_cases h6 : e3.1 = e5.1
     ·rw [if_pos h6] at h
      by_cases h7 : e3.2.1 = e5.2.1
      ·rw [if_pos h7] at h
       by_cases h8 : e3.2.2 = e5.2.2
       ·rw [if_pos h8] at h
        refine to_done mixed ⟨[(.lss, (.v 2), (.v 0), true), (.leq, (.c 0), (.v 2), true), (.lss, (.v 2), (.v 1), true), (.eql, (.v 3), (.v 6), true), (.eql, (.v 4), (.v 7), true), (.eql, (.v 5), (.v 8), true)], [(0, 0, (.v 2), [(ys 3), (ys 4), (ys 5)]), (1, 0, (.v 2), [(ys 6), (ys 7), (ys 8)])], [(0, 3, (.v 0)), (1, 3, (.v 1))], [], [], []⟩ (V := (vals [(p0.length : Int), (p1.length : Int), v2, e3.1, e3.2.1, e3.2.2, e5.1, e5.2.1, e5.2.2] [(p0.flatMap enIII), (p1.flatMap enIII)])) (n := 3000) (f := 3000) (fid := 53) (fun _ => rfl) (V' := (vals [(p0.length : Int), (p1.length : Int), (IntKind.wrap .i64 (v2 + (1 : Int)))] [(p0.flatMap enIII), (p1.flatMap enIII)])) ⟨⟨lss_t h1, leq_t h2, lss_t h4, eql_t h6, eql_t h7, eql_t h8, tv⟩, ⟨⟨h2, _, rfl, flat_row enIII_len he3⟩, ⟨h2, _, rfl, flat_row enIII_len he5⟩, tv⟩, ⟨flat_length enIII_len _, flat_length enIII_len _, tv⟩, tv, tv⟩ tv (T := ⟨[(0, .gs 0 0 (.v 0) 3 false), (1, .gs 1 0 (.v 1) 3 false), (5, (ys 2))], [some (.rows 0 [] 209 true), some (.rows 1 [] 209 true)], [some (0, 0), some (1, 0)]⟩) (ce := .normal) (qs := [(ns 0 0), (ns 1 1), .num (.add .i64 (.v 2) (.c 1)) (.v 2), .lst 0 (some 0) [], .lst 1 (some 1) []]) rfl tv hF hr (by kernel_rfl) ⟨(r (p0.length : Int)), (r (p1.length : Int)), (r (IntKind.wrap .i64 (v2 + (1 : Int)))), ⟨[], rfl, lnil _⟩, ⟨[], rfl, lnil _⟩, tv⟩ (at_re (V' := (vals [(p0.length : Int), (p1.length : Int), v2, e3.1, e3.2.1, e3.2.2, e5.1, e5.2.1, e5.2.2] [(p0.flatMap enIII), (p1.flatMap enIII)])) (T := ⟨[(0, .gs 0 0 (.v 0) 3 false), (1, .gs 1 0 (.v 1) 3 false), (5, (ys 2))], [some (.rows 0 [] 209 true), some (.rows 1 [] 209 true)], [some (0, 0), some (1, 0)]⟩) (qs := [(ns 0 0), (ns 1 1), (ns 2 2), .lst 0 (some 0) [], .lst 1 (some 1) []]) hat (by kernel_rfl) ⟨rfl, rfl, rfl, ⟨[], rfl, lnil _⟩, ⟨[], rfl, lnil _⟩, tv⟩) fun a' w' hat' => ?_
        exact r4_SameDevices_L1_ok fu p0 p1 n (IntKind.wrap .i64 (v2 + (1 : Int))) o h _ _ _ _ _ _ _ hF hr hat' hx0 hx1
       ·rw [if_neg h8] at h
        injection h with h; subst h
        exact to_done mixed ⟨[(.lss, (.v 2), (.v 0), true), (.leq, (.c 0), (.v 2), true), (.lss, (.v 2), (.v 1), true), (.eql, (.v 3), (.v 6), true), (.eql, (.v 4), (.v 7), true), (.eql, (.v 5), (.v 8), false)], [(0, 0, (.v 2), [(ys 3), (ys 4), (ys 5)]), (1, 0, (.v 2), [(ys 6), (ys 7), (ys 8)])], [(0, 3, (.v 0)), (1, 3, (.v 1))], [], [], []⟩ (V := (vals [(p0.length : Int), (p1.length : Int), v2, e3.1, e3.2.1, e3.2.2, e5.1, e5.2.1, e5.2.2] [(p0.flatMap enIII), (p1.flatMap enIII)])) (n := 3000) (f := 3000) (fid := 53) (fun _ => rfl) (V' := (vals [(p0.length : Int), (p1.length : Int)] [(p0.flatMap enIII), (p1.flatMap enIII)])) ⟨⟨lss_t h1, leq_t h2, lss_t h4, eql_t h6, eql_t h7, eql_f h8, tv⟩, ⟨⟨h2, _, rfl, flat_row enIII_len he3⟩, ⟨h2, _, rfl, flat_row enIII_len he5⟩, tv⟩, ⟨flat_length enIII_len _, flat_length enIII_len _, tv⟩, tv, tv⟩ tv (T := ⟨[(4, .bool false)], [some (.rows 0 [] 209 true), some (.rows 1 [] 209 true)], [some (0, 0), some (1, 0)]⟩) (ce := .ret) (qs := [.lst 0 (some 0) [], .lst 1 (some 1) []]) rfl tv hF hr (by kernel_rfl) ⟨⟨[], rfl, lnil _⟩, ⟨[], rfl, lnil _⟩, tv⟩ (at_re (V' := (vals [(p0.length : Int), (p1.length : Int), v2, e3.1, e3.2.1, e3.2.2, e5.1, e5.2.1, e5.2.2] [(p0.flatMap enIII), (p1.flatMap enIII)])) (T := ⟨[(0, .gs 0 0 (.v 0) 3 false), (1, .gs 1 0 (.v 1) 3 false), (5, (ys 2))], [some (.rows 0 [] 209 true), some (.rows 1 [] 209 true)], [some (0, 0), some (1, 0)]⟩) (qs := [(ns 0 0), (ns 1 1), (ns 2 2), .lst 0 (some 0) [], .lst 1 (some 1) []]) hat (by kernel_rfl) ⟨rfl, rfl, rfl, ⟨[], rfl, lnil _⟩, ⟨[], rfl, lnil _⟩, tv⟩) fun a' w' hat' => hx0 () rfl a' w' hat'
      ·rw [if_neg h7] at h
       injection h with h; subst h
       exact to_done mixed ⟨[(.lss, (.v 2), (.v 0), true), (.leq, (.c 0), (.v 2), true), (.lss, (.v 2), (.v 1), true), (.eql, (.v 3), (.v 6), true), (.eql, (.v 4), (.v 7), false)], [(0, 0, (.v 2), [(ys 3), (ys 4), (ys 5)]), (1, 0, (.v 2), [(ys 6), (ys 7), (ys 8)])], [(0, 3, (.v 0)), (1, 3, (.v 1))], [], [], []⟩ (V := (vals [(p0.length : Int), (p1.length : Int), v2, e3.1, e3.2.1, e3.2.2, e5.1, e5.2.1, e5.2.2] [(p0.flatMap enIII), (p1.flatMap enIII)])) (n := 3000) (f := 3000) (fid := 53) (fun _ => rfl) (V' := (vals [(p0.length : Int), (p1.length : Int)] [(p0.flatMap enIII), (p1.flatMap enIII)])) ⟨⟨lss_t h1, leq_t h2, lss_t h4, eql_t h6, eql_f h7, tv⟩, ⟨⟨h2, _, rfl, flat_row enIII_len he3⟩, ⟨h2, _, rfl, flat_row enIII_len he5⟩, tv⟩, ⟨flat_length enIII_len _, flat_length enIII_len _, tv⟩, tv, tv⟩ tv (T := ⟨[(4, .bool false)], [some (.rows 0 [] 209 true), some (.rows 1 [] 209 true)], [some (0, 0), some (1, 0)]⟩) (ce := .ret) (qs := [.lst 0 (some 0) [], .lst 1 (some 1) []]) rfl tv hF hr (by kernel_rfl) ⟨⟨[], rfl, lnil _⟩, ⟨[], rfl, lnil _⟩, tv⟩ (at_re (V' := (vals [(p0.length : Int), (p1.length : Int), v2, e3.1, e3.2.1, e3.2.2, e5.1, e5.2.1, e5.2.2] [(p0.flatMap enIII), (p1.flatMap enIII)])) (T := ⟨[(0, .gs 0 0 (.v 0) 3 false), (1, .gs 1 0 (.v 1) 3 false), (5, (ys 2))], [some (.rows 0 [] 209 true), some (.rows 1 [] 209 true)], [some (0, 0), some (1, 0)]⟩) (qs := [(ns 0 0), (ns 1 1), (ns 2 2), .lst 0 (some 0) [], .lst 1 (some 1) []]) hat (by kernel_rfl) ⟨rfl, rfl, rfl, ⟨[], rfl, lnil _⟩, ⟨[], rfl, lnil _⟩, tv⟩) fun a' w' hat' => hx0 () rfl a' w' hat'
     ·rw [if_neg h6] at h
      injection h with h; subst h
      exact to_done mixed ⟨[(.lss, (.v 2), (.v 0), true), (.leq, (.c 0), (.v 2), true), (.lss, (.v 2), (.v 1), true), (.eql, (.v 3), (.v 6), false)], [(0, 0, (.v 2), [(ys 3), (ys 4), (ys 5)]), (1, 0, (.v 2), [(ys 6), (ys 7), (ys 8)])], [(0, 3, (.v 0)), (1, 3, (.v 1))], [], [], []⟩ (V := (vals [(p0.length : Int), (p1.length : Int), v2, e3.1, e3.2.1, e3.2.2, e5.1, e5.2.1, e5.2.2] [(p0.flatMap enIII), (p1.flatMap enIII)])) (n := 3000) (f := 3000) (fid := 53) (fun _ => rfl) (V' := (vals [(p0.length : Int), (p1.length : Int)] [(p0.flatMap enIII), (p1.flatMap enIII)])) ⟨⟨lss_t h1, leq_t h2, lss_t h4, eql_f h6, tv⟩, ⟨⟨h2, _, rfl, flat_row enIII_len he3⟩, ⟨h2, _, rfl, flat_row enIII_len he5⟩, tv⟩, ⟨flat_length enIII_len _, flat_length enIII_len _, tv⟩, tv, tv⟩ tv (T := ⟨[(4, .bool false)], [some (.rows 0 [] 209 true), some (.rows 1 [] 209 true)], [some (0, 0), some (1, 0)]⟩) (ce := .ret) (qs := [.lst 0 (some 0) [], .lst 1 (some 1) []]) rfl tv hF hr (by kernel_rfl) ⟨⟨[], rfl, lnil _⟩, ⟨[], rfl, lnil _⟩, tv⟩ (at_re (V' := (vals [(p0.length : Int), (p1.length : Int), v2, e3.1, e3.2.1, e3.2.2, e5.1, e5.2.1, e5.2.2] [(p0.flatMap enIII), (p1.flatMap enIII)])) (T := ⟨[(0, .gs 0 0 (.v 0) 3 false), (1, .gs 1 0 (.v 1) 3 false), (5, (ys 2))], [some (.rows 0 [] 209 true), some (.rows 1 [] 209 true)], [some (0, 0), some (1, 0)]⟩) (qs := [(ns 0 0), (ns 1 1), (ns 2 2), .lst 0 (some 0) [], .lst 1 (some 1) []]) hat (by kernel_rfl) ⟨rfl, rfl, rfl, ⟨[], rfl, lnil _⟩, ⟨[], rfl, lnil _⟩, tv⟩) fun a' w' hat' => hx0 () rfl a' w' hat'
    ·rw [if_neg h4] at h
     cases h
   ·rw [if_neg h2] at h
    cases h
  ·rw [if_neg h1] at h
   injection h with h; subst h
   exact to_done mixed ⟨[(.lss, (.v 2), (.v 0), false)], [], [(0, 3, (.v 0)), (1, 3, (.v 1))], [], [], []⟩ (V := (vals [(p0.length : Int), (p1.length : Int), v2] [(p0.flatMap enIII), (p1.flatMap enIII)])) (n := 3000) (f := 3000) (fid := 53) (fun _ => rfl) (V' := (vals [(p0.length : Int), (p1.length : Int)] [(p0.flatMap enIII), (p1.flatMap enIII)])) ⟨⟨lss_f h1, tv⟩, tv, ⟨flat_length enIII_len _, flat_length enIII_len _, tv⟩, tv, tv⟩ tv (T := ⟨[], [some (.rows 0 [] 209 true), some (.rows 1 [] 209 true)], [some (0, 0), some (1, 0)]⟩) (ce := (.exit 0)) (qs := [.lst 0 (some 0) [], .lst 1 (some 1) []]) rfl tv hF hr (by kernel_rfl) ⟨⟨[], rfl, lnil _⟩, ⟨[], rfl, lnil _⟩, tv⟩ hat fun a' w' hat' => hx1 () rfl a' w' hat'
def r4_SameDevices (fu : Nat) (a0 : List (Int × Int × Int)) (a1 : List (Int × Int × Int)) : Option (Bool) := if (a0.length : Int) = (a1.length : Int) then (Option.bind (r4_SameDevices_L1 fu a0 a1 fu (0 : Int)) fun o2 => (match o2 with | .inl y3 => (some false) | .inr y4 => (some true))) else (some false)
theorem r4_SameDevices_ok (fu : Nat) (a0 : List (Int × Int × Int)) (a1 : List (Int × Int × Int)) (y : Bool) (h : r4_SameDevices fu a0 a1 = some y) : CallOk Tryz.prog 53 (vals [(a0.length : Int), (a1.length : Int)] [(a0.flatMap enIII), (a1.flatMap enIII)]) [.gs 0 0 (.v 0) 3 false, .gs 1 0 (.v 1) 3 false] [some (.rows 0 [] 209 true), some (.rows 1 [] 209 true)] 2 (vals [bI y] []) (.bs (.v 0)) [none, none] := by
 refine fun_of (nt := 26) (by kernel_rfl) (by kernel_rfl) fun φ0 w0 a w hat => ?_
 have hF := wide_fw
 have hr : Fence.wide.round = none := rfl
 unfold r4_SameDevices at h
 by_cases h1 : (a0.length : Int) = (a1.length : Int)
 ·rw [if_pos h1] at h
  obtain ⟨o2, ho2, h⟩ := bs1 h
  refine to_loop mixed ⟨[(.neq, (.v 0), (.v 1), false)], [], [(0, 3, (.v 0)), (1, 3, (.v 1))], [], [], []⟩ (V := (vals [(a0.length : Int), (a1.length : Int)] [(a0.flatMap enIII), (a1.flatMap enIII)])) (n := 3000) (f := 3000) (fid := 53) (fun _ => rfl) (V' := (vals [(a0.length : Int), (a1.length : Int), (0 : Int)] [(a0.flatMap enIII), (a1.flatMap enIII)])) ⟨⟨neq_f h1, tv⟩, tv, ⟨flat_length enIII_len _, flat_length enIII_len _, tv⟩, tv, tv⟩ tv (T := ⟨[(0, .gs 0 0 (.v 0) 3 false), (1, .gs 1 0 (.v 1) 3 false), (5, (ys 2))], [some (.rows 0 [] 209 true), some (.rows 1 [] 209 true)], [some (0, 0), some (1, 0)]⟩) (B := subAt (bodyOf Tryz.prog 53) [1, 1, 0, 1, 0, 0]) (K' := [.bk 0, .sq (subAt (bodyOf Tryz.prog 53) [1, 1, 1]) [1, 1, 1]]) (qs := [(ns 0 0), (ns 1 1), .num (.c 0) (.v 2), .lst 0 (some 0) [], .lst 1 (some 1) []]) wok0 tv hF hr (by kernel_rfl) ⟨(r (a0.length : Int)), (r (a1.length : Int)), (r (0 : Int)), ⟨[], rfl, lnil _⟩, ⟨[], rfl, lnil _⟩, tv⟩ hat fun aa1 ww1 hat1 => loop_in (r4_SameDevices_L1_ok fu a0 a1 fu (0 : Int) o2 ho2 _ _ _ _ _ _ _ hF hr hat1 ?_ ?_)
  ·intro y3 hy aa2 ww2 hat
   subst hy
   dsimp only at h
   show (Wk.out .ret).goal _ _ _ [.bk 0, .sq (subAt (bodyOf Tryz.prog 53) [1, 1, 1]) [1, 1, 1]] _ aa2 ww2
   injection h with h; subst h
   exact to_fin mixed ⟨[], [], [(0, 3, (.v 0)), (1, 3, (.v 1))], [], [], []⟩ (V := (vals [(a0.length : Int), (a1.length : Int)] [(a0.flatMap enIII), (a1.flatMap enIII)])) (n := 3000) (f := 3000) (fid := 53) (fun _ => rfl) ⟨tv, tv, ⟨flat_length enIII_len _, flat_length enIII_len _, tv⟩, tv, tv⟩ tv (R := ⟨.bs (.v 0), [none, none], [some (0, 0), some (1, 0)]⟩) (qs := [.num (.c 0) (.v 0)]) tv ⟨rfl, tv⟩ hF hr (by kernel_rfl) ⟨rfl, tv⟩ hat
  ·intro y4 hy aa2 ww2 hat
   subst hy
   dsimp only at h
   show (Wk.out (.exit 0)).goal _ _ _ [.bk 0, .sq (subAt (bodyOf Tryz.prog 53) [1, 1, 1]) [1, 1, 1]] _ aa2 ww2
   injection h with h; subst h
   exact to_fin mixed ⟨[], [], [(0, 3, (.v 0)), (1, 3, (.v 1))], [], [], []⟩ (V := (vals [(a0.length : Int), (a1.length : Int)] [(a0.flatMap enIII), (a1.flatMap enIII)])) (n := 3000) (f := 3000) (fid := 53) (fun _ => rfl) ⟨tv, tv, ⟨flat_length enIII_len _, flat_length enIII_len _, tv⟩, tv, tv⟩ tv (R := ⟨.bs (.v 0), [none, none], [some (0, 0), some (1, 0)]⟩) (qs := [.num (.c 1) (.v 0)]) tv ⟨rfl, tv⟩ hF hr (by kernel_rfl) ⟨rfl, tv⟩ hat
 ·rw [if_neg h1] at h
  injection h with h; subst h
  exact to_fin mixed ⟨[(.neq, (.v 0), (.v 1), true)], [], [(0, 3, (.v 0)), (1, 3, (.v 1))], [], [], []⟩ (V := (vals [(a0.length : Int), (a1.length : Int)] [(a0.flatMap enIII), (a1.flatMap enIII)])) (n := 3000) (f := 3000) (fid := 53) (fun _ => rfl) ⟨⟨neq_t h1, tv⟩, tv, ⟨flat_length enIII_len _, flat_length enIII_len _, tv⟩, tv, tv⟩ tv (R := ⟨.bs (.v 0), [none, none], [some (0, 0), some (1, 0)]⟩) (qs := [.num (.c 0) (.v 0)]) wok0 tv hF hr (by kernel_rfl) ⟨rfl, tv⟩ hat
def r4_SameScene_L1 (fu : Nat) (p0 : List (Int × Int × Int × Int × Bool)) (p1 : List (Int × Int × Int × Int × Bool)) (p2 : Int) (p3 : Int) (p4 : Int) (p5 : Int) : Nat → Int → Option ((Unit) ⊕ (Unit))
 | 0, _ => none
 | n + 1, v6 => if v6 < (p0.length : Int) then (if (0 : Int) ≤ v6 then (Option.bind ((p0)[0 + (v6).toNat]?) fun e3 => if v6 < (p1.length : Int) then (Option.bind ((p1)[0 + (v6).toNat]?) fun e5 => if e3.1 = e5.1 then (if e3.2.1 = e5.2.1 then (if e3.2.2.1 = e5.2.2.1 then (if e3.2.2.2.1 = e5.2.2.2.1 then (if e3.2.2.2.2 = true then (if e5.2.2.2.2 = true then (r4_SameScene_L1 fu p0 p1 p2 p3 p4 p5 n (IntKind.wrap .i64 (v6 + (1 : Int)))) else (some (.inl ()))) else (if e5.2.2.2.2 = true then (some (.inl ())) else (r4_SameScene_L1 fu p0 p1 p2 p3 p4 p5 n (IntKind.wrap .i64 (v6 + (1 : Int)))))) else (some (.inl ()))) else (some (.inl ()))) else (some (.inl ()))) else (some (.inl ()))) else none) else none) else (some (.inr ()))
theorem r4_SameScene_L1_ok (fu : Nat) (p0 : List (Int × Int × Int × Int × Bool)) (p1 : List (Int × Int × Int × Int × Bool)) (p2 : Int) (p3 : Int) (p4 : Int) (p5 : Int) : ∀ (n : Nat) (v6 : Int) (o : (Unit) ⊕ (Unit)), r4_SameScene_L1 fu p0 p1 p2 p3 p4 p5 n v6 = some o → ∀ (φ0 : Phi) (w0 : World) (F : Fence) (k : Nat) (R : Exit → Act → World → Prop) (a : Act) (w : World), FW F → F.round = none → AtS (vals [(p0.length : Int), (p1.length : Int), p2, p3, p4, p5, v6] [(p0.flatMap enIIIIB), (p1.flatMap enIIIIB)]) [(2, .ptr 2 0), (3, .ptr 3 0), (5, (ys 6))] [some (.rows 0 [] 214 true), some (.rows 1 [] 214 true), some (.cells [(ys 2), (ys 3), .gs 0 0 (.v 0) 5 false] 74 false), some (.cells [(ys 4), (ys 5), .gs 1 0 (.v 1) 5 false] 74 false)] 45 2 2 φ0 w0 a w → (∀ (y : Unit), o = .inl y → ∀ a' w', AtS (vals [(p0.length : Int), (p1.length : Int)] [(p0.flatMap enIIIIB), (p1.flatMap enIIIIB)]) [(4, .bool false)] [some (.rows 0 [] 214 true), some (.rows 1 [] 214 true)] 45 2 2 φ0 w0 a' w' → R Exit.ret a' w') → (∀ (y : Unit), o = .inr y → ∀ a' w', AtS (vals [(p0.length : Int), (p1.length : Int)] [(p0.flatMap enIIIIB), (p1.flatMap enIIIIB)]) [] [some (.rows 0 [] 214 true), some (.rows 1 [] 214 true)] 45 2 2 φ0 w0 a' w' → R (Exit.exit 0) a' w') → Code.roundsIn F k Tryz.prog (subAt (bodyOf Tryz.prog 54) [1, 1, 0, 1, 0, 0]) R n a w
 | 0, _, _, h => by cases h
 | n + 1, v6, o, h => by
  intro φ0 w0 F k R a w hF hr hat hx0 hx1
  rw [r4_SameScene_L1] at h
  refine rounds_in (p := [1, 1, 0, 1, 0, 0]) ?_
  by_cases h1 : v6 < (p0.length : Int)
  ·rw [if_pos h1] at h
   by_cases h2 : (0 : Int) ≤ v6
   ·rw [if_pos h2] at h
    obtain ⟨e3, he3, h⟩ := bs1 h
    by_cases h4 : v6 < (p1.length : Int)
    ·rw [if_pos h4] at h
     obtain ⟨e5, he5, h⟩ := bs1 h
     by_cases h6 : e3.1 = e5.1
     ·rw [if_pos h6] at h
      by_cases h7 : e3.2.1 = e5.2.1
      ·rw [if_pos h7] at h
       by_cases h8 : e3.2.2.1 = e5.2.2.1
       ·rw [if_pos h8] at h
        by_cases h9 : e3.2.2.2.1 = e5.2.2.2.1
        ·rw [if_pos h9] at h
         by_cases h10 : e3.2.2.2.2 = true
         ·rw [if_pos h10] at h
          by_cases h11 : e5.2.2.2.2 = true
          ·rw [if_pos h11] at h
           refine to_done mixed ⟨[(.lss, (.v 6), (.v 0), true), (.leq, (.c 0), (.v 6), true), (.lss, (.v 6), (.v 1), true), (.eql, (.v 7), (.v 12), true), (.eql, (.v 8), (.v 13), true), (.eql, (.v 9), (.v 14), true), (.eql, (.v 10), (.v 15), true), (.neq, (.v 11), (.c 0), true), (.neq, (.v 16), (.c 0), true)], [(0, 0, (.v 6), [(ys 7), (ys 8), (ys 9), (ys 10), .bs (.v 11)]), (1, 0, (.v 6), [(ys 12), (ys 13), (ys 14), (ys 15), .bs (.v 16)])], [(0, 5, (.v 0)), (1, 5, (.v 1))], [], [], []⟩ (V := (vals [(p0.length : Int), (p1.length : Int), p2, p3, p4, p5, v6, e3.1, e3.2.1, e3.2.2.1, e3.2.2.2.1, bI e3.2.2.2.2, e5.1, e5.2.1, e5.2.2.1, e5.2.2.2.1, bI e5.2.2.2.2] [(p0.flatMap enIIIIB), (p1.flatMap enIIIIB)])) (n := 3000) (f := 3000) (fid := 54) (fun _ => rfl) (V' := (vals [(p0.length : Int), (p1.length : Int), p2, p3, p4, p5, (IntKind.wrap .i64 (v6 + (1 : Int)))] [(p0.flatMap enIIIIB), (p1.flatMap enIIIIB)])) ⟨⟨lss_t h1, leq_t h2, lss_t h4, eql_t h6, eql_t h7, eql_t h8, eql_t h9, bi_t h10, bi_t h11, tv⟩, ⟨⟨h2, _, rfl, flat_row enIIIIB_len he3⟩, ⟨h2, _, rfl, flat_row enIIIIB_len he5⟩, tv⟩, ⟨flat_length enIIIIB_len _, flat_length enIIIIB_len _, tv⟩, tv, tv⟩ tv (T := ⟨[(2, .ptr 2 0), (3, .ptr 3 0), (5, (ys 6))], [some (.rows 0 [] 214 true), some (.rows 1 [] 214 true), some (.cells [(ys 2), (ys 3), .gs 0 0 (.v 0) 5 false] 74 false), some (.cells [(ys 4), (ys 5), .gs 1 0 (.v 1) 5 false] 74 false)], [some (0, 0), some (1, 0), some (2, 0), some (3, 0)]⟩) (ce := .normal) (qs := [.num (.add .i64 (.v 6) (.c 1)) (.v 6), .lst 0 (some 0) [], .lst 1 (some 1) [], (ns 2 2), (ns 3 3), (ns 0 0), (ns 4 4), (ns 5 5), (ns 1 1)]) rfl tv hF hr (by kernel_rfl) ⟨(r (IntKind.wrap .i64 (v6 + (1 : Int)))), ⟨[], rfl, lnil _⟩, ⟨[], rfl, lnil _⟩, (r p2), (r p3), (r (p0.length : Int)), (r p4), (r p5), (r (p1.length : Int)), tv⟩ (at_re (V' := (vals [(p0.length : Int), (p1.length : Int), p2, p3, p4, p5, v6, e3.1, e3.2.1, e3.2.2.1, e3.2.2.2.1, bI e3.2.2.2.2, e5.1, e5.2.1, e5.2.2.1, e5.2.2.2.1, bI e5.2.2.2.2] [(p0.flatMap enIIIIB), (p1.flatMap enIIIIB)])) (T := ⟨[(2, .ptr 2 0), (3, .ptr 3 0), (5, (ys 6))], [some (.rows 0 [] 214 true), some (.rows 1 [] 214 true), some (.cells [(ys 2), (ys 3), .gs 0 0 (.v 0) 5 false] 74 false), some (.cells [(ys 4), (ys 5), .gs 1 0 (.v 1) 5 false] 74 false)], [some (0, 0), some (1, 0), some (2, 0), some (3, 0)]⟩) (qs := [(ns 6 6), .lst 0 (some 0) [], .lst 1 (some 1) [], (ns 2 2), (ns 3 3), (ns 0 0), (ns 4 4), (ns 5 5), (ns 1 1)]) hat (by kernel_rfl) ⟨rfl, ⟨[], rfl, lnil _⟩, ⟨[], rfl, lnil _⟩, rfl, rfl, rfl, rfl, rfl, rfl, tv⟩) fun a' w' hat' => ?_
           exact r4_SameScene_L1_ok fu p0 p1 p2 p3 p4 p5 n (IntKind.wrap .i64 (v6 + (1 : Int))) o h _ _ _ _ _ _ _ hF hr hat' hx0 hx1
          ·rw [if_neg h11] at h
           injection h with h; subst h
           exact to_done mixed ⟨[(.lss, (.v 6), (.v 0), true), (.leq, (.c 0), (.v 6), true), (.lss, (.v 6), (.v 1), true), (.eql, (.v 7), (.v 12), true), (.eql, (.v 8), (.v 13), true), (.eql, (.v 9), (.v 14), true), (.eql, (.v 10), (.v 15), true), (.neq, (.v 11), (.c 0), true), (.neq, (.v 16), (.c 0), false)], [(0, 0, (.v 6), [(ys 7), (ys 8), (ys 9), (ys 10), .bs (.v 11)]), (1, 0, (.v 6), [(ys 12), (ys 13), (ys 14), (ys 15), .bs (.v 16)])], [(0, 5, (.v 0)), (1, 5, (.v 1))], [], [], []⟩ (V := (vals [(p0.length : Int), (p1.length : Int), p2, p3, p4, p5, v6, e3.1, e3.2.1, e3.2.2.1, e3.2.2.2.1, bI e3.2.2.2.2, e5.1, e5.2.1, e5.2.2.1, e5.2.2.2.1, bI e5.2.2.2.2] [(p0.flatMap enIIIIB), (p1.flatMap enIIIIB)])) (n := 3000) (f := 3000) (fid := 54) (fun _ => rfl) (V' := (vals [(p0.length : Int), (p1.length : Int)] [(p0.flatMap enIIIIB), (p1.flatMap enIIIIB)])) ⟨⟨lss_t h1, leq_t h2, lss_t h4, eql_t h6, eql_t h7, eql_t h8, eql_t h9, bi_t h10, bi_f h11, tv⟩, ⟨⟨h2, _, rfl, flat_row enIIIIB_len he3⟩, ⟨h2, _, rfl, flat_row enIIIIB_len he5⟩, tv⟩, ⟨flat_length enIIIIB_len _, flat_length enIIIIB_len _, tv⟩, tv, tv⟩ tv (T := ⟨[(4, .bool false)], [some (.rows 0 [] 214 true), some (.rows 1 [] 214 true)], [some (0, 0), some (1, 0)]⟩) (ce := .ret) (qs := [.lst 0 (some 0) [], .lst 1 (some 1) []]) rfl tv hF hr (by kernel_rfl) ⟨⟨[], rfl, lnil _⟩, ⟨[], rfl, lnil _⟩, tv⟩ (at_re (V' := (vals [(p0.length : Int), (p1.length : Int), p2, p3, p4, p5, v6, e3.1, e3.2.1, e3.2.2.1, e3.2.2.2.1, bI e3.2.2.2.2, e5.1, e5.2.1, e5.2.2.1, e5.2.2.2.1, bI e5.2.2.2.2] [(p0.flatMap enIIIIB), (p1.flatMap enIIIIB)])) (T := ⟨[(2, .ptr 2 0), (3, .ptr 3 0), (5, (ys 6))], [some (.rows 0 [] 214 true), some (.rows 1 [] 214 true), some (.cells [(ys 2), (ys 3), .gs 0 0 (.v 0) 5 false] 74 false), some (.cells [(ys 4), (ys 5), .gs 1 0 (.v 1) 5 false] 74 false)], [some (0, 0), some (1, 0), some (2, 0), some (3, 0)]⟩) (qs := [(ns 6 6), .lst 0 (some 0) [], .lst 1 (some 1) [], (ns 2 2), (ns 3 3), (ns 0 0), (ns 4 4), (ns 5 5), (ns 1 1)]) hat (by kernel_rfl) ⟨rfl, ⟨[], rfl, lnil _⟩, ⟨[], rfl, lnil _⟩, rfl, rfl, rfl, rfl, rfl, rfl, tv⟩) fun a' w' hat' => hx0 () rfl a' w' hat'
         ·rw [if_neg h10] at h
          by_cases h12 : e5.2.2.2.2 = true
          ·rw [if_pos h12] at h
           injection h with h; subst h
           exact to_done mixed ⟨[(.lss, (.v 6), (.v 0), true), (.leq, (.c 0), (.v 6), true), (.lss, (.v 6), (.v 1), true), (.eql, (.v 7), (.v 12), true), (.eql, (.v 8), (.v 13), true), (.eql, (.v 9), (.v 14), true), (.eql, (.v 10), (.v 15), true), (.neq, (.v 11), (.c 0), false), (.neq, (.v 16), (.c 0), true)], [(0, 0, (.v 6), [(ys 7), (ys 8), (ys 9), (ys 10), .bs (.v 11)]), (1, 0, (.v 6), [(ys 12), (ys 13), (ys 14), (ys 15), .bs (.v 16)])], [(0, 5, (.v 0)), (1, 5, (.v 1))], [], [], []⟩ (V := (vals [(p0.length : Int), (p1.length : Int), p2, p3, p4, p5, v6, e3.1, e3.2.1, e3.2.2.1, e3.2.2.2.1, bI e3.2.2.2.2, e5.1, e5.2.1, e5.2.2.1, e5.2.2.2.1, bI e5.2.2.2.2] [(p0.flatMap enIIIIB), (p1.flatMap enIIIIB)])) (n := 3000) (f := 3000) (fid := 54) (fun _ => rfl) (V' := (vals [(p0.length : Int), (p1.length : Int)] [(p0.flatMap enIIIIB), (p1.flatMap enIIIIB)])) ⟨⟨lss_t h1, leq_t h2, lss_t h4, eql_t h6, eql_t h7, eql_t h8, eql_t h9, bi_f h10, bi_t h12, tv⟩, ⟨⟨h2, _, rfl, flat_row enIIIIB_len he3⟩, ⟨h2, _, rfl, flat_row enIIIIB_len he5⟩, tv⟩, ⟨flat_length enIIIIB_len _, flat_length enIIIIB_len _, tv⟩, tv, tv⟩ tv (T := ⟨[(4, .bool false)], [some (.rows 0 [] 214 true), some (.rows 1 [] 214 true)], [some (0, 0), some (1, 0)]⟩) (ce := .ret) (qs := [.lst 0 (some 0) [], .lst 1 (some 1) []]) rfl tv hF hr (by kernel_rfl) ⟨⟨[], rfl, lnil _⟩, ⟨[], rfl, lnil _⟩, tv⟩ (at_re (V' := (vals [(p0.length : Int), (p1.length : Int), p2, p3, p4, p5, v6, e3.1, e3.2.1, e3.2.2.1, e3.2.2.2.1, bI e3.2.2.2.2, e5.1, e5.2.1, e5.2.2.1, e5.2.2.2.1, bI e5.2.2.2.2] [(p0.flatMap enIIIIB), (p1.flatMap enIIIIB)])) (T := ⟨[(2, .ptr 2 0), (3, .ptr 3 0), (5, (ys 6))], [some (.rows 0 [] 214 true), some (.rows 1 [] 214 true), some (.cells [(ys 2), (ys 3), .gs 0 0 (.v 0) 5 false] 74 false), some (.cells [(ys 4), (ys 5), .gs 1 0 (.v 1) 5 false] 74 false)], [some (0, 0), some (1, 0), some (2, 0), some (3, 0)]⟩) (qs := [(ns 6 6), .lst 0 (some 0) [], .lst 1 (some 1) [], (ns 2 2), (ns 3 3), (ns 0 0), (ns 4 4), (ns 5 5), (ns 1 1)]) hat (by kernel_rfl) ⟨rfl, ⟨[], rfl, lnil _⟩, ⟨[], rfl, lnil _⟩, rfl, rfl, rfl, rfl, rfl, rfl, tv⟩) fun a' w' hat' => hx0 () rfl a' w' hat'
          ·rw [if_neg h12] at h
           refine to_done mixed ⟨[(.lss, (.v 6), (.v 0), true), (.leq, (.c 0), (.v 6), true), (.lss, (.v 6), (.v 1), true), (.eql, (.v 7), (.v 12), true), (.eql, (.v 8), (.v 13), true), (.eql, (.v 9), (.v 14), true), (.eql, (.v 10), (.v 15), true), (.neq, (.v 11), (.c 0), false), (.neq, (.v 16), (.c 0), false)], [(0, 0, (.v 6), [(ys 7), (ys 8), (ys 9), (ys 10), .bs (.v 11)]), (1, 0, (.v 6), [(ys 12), (ys 13), (ys 14), (ys 15), .bs (.v 16)])], [(0, 5, (.v 0)), (1, 5, (.v 1))], [], [], []⟩ (V := (vals [(p0.length : Int), (p1.length : Int), p2, p3, p4, p5, v6, e3.1, e3.2.1, e3.2.2.1, e3.2.2.2.1, bI e3.2.2.2.2, e5.1, e5.2.1, e5.2.2.1, e5.2.2.2.1, bI e5.2.2.2.2] [(p0.flatMap enIIIIB), (p1.flatMap enIIIIB)])) (n := 3000) (f := 3000) (fid := 54) (fun _ => rfl) (V' := (vals [(p0.length : Int), (p1.length : Int), p2, p3, p4, p5, (IntKind.wrap .i64 (v6 + (1 : Int)))] [(p0.flatMap enIIIIB), (p1.flatMap enIIIIB)])) ⟨⟨lss_t h1, leq_t h2, lss_t h4, eql_t h6, eql_t h7, eql_t h8, eql_t h9, bi_f h10, bi_f h12, tv⟩, ⟨⟨h2, _, rfl, flat_row enIIIIB_len he3⟩, ⟨h2, _, rfl, flat_row enIIIIB_len he5⟩, tv⟩, ⟨flat_length enIIIIB_len _, flat_length enIIIIB_len _, tv⟩, tv, tv⟩ tv (T := ⟨[(2, .ptr 2 0), (3, .ptr 3 0), (5, (ys 6))], [some (.rows 0 [] 214 true), some (.rows 1 [] 214 true), some (.cells [(ys 2), (ys 3), .gs 0 0 (.v 0) 5 false] 74 false), some (.cells [(ys 4), (ys 5), .gs 1 0 (.v 1) 5 false] 74 false)], [some (0, 0), some (1, 0), some (2, 0), some (3, 0)]⟩) (ce := .normal) (qs := [.num (.add .i64 (.v 6) (.c 1)) (.v 6), .lst 0 (some 0) [], .lst 1 (some 1) [], (ns 2 2), (ns 3 3), (ns 0 0), (ns 4 4), (ns 5 5), (ns 1 1)]) rfl tv hF hr (by kernel_rfl) ⟨(r (IntKind.wrap .i64 (v6 + (1 : Int)))), ⟨[], rfl, lnil _⟩, ⟨[], rfl, lnil _⟩, (r p2), (r p3), (r (p0.length : Int)), (r p4), (r p5), (r (p1.length : Int)), tv⟩ (at_re (V' := (vals [(p0.length : Int), (p1.length : Int), p2, p3, p4, p5, v6, e3.1, e3.2.1, e3.2.2.1, e3.2.2.2.1, bI e3.2.2.2.2, e5.1, e5.2.1, e5.2.2.1, e5.2.2.2.1, bI e5.2.2.2.2] [(p0.flatMap enIIIIB), (p1.flatMap enIIIIB)])) (T := ⟨[(2, .ptr 2 0), (3, .ptr 3 0), (5, (ys 6))], [some (.rows 0 [] 214 true), some (.rows 1 [] 214 true), some (.cells [(ys 2), (ys 3), .gs 0 0 (.v 0) 5 false] 74 false), some (.cells [(ys 4), (ys 5), .gs 1 0 (.v 1) 5 false] 74 false)], [some (0, 0), some (1, 0), some (2, 0), some (3, 0)]⟩) (qs := [(ns 6 6), .lst 0 (some 0) [], .lst 1 (some 1) [], (ns 2 2), (ns 3 3), (ns 0 0), (ns 4 4), (ns 5 5), (ns 1 1)]) hat (by kernel_rfl) ⟨rfl, ⟨[], rfl, lnil _⟩, ⟨[], rfl, lnil _⟩, rfl, rfl, rfl, rfl, rfl, rfl, tv⟩) fun a' w' hat' => ?_
           exact r4_SameScene_L1_ok fu p0 p1 p2 p3 p4 p5 n (IntKind.wrap .i64 (v6 + (1 : Int))) o h _ _ _ _ _ _ _ hF hr hat' hx0 hx1
        ·rw [if_neg h9] at h
         injection h with h; subst h
         exact to_done mixed ⟨[(.lss, (.v 6), (.v 0), true), (.leq, (.c 0), (.v 6), true), (.lss, (.v 6), (.v 1), true), (.eql, (.v 7), (.v 12), true), (.eql, (.v 8), (.v 13), true), (.eql, (.v 9), (.v 14), true), (.eql, (.v 10), (.v 15), false)], [(0, 0, (.v 6), [(ys 7), (ys 8), (ys 9), (ys 10), .bs (.v 11)]), (1, 0, (.v 6), [(ys 12), (ys 13), (ys 14), (ys 15), .bs (.v 16)])], [(0, 5, (.v 0)), (1, 5, (.v 1))], [], [], []⟩ (V := (vals [(p0.length : Int), (p1.length : Int), p2, p3, p4, p5, v6, e3.1, e3.2.1, e3.2.2.1, e3.2.2.2.1, bI e3.2.2.2.2, e5.1, e5.2.1, e5.2.2.1, e5.2.2.2.1, bI e5.2.2.2.2] [(p0.flatMap enIIIIB), (p1.flatMap enIIIIB)])) (n := 3000) (f := 3000) (fid := 54) (fun _ => rfl) (V' := (vals [(p0.length : Int), (p1.length : Int)] [(p0.flatMap enIIIIB), (p1.flatMap enIIIIB)])) ⟨⟨lss_t h1, leq_t h2, lss_t h4, eql_t h6, eql_t h7, eql_t h8, eql_f h9, tv⟩, ⟨⟨h2, _, rfl, flat_row enIIIIB_len he3⟩, ⟨h2, _, rfl, flat_row enIIIIB_len he5⟩, tv⟩, ⟨flat_length enIIIIB_len _, flat_length enIIIIB_len _, tv⟩, tv, tv⟩ tv (T := ⟨[(4, .bool false)], [some (.rows 0 [] 214 true), some (.rows 1 [] 214 true)], [some (0, 0), some (1, 0)]⟩) (ce := .ret) (qs := [.lst 0 (some 0) [], .lst 1 (some 1) []]) rfl tv hF hr (by kernel_rfl) ⟨⟨[], rfl, lnil _⟩, ⟨[], rfl, lnil _⟩, tv⟩ (at_re (V' := (vals [(p0.length : Int), (p1.length : Int), p2, p3, p4, p5, v6, e3.1, e3.2.1, e3.2.2.1, e3.2.2.2.1, bI e3.2.2.2.2, e5.1, e5.2.1, e5.2.2.1, e5.2.2.2.1, bI e5.2.2.2.2] [(p0.flatMap enIIIIB), (p1.flatMap enIIIIB)])) (T := ⟨[(2, .ptr 2 0), (3, .ptr 3 0), (5, (ys 6))], [some (.rows 0 [] 214 true), some (.rows 1 [] 214 true), some (.cells [(ys 2), (ys 3), .gs 0 0 (.v 0) 5 false] 74 false), some (.cells [(ys 4), (ys 5), .gs 1 0 (.v 1) 5 false] 74 false)], [some (0, 0), some (1, 0), some (2, 0), some (3, 0)]⟩) (qs := [(ns 6 6), .lst 0 (some 0) [], .lst 1 (some 1) [], (ns 2 2), (ns 3 3), (ns 0 0), (ns 4 4), (ns 5 5), (ns 1 1)]) hat (by kernel_rfl) ⟨rfl, ⟨[], rfl, lnil _⟩, ⟨[], rfl, lnil _⟩, rfl, rfl, rfl, rfl, rfl, rfl, tv⟩) fun a' w' hat' => hx0 () rfl a' w' hat'
       ·rw [if_neg h8] at h
        injection h with h; subst h
        exact to_done mixed ⟨[(.lss, (.v 6), (.v 0), true), (.leq, (.c 0), (.v 6), true), (.lss, (.v 6), (.v 1), true), (.eql, (.v 7), (.v 12), true), (.eql, (.v 8), (.v 13), true), (.eql, (.v 9), (.v 14), false)], [(0, 0, (.v 6), [(ys 7), (ys 8), (ys 9), (ys 10), .bs (.v 11)]), (1, 0, (.v 6), [(ys 12), (ys 13), (ys 14), (ys 15), .bs (.v 16)])], [(0, 5, (.v 0)), (1, 5, (.v 1))], [], [], []⟩ (V := (vals [(p0.length : Int), (p1.length : Int), p2, p3, p4, p5, v6, e3.1, e3.2.1, e3.2.2.1, e3.2.2.2.1, bI e3.2.2.2.2, e5.1, e5.2.1, e5.2.2.1, e5.2.2.2.1, bI e5.2.2.2.2] [(p0.flatMap enIIIIB), (p1.flatMap enIIIIB)])) (n := 3000) (f := 3000) (fid := 54) (fun _ => rfl) (V' := (vals [(p0.length : Int), (p1.length : Int)] [(p0.flatMap enIIIIB), (p1.flatMap enIIIIB)])) ⟨⟨lss_t h1, leq_t h2, lss_t h4, eql_t h6, eql_t h7, eql_f h8, tv⟩, ⟨⟨h2, _, rfl, flat_row enIIIIB_len he3⟩, ⟨h2, _, rfl, flat_row enIIIIB_len he5⟩, tv⟩, ⟨flat_length enIIIIB_len _, flat_length enIIIIB_len _, tv⟩, tv, tv⟩ tv (T := ⟨[(4, .bool false)], [some (.rows 0 [] 214 true), some (.rows 1 [] 214 true)], [some (0, 0), some (1, 0)]⟩) (ce := .ret) (qs := [.lst 0 (some 0) [], .lst 1 (some 1) []]) rfl tv hF hr (by kernel_rfl) ⟨⟨[], rfl, lnil _⟩, ⟨[], rfl, lnil _⟩, tv⟩ (at_re (V' := (vals [(p0.length : Int), (p1.length : Int), p2, p3, p4, p5, v6, e3.1, e3.2.1, e3.2.2.1, e3.2.2.2.1, bI e3.2.2.2.2, e5.1, e5.2.1, e5.2.2.1, e5.2.2.2.1, bI e5.2.2.2.2] [(p0.flatMap enIIIIB), (p1.flatMap enIIIIB)])) (T := ⟨[(2, .ptr 2 0), (3, .ptr 3 0), (5, (ys 6))], [some (.rows 0 [] 214 true), some (.rows 1 [] 214 true), some (.cells [(ys 2), (ys 3), .gs 0 0 (.v 0) 5 false] 74 false), some (.cells [(ys 4), (ys 5), .gs 1 0 (.v 1) 5 false] 74 false)], [some (0, 0), some (1, 0), some (2, 0), some (3, 0)]⟩) (qs := [(ns 6 6), .lst 0 (some 0) [], .lst 1 (some 1) [], (ns 2 2), (ns 3 3), (ns 0 0), (ns 4 4), (ns 5 5), (ns 1 1)]) hat (by kernel_rfl) ⟨rfl, ⟨[], rfl, lnil _⟩, ⟨[], rfl, lnil _⟩, rfl, rfl, rfl, rfl, rfl, rfl, tv⟩) fun a' w' hat' => hx0 () rfl a' w' hat'
      ·rw [if_neg h7] at h
       injection h with h; subst h
       exact to_done mixed ⟨[(.lss, (.v 6), (.v 0), true), (.leq, (.c 0), (.v 6), true), (.lss, (.v 6), (.v 1), true), (.eql, (.v 7), (.v 12), true), (.eql, (.v 8), (.v 13), false)], [(0, 0, (.v 6), [(ys 7), (ys 8), (ys 9), (ys 10), .bs (.v 11)]), (1, 0, (.v 6), [(ys 12), (ys 13), (ys 14), (ys 15), .bs (.v 16)])], [(0, 5, (.v 0)), (1, 5, (.v 1))], [], [], []⟩ (V := (vals [(p0.length : Int), (p1.length : Int), p2, p3, p4, p5, v6, e3.1, e3.2.1, e3.2.2.1, e3.2.2.2.1, bI e3.2.2.2.2, e5.1, e5.2.1, e5.2.2.1, e5.2.2.2.1, bI e5.2.2.2.2] [(p0.flatMap enIIIIB), (p1.flatMap enIIIIB)])) (n := 3000) (f := 3000) (fid := 54) (fun _ => rfl) (V' := (vals [(p0.length : Int), (p1.length : Int)] [(p0.flatMap enIIIIB), (p1.flatMap enIIIIB)])) ⟨⟨lss_t h1, leq_t h2, lss_t h4, eql_t h6, eql_f h7, tv⟩, ⟨⟨h2, _, rfl, flat_row enIIIIB_len he3⟩, ⟨h2, _, rfl, flat_row enIIIIB_len he5⟩, tv⟩, ⟨flat_length enIIIIB_len _, flat_length enIIIIB_len _, tv⟩, tv, tv⟩ tv (T := ⟨[(4, .bool false)], [some (.rows 0 [] 214 true), some (.rows 1 [] 214 true)], [some (0, 0), some (1, 0)]⟩) (ce := .ret) (qs := [.lst 0 (some 0) [], .lst 1 (some 1) []]) rfl tv hF hr (by kernel_rfl) ⟨⟨[], rfl, lnil _⟩, ⟨[], rfl, lnil _⟩, tv⟩ (at_re (V' := (vals [(p0.length : Int), (p1.length : Int), p2, p3, p4, p5, v6, e3.1, e3.2.1, e3.2.2.1, e3.2.2.2.1, bI e3.2.2.2.2, e5.1, e5.2.1, e5.2.2.1, e5.2.2.2.1, bI e5.2.2.2.2] [(p0.flatMap enIIIIB), (p1.flatMap enIIIIB)])) (T := ⟨[(2, .ptr 2 0), (3, .ptr 3 0), (5, (ys 6))], [some (.rows 0 [] 214 true), some (.rows 1 [] 214 true), some (.cells [(ys 2), (ys 3), .gs 0 0 (.v 0) 5 false] 74 false), some (.cells [(ys 4), (ys 5), .gs 1 0 (.v 1) 5 false] 74 false)], [some (0, 0), some (1, 0), some (2, 0), some (3, 0)]⟩) (qs := [(ns 6 6), .lst 0 (some 0) [], .lst 1 (some 1) [], (ns 2 2), (ns 3 3), (ns 0 0), (ns 4 4), (ns 5 5), (ns 1 1)]) hat (by kernel_rfl) ⟨rfl, ⟨[], rfl, lnil _⟩, ⟨[], rfl, lnil _⟩, rfl, rfl, rfl, rfl, rfl, rfl, tv⟩) fun a' w' hat' => hx0 () rfl a' w' hat'
     ·rw [if_neg h6] at h
      injection h with h; subst h
      exact to_done mixed ⟨[(.lss, (.v 6), (.v 0), true), (.leq, (.c 0), (.v 6), true), (.lss, (.v 6), (.v 1), true), (.eql, (.v 7), (.v 12), false)], [(0, 0, (.v 6), [(ys 7), (ys 8), (ys 9), (ys 10), .bs (.v 11)]), (1, 0, (.v 6), [(ys 12), (ys 13), (ys 14), (ys 15), .bs (.v 16)])], [(0, 5, (.v 0)), (1, 5, (.v 1))], [], [], []⟩ (V := (vals [(p0.length : Int), (p1.length : Int), p2, p3, p4, p5, v6, e3.1, e3.2.1, e3.2.2.1, e3.2.2.2.1, bI e3.2.2.2.2, e5.1, e5.2.1, e5.2.2.1, e5.2.2.2.1, bI e5.2.2.2.2] [(p0.flatMap enIIIIB), (p1.flatMap enIIIIB)])) (n := 3000) (f := 3000) (fid := 54) (fun _ => rfl) (V' := (vals [(p0.length : Int), (p1.length : Int)] [(p0.flatMap enIIIIB), (p1.flatMap enIIIIB)])) ⟨⟨lss_t h1, leq_t h2, lss_t h4, eql_f h6, tv⟩, ⟨⟨h2, _, rfl, flat_row enIIIIB_len he3⟩, ⟨h2, _, rfl, flat_row enIIIIB_len he5⟩, tv⟩, ⟨flat_length enIIIIB_len _, flat_length enIIIIB_len _, tv⟩, tv, tv⟩ tv (T := ⟨[(4, .bool false)], [some (.rows 0 [] 214 true), some (.rows 1 [] 214 true)], [some (0, 0), some (1, 0)]⟩) (ce := .ret) (qs := [.lst 0 (some 0) [], .lst 1 (some 1) []]) rfl tv hF hr (by kernel_rfl) ⟨⟨[], rfl, lnil _⟩, ⟨[], rfl, lnil _⟩, tv⟩ (at_re (V' := (vals [(p0.length : Int), (p1.length : Int), p2, p3, p4, p5, v6, e3.1, e3.2.1, e3.2.2.1, e3.2.2.2.1, bI e3.2.2.2.2, e5.1, e5.2.1, e5.2.2.1, e5.2.2.2.1, bI e5.2.2.2.2] [(p0.flatMap enIIIIB), (p1.flatMap enIIIIB)])) (T := ⟨[(2, .ptr 2 0), (3, .ptr 3 0), (5, (ys 6))], [some (.rows 0 [] 214 true), some (.rows 1 [] 214 true), some (.cells [(ys 2), (ys 3), .gs 0 0 (.v 0) 5 false] 74 false), some (.cells [(ys 4), (ys 5), .gs 1 0 (.v 1) 5 false] 74 false)], [some (0, 0), some (1, 0), some (2, 0), some (3, 0)]⟩) (qs := [(ns 6 6), .lst 0 (some 0) [], .lst 1 (some 1) [], (ns 2 2), (ns 3 3), (ns 0 0), (ns 4 4), (ns 5 5), (ns 1 1)]) hat (by kernel_rfl) ⟨rfl, ⟨[], rfl, lnil _⟩, ⟨[], rfl, lnil _⟩, rfl, rfl, rfl, rfl, rfl, rfl, tv⟩) fun a' w' hat' => hx0 () rfl a' w' hat'
    ·rw [if_neg h4] at h
     cases h
   ·rw [if_neg h2] at h
    cases h
  ·rw [if_neg h1] at h
   injection h with h; subst h
   exact to_done mixed ⟨[(.lss, (.v 6), (.v 0), false)], [], [(0, 5, (.v 0)), (1, 5, (.v 1))], [], [], []⟩ (V := (vals [(p0.length : Int), (p1.length : Int), p2, p3, p4, p5, v6] [(p0.flatMap enIIIIB), (p1.flatMap enIIIIB)])) (n := 3000) (f := 3000) (fid := 54) (fun _ => rfl) (V' := (vals [(p0.length : Int), (p1.length : Int)] [(p0.flatMap enIIIIB), (p1.flatMap enIIIIB)])) ⟨⟨lss_f h1, tv⟩, tv, ⟨flat_length enIIIIB_len _, flat_length enIIIIB_len _, tv⟩, tv, tv⟩ tv (T := ⟨[], [some (.rows 0 [] 214 true), some (.rows 1 [] 214 true)], [some (0, 0), some (1, 0)]⟩) (ce := (.exit 0)) (qs := [.lst 0 (some 0) [], .lst 1 (some 1) []]) rfl tv hF hr (by kernel_rfl) ⟨⟨[], rfl, lnil _⟩, ⟨[], rfl, lnil _⟩, tv⟩ hat fun a' w' hat' => hx1 () rfl a' w' hat'
def r4_SameScene (fu : Nat) (a0_0 : Int) (a0_1 : Int) (a0_2 : List (Int × Int × Int × Int × Bool)) (a1_0 : Int) (a1_1 : Int) (a1_2 : List (Int × Int × Int × Int × Bool)) : Option (Bool) := if a0_0 = a1_0 then (if a0_1 = a1_1 then (if (a0_2.length : Int) = (a1_2.length : Int) then (Option.bind (r4_SameScene_L1 fu a0_2 a1_2 a0_0 a0_1 a1_0 a1_1 fu (0 : Int)) fun o4 => (match o4 with | .inl y5 => (some false) | .inr y6 => (some true))) else (some false)) else (some false)) else (some false)
theorem r4_SameScene_ok (fu : Nat) (a0_0 : Int) (a0_1 : Int) (a0_2 : List (Int × Int × Int × Int × Bool)) (a1_0 : Int) (a1_1 : Int) (a1_2 : List (Int × Int × Int × Int × Bool)) (y : Bool) (h : r4_SameScene fu a0_0 a0_1 a0_2 a1_0 a1_1 a1_2 = some y) : CallOk Tryz.prog 54 (vals [a0_0, a0_1, (a0_2.length : Int), a1_0, a1_1, (a1_2.length : Int)] [(a0_2.flatMap enIIIIB), (a1_2.flatMap enIIIIB)]) [.agg [(ys 0), (ys 1), .gs 0 0 (.v 2) 5 false], .agg [(ys 3), (ys 4), .gs 1 0 (.v 5) 5 false]] [some (.rows 0 [] 214 true), some (.rows 1 [] 214 true)] 2 (vals [bI y] []) (.bs (.v 0)) [none, none] := by
 refine fun_of (nt := 45) (by kernel_rfl) (by kernel_rfl) fun φ0 w0 a w hat => ?_
 have hF := wide_fw
 have hr : Fence.wide.round = none := rfl
 unfold r4_SameScene at h
 by_cases h1 : a0_0 = a1_0
 ·rw [if_pos h1] at h
  by_cases h2 : a0_1 = a1_1
  ·rw [if_pos h2] at h
   by_cases h3 : (a0_2.length : Int) = (a1_2.length : Int)
   ·rw [if_pos h3] at h
    obtain ⟨o4, ho4, h⟩ := bs1 h
    refine to_loop mixed ⟨[(.neq, (.v 0), (.v 3), false), (.neq, (.v 1), (.v 4), false), (.neq, (.v 2), (.v 5), false)], [], [(0, 5, (.v 2)), (1, 5, (.v 5))], [], [], []⟩ (V := (vals [a0_0, a0_1, (a0_2.length : Int), a1_0, a1_1, (a1_2.length : Int)] [(a0_2.flatMap enIIIIB), (a1_2.flatMap enIIIIB)])) (n := 3000) (f := 3000) (fid := 54) (fun _ => rfl) (V' := (vals [(a0_2.length : Int), (a1_2.length : Int), a0_0, a0_1, a1_0, a1_1, (0 : Int)] [(a0_2.flatMap enIIIIB), (a1_2.flatMap enIIIIB)])) ⟨⟨neq_f h1, neq_f h2, neq_f h3, tv⟩, tv, ⟨flat_length enIIIIB_len _, flat_length enIIIIB_len _, tv⟩, tv, tv⟩ tv (T := ⟨[(2, .ptr 2 0), (3, .ptr 3 0), (5, (ys 6))], [some (.rows 0 [] 214 true), some (.rows 1 [] 214 true), some (.cells [(ys 2), (ys 3), .gs 0 0 (.v 0) 5 false] 74 false), some (.cells [(ys 4), (ys 5), .gs 1 0 (.v 1) 5 false] 74 false)], [some (0, 0), some (1, 0), some (2, 0), some (3, 0)]⟩) (B := subAt (bodyOf Tryz.prog 54) [1, 1, 0, 1, 0, 0]) (K' := [.bk 0, .sq (subAt (bodyOf Tryz.prog 54) [1, 1, 1]) [1, 1, 1]]) (qs := [.num (.c 0) (.v 6), .lst 0 (some 0) [], .lst 1 (some 1) [], (ns 0 2), (ns 1 3), (ns 2 0), (ns 3 4), (ns 4 5), (ns 5 1)]) wok0 tv hF hr (by kernel_rfl) ⟨(r (0 : Int)), ⟨[], rfl, lnil _⟩, ⟨[], rfl, lnil _⟩, (r a0_0), (r a0_1), (r (a0_2.length : Int)), (r a1_0), (r a1_1), (r (a1_2.length : Int)), tv⟩ hat fun aa1 ww1 hat1 => loop_in (r4_SameScene_L1_ok fu a0_2 a1_2 a0_0 a0_1 a1_0 a1_1 fu (0 : Int) o4 ho4 _ _ _ _ _ _ _ hF hr hat1 ?_ ?_)
    ·intro y5 hy aa2 ww2 hat
     subst hy
     dsimp only at h
     show (Wk.out .ret).goal _ _ _ [.bk 0, .sq (subAt (bodyOf Tryz.prog 54) [1, 1, 1]) [1, 1, 1]] _ aa2 ww2
     injection h with h; subst h
     exact to_fin mixed ⟨[], [], [(0, 5, (.v 0)), (1, 5, (.v 1))], [], [], []⟩ (V := (vals [(a0_2.length : Int), (a1_2.length : Int)] [(a0_2.flatMap enIIIIB), (a1_2.flatMap enIIIIB)])) (n := 3000) (f := 3000) (fid := 54) (fun _ => rfl) ⟨tv, tv, ⟨flat_length enIIIIB_len _, flat_length enIIIIB_len _, tv⟩, tv, tv⟩ tv (R := ⟨.bs (.v 0), [none, none], [some (0, 0), some (1, 0)]⟩) (qs := [.num (.c 0) (.v 0)]) tv ⟨rfl, tv⟩ hF hr (by kernel_rfl) ⟨rfl, tv⟩ hat
    ·intro y6 hy aa2 ww2 hat
     subst hy
     dsimp only at h
     show (Wk.out (.exit 0)).goal _ _ _ [.bk 0, .sq (subAt (bodyOf Tryz.prog 54) [1, 1, 1]) [1, 1, 1]] _ aa2 ww2
     injection h with h; subst h
     exact to_fin mixed ⟨[], [], [(0, 5, (.v 0)), (1, 5, (.v 1))], [], [], []⟩ (V := (vals [(a0_2.length : Int), (a1_2.length : Int)] [(a0_2.flatMap enIIIIB), (a1_2.flatMap enIIIIB)])) (n := 3000) (f := 3000) (fid := 54) (fun _ => rfl) ⟨tv, tv, ⟨flat_length enIIIIB_len _, flat_length enIIIIB_len _, tv⟩, tv, tv⟩ tv (R := ⟨.bs (.v 0), [none, none], [some (0, 0), some (1, 0)]⟩) (qs := [.num (.c 1) (.v 0)]) tv ⟨rfl, tv⟩ hF hr (by kernel_rfl) ⟨rfl, tv⟩ hat
   ·rw [if_neg h3] at h
    injection h with h; subst h
    exact to_fin mixed ⟨[(.neq, (.v 0), (.v 3), false), (.neq, (.v 1), (.v 4), false), (.neq, (.v 2), (.v 5), true)], [], [(0, 5, (.v 2)), (1, 5, (.v 5))], [], [], []⟩ (V := (vals [a0_0, a0_1, (a0_2.length : Int), a1_0, a1_1, (a1_2.length : Int)] [(a0_2.flatMap enIIIIB), (a1_2.flatMap enIIIIB)])) (n := 3000) (f := 3000) (fid := 54) (fun _ => rfl) ⟨⟨neq_f h1, neq_f h2, neq_t h3, tv⟩, tv, ⟨flat_length enIIIIB_len _, flat_length enIIIIB_len _, tv⟩, tv, tv⟩ tv (R := ⟨.bs (.v 0), [none, none], [some (0, 0), some (1, 0)]⟩) (qs := [.num (.c 0) (.v 0)]) wok0 tv hF hr (by kernel_rfl) ⟨rfl, tv⟩ hat
  ·rw [if_neg h2] at h
   injection h with h; subst h
   exact to_fin mixed ⟨[(.neq, (.v 0), (.v 3), false), (.neq, (.v 1), (.v 4), true)], [], [(0, 5, (.v 2)), (1, 5, (.v 5))], [], [], []⟩ (V := (vals [a0_0, a0_1, (a0_2.length : Int), a1_0, a1_1, (a1_2.length : Int)] [(a0_2.flatMap enIIIIB), (a1_2.flatMap enIIIIB)])) (n := 3000) (f := 3000) (fid := 54) (fun _ => rfl) ⟨⟨neq_f h1, neq_t h2, tv⟩, tv, ⟨flat_length enIIIIB_len _, flat_length enIIIIB_len _, tv⟩, tv, tv⟩ tv (R := ⟨.bs (.v 0), [none, none], [some (0, 0), some (1, 0)]⟩) (qs := [.num (.c 0) (.v 0)]) wok0 tv hF hr (by kernel_rfl) ⟨rfl, tv⟩ hat
 ·rw [if_neg h1] at h
  injection h with h; subst h
  exact to_fin mixed ⟨[(.neq, (.v 0), (.v 3), true)], [], [(0, 5, (.v 2)), (1, 5, (.v 5))], [], [], []⟩ (V := (vals [a0_0, a0_1, (a0_2.length : Int), a1_0, a1_1, (a1_2.length : Int)] [(a0_2.flatMap enIIIIB), (a1_2.flatMap enIIIIB)])) (n := 3000) (f := 3000) (fid := 54) (fun _ => rfl) ⟨⟨neq_t h1, tv⟩, tv, ⟨flat_length enIIIIB_len _, flat_length enIIIIB_len _, tv⟩, tv, tv⟩ tv (R := ⟨.bs (.v 0), [none, none], [some (0, 0), some (1, 0)]⟩) (qs := [.num (.c 0) (.v 0)]) wok0 tv hF hr (by kernel_rfl) ⟨rfl, tv⟩ hat
def r4_CopyDevices (a0 : List (Int × Int × Int)) : Option (List (Int × Int × Int)) := if (a0.length : Int) < (65536 : Int) then (some a0) else none
theorem r4_CopyDevices_ok (a0 : List (Int × Int × Int)) (y : List (Int × Int × Int)) (h : r4_CopyDevices a0 = some y) : CallOk Tryz.prog 44 (vals [(a0.length : Int)] [(a0.flatMap enIII)]) [.gs 0 0 (.v 0) 3 false] [some (.rows 0 [] 209 true)] 1 (vals [(y.length : Int)] [(y.flatMap enIII)]) (.gs 1 0 (.v 0) 3 true) [none, some (.rows 0 [] 209 false)] := by
 refine fun_of (nt := 6) (by kernel_rfl) (by kernel_rfl) fun φ0 w0 a w hat => ?_
 have hF := wide_fw
 have hr : Fence.wide.round = none := rfl
 unfold r4_CopyDevices at h
 by_cases h1 : (a0.length : Int) < (65536 : Int)
 ·rw [if_pos h1] at h
  injection h with h; subst h
  exact to_fin mixed ⟨[(.lss, (.v 0), (.c 65536), true)], [], [(0, 3, (.v 0))], [], [], []⟩ (V := (vals [(a0.length : Int)] [(a0.flatMap enIII)])) (n := 3000) (f := 3000) (fid := 44) (fun _ => rfl) ⟨⟨lss_t h1, tv⟩, tv, ⟨flat_length enIII_len _, tv⟩, tv, tv⟩ tv (R := ⟨.gs 1 0 (.v 0) 3 true, [none, some (.rows 0 [] 209 false)], [some (0, 0), some (1, 0)]⟩) (qs := [(ns 0 0), .lst 0 (some 0) []]) wok0 tv hF hr (by kernel_rfl) ⟨(r (a0.length : Int)), ⟨[], rfl, lnil _⟩, tv⟩ hat
 ·rw [if_neg h1] at h
  cases h
def r4_CopyScene (a0_0 : Int) (a0_1 : Int) (a0_2 : List (Int × Int × Int × Int × Bool)) : Option (Int × Int × List (Int × Int × Int × Int × Bool)) := if (a0_2.length : Int) < (65536 : Int) then (some (a0_0, a0_1, a0_2)) else none
theorem r4_CopyScene_ok (a0_0 : Int) (a0_1 : Int) (a0_2 : List (Int × Int × Int × Int × Bool)) (y : Int × Int × List (Int × Int × Int × Int × Bool)) (h : r4_CopyScene a0_0 a0_1 a0_2 = some y) : CallOk Tryz.prog 46 (vals [a0_0, a0_1, (a0_2.length : Int)] [(a0_2.flatMap enIIIIB)]) [.agg [(ys 0), (ys 1), .gs 0 0 (.v 2) 5 false]] [some (.rows 0 [] 214 true)] 1 (vals [y.1, y.2.1, (y.2.2.length : Int)] [(y.2.2.flatMap enIIIIB)]) (.agg [(ys 0), (ys 1), .gs 1 0 (.v 2) 5 true]) [none, some (.rows 0 [] 214 false)] := by
 refine fun_of (nt := 12) (by kernel_rfl) (by kernel_rfl) fun φ0 w0 a w hat => ?_
 have hF := wide_fw
 have hr : Fence.wide.round = none := rfl
 unfold r4_CopyScene at h
 by_cases h1 : (a0_2.length : Int) < (65536 : Int)
 ·rw [if_pos h1] at h
  injection h with h; subst h
  exact to_fin mixed ⟨[(.lss, (.v 2), (.c 65536), true)], [], [(0, 5, (.v 2))], [], [], []⟩ (V := (vals [a0_0, a0_1, (a0_2.length : Int)] [(a0_2.flatMap enIIIIB)])) (n := 3000) (f := 3000) (fid := 46) (fun _ => rfl) ⟨⟨lss_t h1, tv⟩, tv, ⟨flat_length enIIIIB_len _, tv⟩, tv, tv⟩ tv (R := ⟨.agg [(ys 0), (ys 1), .gs 1 0 (.v 2) 5 true], [none, some (.rows 0 [] 214 false)], [some (0, 0), some (3, 0)]⟩) (qs := [(ns 0 0), (ns 1 1), (ns 2 2), .lst 0 (some 0) []]) wok0 tv hF hr (by kernel_rfl) ⟨(r a0_0), (r a0_1), (r (a0_2.length : Int)), ⟨[], rfl, lnil _⟩, tv⟩ hat
 ·rw [if_neg h1] at h
  cases h
end Go.Proofs.YtlfmdkmjfokgbaaGreatDoor
