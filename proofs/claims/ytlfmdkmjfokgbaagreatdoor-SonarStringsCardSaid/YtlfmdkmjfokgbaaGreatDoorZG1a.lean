/-
  Go functions as Lean functions (written by tools/lift.py).
-/
import Derived.Test.YtlfmdkmjfokgbaaGreatDoorZEd
import Derived.Test.YtlfmdkmjfokgbaaGreatDoorZEg
import Derived.Test.YtlfmdkmjfokgbaaGreatDoorZZx
set_option linter.all false
namespace Go.Proofs.YtlfmdkmjfokgbaaGreatDoor
open Go Go.RowKit Cm
set_option maxRecDepth 100000
set_option maxHeartbeats 4000000
def u_Joined_int_Itoa_L1 (fu : Nat) (p0 : List (Int)) (p1 : Int) (p3 : Int) : Nat → List (Int) → Int → Option ((List (Int)))
 | 0, _, _ => none
 | n + 1, v2, v4 => if v4 < p3 then (if (0 : Int) ≤ v4 then (if v4 < (p0.length : Int) then (Option.bind ((p0)[0 + (v4).toNat]?) fun e4 => Option.bind (strconv_Itoa e4) fun r5 => if v4 < (v2.length : Int) then (Option.bind ((v2)[0 + (v4).toNat]?) fun e7 => u_Joined_int_Itoa_L1 fu p0 p1 p3 n (v2.set (0 + (v4).toNat) r5) (IntKind.wrap .i64 (v4 + (1 : Int)))) else none) else none) else none) else (some v2)
theorem u_Joined_int_Itoa_L1_ok (fu : Nat) (p0 : List (Int)) (p1 : Int) (p3 : Int) : ∀ (n : Nat) (v2 : List (Int)) (v4 : Int) (o : (List (Int))), u_Joined_int_Itoa_L1 fu p0 p1 p3 n v2 v4 = some o → ∀ (φ0 : Phi) (w0 : World) (F : Fence) (k : Nat) (R : Exit → Act → World → Prop) (a : Act) (w : World), FW F → F.round = none → AtS (vals [(p0.length : Int), p1, (v2.length : Int), p3, v4] [(p0.flatMap enI), (v2.flatMap enS)]) [(1, .ss (.v 1)), (2, .fn 191 [] []), (7, .gs 2 0 (.v 2) 1 true), (13, .gs 1 0 (.v 0) 1 false), (14, (ys 3)), (15, (ys 4))] [some (.glob 1 .u64 pw), some (.rows 0 [] 3 true), some (.rows 1 [] 9 false)] 30 2 2 φ0 w0 a w → (∀ (y : List (Int)), o = y → ∀ a' w', AtS (vals [(p0.length : Int), p1, (y.length : Int)] [(p0.flatMap enI), (y.flatMap enS)]) [(1, .ss (.v 1)), (7, .gs 2 0 (.v 2) 1 true)] [some (.glob 1 .u64 pw), some (.rows 0 [] 3 true), some (.rows 1 [] 9 false)] 30 2 2 φ0 w0 a' w' → R (Exit.exit 0) a' w') → Code.roundsIn F k Tryz.prog (subAt (bodyOf Tryz.prog 190) [1, 1, 0, 1, 0, 0]) R n a w
 | 0, _, _, _, h => by cases h
 | n + 1, v2, v4, o, h => by
  intro φ0 w0 F k R a w hF hr hat hx0
  rw [u_Joined_int_Itoa_L1] at h
  refine rounds_in (p := [1, 1, 0, 1, 0, 0]) ?_
  by_cases h1 : v4 < p3
  ·rw [if_pos h1] at h
   by_cases h2 : (0 : Int) ≤ v4
   ·rw [if_pos h2] at h
    by_cases h3 : v4 < (p0.length : Int)
    ·rw [if_pos h3] at h
     obtain ⟨e4, he4, h⟩ := bs1 h
     obtain ⟨r5, hr5, h⟩ := bs1 h
     have Kr5 : KO Tryz.prog [(p0.length : Int), p1, (v2.length : Int), p3, v4, e4, r5] [(p0.flatMap enI), (v2.flatMap enS)] ⟨191, 3, [some (0, 0)], [(ys 0)], [some (.glob 1 .u64 pw)], [(ns 5 0)], 1, .ss (.v 0), [none], .ss (.v 6), [], []⟩ := fun N M => ⟨_, _, [(ns 0 6)], ⟨strconv_Itoa_ok e4 r5 hr5, ⟨(r e4), tv⟩, by kernel_rfl, ⟨rfl, tv⟩⟩⟩
     by_cases h6 : v4 < (v2.length : Int)
     ·rw [if_pos h6] at h
      obtain ⟨e7, he7, h⟩ := bs1 h
      refine to_done mixed ⟨[(.lss, (.v 4), (.v 3), true), (.leq, (.c 0), (.v 4), true), (.lss, (.v 4), (.v 0), true), (.lss, (.v 4), (.v 2), true)], [(0, 0, (.v 4), [(ys 5)])], [(0, 1, (.v 0)), (1, 1, (.v 2)), (2, 1, (.v 2))], [⟨191, 3, [some (0, 0)], [(ys 0)], [some (.glob 1 .u64 pw)], [(ns 5 0)], 1, .ss (.v 0), [none], .ss (.v 6), [], []⟩], [⟨1, 0, (.v 4), 1, 0, [.ss (.v 6)], 2⟩], []⟩ (V := (vals [(p0.length : Int), p1, (v2.length : Int), p3, v4, e4, r5] [(p0.flatMap enI), (v2.flatMap enS), ((v2.set (0 + (v4).toNat) r5).flatMap enS)])) (n := 3000) (f := 3000) (fid := 190) (fun _ => rfl) (V' := (vals [(p0.length : Int), p1, ((v2.set (0 + (v4).toNat) r5).length : Int), p3, (IntKind.wrap .i64 (v4 + (1 : Int)))] [(p0.flatMap enI), ((v2.set (0 + (v4).toNat) r5).flatMap enS)])) ⟨⟨lss_t h1, leq_t h2, lss_t h3, lss_t h6, tv⟩, ⟨⟨h2, _, rfl, flat_row enI_len he4⟩, tv⟩, ⟨flat_length enI_len _, flat_length enS_len _, flat_set_len enS_len (0 + (v4).toNat) r5 (flat_length enS_len _), tv⟩, ⟨⟨h2, _, rfl, flat_upd enS_len (d := 0) (n := 1) rfl (by decide) rfl he7⟩, tv⟩, tv⟩ ⟨Kr5 _ _, tv⟩ (T := ⟨[(1, .ss (.v 1)), (2, .fn 191 [] []), (7, .gs 2 0 (.v 2) 1 true), (13, .gs 1 0 (.v 0) 1 false), (14, (ys 3)), (15, (ys 4))], [some (.glob 1 .u64 pw), some (.rows 0 [] 3 true), some (.rows 1 [] 9 false)], [some (0, 0), some (1, 0), some (2, 0)]⟩) (ce := .normal) (qs := [(ns 1 1), (ns 2 2), (ns 0 0), (ns 3 3), .num (.add .i64 (.v 4) (.c 1)) (.v 4), .lst 0 (some 0) [], .lst 1 (some 2) []]) rfl tv hF hr (by kernel_rfl) ⟨(r p1), (show (v2.length : Int) = ((v2.set (0 + (v4).toNat) r5).length : Int) by first | rfl | (simp only [List.length_set]; done) | (simp only [List.length_set, List.length_replicate, List.length_append, List.length_cons, List.length_nil]; omega)), (r (p0.length : Int)), (r p3), (r (IntKind.wrap .i64 (v4 + (1 : Int)))), ⟨[], rfl, lnil _⟩, ⟨[], rfl, lnil _⟩, tv⟩ (at_re (V' := (vals [(p0.length : Int), p1, (v2.length : Int), p3, v4, e4, r5] [(p0.flatMap enI), (v2.flatMap enS), ((v2.set (0 + (v4).toNat) r5).flatMap enS)])) (T := ⟨[(1, .ss (.v 1)), (2, .fn 191 [] []), (7, .gs 2 0 (.v 2) 1 true), (13, .gs 1 0 (.v 0) 1 false), (14, (ys 3)), (15, (ys 4))], [some (.glob 1 .u64 pw), some (.rows 0 [] 3 true), some (.rows 1 [] 9 false)], [some (0, 0), some (1, 0), some (2, 0)]⟩) (qs := [(ns 1 1), (ns 2 2), (ns 0 0), (ns 3 3), (ns 4 4), .lst 0 (some 0) [], .lst 1 (some 1) []]) hat (by kernel_rfl) ⟨rfl, rfl, rfl, rfl, rfl, ⟨[], rfl, lnil _⟩, ⟨[], rfl, lnil _⟩, tv⟩) fun a' w' hat' => ?_
      exact u_Joined_int_Itoa_L1_ok fu p0 p1 p3 n (v2.set (0 + (v4).toNat) r5) (IntKind.wrap .i64 (v4 + (1 : Int))) o h _ _ _ _ _ _ _ hF hr hat' hx0
     ·rw [if_neg h6] at h
      cases h
    ·rw [if_neg h3] at h
     cases h
   ·rw [if_neg h2] at h
    cases h
  ·rw [if_neg h1] at h
   injection h with h; subst h
   exact to_done mixed ⟨[(.lss, (.v 4), (.v 3), false)], [], [(0, 1, (.v 0)), (1, 1, (.v 2))], [], [], []⟩ (V := (vals [(p0.length : Int), p1, (v2.length : Int), p3, v4] [(p0.flatMap enI), (v2.flatMap enS)])) (n := 3000) (f := 3000) (fid := 190) (fun _ => rfl) (V' := (vals [(p0.length : Int), p1, (v2.length : Int)] [(p0.flatMap enI), (v2.flatMap enS)])) ⟨⟨lss_f h1, tv⟩, tv, ⟨flat_length enI_len _, flat_length enS_len _, tv⟩, tv, tv⟩ tv (T := ⟨[(1, .ss (.v 1)), (7, .gs 2 0 (.v 2) 1 true)], [some (.glob 1 .u64 pw), some (.rows 0 [] 3 true), some (.rows 1 [] 9 false)], [some (0, 0), some (1, 0), some (2, 0)]⟩) (ce := (.exit 0)) (qs := [(ns 1 1), (ns 2 2), .lst 0 (some 0) [], .lst 1 (some 1) []]) rfl tv hF hr (by kernel_rfl) ⟨(r p1), (r (v2.length : Int)), ⟨[], rfl, lnil _⟩, ⟨[], rfl, lnil _⟩, tv⟩ hat fun a' w' hat' => hx0 v2 rfl a' w' hat'
def u_Joined_int_Itoa (fu : Nat) (a0 : List (Int)) (a1 : Int) : Option (Int) := if (0 : Int) ≤ (a0.length : Int) then (if (a0.length : Int) < (65536 : Int) then (Option.bind (u_Joined_int_Itoa_L1 fu a0 a1 (a0.length : Int) fu (List.replicate ((a0.length : Int)).toNat (0 : Int)) (0 : Int)) fun o3 => Option.bind (strings_Join o3 a1) fun r4 => some r4) else none) else none
theorem u_Joined_int_Itoa_ok (fu : Nat) (a0 : List (Int)) (a1 : Int) (y : Int) (h : u_Joined_int_Itoa fu a0 a1 = some y) : CallOk Tryz.prog 190 (vals [(a0.length : Int), a1] [(a0.flatMap enI)]) [.gs 1 0 (.v 0) 1 false, .ss (.v 1), .fn 191 [] []] [some (.glob 1 .u64 pw), some (.rows 0 [] 3 true)] 2 (vals [y] []) (.ss (.v 0)) [none, none] := by
 refine fun_of (nt := 30) (by kernel_rfl) (by kernel_rfl) fun φ0 w0 a w hat => ?_
 have hF := wide_fw
 have hr : Fence.wide.round = none := rfl
 unfold u_Joined_int_Itoa at h
 by_cases h1 : (0 : Int) ≤ (a0.length : Int)
 ·rw [if_pos h1] at h
  by_cases h2 : (a0.length : Int) < (65536 : Int)
  ·rw [if_pos h2] at h
   obtain ⟨o3, ho3, h⟩ := bs1 h
   refine to_loop mixed ⟨[(.leq, (.c 0), (.v 0), true), (.lss, (.v 0), (.c 65536), true)], [], [(0, 1, (.v 0)), (1, 1, (.v 0))], [], [], [((.v 0), [.str ⟨#[]⟩], 1)]⟩ (V := (vals [(a0.length : Int), a1] [(a0.flatMap enI), ((List.replicate ((a0.length : Int)).toNat (0 : Int)).flatMap enS)])) (n := 3000) (f := 3000) (fid := 190) (fun _ => rfl) (V' := (vals [(a0.length : Int), a1, ((List.replicate ((a0.length : Int)).toNat (0 : Int)).length : Int), (a0.length : Int), (0 : Int)] [(a0.flatMap enI), ((List.replicate ((a0.length : Int)).toNat (0 : Int)).flatMap enS)])) ⟨⟨leq_t h1, lss_t h2, tv⟩, tv, ⟨flat_length enI_len _, flat_made_len enS_len (0 : Int) h1, tv⟩, tv, ⟨⟨enS (0 : Int), (by have e : strOf 0 = ⟨#[]⟩ := strOf_code ⟨#[]⟩; simp only [enS, e]; rfl), flat_made _ _⟩, tv⟩⟩ tv (T := ⟨[(1, .ss (.v 1)), (2, .fn 191 [] []), (7, .gs 2 0 (.v 2) 1 true), (13, .gs 1 0 (.v 0) 1 false), (14, (ys 3)), (15, (ys 4))], [some (.glob 1 .u64 pw), some (.rows 0 [] 3 true), some (.rows 1 [] 9 false)], [some (0, 0), some (1, 0), some (2, 0)]⟩) (B := subAt (bodyOf Tryz.prog 190) [1, 1, 0, 1, 0, 0]) (K' := [.bk 0, .sq (subAt (bodyOf Tryz.prog 190) [1, 1, 1]) [1, 1, 1]]) (qs := [(ns 1 1), (ns 0 2), (ns 0 0), (ns 0 3), .num (.c 0) (.v 4), .lst 0 (some 0) [], .lst 1 (some 1) []]) wok0 tv hF hr (by kernel_rfl) ⟨(r a1), (show (a0.length : Int) = ((List.replicate ((a0.length : Int)).toNat (0 : Int)).length : Int) by first | rfl | (simp only [List.length_set]; done) | (simp only [List.length_set, List.length_replicate, List.length_append, List.length_cons, List.length_nil]; omega)), (r (a0.length : Int)), (r (a0.length : Int)), (r (0 : Int)), ⟨[], rfl, lnil _⟩, ⟨[], rfl, lnil _⟩, tv⟩ (at_re (V' := (vals [(a0.length : Int), a1] [(a0.flatMap enI), ((List.replicate ((a0.length : Int)).toNat (0 : Int)).flatMap enS)])) (T := ⟨[(0, .gs 1 0 (.v 0) 1 false), (1, .ss (.v 1)), (2, .fn 191 [] [])], [some (.glob 1 .u64 pw), some (.rows 0 [] 3 true)], [some (0, 0), some (1, 0)]⟩) (qs := [(ns 0 0), (ns 1 1), .lst 0 (some 0) []]) hat (by kernel_rfl) ⟨rfl, rfl, ⟨[], rfl, lnil _⟩, tv⟩) fun aa1 ww1 hat1 => loop_in (u_Joined_int_Itoa_L1_ok fu a0 a1 (a0.length : Int) fu (List.replicate ((a0.length : Int)).toNat (0 : Int)) (0 : Int) o3 ho3 _ _ _ _ _ _ _ hF hr hat1 ?_)
   ·intro yy hy aa2 ww2 hat
    subst hy
    show (Wk.out (.exit 0)).goal _ _ _ [.bk 0, .sq (subAt (bodyOf Tryz.prog 190) [1, 1, 1]) [1, 1, 1]] _ aa2 ww2
    obtain ⟨r4, hr4, h⟩ := bs1 h
    have Kr4 : KO Tryz.prog [(a0.length : Int), a1, (o3.length : Int), r4] [(a0.flatMap enI), (o3.flatMap enS)] ⟨88, 3, [some (2, 0)], [.gs 0 0 (.v 0) 1 false, .ss (.v 1)], [some (.rows 0 [] 9 true)], [(ns 2 0), (ns 1 1), .lst 0 (some 1) []], 1, .ss (.v 0), [none], .ss (.v 3), [], []⟩ := fun N M => ⟨_, _, [(ns 0 3)], ⟨strings_Join_ok o3 a1 r4 hr4, ⟨(r (o3.length : Int)), (r a1), ⟨[], rfl, lnil _⟩, tv⟩, by kernel_rfl, ⟨rfl, tv⟩⟩⟩
    injection h with h; subst h
    exact to_fin mixed ⟨[], [], [(0, 1, (.v 0)), (1, 1, (.v 2))], [⟨88, 3, [some (2, 0)], [.gs 0 0 (.v 0) 1 false, .ss (.v 1)], [some (.rows 0 [] 9 true)], [(ns 2 0), (ns 1 1), .lst 0 (some 1) []], 1, .ss (.v 0), [none], .ss (.v 3), [], []⟩], [], []⟩ (V := (vals [(a0.length : Int), a1, (o3.length : Int), r4] [(a0.flatMap enI), (o3.flatMap enS)])) (n := 3000) (f := 3000) (fid := 190) (fun _ => rfl) ⟨tv, tv, ⟨flat_length enI_len _, flat_length enS_len _, tv⟩, tv, tv⟩ ⟨Kr4 _ _, tv⟩ (R := ⟨.ss (.v 0), [none, none], [some (0, 0), some (1, 0)]⟩) (qs := [(ns 3 0)]) tv ⟨rfl, tv⟩ hF hr (by kernel_rfl) ⟨(r r4), tv⟩ (at_re (V' := (vals [(a0.length : Int), a1, (o3.length : Int), r4] [(a0.flatMap enI), (o3.flatMap enS)])) (T := ⟨[(1, .ss (.v 1)), (7, .gs 2 0 (.v 2) 1 true)], [some (.glob 1 .u64 pw), some (.rows 0 [] 3 true), some (.rows 1 [] 9 false)], [some (0, 0), some (1, 0), some (2, 0)]⟩) (qs := [(ns 1 1), (ns 2 2), .lst 0 (some 0) [], .lst 1 (some 1) []]) hat (by kernel_rfl) ⟨rfl, rfl, ⟨[], rfl, lnil _⟩, ⟨[], rfl, lnil _⟩, tv⟩)
  ·rw [if_neg h2] at h
   cases h
 ·rw [if_neg h1] at h
  cases h
def u_Written (fu : Nat) (a0 : List (Int)) : Option (Int) := Option.bind (u_Joined_int_Itoa fu a0 (-17 : Int)) fun r1 => some r1
theorem u_Written_ok (fu : Nat) (a0 : List (Int)) (y : Int) (h : u_Written fu a0 = some y) : CallOk Tryz.prog 87 (vals [(a0.length : Int)] [(a0.flatMap enI)]) [.gs 1 0 (.v 0) 1 false] [some (.glob 1 .u64 pw), some (.rows 0 [] 3 true)] 2 (vals [y] []) (.ss (.v 0)) [none, none] := by
 refine fun_of (nt := 5) (by kernel_rfl) (by kernel_rfl) fun φ0 w0 a w hat => ?_
 have hF := wide_fw
 have hr : Fence.wide.round = none := rfl
 unfold u_Written at h
 obtain ⟨r1, hr1, h⟩ := bs1 h
 have Kr1 : KO Tryz.prog [(a0.length : Int), r1] [(a0.flatMap enI)] ⟨190, 2, [some (0, 0), some (1, 0)], [.gs 1 0 (.v 0) 1 false, .ss (.v 1), .fn 191 [] []], [some (.glob 1 .u64 pw), some (.rows 0 [] 3 true)], [(ns 0 0), .num (.c (-17)) (.v 1), .lst 0 (some 0) []], 2, .ss (.v 0), [none, none], .ss (.v 1), [], []⟩ := fun N M => ⟨_, _, [(ns 0 1)], ⟨u_Joined_int_Itoa_ok fu a0 (-17 : Int) r1 hr1, ⟨(r (a0.length : Int)), (show (-17 : Int) = (-17 : Int) from rfl), ⟨[], rfl, lnil _⟩, tv⟩, by kernel_rfl, ⟨rfl, tv⟩⟩⟩
 injection h with h; subst h
 exact to_fin mixed ⟨[], [], [(0, 1, (.v 0))], [⟨190, 2, [some (0, 0), some (1, 0)], [.gs 1 0 (.v 0) 1 false, .ss (.v 1), .fn 191 [] []], [some (.glob 1 .u64 pw), some (.rows 0 [] 3 true)], [(ns 0 0), .num (.c (-17)) (.v 1), .lst 0 (some 0) []], 2, .ss (.v 0), [none, none], .ss (.v 1), [], []⟩], [], []⟩ (V := (vals [(a0.length : Int), r1] [(a0.flatMap enI)])) (n := 3000) (f := 3000) (fid := 87) (fun _ => rfl) ⟨tv, tv, ⟨flat_length enI_len _, tv⟩, tv, tv⟩ ⟨Kr1 _ _, tv⟩ (R := ⟨.ss (.v 0), [none, none], [some (0, 0), some (1, 0)]⟩) (qs := [(ns 1 0)]) wok0 tv hF hr (by kernel_rfl) ⟨(r r1), tv⟩ (at_re (V' := (vals [(a0.length : Int), r1] [(a0.flatMap enI)])) (T := ⟨[(0, .gs 1 0 (.v 0) 1 false)], [some (.glob 1 .u64 pw), some (.rows 0 [] 3 true)], [some (0, 0), some (1, 0)]⟩) (qs := [(ns 0 0), .lst 0 (some 0) []]) hat (by kernel_rfl) ⟨rfl, ⟨[], rfl, lnil _⟩, tv⟩)
def u_isDigit (a0 : Int) : Option (Bool) := if (48 : Int) ≤ a0 then (if a0 ≤ (57 : Int) then (some true) else (some false)) else (some false)
theorem u_isDigit_ok (a0 : Int) (y : Bool) (h : u_isDigit a0 = some y) : CallOk Tryz.prog 303 (vals [a0] []) [.sym .u8 (.v 0)] [] 0 (vals [bI y] []) (.bs (.v 0)) [] := by
 refine fun_of (nt := 9) (by kernel_rfl) (by kernel_rfl) fun φ0 w0 a w hat => ?_
 have hF := wide_fw
 have hr : Fence.wide.round = none := rfl
 unfold u_isDigit at h
 by_cases h1 : (48 : Int) ≤ a0
 ·rw [if_pos h1] at h
  by_cases h2 : a0 ≤ (57 : Int)
  ·rw [if_pos h2] at h
   injection h with h; subst h
   exact to_fin mixed ⟨[(.leq, (.c 48), (.v 0), true), (.leq, (.v 0), (.c 57), true)], [], [], [], [], []⟩ (V := (vals [a0] [])) (n := 3000) (f := 3000) (fid := 303) (fun _ => rfl) ⟨⟨leq_t h1, leq_t h2, tv⟩, tv, tv, tv, tv⟩ tv (R := ⟨.bs (.v 0), [], []⟩) (qs := [.num (.c 1) (.v 0)]) wok0 tv hF hr (by kernel_rfl) ⟨rfl, tv⟩ hat
  ·rw [if_neg h2] at h
   injection h with h; subst h
   exact to_fin mixed ⟨[(.leq, (.c 48), (.v 0), true), (.leq, (.v 0), (.c 57), false)], [], [], [], [], []⟩ (V := (vals [a0] [])) (n := 3000) (f := 3000) (fid := 303) (fun _ => rfl) ⟨⟨leq_t h1, leq_f h2, tv⟩, tv, tv, tv, tv⟩ tv (R := ⟨.bs (.v 0), [], []⟩) (qs := [.num (.c 0) (.v 0)]) wok0 tv hF hr (by kernel_rfl) ⟨rfl, tv⟩ hat
 ·rw [if_neg h1] at h
  injection h with h; subst h
  exact to_fin mixed ⟨[(.leq, (.c 48), (.v 0), false)], [], [], [], [], []⟩ (V := (vals [a0] [])) (n := 3000) (f := 3000) (fid := 303) (fun _ => rfl) ⟨⟨leq_f h1, tv⟩, tv, tv, tv, tv⟩ tv (R := ⟨.bs (.v 0), [], []⟩) (qs := [.num (.c 0) (.v 0)]) wok0 tv hF hr (by kernel_rfl) ⟨rfl, tv⟩ hat
def u_numberIn_L1 (fu : Nat) (p0 : Int) (p2 : Int) : Nat → Int → Int → Option ((Unit) ⊕ (Int))
 | 0, _, _ => none
 | n + 1, v1, v3 => if v3 < p2 then (if (0 : Int) ≤ v3 then (if v3 < (sln p0) then (Option.bind (u_isDigit (sat p0 v3)) fun r4 => if r4 = true then (u_numberIn_L1 fu p0 p2 n (IntKind.wrap .i64 ((IntKind.wrap .i64 (v1 * (10 : Int))) + (IntKind.wrap .i64 (IntKind.wrap .u8 ((sat p0 v3) - (48 : Int)))))) (IntKind.wrap .i64 (v3 + (1 : Int)))) else (some (.inl ()))) else none) else none) else (some (.inr v1))
theorem u_numberIn_L1_ok (fu : Nat) (p0 : Int) (p2 : Int) : ∀ (n : Nat) (v1 : Int) (v3 : Int) (o : (Unit) ⊕ (Int)), u_numberIn_L1 fu p0 p2 n v1 v3 = some o → ∀ (φ0 : Phi) (w0 : World) (F : Fence) (k : Nat) (R : Exit → Act → World → Prop) (a : Act) (w : World), FW F → F.round = none → AtS (vals [p0, v1, p2, v3] []) [(6, .ss (.v 0)), (7, .bool true), (8, (ys 1)), (39, (ys 2)), (40, (ys 3))] [] 61 0 0 φ0 w0 a w → (∀ (y : Unit), o = .inl y → ∀ a' w', AtS (vals [] []) [(4, .int .i64 0), (5, .bool false)] [] 61 0 0 φ0 w0 a' w' → R Exit.ret a' w') → (∀ (y : Int), o = .inr y → ∀ a' w', AtS (vals [y] []) [(7, .bool true), (8, (ys 0))] [] 61 0 0 φ0 w0 a' w' → R (Exit.exit 0) a' w') → Code.roundsIn F k Tryz.prog (subAt (bodyOf Tryz.prog 197) [1, 1, 1, 1, 1, 0, 1, 0, 0]) R n a w
 | 0, _, _, _, h => by cases h
 | n + 1, v1, v3, o, h => by
  intro φ0 w0 F k R a w hF hr hat hx0 hx1
  rw [u_numberIn_L1] at h
  refine rounds_in (p := [1, 1, 1, 1, 1, 0, 1, 0, 0]) ?_
  by_cases h1 : v3 < p2
  ·rw [if_pos h1] at h
   by_cases h2 : (0 : Int) ≤ v3
   ·rw [if_pos h2] at h
    by_cases h3 : v3 < (sln p0)
    ·rw [if_pos h3] at h
     obtain ⟨r4, hr4, h⟩ := bs1 h
     have Kr4 : KO Tryz.prog [p0, v1, p2, v3, bI r4] [] ⟨303, 0, [], [.sym .u8 (.v 0)], [], [.num (.sat (.v 0) (.v 3)) (.v 0)], 0, .bs (.v 0), [], .bs (.v 4), [], []⟩ := fun N M => ⟨_, _, [(ns 0 4)], ⟨u_isDigit_ok (sat p0 v3) r4 hr4, ⟨(r (sat p0 v3)), tv⟩, by kernel_rfl, ⟨rfl, tv⟩⟩⟩
     by_cases h5 : r4 = true
     ·rw [if_pos h5] at h
      refine to_done mixed ⟨[(.lss, (.v 3), (.v 2), true), (.leq, (.c 0), (.v 3), true), (.lss, (.v 3), (.sln (.v 0)), true), (.neq, (.v 4), (.c 0), true)], [], [], [⟨303, 0, [], [.sym .u8 (.v 0)], [], [.num (.sat (.v 0) (.v 3)) (.v 0)], 0, .bs (.v 0), [], .bs (.v 4), [], []⟩], [], []⟩ (V := (vals [p0, v1, p2, v3, bI r4] [])) (n := 3000) (f := 3000) (fid := 197) (fun _ => rfl) (V' := (vals [p0, (IntKind.wrap .i64 ((IntKind.wrap .i64 (v1 * (10 : Int))) + (IntKind.wrap .i64 (IntKind.wrap .u8 ((sat p0 v3) - (48 : Int)))))), p2, (IntKind.wrap .i64 (v3 + (1 : Int)))] [])) ⟨⟨lss_t h1, leq_t h2, lss_t h3, bi_t h5, tv⟩, tv, tv, tv, tv⟩ ⟨Kr4 _ _, tv⟩ (T := ⟨[(6, .ss (.v 0)), (7, .bool true), (8, (ys 1)), (39, (ys 2)), (40, (ys 3))], [], []⟩) (ce := .normal) (qs := [(ns 0 0), .num (.add .i64 (.mul .i64 (.v 1) (.c 10)) (.wr .i64 (.sub .u8 (.sat (.v 0) (.v 3)) (.c 48)))) (.v 1), (ns 2 2), .num (.add .i64 (.v 3) (.c 1)) (.v 3)]) rfl tv hF hr (by kernel_rfl) ⟨(r p0), (show (IntKind.wrap .i64 ((IntKind.wrap .i64 (v1 * (10 : Int))) + (IntKind.wrap .i64 (IntKind.wrap .u8 ((sat p0 v3) - (48 : Int)))))) = (IntKind.wrap .i64 ((IntKind.wrap .i64 (v1 * (10 : Int))) + (IntKind.wrap .i64 (IntKind.wrap .u8 ((sat p0 v3) - (48 : Int)))))) from rfl), (r p2), (r (IntKind.wrap .i64 (v3 + (1 : Int)))), tv⟩ (at_re (V' := (vals [p0, v1, p2, v3, bI r4] [])) (T := ⟨[(6, .ss (.v 0)), (7, .bool true), (8, (ys 1)), (39, (ys 2)), (40, (ys 3))], [], []⟩) (qs := [(ns 0 0), (ns 1 1), (ns 2 2), (ns 3 3)]) hat (by kernel_rfl) ⟨rfl, rfl, rfl, rfl, tv⟩) fun a' w' hat' => ?_
      exact u_numberIn_L1_ok fu p0 p2 n (IntKind.wrap .i64 ((IntKind.wrap .i64 (v1 * (10 : Int))) + (IntKind.wrap .i64 (IntKind.wrap .u8 ((sat p0 v3) - (48 : Int)))))) (IntKind.wrap .i64 (v3 + (1 : Int))) o h _ _ _ _ _ _ _ hF hr hat' hx0 hx1
     ·rw [if_neg h5] at h
      injection h with h; subst h
      exact to_done mixed ⟨[(.lss, (.v 3), (.v 2), true), (.leq, (.c 0), (.v 3), true), (.lss, (.v 3), (.sln (.v 0)), true), (.neq, (.v 4), (.c 0), false)], [], [], [⟨303, 0, [], [.sym .u8 (.v 0)], [], [.num (.sat (.v 0) (.v 3)) (.v 0)], 0, .bs (.v 0), [], .bs (.v 4), [], []⟩], [], []⟩ (V := (vals [p0, v1, p2, v3, bI r4] [])) (n := 3000) (f := 3000) (fid := 197) (fun _ => rfl) (V' := (vals [] [])) ⟨⟨lss_t h1, leq_t h2, lss_t h3, bi_f h5, tv⟩, tv, tv, tv, tv⟩ ⟨Kr4 _ _, tv⟩ (T := ⟨[(4, .int .i64 0), (5, .bool false)], [], []⟩) (ce := .ret) (qs := []) rfl tv hF hr (by kernel_rfl) tv (at_re (V' := (vals [p0, v1, p2, v3, bI r4] [])) (T := ⟨[(6, .ss (.v 0)), (7, .bool true), (8, (ys 1)), (39, (ys 2)), (40, (ys 3))], [], []⟩) (qs := [(ns 0 0), (ns 1 1), (ns 2 2), (ns 3 3)]) hat (by kernel_rfl) ⟨rfl, rfl, rfl, rfl, tv⟩) fun a' w' hat' => hx0 () rfl a' w' hat'
    ·rw [if_neg h3] at h
     cases h
   ·rw [if_neg h2] at h
    cases h
  ·rw [if_neg h1] at h
   injection h with h; subst h
   exact to_done mixed ⟨[(.lss, (.v 3), (.v 2), false)], [], [], [], [], []⟩ (V := (vals [p0, v1, p2, v3] [])) (n := 3000) (f := 3000) (fid := 197) (fun _ => rfl) (V' := (vals [v1] [])) ⟨⟨lss_f h1, tv⟩, tv, tv, tv, tv⟩ tv (T := ⟨[(7, .bool true), (8, (ys 0))], [], []⟩) (ce := (.exit 0)) (qs := [(ns 1 0)]) rfl tv hF hr (by kernel_rfl) ⟨(r v1), tv⟩ hat fun a' w' hat' => hx1 v1 rfl a' w' hat'
def u_numberIn_L2 (fu : Nat) (p0 : Int) (p2 : Int) : Nat → Int → Int → Option ((Unit) ⊕ (Int))
 | 0, _, _ => none
 | n + 1, v1, v3 => if v3 < p2 then (if (0 : Int) ≤ v3 then (if v3 < (sln p0) then (Option.bind (u_isDigit (sat p0 v3)) fun r4 => if r4 = true then (u_numberIn_L2 fu p0 p2 n (IntKind.wrap .i64 ((IntKind.wrap .i64 (v1 * (10 : Int))) + (IntKind.wrap .i64 (IntKind.wrap .u8 ((sat p0 v3) - (48 : Int)))))) (IntKind.wrap .i64 (v3 + (1 : Int)))) else (some (.inl ()))) else none) else none) else (some (.inr v1))
theorem u_numberIn_L2_ok (fu : Nat) (p0 : Int) (p2 : Int) : ∀ (n : Nat) (v1 : Int) (v3 : Int) (o : (Unit) ⊕ (Int)), u_numberIn_L2 fu p0 p2 n v1 v3 = some o → ∀ (φ0 : Phi) (w0 : World) (F : Fence) (k : Nat) (R : Exit → Act → World → Prop) (a : Act) (w : World), FW F → F.round = none → AtS (vals [p0, v1, p2, v3] []) [(6, .ss (.v 0)), (7, .bool false), (8, (ys 1)), (39, (ys 2)), (40, (ys 3))] [] 61 0 0 φ0 w0 a w → (∀ (y : Unit), o = .inl y → ∀ a' w', AtS (vals [] []) [(4, .int .i64 0), (5, .bool false)] [] 61 0 0 φ0 w0 a' w' → R Exit.ret a' w') → (∀ (y : Int), o = .inr y → ∀ a' w', AtS (vals [y] []) [(7, .bool false), (8, (ys 0))] [] 61 0 0 φ0 w0 a' w' → R (Exit.exit 0) a' w') → Code.roundsIn F k Tryz.prog (subAt (bodyOf Tryz.prog 197) [1, 1, 1, 1, 1, 0, 1, 0, 0]) R n a w
 | 0, _, _, _, h => by cases h
 | n + 1, v1, v3, o, h => by
  intro φ0 w0 F k R a w hF hr hat hx0 hx1
  rw [u_numberIn_L2] at h
  refine rounds_in (p := [1, 1, 1, 1, 1, 0, 1, 0, 0]) ?_
  by_cases h1 : v3 < p2
  ·rw [if_pos h1] at h
   by_cases h2 : (0 : Int) ≤ v3
   ·rw [if_pos h2] at h
    by_cases h3 : v3 < (sln p0)
    ·rw [if_pos h3] at h
     obtain ⟨r4, hr4, h⟩ := bs1 h
     have Kr4 : KO Tryz.prog [p0, v1, p2, v3, bI r4] [] ⟨303, 0, [], [.sym .u8 (.v 0)], [], [.num (.sat (.v 0) (.v 3)) (.v 0)], 0, .bs (.v 0), [], .bs (.v 4), [], []⟩ := fun N M => ⟨_, _, [(ns 0 4)], ⟨u_isDigit_ok (sat p0 v3) r4 hr4, ⟨(r (sat p0 v3)), tv⟩, by kernel_rfl, ⟨rfl, tv⟩⟩⟩
     by_cases h5 : r4 = true
     ·rw [if_pos h5] at h
      refine to_done mixed ⟨[(.lss, (.v 3), (.v 2), true), (.leq, (.c 0), (.v 3), true), (.lss, (.v 3), (.sln (.v 0)), true), (.neq, (.v 4), (.c 0), true)], [], [], [⟨303, 0, [], [.sym .u8 (.v 0)], [], [.num (.sat (.v 0) (.v 3)) (.v 0)], 0, .bs (.v 0), [], .bs (.v 4), [], []⟩], [], []⟩ (V := (vals [p0, v1, p2, v3, bI r4] [])) (n := 3000) (f := 3000) (fid := 197) (fun _ => rfl) (V' := (vals [p0, (IntKind.wrap .i64 ((IntKind.wrap .i64 (v1 * (10 : Int))) + (IntKind.wrap .i64 (IntKind.wrap .u8 ((sat p0 v3) - (48 : Int)))))), p2, (IntKind.wrap .i64 (v3 + (1 : Int)))] [])) ⟨⟨lss_t h1, leq_t h2, lss_t h3, bi_t h5, tv⟩, tv, tv, tv, tv⟩ ⟨Kr4 _ _, tv⟩ (T := ⟨[(6, .ss (.v 0)), (7, .bool false), (8, (ys 1)), (39, (ys 2)), (40, (ys 3))], [], []⟩) (ce := .normal) (qs := [(ns 0 0), .num (.add .i64 (.mul .i64 (.v 1) (.c 10)) (.wr .i64 (.sub .u8 (.sat (.v 0) (.v 3)) (.c 48)))) (.v 1), (ns 2 2), .num (.add .i64 (.v 3) (.c 1)) (.v 3)]) rfl tv hF hr (by kernel_rfl) ⟨(r p0), (show (IntKind.wrap .i64 ((IntKind.wrap .i64 (v1 * (10 : Int))) + (IntKind.wrap .i64 (IntKind.wrap .u8 ((sat p0 v3) - (48 : Int)))))) = (IntKind.wrap .i64 ((IntKind.wrap .i64 (v1 * (10 : Int))) + (IntKind.wrap .i64 (IntKind.wrap .u8 ((sat p0 v3) - (48 : Int)))))) from rfl), (r p2), (r (IntKind.wrap .i64 (v3 + (1 : Int)))), tv⟩ (at_re (V' := (vals [p0, v1, p2, v3, bI r4] [])) (T := ⟨[(6, .ss (.v 0)), (7, .bool false), (8, (ys 1)), (39, (ys 2)), (40, (ys 3))], [], []⟩) (qs := [(ns 0 0), (ns 1 1), (ns 2 2), (ns 3 3)]) hat (by kernel_rfl) ⟨rfl, rfl, rfl, rfl, tv⟩) fun a' w' hat' => ?_
      exact u_numberIn_L2_ok fu p0 p2 n (IntKind.wrap .i64 ((IntKind.wrap .i64 (v1 * (10 : Int))) + (IntKind.wrap .i64 (IntKind.wrap .u8 ((sat p0 v3) - (48 : Int)))))) (IntKind.wrap .i64 (v3 + (1 : Int))) o h _ _ _ _ _ _ _ hF hr hat' hx0 hx1
     ·rw [if_neg h5] at h
      injection h with h; subst h
      exact to_done mixed ⟨[(.lss, (.v 3), (.v 2), true), (.leq, (.c 0), (.v 3), true), (.lss, (.v 3), (.sln (.v 0)), true), (.neq, (.v 4), (.c 0), false)], [], [], [⟨303, 0, [], [.sym .u8 (.v 0)], [], [.num (.sat (.v 0) (.v 3)) (.v 0)], 0, .bs (.v 0), [], .bs (.v 4), [], []⟩], [], []⟩ (V := (vals [p0, v1, p2, v3, bI r4] [])) (n := 3000) (f := 3000) (fid := 197) (fun _ => rfl) (V' := (vals [] [])) ⟨⟨lss_t h1, leq_t h2, lss_t h3, bi_f h5, tv⟩, tv, tv, tv, tv⟩ ⟨Kr4 _ _, tv⟩ (T := ⟨[(4, .int .i64 0), (5, .bool false)], [], []⟩) (ce := .ret) (qs := []) rfl tv hF hr (by kernel_rfl) tv (at_re (V' := (vals [p0, v1, p2, v3, bI r4] [])) (T := ⟨[(6, .ss (.v 0)), (7, .bool false), (8, (ys 1)), (39, (ys 2)), (40, (ys 3))], [], []⟩) (qs := [(ns 0 0), (ns 1 1), (ns 2 2), (ns 3 3)]) hat (by kernel_rfl) ⟨rfl, rfl, rfl, rfl, tv⟩) fun a' w' hat' => hx0 () rfl a' w' hat'
    ·rw [if_neg h3] at h
     cases h
   ·rw [if_neg h2] at h
    cases h
  ·rw [if_neg h1] at h
   injection h with h; subst h
   exact to_done mixed ⟨[(.lss, (.v 3), (.v 2), false)], [], [], [], [], []⟩ (V := (vals [p0, v1, p2, v3] [])) (n := 3000) (f := 3000) (fid := 197) (fun _ => rfl) (V' := (vals [v1] [])) ⟨⟨lss_f h1, tv⟩, tv, tv, tv, tv⟩ tv (T := ⟨[(7, .bool false), (8, (ys 0))], [], []⟩) (ce := (.exit 0)) (qs := [(ns 1 0)]) rfl tv hF hr (by kernel_rfl) ⟨(r v1), tv⟩ hat fun a' w' hat' => hx1 v1 rfl a' w' hat'
def u_numberIn (fu : Nat) (a0 : Int) (a1 : Int) : Option (Int × Bool) := Option.bind (strings_CutPrefix a0 (23 : Int)) fun r1 => if r1.2 = true then (if r1.1 = (-25 : Int) then (some ((0 : Int), false)) else (if r1.1 = (0 : Int) then (some ((0 : Int), false)) else (if a1 < (sln r1.1) then (some ((0 : Int), false)) else (if (1 : Int) < (sln r1.1) then (if (0 : Int) < (sln r1.1) then (if (sat r1.1 (0 : Int)) = (48 : Int) then (some ((0 : Int), false)) else (Option.bind (u_numberIn_L1 fu r1.1 (sln r1.1) fu (0 : Int) (0 : Int)) fun o9 => (match o9 with | .inl y10 => (some ((0 : Int), false)) | .inr y11 => (some ((IntKind.wrap .i64 ((0 : Int) - y11)), true))))) else none) else (Option.bind (u_numberIn_L1 fu r1.1 (sln r1.1) fu (0 : Int) (0 : Int)) fun o12 => (match o12 with | .inl y13 => (some ((0 : Int), false)) | .inr y14 => (some ((IntKind.wrap .i64 ((0 : Int) - y14)), true)))))))) else (if r1.1 = (0 : Int) then (some ((0 : Int), false)) else (if a1 < (sln r1.1) then (some ((0 : Int), false)) else (if (1 : Int) < (sln r1.1) then (if (0 : Int) < (sln r1.1) then (if (sat r1.1 (0 : Int)) = (48 : Int) then (some ((0 : Int), false)) else (Option.bind (u_numberIn_L2 fu r1.1 (sln r1.1) fu (0 : Int) (0 : Int)) fun o20 => (match o20 with | .inl y21 => (some ((0 : Int), false)) | .inr y22 => (some (y22, true))))) else none) else (Option.bind (u_numberIn_L2 fu r1.1 (sln r1.1) fu (0 : Int) (0 : Int)) fun o23 => (match o23 with | .inl y24 => (some ((0 : Int), false)) | .inr y25 => (some (y25, true)))))))
theorem u_numberIn_ok (fu : Nat) (a0 : Int) (a1 : Int) (y : Int × Bool) (h : u_numberIn fu a0 a1 = some y) : CallOk Tryz.prog 197 (vals [a0, a1] []) [.ss (.v 0), (ys 1)] [] 0 (vals [y.1, bI y.2] []) (.tup [(ys 0), .bs (.v 1)]) [] := by
 refine fun_of (nt := 61) (by kernel_rfl) (by kernel_rfl) fun φ0 w0 a w hat => ?_
 have hF := wide_fw
 have hr : Fence.wide.round = none := rfl
 unfold u_numberIn at h
 obtain ⟨r1, hr1, h⟩ := bs1 h
 have Kr1 : KO Tryz.prog [a0, a1, r1.1, bI r1.2] [] ⟨302, 0, [], [.ss (.v 0), .ss (.v 1)], [], [(ns 0 0), .num (.c 23) (.v 1)], 0, .tup [.ss (.v 0), .bs (.v 1)], [], .tup [.ss (.v 2), .bs (.v 3)], [], []⟩ := fun N M => ⟨_, _, [(ns 0 2), (ns 1 3)], ⟨strings_CutPrefix_ok a0 (23 : Int) r1 hr1, ⟨(r a0), (r (23 : Int)), tv⟩, by kernel_rfl, ⟨rfl, rfl, tv⟩⟩⟩
 by_cases h2 : r1.2 = true
 ·rw [if_pos h2] at h
  by_cases h3 : r1.1 = (-25 : Int)
  ·rw [if_pos h3] at h
   injection h with h; subst h
   exact to_fin mixed ⟨[(.neq, (.v 3), (.c 0), true), (.eql, (.v 2), (.c (-25)), true)], [], [], [⟨302, 0, [], [.ss (.v 0), .ss (.v 1)], [], [(ns 0 0), .num (.c 23) (.v 1)], 0, .tup [.ss (.v 0), .bs (.v 1)], [], .tup [.ss (.v 2), .bs (.v 3)], [], []⟩], [], []⟩ (V := (vals [a0, a1, r1.1, bI r1.2] [])) (n := 3000) (f := 3000) (fid := 197) (fun _ => rfl) ⟨⟨bi_t h2, eql_t h3, tv⟩, tv, tv, tv, tv⟩ ⟨Kr1 _ _, tv⟩ (R := ⟨.tup [(ys 0), .bs (.v 1)], [], []⟩) (qs := [.num (.c 0) (.v 0), .num (.c 0) (.v 1)]) wok0 tv hF hr (by kernel_rfl) ⟨(r (0 : Int)), rfl, tv⟩ (at_re (V' := (vals [a0, a1, r1.1, bI r1.2] [])) (T := ⟨[(0, .ss (.v 0)), (1, (ys 1))], [], []⟩) (qs := [(ns 0 0), (ns 1 1)]) hat (by kernel_rfl) ⟨rfl, rfl, tv⟩)
  ·rw [if_neg h3] at h
   by_cases h4 : r1.1 = (0 : Int)
   ·rw [if_pos h4] at h
    injection h with h; subst h
    exact to_fin mixed ⟨[(.neq, (.v 3), (.c 0), true), (.eql, (.v 2), (.c (-25)), false), (.eql, (.v 2), (.c 0), true)], [], [], [⟨302, 0, [], [.ss (.v 0), .ss (.v 1)], [], [(ns 0 0), .num (.c 23) (.v 1)], 0, .tup [.ss (.v 0), .bs (.v 1)], [], .tup [.ss (.v 2), .bs (.v 3)], [], []⟩], [], []⟩ (V := (vals [a0, a1, r1.1, bI r1.2] [])) (n := 3000) (f := 3000) (fid := 197) (fun _ => rfl) ⟨⟨bi_t h2, eql_f h3, eql_t h4, tv⟩, tv, tv, tv, tv⟩ ⟨Kr1 _ _, tv⟩ (R := ⟨.tup [(ys 0), .bs (.v 1)], [], []⟩) (qs := [.num (.c 0) (.v 0), .num (.c 0) (.v 1)]) wok0 tv hF hr (by kernel_rfl) ⟨(r (0 : Int)), rfl, tv⟩ (at_re (V' := (vals [a0, a1, r1.1, bI r1.2] [])) (T := ⟨[(0, .ss (.v 0)), (1, (ys 1))], [], []⟩) (qs := [(ns 0 0), (ns 1 1)]) hat (by kernel_rfl) ⟨rfl, rfl, tv⟩)
   ·rw [if_neg h4] at h
    by_cases h5 : a1 < (sln r1.1)
    ·rw [if_pos h5] at h
     injection h with h; subst h
     exact to_fin mixed ⟨[(.neq, (.v 3), (.c 0), true), (.eql, (.v 2), (.c (-25)), false), (.eql, (.v 2), (.c 0), false), (.gtr, (.sln (.v 2)), (.v 1), true)], [], [], [⟨302, 0, [], [.ss (.v 0), .ss (.v 1)], [], [(ns 0 0), .num (.c 23) (.v 1)], 0, .tup [.ss (.v 0), .bs (.v 1)], [], .tup [.ss (.v 2), .bs (.v 3)], [], []⟩], [], []⟩ (V := (vals [a0, a1, r1.1, bI r1.2] [])) (n := 3000) (f := 3000) (fid := 197) (fun _ => rfl) ⟨⟨bi_t h2, eql_f h3, eql_f h4, gtr_t h5, tv⟩, tv, tv, tv, tv⟩ ⟨Kr1 _ _, tv⟩ (R := ⟨.tup [(ys 0), .bs (.v 1)], [], []⟩) (qs := [.num (.c 0) (.v 0), .num (.c 0) (.v 1)]) wok0 tv hF hr (by kernel_rfl) ⟨(r (0 : Int)), rfl, tv⟩ (at_re (V' := (vals [a0, a1, r1.1, bI r1.2] [])) (T := ⟨[(0, .ss (.v 0)), (1, (ys 1))], [], []⟩) (qs := [(ns 0 0), (ns 1 1)]) hat (by kernel_rfl) ⟨rfl, rfl, tv⟩)
    ·rw [if_neg h5] at h
     by_cases h6 : (1 : Int) < (sln r1.1)
     ·rw [if_pos h6] at h
      by_cases h7 : (0 : Int) < (sln r1.1)
      ·rw [if_pos h7] at h
       by_cases h8 : (sat r1.1 (0 : Int)) = (48 : Int)
       ·rw [if_pos h8] at h
        injection h with h; subst h
        exact to_fin mixed ⟨[(.neq, (.v 3), (.c 0), true), (.eql, (.v 2), (.c (-25)), false), (.eql, (.v 2), (.c 0), false), (.gtr, (.sln (.v 2)), (.v 1), false), (.gtr, (.sln (.v 2)), (.c 1), true), (.lss, (.c 0), (.sln (.v 2)), true), (.eql, (.sat (.v 2) (.c 0)), (.c 48), true)], [], [], [⟨302, 0, [], [.ss (.v 0), .ss (.v 1)], [], [(ns 0 0), .num (.c 23) (.v 1)], 0, .tup [.ss (.v 0), .bs (.v 1)], [], .tup [.ss (.v 2), .bs (.v 3)], [], []⟩], [], []⟩ (V := (vals [a0, a1, r1.1, bI r1.2] [])) (n := 3000) (f := 3000) (fid := 197) (fun _ => rfl) ⟨⟨bi_t h2, eql_f h3, eql_f h4, gtr_f h5, gtr_t h6, lss_t h7, eql_t h8, tv⟩, tv, tv, tv, tv⟩ ⟨Kr1 _ _, tv⟩ (R := ⟨.tup [(ys 0), .bs (.v 1)], [], []⟩) (qs := [.num (.c 0) (.v 0), .num (.c 0) (.v 1)]) wok0 tv hF hr (by kernel_rfl) ⟨(r (0 : Int)), rfl, tv⟩ (at_re (V' := (vals [a0, a1, r1.1, bI r1.2] [])) (T := ⟨[(0, .ss (.v 0)), (1, (ys 1))], [], []⟩) (qs := [(ns 0 0), (ns 1 1)]) hat (by kernel_rfl) ⟨rfl, rfl, tv⟩)
       ·rw [if_neg h8] at h
        obtain ⟨o9, ho9, h⟩ := bs1 h
        refine to_loop mixed ⟨[(.neq, (.v 3), (.c 0), true), (.eql, (.v 2), (.c (-25)), false), (.eql, (.v 2), (.c 0), false), (.gtr, (.sln (.v 2)), (.v 1), false), (.gtr, (.sln (.v 2)), (.c 1), true), (.lss, (.c 0), (.sln (.v 2)), true), (.eql, (.sat (.v 2) (.c 0)), (.c 48), false)], [], [], [⟨302, 0, [], [.ss (.v 0), .ss (.v 1)], [], [(ns 0 0), .num (.c 23) (.v 1)], 0, .tup [.ss (.v 0), .bs (.v 1)], [], .tup [.ss (.v 2), .bs (.v 3)], [], []⟩], [], []⟩ (V := (vals [a0, a1, r1.1, bI r1.2] [])) (n := 3000) (f := 3000) (fid := 197) (fun _ => rfl) (V' := (vals [r1.1, (0 : Int), (sln r1.1), (0 : Int)] [])) ⟨⟨bi_t h2, eql_f h3, eql_f h4, gtr_f h5, gtr_t h6, lss_t h7, eql_f h8, tv⟩, tv, tv, tv, tv⟩ ⟨Kr1 _ _, tv⟩ (T := ⟨[(6, .ss (.v 0)), (7, .bool true), (8, (ys 1)), (39, (ys 2)), (40, (ys 3))], [], []⟩) (B := subAt (bodyOf Tryz.prog 197) [1, 1, 1, 1, 1, 0, 1, 0, 0]) (K' := [.bk 0, .sq (subAt (bodyOf Tryz.prog 197) [1, 1, 1, 1, 1, 1]) [1, 1, 1, 1, 1, 1]]) (qs := [(ns 2 0), .num (.c 0) (.v 1), .num (.sln (.v 2)) (.v 2), .num (.c 0) (.v 3)]) wok0 tv hF hr (by kernel_rfl) ⟨(r r1.1), (r (0 : Int)), (r (sln r1.1)), (r (0 : Int)), tv⟩ (at_re (V' := (vals [a0, a1, r1.1, bI r1.2] [])) (T := ⟨[(0, .ss (.v 0)), (1, (ys 1))], [], []⟩) (qs := [(ns 0 0), (ns 1 1)]) hat (by kernel_rfl) ⟨rfl, rfl, tv⟩) fun aa1 ww1 hat1 => loop_in (u_numberIn_L1_ok fu r1.1 (sln r1.1) fu (0 : Int) (0 : Int) o9 ho9 _ _ _ _ _ _ _ hF hr hat1 ?_ ?_)
        ·intro y10 hy aa2 ww2 hat
         subst hy
         dsimp only at h
         show (Wk.out .ret).goal _ _ _ [.bk 0, .sq (subAt (bodyOf Tryz.prog 197) [1, 1, 1, 1, 1, 1]) [1, 1, 1, 1, 1, 1]] _ aa2 ww2
         injection h with h; subst h
         exact to_fin mixed ⟨[], [], [], [], [], []⟩ (V := (vals [] [])) (n := 3000) (f := 3000) (fid := 197) (fun _ => rfl) ⟨tv, tv, tv, tv, tv⟩ tv (R := ⟨.tup [(ys 0), .bs (.v 1)], [], []⟩) (qs := [.num (.c 0) (.v 0), .num (.c 0) (.v 1)]) tv ⟨rfl, tv⟩ hF hr (by kernel_rfl) ⟨(r (0 : Int)), rfl, tv⟩ hat
        ·intro y11 hy aa2 ww2 hat
         subst hy
         dsimp only at h
         show (Wk.out (.exit 0)).goal _ _ _ [.bk 0, .sq (subAt (bodyOf Tryz.prog 197) [1, 1, 1, 1, 1, 1]) [1, 1, 1, 1, 1, 1]] _ aa2 ww2
         injection h with h; subst h
         exact to_fin mixed ⟨[], [], [], [], [], []⟩ (V := (vals [y11] [])) (n := 3000) (f := 3000) (fid := 197) (fun _ => rfl) ⟨tv, tv, tv, tv, tv⟩ tv (R := ⟨.tup [(ys 0), .bs (.v 1)], [], []⟩) (qs := [.num (.sub .i64 (.c 0) (.v 0)) (.v 0), .num (.c 1) (.v 1)]) tv ⟨rfl, tv⟩ hF hr (by kernel_rfl) ⟨(show (IntKind.wrap .i64 ((0 : Int) - y11)) = (IntKind.wrap .i64 ((0 : Int) - y11)) from rfl), rfl, tv⟩ hat
      ·rw [if_neg h7] at h
       cases h
     ·rw [if_neg h6] at h
      obtain ⟨o12, ho12, h⟩ := bs1 h
      refine to_loop mixed ⟨[(.neq, (.v 3), (.c 0), true), (.eql, (.v 2), (.c (-25)), false), (.eql, (.v 2), (.c 0), false), (.gtr, (.sln (.v 2)), (.v 1), false), (.gtr, (.sln (.v 2)), (.c 1), false)], [], [], [⟨302, 0, [], [.ss (.v 0), .ss (.v 1)], [], [(ns 0 0), .num (.c 23) (.v 1)], 0, .tup [.ss (.v 0), .bs (.v 1)], [], .tup [.ss (.v 2), .bs (.v 3)], [], []⟩], [], []⟩ (V := (vals [a0, a1, r1.1, bI r1.2] [])) (n := 3000) (f := 3000) (fid := 197) (fun _ => rfl) (V' := (vals [r1.1, (0 : Int), (sln r1.1), (0 : Int)] [])) ⟨⟨bi_t h2, eql_f h3, eql_f h4, gtr_f h5, gtr_f h6, tv⟩, tv, tv, tv, tv⟩ ⟨Kr1 _ _, tv⟩ (T := ⟨[(6, .ss (.v 0)), (7, .bool true), (8, (ys 1)), (39, (ys 2)), (40, (ys 3))], [], []⟩) (B := subAt (bodyOf Tryz.prog 197) [1, 1, 1, 1, 1, 0, 1, 0, 0]) (K' := [.bk 0, .sq (subAt (bodyOf Tryz.prog 197) [1, 1, 1, 1, 1, 1]) [1, 1, 1, 1, 1, 1]]) (qs := [(ns 2 0), .num (.c 0) (.v 1), .num (.sln (.v 2)) (.v 2), .num (.c 0) (.v 3)]) wok0 tv hF hr (by kernel_rfl) ⟨(r r1.1), (r (0 : Int)), (r (sln r1.1)), (r (0 : Int)), tv⟩ (at_re (V' := (vals [a0, a1, r1.1, bI r1.2] [])) (T := ⟨[(0, .ss (.v 0)), (1, (ys 1))], [], []⟩) (qs := [(ns 0 0), (ns 1 1)]) hat (by kernel_rfl) ⟨rfl, rfl, tv⟩) fun aa1 ww1 hat1 => loop_in (u_numberIn_L1_ok fu r1.1 (sln r1.1) fu (0 : Int) (0 : Int) o12 ho12 _ _ _ _ _ _ _ hF hr hat1 ?_ ?_)
      ·intro y13 hy aa2 ww2 hat
       subst hy
       dsimp only at h
       show (Wk.out .ret).goal _ _ _ [.bk 0, .sq (subAt (bodyOf Tryz.prog 197) [1, 1, 1, 1, 1, 1]) [1, 1, 1, 1, 1, 1]] _ aa2 ww2
       injection h with h; subst h
       exact to_fin mixed ⟨[], [], [], [], [], []⟩ (V := (vals [] [])) (n := 3000) (f := 3000) (fid := 197) (fun _ => rfl) ⟨tv, tv, tv, tv, tv⟩ tv (R := ⟨.tup [(ys 0), .bs (.v 1)], [], []⟩) (qs := [.num (.c 0) (.v 0), .num (.c 0) (.v 1)]) tv ⟨rfl, tv⟩ hF hr (by kernel_rfl) ⟨(r (0 : Int)), rfl, tv⟩ hat
      ·intro y14 hy aa2 ww2 hat
       subst hy
       dsimp only at h
       show (Wk.out (.exit 0)).goal _ _ _ [.bk 0, .sq (subAt (bodyOf Tryz.prog 197) [1, 1, 1, 1, 1, 1]) [1, 1, 1, 1, 1, 1]] _ aa2 ww2
       injection h with h; subst h
       exact to_fin mixed ⟨[], [], [], [], [], []⟩ (V := (vals [y14] [])) (n := 3000) (f := 3000) (fid := 197) (fun _ => rfl) ⟨tv, tv, tv, tv, tv⟩ tv (R := ⟨.tup [(ys 0), .bs (.v 1)], [], []⟩) (qs := [.num (.sub .i64 (.c 0) (.v 0)) (.v 0), .num (.c 1) (.v 1)]) tv ⟨rfl, tv⟩ hF hr (by kernel_rfl) ⟨(show (IntKind.wrap .i64 ((0 : Int) - y14)) = (IntKind.wrap .i64 ((0 : Int) - y14)) from rfl), rfl, tv⟩ hat
 ·rw [if_neg h2] at h
  by_cases h15 : r1.1 = (0 : Int)
  ·rw [if_pos h15] at h
   injection h with h; subst h
   exact to_fin mixed ⟨[(.neq, (.v 3), (.c 0), false), (.eql, (.v 2), (.c 0), true)], [], [], [⟨302, 0, [], [.ss (.v 0), .ss (.v 1)], [], [(ns 0 0), .num (.c 23) (.v 1)], 0, .tup [.ss (.v 0), .bs (.v 1)], [], .tup [.ss (.v 2), .bs (.v 3)], [], []⟩], [], []⟩ (V := (vals [a0, a1, r1.1, bI r1.2] [])) (n := 3000) (f := 3000) (fid := 197) (fun _ => rfl) ⟨⟨bi_f h2, eql_t h15, tv⟩, tv, tv, tv, tv⟩ ⟨Kr1 _ _, tv⟩ (R := ⟨.tup [(ys 0), .bs (.v 1)], [], []⟩) (qs := [.num (.c 0) (.v 0), .num (.c 0) (.v 1)]) wok0 tv hF hr (by kernel_rfl) ⟨(r (0 : Int)), rfl, tv⟩ (at_re (V' := (vals [a0, a1, r1.1, bI r1.2] [])) (T := ⟨[(0, .ss (.v 0)), (1, (ys 1))], [], []⟩) (qs := [(ns 0 0), (ns 1 1)]) hat (by kernel_rfl) ⟨rfl, rfl, tv⟩)
  ·rw [if_neg h15] at h
   by_cases h16 : a1 < (sln r1.1)
   ·rw [if_pos h16] at h
    injection h with h; subst h
    exact to_fin mixed ⟨[(.neq, (.v 3), (.c 0), false), (.eql, (.v 2), (.c 0), false), (.gtr, (.sln (.v 2)), (.v 1), true)], [], [], [⟨302, 0, [], [.ss (.v 0), .ss (.v 1)], [], [(ns 0 0), .num (.c 23) (.v 1)], 0, .tup [.ss (.v 0), .bs (.v 1)], [], .tup [.ss (.v 2), .bs (.v 3)], [], []⟩], [], []⟩ (V := (vals [a0, a1, r1.1, bI r1.2] [])) (n := 3000) (f := 3000) (fid := 197) (fun _ => rfl) ⟨⟨bi_f h2, eql_f h15, gtr_t h16, tv⟩, tv, tv, tv, tv⟩ ⟨Kr1 _ _, tv⟩ (R := ⟨.tup [(ys 0), .bs (.v 1)], [], []⟩) (qs := [.num (.c 0) (.v 0), .num (.c 0) (.v 1)]) wok0 tv hF hr (by kernel_rfl) ⟨(r (0 : Int)), rfl, tv⟩ (at_re (V' := (vals [a0, a1, r1.1, bI r1.2] [])) (T := ⟨[(0, .ss (.v 0)), (1, (ys 1))], [], []⟩) (qs := [(ns 0 0), (ns 1 1)]) hat (by kernel_rfl) ⟨rfl, rfl, tv⟩)
   ·rw [if_neg h16] at h
    by_cases h17 : (1 : Int) < (sln r1.1)
    ·rw [if_pos h17] at h
     by_cases h18 : (0 : Int) < (sln r1.1)
     ·rw [if_pos h18] at h
      by_cases h19 : (sat r1.1 (0 : Int)) = (48 : Int)
      ·rw [if_pos h19] at h
       injection h with h; subst h
       exact to_fin mixed ⟨[(.neq, (.v 3), (.c 0), false), (.eql, (.v 2), (.c 0), false), (.gtr, (.sln (.v 2)), (.v 1), false), (.gtr, (.sln (.v 2)), (.c 1), true), (.lss, (.c 0), (.sln (.v 2)), true), (.eql, (.sat (.v 2) (.c 0)), (.c 48), true)], [], [], [⟨302, 0, [], [.ss (.v 0), .ss (.v 1)], [], [(ns 0 0), .num (.c 23) (.v 1)], 0, .tup [.ss (.v 0), .bs (.v 1)], [], .tup [.ss (.v 2), .bs (.v 3)], [], []⟩], [], []⟩ (V := (vals [a0, a1, r1.1, bI r1.2] [])) (n := 3000) (f := 3000) (fid := 197) (fun _ => rfl) ⟨⟨bi_f h2, eql_f h15, gtr_f h16, gtr_t h17, lss_t h18, eql_t h19, tv⟩, tv, tv, tv, tv⟩ ⟨Kr1 _ _, tv⟩ (R := ⟨.tup [(ys 0), .bs (.v 1)], [], []⟩) (qs := [.num (.c 0) (.v 0), .num (.c 0) (.v 1)]) wok0 tv hF hr (by kernel_rfl) ⟨(r (0 : Int)), rfl, tv⟩ (at_re (V' := (vals [a0, a1, r1.1, bI r1.2] [])) (T := ⟨[(0, .ss (.v 0)), (1, (ys 1))], [], []⟩) (qs := [(ns 0 0), (ns 1 1)]) hat (by kernel_rfl) ⟨rfl, rfl, tv⟩)
      ·rw [if_neg h19] at h
       obtain ⟨o20, ho20, h⟩ := bs1 h
       refine to_loop mixed ⟨[(.neq, (.v 3), (.c 0), false), (.eql, (.v 2), (.c 0), false), (.gtr, (.sln (.v 2)), (.v 1), false), (.gtr, (.sln (.v 2)), (.c 1), true), (.lss, (.c 0), (.sln (.v 2)), true), (.eql, (.sat (.v 2) (.c 0)), (.c 48), false)], [], [], [⟨302, 0, [], [.ss (.v 0), .ss (.v 1)], [], [(ns 0 0), .num (.c 23) (.v 1)], 0, .tup [.ss (.v 0), .bs (.v 1)], [], .tup [.ss (.v 2), .bs (.v 3)], [], []⟩], [], []⟩ (V := (vals [a0, a1, r1.1, bI r1.2] [])) (n := 3000) (f := 3000) (fid := 197) (fun _ => rfl) (V' := (vals [r1.1, (0 : Int), (sln r1.1), (0 : Int)] [])) ⟨⟨bi_f h2, eql_f h15, gtr_f h16, gtr_t h17, lss_t h18, eql_f h19, tv⟩, tv, tv, tv, tv⟩ ⟨Kr1 _ _, tv⟩ (T := ⟨[(6, .ss (.v 0)), (7, .bool false), (8, (ys 1)), (39, (ys 2)), (40, (ys 3))], [], []⟩) (B := subAt (bodyOf Tryz.prog 197) [1, 1, 1, 1, 1, 0, 1, 0, 0]) (K' := [.bk 0, .sq (subAt (bodyOf Tryz.prog 197) [1, 1, 1, 1, 1, 1]) [1, 1, 1, 1, 1, 1]]) (qs := [(ns 2 0), .num (.c 0) (.v 1), .num (.sln (.v 2)) (.v 2), .num (.c 0) (.v 3)]) wok0 tv hF hr (by kernel_rfl) ⟨(r r1.1), (r (0 : Int)), (r (sln r1.1)), (r (0 : Int)), tv⟩ (at_re (V' := (vals [a0, a1, r1.1, bI r1.2] [])) (T := ⟨[(0, .ss (.v 0)), (1, (ys 1))], [], []⟩) (qs := [(ns 0 0), (ns 1 1)]) hat (by kernel_rfl) ⟨rfl, rfl, tv⟩) fun aa1 ww1 hat1 => loop_in (u_numberIn_L2_ok fu r1.1 (sln r1.1) fu (0 : Int) (0 : Int) o20 ho20 _ _ _ _ _ _ _ hF hr hat1 ?_ ?_)
       ·intro y21 hy aa2 ww2 hat
        subst hy
        dsimp only at h
        show (Wk.out .ret).goal _ _ _ [.bk 0, .sq (subAt (bodyOf Tryz.prog 197) [1, 1, 1, 1, 1, 1]) [1, 1, 1, 1, 1, 1]] _ aa2 ww2
        injection h with h; subst h
        exact to_fin mixed ⟨[], [], [], [], [], []⟩ (V := (vals [] [])) (n := 3000) (f := 3000) (fid := 197) (fun _ => rfl) ⟨tv, tv, tv, tv, tv⟩ tv (R := ⟨.tup [(ys 0), .bs (.v 1)], [], []⟩) (qs := [.num (.c 0) (.v 0), .num (.c 0) (.v 1)]) tv ⟨rfl, tv⟩ hF hr (by kernel_rfl) ⟨(r (0 : Int)), rfl, tv⟩ hat
       ·intro y22 hy aa2 ww2 hat
        subst hy
        dsimp only at h
        show (Wk.out (.exit 0)).goal _ _ _ [.bk 0, .sq (subAt (bodyOf Tryz.prog 197) [1, 1, 1, 1, 1, 1]) [1, 1, 1, 1, 1, 1]] _ aa2 ww2
        injection h with h; subst h
        exact to_fin mixed ⟨[], [], [], [], [], []⟩ (V := (vals [y22] [])) (n := 3000) (f := 3000) (fid := 197) (fun _ => rfl) ⟨tv, tv, tv, tv, tv⟩ tv (R := ⟨.tup [(ys 0), .bs (.v 1)], [], []⟩) (qs := [(ns 0 0), .num (.c 1) (.v 1)]) tv ⟨rfl, tv⟩ hF hr (by kernel_rfl) ⟨(r y22), rfl, tv⟩ hat
     ·rw [if_neg h18] at h
      cases h
    ·rw [if_neg h17] at h
     obtain ⟨o23, ho23, h⟩ := bs1 h
     refine to_loop mixed ⟨[(.neq, (.v 3), (.c 0), false), (.eql, (.v 2), (.c 0), false), (.gtr, (.sln (.v 2)), (.v 1), false), (.gtr, (.sln (.v 2)), (.c 1), false)], [], [], [⟨302, 0, [], [.ss (.v 0), .ss (.v 1)], [], [(ns 0 0), .num (.c 23) (.v 1)], 0, .tup [.ss (.v 0), .bs (.v 1)], [], .tup [.ss (.v 2), .bs (.v 3)], [], []⟩], [], []⟩ (V := (vals [a0, a1, r1.1, bI r1.2] [])) (n := 3000) (f := 3000) (fid := 197) (fun _ => rfl) (V' := (vals [r1.1, (0 : Int), (sln r1.1), (0 : Int)] [])) ⟨⟨bi_f h2, eql_f h15, gtr_f h16, gtr_f h17, tv⟩, tv, tv, tv, tv⟩ ⟨Kr1 _ _, tv⟩ (T := ⟨[(6, .ss (.v 0)), (7, .bool false), (8, (ys 1)), (39, (ys 2)), (40, (ys 3))], [], []⟩) (B := subAt (bodyOf Tryz.prog 197) [1, 1, 1, 1, 1, 0, 1, 0, 0]) (K' := [.bk 0, .sq (subAt (bodyOf Tryz.prog 197) [1, 1, 1, 1, 1, 1]) [1, 1, 1, 1, 1, 1]]) (qs := [(ns 2 0), .num (.c 0) (.v 1), .num (.sln (.v 2)) (.v 2), .num (.c 0) (.v 3)]) wok0 tv hF hr (by kernel_rfl) ⟨(r r1.1), (r (0 : Int)), (r (sln r1.1)), (r (0 : Int)), tv⟩ (at_re (V' := (vals [a0, a1, r1.1, bI r1.2] [])) (T := ⟨[(0, .ss (.v 0)), (1, (ys 1))], [], []⟩) (qs := [(ns 0 0), (ns 1 1)]) hat (by kernel_rfl) ⟨rfl, rfl, tv⟩) fun aa1 ww1 hat1 => loop_in (u_numberIn_L2_ok fu r1.1 (sln r1.1) fu (0 : Int) (0 : Int) o23 ho23 _ _ _ _ _ _ _ hF hr hat1 ?_ ?_)
     ·intro y24 hy aa2 ww2 hat
      subst hy
      dsimp only at h
      show (Wk.out .ret).goal _ _ _ [.bk 0, .sq (subAt (bodyOf Tryz.prog 197) [1, 1, 1, 1, 1, 1]) [1, 1, 1, 1, 1, 1]] _ aa2 ww2
      injection h with h; subst h
      exact to_fin mixed ⟨[], [], [], [], [], []⟩ (V := (vals [] [])) (n := 3000) (f := 3000) (fid := 197) (fun _ => rfl) ⟨tv, tv, tv, tv, tv⟩ tv (R := ⟨.tup [(ys 0), .bs (.v 1)], [], []⟩) (qs := [.num (.c 0) (.v 0), .num (.c 0) (.v 1)]) tv ⟨rfl, tv⟩ hF hr (by kernel_rfl) ⟨(r (0 : Int)), rfl, tv⟩ hat
     ·intro y25 hy aa2 ww2 hat
      subst hy
      dsimp only at h
      show (Wk.out (.exit 0)).goal _ _ _ [.bk 0, .sq (subAt (bodyOf Tryz.prog 197) [1, 1, 1, 1, 1, 1]) [1, 1, 1, 1, 1, 1]] _ aa2 ww2
      injection h with h; subst h
      exact to_fin mixed ⟨[], [], [], [], [], []⟩ (V := (vals [y25] [])) (n := 3000) (f := 3000) (fid := 197) (fun _ => rfl) ⟨tv, tv, tv, tv, tv⟩ tv (R := ⟨.tup [(ys 0), .bs (.v 1)], [], []⟩) (qs := [(ns 0 0), .num (.c 1) (.v 1)]) tv ⟨rfl, tv⟩ hF hr (by kernel_rfl) ⟨(r y25), rfl, tv⟩ hat
def slices_Index_int_int_L1 (fu : Nat) (p0 : List (Int)) (p1 : Int) (p2 : Int) : Nat → Int → Option ((Int) ⊕ (Unit))
 | 0, _ => none
 | n + 1, v3 => if v3 < p2 then (if (0 : Int) ≤ v3 then (if v3 < (p0.length : Int) then (Option.bind ((p0)[0 + (v3).toNat]?) fun e4 => if p1 = e4 then (some (.inl v3)) else (slices_Index_int_int_L1 fu p0 p1 p2 n (IntKind.wrap .i64 (v3 + (1 : Int))))) else none) else none) else (some (.inr ()))
theorem slices_Index_int_int_L1_ok (fu : Nat) (p0 : List (Int)) (p1 : Int) (p2 : Int) : ∀ (n : Nat) (v3 : Int) (o : (Int) ⊕ (Unit)), slices_Index_int_int_L1 fu p0 p1 p2 n v3 = some o → ∀ (φ0 : Phi) (w0 : World) (F : Fence) (k : Nat) (R : Exit → Act → World → Prop) (a : Act) (w : World), FW F → F.round = none → AtS (vals [(p0.length : Int), p1, p2, v3] [(p0.flatMap enI)]) [(0, .gs 0 0 (.v 0) 1 false), (1, (ys 1)), (7, (ys 2)), (8, (ys 3))] [some (.rows 0 [] 3 true)] 19 1 1 φ0 w0 a w → (∀ (y : Int), o = .inl y → ∀ a' w', AtS (vals [(p0.length : Int), y] [(p0.flatMap enI)]) [(4, (ys 1))] [some (.rows 0 [] 3 true)] 19 1 1 φ0 w0 a' w' → R Exit.ret a' w') → (∀ (y : Unit), o = .inr y → ∀ a' w', AtS (vals [(p0.length : Int)] [(p0.flatMap enI)]) [] [some (.rows 0 [] 3 true)] 19 1 1 φ0 w0 a' w' → R (Exit.exit 0) a' w') → Code.roundsIn F k Tryz.prog (subAt (bodyOf Tryz.prog 304) [1, 0, 1, 0, 0]) R n a w
 | 0, _, _, h => by cases h
 | n + 1, v3, o, h => by
  intro φ0 w0 F k R a w hF hr hat hx0 hx1
  rw [slices_Index_int_int_L1] at h
  refine rounds_in (p := [1, 0, 1, 0, 0]) ?_
  by_cases h1 : v3 < p2
  ·rw [if_pos h1] at h
   by_cases h2 : (0 : Int) ≤ v3
   ·rw [if_pos h2] at h
    by_cases h3 : v3 < (p0.length : Int)
    ·rw [if_pos h3] at h
     obtain ⟨e4, he4, h⟩ := bs1 h
     by_cases h5 : p1 = e4
     ·rw [if_pos h5] at h
      injection h with h; subst h
      exact to_done mixed ⟨[(.lss, (.v 3), (.v 2), true), (.leq, (.c 0), (.v 3), true), (.lss, (.v 3), (.v 0), true), (.eql, (.v 1), (.v 4), true)], [(0, 0, (.v 3), [(ys 4)])], [(0, 1, (.v 0))], [], [], []⟩ (V := (vals [(p0.length : Int), p1, p2, v3, e4] [(p0.flatMap enI)])) (n := 3000) (f := 3000) (fid := 304) (fun _ => rfl) (V' := (vals [(p0.length : Int), v3] [(p0.flatMap enI)])) ⟨⟨lss_t h1, leq_t h2, lss_t h3, eql_t h5, tv⟩, ⟨⟨h2, _, rfl, flat_row enI_len he4⟩, tv⟩, ⟨flat_length enI_len _, tv⟩, tv, tv⟩ tv (T := ⟨[(4, (ys 1))], [some (.rows 0 [] 3 true)], [some (0, 0)]⟩) (ce := .ret) (qs := [(ns 3 1), .lst 0 (some 0) []]) rfl tv hF hr (by kernel_rfl) ⟨(r v3), ⟨[], rfl, lnil _⟩, tv⟩ (at_re (V' := (vals [(p0.length : Int), p1, p2, v3, e4] [(p0.flatMap enI)])) (T := ⟨[(0, .gs 0 0 (.v 0) 1 false), (1, (ys 1)), (7, (ys 2)), (8, (ys 3))], [some (.rows 0 [] 3 true)], [some (0, 0)]⟩) (qs := [(ns 0 0), (ns 1 1), (ns 2 2), (ns 3 3), .lst 0 (some 0) []]) hat (by kernel_rfl) ⟨rfl, rfl, rfl, rfl, ⟨[], rfl, lnil _⟩, tv⟩) fun a' w' hat' => hx0 v3 rfl a' w' hat'
     ·rw [if_neg h5] at h
      refine to_done mixed ⟨[(.lss, (.v 3), (.v 2), true), (.leq, (.c 0), (.v 3), true), (.lss, (.v 3), (.v 0), true), (.eql, (.v 1), (.v 4), false)], [(0, 0, (.v 3), [(ys 4)])], [(0, 1, (.v 0))], [], [], []⟩ (V := (vals [(p0.length : Int), p1, p2, v3, e4] [(p0.flatMap enI)])) (n := 3000) (f := 3000) (fid := 304) (fun _ => rfl) (V' := (vals [(p0.length : Int), p1, p2, (IntKind.wrap .i64 (v3 + (1 : Int)))] [(p0.flatMap enI)])) ⟨⟨lss_t h1, leq_t h2, lss_t h3, eql_f h5, tv⟩, ⟨⟨h2, _, rfl, flat_row enI_len he4⟩, tv⟩, ⟨flat_length enI_len _, tv⟩, tv, tv⟩ tv (T := ⟨[(0, .gs 0 0 (.v 0) 1 false), (1, (ys 1)), (7, (ys 2)), (8, (ys 3))], [some (.rows 0 [] 3 true)], [some (0, 0)]⟩) (ce := .normal) (qs := [(ns 0 0), (ns 1 1), (ns 2 2), .num (.add .i64 (.v 3) (.c 1)) (.v 3), .lst 0 (some 0) []]) rfl tv hF hr (by kernel_rfl) ⟨(r (p0.length : Int)), (r p1), (r p2), (r (IntKind.wrap .i64 (v3 + (1 : Int)))), ⟨[], rfl, lnil _⟩, tv⟩ (at_re (V' := (vals [(p0.length : Int), p1, p2, v3, e4] [(p0.flatMap enI)])) (T := ⟨[(0, .gs 0 0 (.v 0) 1 false), (1, (ys 1)), (7, (ys 2)), (8, (ys 3))], [some (.rows 0 [] 3 true)], [some (0, 0)]⟩) (qs := [(ns 0 0), (ns 1 1), (ns 2 2), (ns 3 3), .lst 0 (some 0) []]) hat (by kernel_rfl) ⟨rfl, rfl, rfl, rfl, ⟨[], rfl, lnil _⟩, tv⟩) fun a' w' hat' => ?_
      exact slices_Index_int_int_L1_ok fu p0 p1 p2 n (IntKind.wrap .i64 (v3 + (1 : Int))) o h _ _ _ _ _ _ _ hF hr hat' hx0 hx1
    ·rw [if_neg h3] at h
     cases h
   ·rw [if_neg h2] at h
    cases h
  ·rw [if_neg h1] at h
   injection h with h; subst h
   exact to_done mixed ⟨[(.lss, (.v 3), (.v 2), false)], [], [(0, 1, (.v 0))], [], [], []⟩ (V := (vals [(p0.length : Int), p1, p2, v3] [(p0.flatMap enI)])) (n := 3000) (f := 3000) (fid := 304) (fun _ => rfl) (V' := (vals [(p0.length : Int)] [(p0.flatMap enI)])) ⟨⟨lss_f h1, tv⟩, tv, ⟨flat_length enI_len _, tv⟩, tv, tv⟩ tv (T := ⟨[], [some (.rows 0 [] 3 true)], [some (0, 0)]⟩) (ce := (.exit 0)) (qs := [.lst 0 (some 0) []]) rfl tv hF hr (by kernel_rfl) ⟨⟨[], rfl, lnil _⟩, tv⟩ hat fun a' w' hat' => hx1 () rfl a' w' hat'
def slices_Index_int_int (fu : Nat) (a0 : List (Int)) (a1 : Int) : Option (Int) := Option.bind (slices_Index_int_int_L1 fu a0 a1 (a0.length : Int) fu (0 : Int)) fun o1 => (match o1 with | .inl y2 => (some y2) | .inr y3 => (some (-1 : Int)))
theorem slices_Index_int_int_ok (fu : Nat) (a0 : List (Int)) (a1 : Int) (y : Int) (h : slices_Index_int_int fu a0 a1 = some y) : CallOk Tryz.prog 304 (vals [(a0.length : Int), a1] [(a0.flatMap enI)]) [.gs 0 0 (.v 0) 1 false, (ys 1)] [some (.rows 0 [] 3 true)] 1 (vals [y] []) ((ys 0)) [none] := by
 refine fun_of (nt := 19) (by kernel_rfl) (by kernel_rfl) fun φ0 w0 a w hat => ?_
 have hF := wide_fw
 have hr : Fence.wide.round = none := rfl
 unfold slices_Index_int_int at h
 obtain ⟨o1, ho1, h⟩ := bs1 h
 refine to_loop mixed ⟨[], [], [(0, 1, (.v 0))], [], [], []⟩ (V := (vals [(a0.length : Int), a1] [(a0.flatMap enI)])) (n := 3000) (f := 3000) (fid := 304) (fun _ => rfl) (V' := (vals [(a0.length : Int), a1, (a0.length : Int), (0 : Int)] [(a0.flatMap enI)])) ⟨tv, tv, ⟨flat_length enI_len _, tv⟩, tv, tv⟩ tv (T := ⟨[(0, .gs 0 0 (.v 0) 1 false), (1, (ys 1)), (7, (ys 2)), (8, (ys 3))], [some (.rows 0 [] 3 true)], [some (0, 0)]⟩) (B := subAt (bodyOf Tryz.prog 304) [1, 0, 1, 0, 0]) (K' := [.bk 0, .sq (subAt (bodyOf Tryz.prog 304) [1, 1]) [1, 1]]) (qs := [(ns 0 0), (ns 1 1), (ns 0 2), .num (.c 0) (.v 3), .lst 0 (some 0) []]) wok0 tv hF hr (by kernel_rfl) ⟨(r (a0.length : Int)), (r a1), (r (a0.length : Int)), (r (0 : Int)), ⟨[], rfl, lnil _⟩, tv⟩ hat fun aa1 ww1 hat1 => loop_in (slices_Index_int_int_L1_ok fu a0 a1 (a0.length : Int) fu (0 : Int) o1 ho1 _ _ _ _ _ _ _ hF hr hat1 ?_ ?_)
 ·intro y2 hy aa2 ww2 hat
  subst hy
  dsimp only at h
  show (Wk.out .ret).goal _ _ _ [.bk 0, .sq (subAt (bodyOf Tryz.prog 304) [1, 1]) [1, 1]] _ aa2 ww2
  injection h with h; subst h
  exact to_fin mixed ⟨[], [], [(0, 1, (.v 0))], [], [], []⟩ (V := (vals [(a0.length : Int), y2] [(a0.flatMap enI)])) (n := 3000) (f := 3000) (fid := 304) (fun _ => rfl) ⟨tv, tv, ⟨flat_length enI_len _, tv⟩, tv, tv⟩ tv (R := ⟨(ys 0), [none], [some (0, 0)]⟩) (qs := [(ns 1 0)]) tv ⟨rfl, tv⟩ hF hr (by kernel_rfl) ⟨(r y2), tv⟩ hat
 ·intro y3 hy aa2 ww2 hat
  subst hy
  dsimp only at h
  show (Wk.out (.exit 0)).goal _ _ _ [.bk 0, .sq (subAt (bodyOf Tryz.prog 304) [1, 1]) [1, 1]] _ aa2 ww2
  injection h with h; subst h
  exact to_fin mixed ⟨[], [], [(0, 1, (.v 0))], [], [], []⟩ (V := (vals [(a0.length : Int)] [(a0.flatMap enI)])) (n := 3000) (f := 3000) (fid := 304) (fun _ => rfl) ⟨tv, tv, ⟨flat_length enI_len _, tv⟩, tv, tv⟩ tv (R := ⟨(ys 0), [none], [some (0, 0)]⟩) (qs := [.num (.c (-1)) (.v 0)]) tv ⟨rfl, tv⟩ hF hr (by kernel_rfl) ⟨(show (-1 : Int) = (-1 : Int) from rfl), tv⟩ hat
def slices_Contains_int_int (fu : Nat) (a0 : List (Int)) (a1 : Int) : Option (Bool) := Option.bind (slices_Index_int_int fu a0 a1) fun r1 => if (0 : Int) ≤ r1 then (some true) else (some false)
theorem slices_Contains_int_int_ok (fu : Nat) (a0 : List (Int)) (a1 : Int) (y : Bool) (h : slices_Contains_int_int fu a0 a1 = some y) : CallOk Tryz.prog 198 (vals [(a0.length : Int), a1] [(a0.flatMap enI)]) [.gs 0 0 (.v 0) 1 false, (ys 1)] [some (.rows 0 [] 3 true)] 1 (vals [bI y] []) (.bs (.v 0)) [none] := by
 refine fun_of (nt := 9) (by kernel_rfl) (by kernel_rfl) fun φ0 w0 a w hat => ?_
 have hF := wide_fw
 have hr : Fence.wide.round = none := rfl
 unfold slices_Contains_int_int at h
 obtain ⟨r1, hr1, h⟩ := bs1 h
 have Kr1 : KO Tryz.prog [(a0.length : Int), a1, r1] [(a0.flatMap enI)] ⟨304, 1, [some (0, 0)], [.gs 0 0 (.v 0) 1 false, (ys 1)], [some (.rows 0 [] 3 true)], [(ns 0 0), (ns 1 1), .lst 0 (some 0) []], 1, (ys 0), [none], (ys 2), [], []⟩ := fun N M => ⟨_, _, [(ns 0 2)], ⟨slices_Index_int_int_ok fu a0 a1 r1 hr1, ⟨(r (a0.length : Int)), (r a1), ⟨[], rfl, lnil _⟩, tv⟩, by kernel_rfl, ⟨rfl, tv⟩⟩⟩
 by_cases h2 : (0 : Int) ≤ r1
 ·rw [if_pos h2] at h
  injection h with h; subst h
  exact to_fin mixed ⟨[(.geq, (.v 2), (.c 0), true)], [], [(0, 1, (.v 0))], [⟨304, 1, [some (0, 0)], [.gs 0 0 (.v 0) 1 false, (ys 1)], [some (.rows 0 [] 3 true)], [(ns 0 0), (ns 1 1), .lst 0 (some 0) []], 1, (ys 0), [none], (ys 2), [], []⟩], [], []⟩ (V := (vals [(a0.length : Int), a1, r1] [(a0.flatMap enI)])) (n := 3000) (f := 3000) (fid := 198) (fun _ => rfl) ⟨⟨geq_t h2, tv⟩, tv, ⟨flat_length enI_len _, tv⟩, tv, tv⟩ ⟨Kr1 _ _, tv⟩ (R := ⟨.bs (.v 0), [none], [some (0, 0)]⟩) (qs := [.num (.c 1) (.v 0)]) wok0 tv hF hr (by kernel_rfl) ⟨rfl, tv⟩ (at_re (V' := (vals [(a0.length : Int), a1, r1] [(a0.flatMap enI)])) (T := ⟨[(0, .gs 0 0 (.v 0) 1 false), (1, (ys 1))], [some (.rows 0 [] 3 true)], [some (0, 0)]⟩) (qs := [(ns 0 0), (ns 1 1), .lst 0 (some 0) []]) hat (by kernel_rfl) ⟨rfl, rfl, ⟨[], rfl, lnil _⟩, tv⟩)
 ·rw [if_neg h2] at h
  injection h with h; subst h
  exact to_fin mixed ⟨[(.geq, (.v 2), (.c 0), false)], [], [(0, 1, (.v 0))], [⟨304, 1, [some (0, 0)], [.gs 0 0 (.v 0) 1 false, (ys 1)], [some (.rows 0 [] 3 true)], [(ns 0 0), (ns 1 1), .lst 0 (some 0) []], 1, (ys 0), [none], (ys 2), [], []⟩], [], []⟩ (V := (vals [(a0.length : Int), a1, r1] [(a0.flatMap enI)])) (n := 3000) (f := 3000) (fid := 198) (fun _ => rfl) ⟨⟨geq_f h2, tv⟩, tv, ⟨flat_length enI_len _, tv⟩, tv, tv⟩ ⟨Kr1 _ _, tv⟩ (R := ⟨.bs (.v 0), [none], [some (0, 0)]⟩) (qs := [.num (.c 0) (.v 0)]) wok0 tv hF hr (by kernel_rfl) ⟨rfl, tv⟩ (at_re (V' := (vals [(a0.length : Int), a1, r1] [(a0.flatMap enI)])) (T := ⟨[(0, .gs 0 0 (.v 0) 1 false), (1, (ys 1))], [some (.rows 0 [] 3 true)], [some (0, 0)]⟩) (qs := [(ns 0 0), (ns 1 1), .lst 0 (some 0) []]) hat (by kernel_rfl) ⟨rfl, rfl, ⟨[], rfl, lnil _⟩, tv⟩)
def u_NumbersIn_L1 (fu : Nat) (p0 : List (Int)) (p1 : Int) (p3 : List (Int)) (p4 : Int) : Nat → List (Int) → Int → Option ((Unit) ⊕ (List (Int)))
 | 0, _, _ => none
 | n + 1, v2, v5 => if v5 < p4 then (if (0 : Int) ≤ v5 then (if v5 < (p3.length : Int) then (Option.bind ((p3)[0 + (v5).toNat]?) fun e4 => Option.bind (u_numberIn fu e4 p1) fun r5 => if r5.2 = true then (if (0 : Int) < (sln e4) then (if (sat e4 (0 : Int)) = (45 : Int) then (Option.bind (slices_Contains_int_int fu p0 v5) fun r9 => if r9 = true then (some (.inl ())) else (if v5 < (v2.length : Int) then (Option.bind ((v2)[0 + (v5).toNat]?) fun e12 => u_NumbersIn_L1 fu p0 p1 p3 p4 n (v2.set (0 + (v5).toNat) r5.1) (IntKind.wrap .i64 (v5 + (1 : Int)))) else none)) else (if v5 < (v2.length : Int) then (Option.bind ((v2)[0 + (v5).toNat]?) fun e14 => u_NumbersIn_L1 fu p0 p1 p3 p4 n (v2.set (0 + (v5).toNat) r5.1) (IntKind.wrap .i64 (v5 + (1 : Int)))) else none)) else none) else (some (.inl ()))) else none) else none) else (some (.inr v2))
theorem u_NumbersIn_L1_ok (fu : Nat) (p0 : List (Int)) (p1 : Int) (p3 : List (Int)) (p4 : Int) : ∀ (n : Nat) (v2 : List (Int)) (v5 : Int) (o : (Unit) ⊕ (List (Int))), u_NumbersIn_L1 fu p0 p1 p3 p4 n v2 v5 = some o → ∀ (φ0 : Phi) (w0 : World) (F : Fence) (k : Nat) (R : Exit → Act → World → Prop) (a : Act) (w : World), FW F → F.round = none → AtS (vals [(p0.length : Int), p1, (v2.length : Int), (p3.length : Int), p4, v5] [(p0.flatMap enI), (v2.flatMap enI), (p3.flatMap enS)]) [(1, (ys 1)), (2, .gs 0 0 (.v 0) 1 false), (9, .gs 1 0 (.v 2) 1 true), (19, .gs 2 0 (.v 3) 1 true), (20, (ys 4)), (21, (ys 5))] [some (.rows 0 [] 3 true), some (.rows 1 [] 3 false), some (.rows 2 [] 9 false)] 50 1 1 φ0 w0 a w → (∀ (y : Unit), o = .inl y → ∀ a' w', AtS (vals [(p0.length : Int)] [(p0.flatMap enI)]) [(6, .nils), (7, .bool false)] [some (.rows 0 [] 3 true)] 50 1 1 φ0 w0 a' w' → R Exit.ret a' w') → (∀ (y : List (Int)), o = .inr y → ∀ a' w', AtS (vals [(p0.length : Int), (y.length : Int)] [(p0.flatMap enI), (y.flatMap enI)]) [(9, .gs 1 0 (.v 1) 1 true)] [some (.rows 0 [] 3 true), some (.rows 1 [] 3 false)] 50 1 1 φ0 w0 a' w' → R (Exit.exit 0) a' w') → Code.roundsIn F k Tryz.prog (subAt (bodyOf Tryz.prog 92) [1, 1, 1, 0, 1, 0, 0]) R n a w
 | 0, _, _, _, h => by cases h
 | n + 1, v2, v5, o, h => by
  intro φ0 w0 F k R a w hF hr hat hx0 hx1
  rw [u_NumbersIn_L1] at h
  refine rounds_in (p := [1, 1, 1, 0, 1, 0, 0]) ?_
  by_cases h1 : v5 < p4
  ·rw [if_pos h1] at h
   by_cases h2 : (0 : Int) ≤ v5
   ·rw [if_pos h2] at h
    by_cases h3 : v5 < (p3.length : Int)
    ·rw [if_pos h3] at h
     obtain ⟨e4, he4, h⟩ := bs1 h
     obtain ⟨r5, hr5, h⟩ := bs1 h
     have Kr5 : KO Tryz.prog [(p0.length : Int), p1, (v2.length : Int), (p3.length : Int), p4, v5, e4, r5.1, bI r5.2] [(p0.flatMap enI), (v2.flatMap enI), (p3.flatMap enS)] ⟨197, 3, [], [.ss (.v 0), (ys 1)], [], [(ns 6 0), (ns 1 1)], 0, .tup [(ys 0), .bs (.v 1)], [], .tup [(ys 7), .bs (.v 8)], [], []⟩ := fun N M => ⟨_, _, [(ns 0 7), (ns 1 8)], ⟨u_numberIn_ok fu e4 p1 r5 hr5, ⟨(r e4), (r p1), tv⟩, by kernel_rfl, ⟨rfl, rfl, tv⟩⟩⟩
     by_cases h6 : r5.2 = true
     ·rw [if_pos h6] at h
      by_cases h7 : (0 : Int) < (sln e4)
      ·rw [if_pos h7] at h
       by_cases h8 : (sat e4 (0 : Int)) = (45 : Int)
       ·rw [if_pos h8] at h
        obtain ⟨r9, hr9, h⟩ := bs1 h
        have Kr9 : KO Tryz.prog [(p0.length : Int), p1, (v2.length : Int), (p3.length : Int), p4, v5, e4, r5.1, bI r5.2, bI r9] [(p0.flatMap enI), (v2.flatMap enI), (p3.flatMap enS)] ⟨198, 3, [some (0, 0)], [.gs 0 0 (.v 0) 1 false, (ys 1)], [some (.rows 0 [] 3 true)], [(ns 0 0), (ns 5 1), .lst 0 (some 0) []], 1, .bs (.v 0), [none], .bs (.v 9), [], []⟩ := fun N M => ⟨_, _, [(ns 0 9)], ⟨slices_Contains_int_int_ok fu p0 v5 r9 hr9, ⟨(r (p0.length : Int)), (r v5), ⟨[], rfl, lnil _⟩, tv⟩, by kernel_rfl, ⟨rfl, tv⟩⟩⟩
        by_cases h10 : r9 = true
        ·rw [if_pos h10] at h
         injection h with h; subst h
         exact to_done mixed ⟨[(.lss, (.v 5), (.v 4), true), (.leq, (.c 0), (.v 5), true), (.lss, (.v 5), (.v 3), true), (.neq, (.v 8), (.c 0), true), (.lss, (.c 0), (.sln (.v 6)), true), (.eql, (.sat (.v 6) (.c 0)), (.c 45), true), (.neq, (.v 9), (.c 0), true)], [(2, 0, (.v 5), [.ss (.v 6)])], [(0, 1, (.v 0)), (1, 1, (.v 2)), (2, 1, (.v 3))], [⟨197, 3, [], [.ss (.v 0), (ys 1)], [], [(ns 6 0), (ns 1 1)], 0, .tup [(ys 0), .bs (.v 1)], [], .tup [(ys 7), .bs (.v 8)], [], []⟩, ⟨198, 3, [some (0, 0)], [.gs 0 0 (.v 0) 1 false, (ys 1)], [some (.rows 0 [] 3 true)], [(ns 0 0), (ns 5 1), .lst 0 (some 0) []], 1, .bs (.v 0), [none], .bs (.v 9), [], []⟩], [], []⟩ (V := (vals [(p0.length : Int), p1, (v2.length : Int), (p3.length : Int), p4, v5, e4, r5.1, bI r5.2, bI r9] [(p0.flatMap enI), (v2.flatMap enI), (p3.flatMap enS)])) (n := 3000) (f := 3000) (fid := 92) (fun _ => rfl) (V' := (vals [(p0.length : Int)] [(p0.flatMap enI)])) ⟨⟨lss_t h1, leq_t h2, lss_t h3, bi_t h6, lss_t h7, eql_t h8, bi_t h10, tv⟩, ⟨⟨h2, _, rfl, flat_row enS_len he4⟩, tv⟩, ⟨flat_length enI_len _, flat_length enI_len _, flat_length enS_len _, tv⟩, tv, tv⟩ ⟨Kr5 _ _, Kr9 _ _, tv⟩ (T := ⟨[(6, .nils), (7, .bool false)], [some (.rows 0 [] 3 true)], [some (0, 0)]⟩) (ce := .ret) (qs := [.lst 0 (some 0) []]) rfl tv hF hr (by kernel_rfl) ⟨⟨[], rfl, lnil _⟩, tv⟩ (at_re (V' := (vals [(p0.length : Int), p1, (v2.length : Int), (p3.length : Int), p4, v5, e4, r5.1, bI r5.2, bI r9] [(p0.flatMap enI), (v2.flatMap enI), (p3.flatMap enS)])) (T := ⟨[(1, (ys 1)), (2, .gs 0 0 (.v 0) 1 false), (9, .gs 1 0 (.v 2) 1 true), (19, .gs 2 0 (.v 3) 1 true), (20, (ys 4)), (21, (ys 5))], [some (.rows 0 [] 3 true), some (.rows 1 [] 3 false), some (.rows 2 [] 9 false)], [some (0, 0), some (1, 0), some (2, 0)]⟩) (qs := [(ns 1 1), (ns 0 0), (ns 2 2), (ns 3 3), (ns 4 4), (ns 5 5), .lst 0 (some 0) [], .lst 1 (some 1) [], .lst 2 (some 2) []]) hat (by kernel_rfl) ⟨rfl, rfl, rfl, rfl, rfl, rfl, ⟨[], rfl, lnil _⟩, ⟨[], rfl, lnil _⟩, ⟨[], rfl, lnil _⟩, tv⟩) fun a' w' hat' => hx0 () rfl a' w' hat'
        ·rw [if_neg h10] at h
         by_cases h11 : v5 < (v2.length : Int)
         ·rw [if_pos h11] at h
          obtain ⟨e12, he12, h⟩ := bs1 h
          refine to_done mixed ⟨[(.lss, (.v 5), (.v 4), true), (.leq, (.c 0), (.v 5), true), (.lss, (.v 5), (.v 3), true), (.neq, (.v 8), (.c 0), true), (.lss, (.c 0), (.sln (.v 6)), true), (.eql, (.sat (.v 6) (.c 0)), (.c 45), true), (.neq, (.v 9), (.c 0), false), (.lss, (.v 5), (.v 2), true)], [(2, 0, (.v 5), [.ss (.v 6)])], [(0, 1, (.v 0)), (1, 1, (.v 2)), (2, 1, (.v 3)), (3, 1, (.v 2))], [⟨197, 3, [], [.ss (.v 0), (ys 1)], [], [(ns 6 0), (ns 1 1)], 0, .tup [(ys 0), .bs (.v 1)], [], .tup [(ys 7), .bs (.v 8)], [], []⟩, ⟨198, 3, [some (0, 0)], [.gs 0 0 (.v 0) 1 false, (ys 1)], [some (.rows 0 [] 3 true)], [(ns 0 0), (ns 5 1), .lst 0 (some 0) []], 1, .bs (.v 0), [none], .bs (.v 9), [], []⟩], [⟨1, 0, (.v 5), 1, 0, [(ys 7)], 3⟩], []⟩ (V := (vals [(p0.length : Int), p1, (v2.length : Int), (p3.length : Int), p4, v5, e4, r5.1, bI r5.2, bI r9] [(p0.flatMap enI), (v2.flatMap enI), (p3.flatMap enS), ((v2.set (0 + (v5).toNat) r5.1).flatMap enI)])) (n := 3000) (f := 3000) (fid := 92) (fun _ => rfl) (V' := (vals [(p0.length : Int), p1, ((v2.set (0 + (v5).toNat) r5.1).length : Int), (p3.length : Int), p4, (IntKind.wrap .i64 (v5 + (1 : Int)))] [(p0.flatMap enI), ((v2.set (0 + (v5).toNat) r5.1).flatMap enI), (p3.flatMap enS)])) ⟨⟨lss_t h1, leq_t h2, lss_t h3, bi_t h6, lss_t h7, eql_t h8, bi_f h10, lss_t h11, tv⟩, ⟨⟨h2, _, rfl, flat_row enS_len he4⟩, tv⟩, ⟨flat_length enI_len _, flat_length enI_len _, flat_length enS_len _, flat_set_len enI_len (0 + (v5).toNat) r5.1 (flat_length enI_len _), tv⟩, ⟨⟨h2, _, rfl, flat_upd enI_len (d := 0) (n := 1) rfl (by decide) rfl he12⟩, tv⟩, tv⟩ ⟨Kr5 _ _, Kr9 _ _, tv⟩ (T := ⟨[(1, (ys 1)), (2, .gs 0 0 (.v 0) 1 false), (9, .gs 1 0 (.v 2) 1 true), (19, .gs 2 0 (.v 3) 1 true), (20, (ys 4)), (21, (ys 5))], [some (.rows 0 [] 3 true), some (.rows 1 [] 3 false), some (.rows 2 [] 9 false)], [some (0, 0), some (1, 0), some (2, 0)]⟩) (ce := .normal) (qs := [(ns 1 1), (ns 0 0), (ns 2 2), (ns 3 3), (ns 4 4), .num (.add .i64 (.v 5) (.c 1)) (.v 5), .lst 0 (some 0) [], .lst 1 (some 3) [], .lst 2 (some 2) []]) rfl tv hF hr (by kernel_rfl) ⟨(r p1), (r (p0.length : Int)), (show (v2.length : Int) = ((v2.set (0 + (v5).toNat) r5.1).length : Int) by first | rfl | (simp only [List.length_set]; done) | (simp only [List.length_set, List.length_replicate, List.length_append, List.length_cons, List.length_nil]; omega)), (r (p3.length : Int)), (r p4), (r (IntKind.wrap .i64 (v5 + (1 : Int)))), ⟨[], rfl, lnil _⟩, ⟨[], rfl, lnil _⟩, ⟨[], rfl, lnil _⟩, tv⟩ (at_re (V' := (vals [(p0.length : Int), p1, (v2.length : Int), (p3.length : Int), p4, v5, e4, r5.1, bI r5.2, bI r9] [(p0.flatMap enI), (v2.flatMap enI), (p3.flatMap enS), ((v2.set (0 + (v5).toNat) r5.1).flatMap enI)])) (T := ⟨[(1, (ys 1)), (2, .gs 0 0 (.v 0) 1 false), (9, .gs 1 0 (.v 2) 1 true), (19, .gs 2 0 (.v 3) 1 true), (20, (ys 4)), (21, (ys 5))], [some (.rows 0 [] 3 true), some (.rows 1 [] 3 false), some (.rows 2 [] 9 false)], [some (0, 0), some (1, 0), some (2, 0)]⟩) (qs := [(ns 1 1), (ns 0 0), (ns 2 2), (ns 3 3), (ns 4 4), (ns 5 5), .lst 0 (some 0) [], .lst 1 (some 1) [], .lst 2 (some 2) []]) hat (by kernel_rfl) ⟨rfl, rfl, rfl, rfl, rfl, rfl, ⟨[], rfl, lnil _⟩, ⟨[], rfl, lnil _⟩, ⟨[], rfl, lnil _⟩, tv⟩) fun a' w' hat' => ?_
          exact u_NumbersIn_L1_ok fu p0 p1 p3 p4 n (v2.set (0 + (v5).toNat) r5.1) (IntKind.wrap .i64 (v5 + (1 : Int))) o h _ _ _ _ _ _ _ hF hr hat' hx0 hx1
         ·rw [if_neg h11] at h
          cases h
       ·rw [if_neg h8] at h
        by_cases h13 : v5 < (v2.length : Int)
        ·rw [if_pos h13] at h
         obtain ⟨e14, he14, h⟩ := bs1 h
         refine to_done mixed ⟨[(.lss, (.v 5), (.v 4), true), (.leq, (.c 0), (.v 5), true), (.lss, (.v 5), (.v 3), true), (.neq, (.v 8), (.c 0), true), (.lss, (.c 0), (.sln (.v 6)), true), (.eql, (.sat (.v 6) (.c 0)), (.c 45), false), (.lss, (.v 5), (.v 2), true)], [(2, 0, (.v 5), [.ss (.v 6)])], [(0, 1, (.v 0)), (1, 1, (.v 2)), (2, 1, (.v 3)), (3, 1, (.v 2))], [⟨197, 3, [], [.ss (.v 0), (ys 1)], [], [(ns 6 0), (ns 1 1)], 0, .tup [(ys 0), .bs (.v 1)], [], .tup [(ys 7), .bs (.v 8)], [], []⟩], [⟨1, 0, (.v 5), 1, 0, [(ys 7)], 3⟩], []⟩ (V := (vals [(p0.length : Int), p1, (v2.length : Int), (p3.length : Int), p4, v5, e4, r5.1, bI r5.2] [(p0.flatMap enI), (v2.flatMap enI), (p3.flatMap enS), ((v2.set (0 + (v5).toNat) r5.1).flatMap enI)])) (n := 3000) (f := 3000) (fid := 92) (fun _ => rfl) (V' := (vals [(p0.length : Int), p1, ((v2.set (0 + (v5).toNat) r5.1).length : Int), (p3.length : Int), p4, (IntKind.wrap .i64 (v5 + (1 : Int)))] [(p0.flatMap enI), ((v2.set (0 + (v5).toNat) r5.1).flatMap enI), (p3.flatMap enS)])) ⟨⟨lss_t h1, leq_t h2, lss_t h3, bi_t h6, lss_t h7, eql_f h8, lss_t h13, tv⟩, ⟨⟨h2, _, rfl, flat_row enS_len he4⟩, tv⟩, ⟨flat_length enI_len _, flat_length enI_len _, flat_length enS_len _, flat_set_len enI_len (0 + (v5).toNat) r5.1 (flat_length enI_len _), tv⟩, ⟨⟨h2, _, rfl, flat_upd enI_len (d := 0) (n := 1) rfl (by decide) rfl he14⟩, tv⟩, tv⟩ ⟨Kr5 _ _, tv⟩ (T := ⟨[(1, (ys 1)), (2, .gs 0 0 (.v 0) 1 false), (9, .gs 1 0 (.v 2) 1 true), (19, .gs 2 0 (.v 3) 1 true), (20, (ys 4)), (21, (ys 5))], [some (.rows 0 [] 3 true), some (.rows 1 [] 3 false), some (.rows 2 [] 9 false)], [some (0, 0), some (1, 0), some (2, 0)]⟩) (ce := .normal) (qs := [(ns 1 1), (ns 0 0), (ns 2 2), (ns 3 3), (ns 4 4), .num (.add .i64 (.v 5) (.c 1)) (.v 5), .lst 0 (some 0) [], .lst 1 (some 3) [], .lst 2 (some 2) []]) rfl tv hF hr (by kernel_rfl) ⟨(r p1), (r (p0.length : Int)), (show (v2.length : Int) = ((v2.set (0 + (v5).toNat) r5.1).length : Int) by first | rfl | (simp only [List.length_set]; done) | (simp only [List.length_set, List.length_replicate, List.length_append, List.length_cons, List.length_nil]; omega)), (r (p3.length : Int)), (r p4), (r (IntKind.wrap .i64 (v5 + (1 : Int)))), ⟨[], rfl, lnil _⟩, ⟨[], rfl, lnil _⟩, ⟨[], rfl, lnil _⟩, tv⟩ (at_re (V' := (vals [(p0.length : Int), p1, (v2.length : Int), (p3.length : Int), p4, v5, e4, r5.1, bI r5.2] [(p0.flatMap enI), (v2.flatMap enI), (p3.flatMap enS), ((v2.set (0 + (v5).toNat) r5.1).flatMap enI)])) (T := ⟨[(1, (ys 1)), (2, .gs 0 0 (.v 0) 1 false), (9, .gs 1 0 (.v 2) 1 true), (19, .gs 2 0 (.v 3) 1 true), (20, (ys 4)), (21, (ys 5))], [some (.rows 0 [] 3 true), some (.rows 1 [] 3 false), some (.rows 2 [] 9 false)], [some (0, 0), some (1, 0), some (2, 0)]⟩) (qs := [(ns 1 1), (ns 0 0), (ns 2 2), (ns 3 3), (ns 4 4), (ns 5 5), .lst 0 (some 0) [], .lst 1 (some 1) [], .lst 2 (some 2) []]) hat (by kernel_rfl) ⟨rfl, rfl, rfl, rfl, rfl, rfl, ⟨[], rfl, lnil _⟩, ⟨[], rfl, lnil _⟩, ⟨[], rfl, lnil _⟩, tv⟩) fun a' w' hat' => ?_
         exact u_NumbersIn_L1_ok fu p0 p1 p3 p4 n (v2.set (0 + (v5).toNat) r5.1) (IntKind.wrap .i64 (v5 + (1 : Int))) o h _ _ _ _ _ _ _ hF hr hat' hx0 hx1
        ·rw [if_neg h13] at h
         cases h
      ·rw [if_neg h7] at h
       cases h
     ·rw [if_neg h6] at h
      injection h with h; subst h
      exact to_done mixed ⟨[(.lss, (.v 5), (.v 4), true), (.leq, (.c 0), (.v 5), true), (.lss, (.v 5), (.v 3), true), (.neq, (.v 8), (.c 0), false)], [(2, 0, (.v 5), [.ss (.v 6)])], [(0, 1, (.v 0)), (1, 1, (.v 2)), (2, 1, (.v 3))], [⟨197, 3, [], [.ss (.v 0), (ys 1)], [], [(ns 6 0), (ns 1 1)], 0, .tup [(ys 0), .bs (.v 1)], [], .tup [(ys 7), .bs (.v 8)], [], []⟩], [], []⟩ (V := (vals [(p0.length : Int), p1, (v2.length : Int), (p3.length : Int), p4, v5, e4, r5.1, bI r5.2] [(p0.flatMap enI), (v2.flatMap enI), (p3.flatMap enS)])) (n := 3000) (f := 3000) (fid := 92) (fun _ => rfl) (V' := (vals [(p0.length : Int)] [(p0.flatMap enI)])) ⟨⟨lss_t h1, leq_t h2, lss_t h3, bi_f h6, tv⟩, ⟨⟨h2, _, rfl, flat_row enS_len he4⟩, tv⟩, ⟨flat_length enI_len _, flat_length enI_len _, flat_length enS_len _, tv⟩, tv, tv⟩ ⟨Kr5 _ _, tv⟩ (T := ⟨[(6, .nils), (7, .bool false)], [some (.rows 0 [] 3 true)], [some (0, 0)]⟩) (ce := .ret) (qs := [.lst 0 (some 0) []]) rfl tv hF hr (by kernel_rfl) ⟨⟨[], rfl, lnil _⟩, tv⟩ (at_re (V' := (vals [(p0.length : Int), p1, (v2.length : Int), (p3.length : Int), p4, v5, e4, r5.1, bI r5.2] [(p0.flatMap enI), (v2.flatMap enI), (p3.flatMap enS)])) (T := ⟨[(1, (ys 1)), (2, .gs 0 0 (.v 0) 1 false), (9, .gs 1 0 (.v 2) 1 true), (19, .gs 2 0 (.v 3) 1 true), (20, (ys 4)), (21, (ys 5))], [some (.rows 0 [] 3 true), some (.rows 1 [] 3 false), some (.rows 2 [] 9 false)], [some (0, 0), some (1, 0), some (2, 0)]⟩) (qs := [(ns 1 1), (ns 0 0), (ns 2 2), (ns 3 3), (ns 4 4), (ns 5 5), .lst 0 (some 0) [], .lst 1 (some 1) [], .lst 2 (some 2) []]) hat (by kernel_rfl) ⟨rfl, rfl, rfl, rfl, rfl, rfl, ⟨[], rfl, lnil _⟩, ⟨[], rfl, lnil _⟩, ⟨[], rfl, lnil _⟩, tv⟩) fun a' w' hat' => hx0 () rfl a' w' hat'
    ·rw [if_neg h3] at h
     cases h
   ·rw [if_neg h2] at h
    cases h
  ·rw [if_neg h1] at h
   injection h with h; subst h
   exact to_done mixed ⟨[(.lss, (.v 5), (.v 4), false)], [], [(0, 1, (.v 0)), (1, 1, (.v 2)), (2, 1, (.v 3))], [], [], []⟩ (V := (vals [(p0.length : Int), p1, (v2.length : Int), (p3.length : Int), p4, v5] [(p0.flatMap enI), (v2.flatMap enI), (p3.flatMap enS)])) (n := 3000) (f := 3000) (fid := 92) (fun _ => rfl) (V' := (vals [(p0.length : Int), (v2.length : Int)] [(p0.flatMap enI), (v2.flatMap enI)])) ⟨⟨lss_f h1, tv⟩, tv, ⟨flat_length enI_len _, flat_length enI_len _, flat_length enS_len _, tv⟩, tv, tv⟩ tv (T := ⟨[(9, .gs 1 0 (.v 1) 1 true)], [some (.rows 0 [] 3 true), some (.rows 1 [] 3 false)], [some (0, 0), some (1, 0)]⟩) (ce := (.exit 0)) (qs := [(ns 2 1), .lst 0 (some 0) [], .lst 1 (some 1) []]) rfl tv hF hr (by kernel_rfl) ⟨(r (v2.length : Int)), ⟨[], rfl, lnil _⟩, ⟨[], rfl, lnil _⟩, tv⟩ hat fun a' w' hat' => hx1 v2 rfl a' w' hat'
def u_NumbersIn (fu : Nat) (a0 : Int) (a1 : Int) (a2 : List (Int)) : Option (List (Int) × Bool) := Option.bind (strings_Split a0 (-17 : Int)) fun r1 => if (0 : Int) ≤ (r1.length : Int) then (if (r1.length : Int) < (65536 : Int) then (Option.bind (u_NumbersIn_L1 fu a2 a1 r1 (r1.length : Int) fu (List.replicate ((r1.length : Int)).toNat (0 : Int)) (0 : Int)) fun o4 => (match o4 with | .inl y5 => (some (([] : List (Int)), false)) | .inr y6 => (some (y6, true)))) else none) else none
theorem u_NumbersIn_ok (fu : Nat) (a0 : Int) (a1 : Int) (a2 : List (Int)) (y : List (Int) × Bool) (h : u_NumbersIn fu a0 a1 a2 = some y) : CallOk Tryz.prog 92 (vals [a0, a1, (a2.length : Int)] [(a2.flatMap enI)]) [.ss (.v 0), (ys 1), .gs 0 0 (.v 2) 1 false] [some (.rows 0 [] 3 true)] 1 (vals [(y.1.length : Int), bI y.2] [(y.1.flatMap enI)]) (.tup [.gs 1 0 (.v 0) 1 true, .bs (.v 1)]) [none, some (.rows 0 [] 3 false)] := by
 refine fun_of (nt := 50) (by kernel_rfl) (by kernel_rfl) fun φ0 w0 a w hat => ?_
 have hF := wide_fw
 have hr : Fence.wide.round = none := rfl
 unfold u_NumbersIn at h
 obtain ⟨r1, hr1, h⟩ := bs1 h
 have Kr1 : KO Tryz.prog [a0, a1, (a2.length : Int), (r1.length : Int)] [(a2.flatMap enI), (r1.flatMap enS)] ⟨195, 1, [], [.ss (.v 0), .ss (.v 1)], [], [(ns 0 0), .num (.c (-17)) (.v 1)], 0, .gs 0 0 (.v 0) 1 true, [some (.rows 0 [] 9 false)], .gs 1 0 (.v 3) 1 true, [some (.rows 1 [] 9 false)], []⟩ := fun N M => ⟨_, _, [(ns 0 3), .lst 1 (some 0) []], ⟨strings_Split_ok a0 (-17 : Int) r1 hr1, ⟨(r a0), (show (-17 : Int) = (-17 : Int) from rfl), tv⟩, by kernel_rfl, ⟨rfl, ⟨[], rfl, lnil _⟩, tv⟩⟩⟩
 by_cases h2 : (0 : Int) ≤ (r1.length : Int)
 ·rw [if_pos h2] at h
  by_cases h3 : (r1.length : Int) < (65536 : Int)
  ·rw [if_pos h3] at h
   obtain ⟨o4, ho4, h⟩ := bs1 h
   refine to_loop mixed ⟨[(.leq, (.c 0), (.v 3), true), (.lss, (.v 3), (.c 65536), true)], [], [(0, 1, (.v 2)), (1, 1, (.v 3)), (2, 1, (.v 3))], [⟨195, 1, [], [.ss (.v 0), .ss (.v 1)], [], [(ns 0 0), .num (.c (-17)) (.v 1)], 0, .gs 0 0 (.v 0) 1 true, [some (.rows 0 [] 9 false)], .gs 1 0 (.v 3) 1 true, [some (.rows 1 [] 9 false)], []⟩], [], [((.v 3), [.int .i64 0], 2)]⟩ (V := (vals [a0, a1, (a2.length : Int), (r1.length : Int)] [(a2.flatMap enI), (r1.flatMap enS), ((List.replicate ((r1.length : Int)).toNat (0 : Int)).flatMap enI)])) (n := 3000) (f := 3000) (fid := 92) (fun _ => rfl) (V' := (vals [(a2.length : Int), a1, ((List.replicate ((r1.length : Int)).toNat (0 : Int)).length : Int), (r1.length : Int), (r1.length : Int), (0 : Int)] [(a2.flatMap enI), ((List.replicate ((r1.length : Int)).toNat (0 : Int)).flatMap enI), (r1.flatMap enS)])) ⟨⟨leq_t h2, lss_t h3, tv⟩, tv, ⟨flat_length enI_len _, flat_length enS_len _, flat_made_len enI_len (0 : Int) h2, tv⟩, tv, ⟨⟨enI (0 : Int), rfl, flat_made _ _⟩, tv⟩⟩ ⟨Kr1 _ _, tv⟩ (T := ⟨[(1, (ys 1)), (2, .gs 0 0 (.v 0) 1 false), (9, .gs 1 0 (.v 2) 1 true), (19, .gs 2 0 (.v 3) 1 true), (20, (ys 4)), (21, (ys 5))], [some (.rows 0 [] 3 true), some (.rows 1 [] 3 false), some (.rows 2 [] 9 false)], [some (0, 0), some (2, 0), some (1, 0)]⟩) (B := subAt (bodyOf Tryz.prog 92) [1, 1, 1, 0, 1, 0, 0]) (K' := [.bk 0, .sq (subAt (bodyOf Tryz.prog 92) [1, 1, 1, 1]) [1, 1, 1, 1]]) (qs := [(ns 1 1), (ns 2 0), (ns 3 2), (ns 3 3), (ns 3 4), .num (.c 0) (.v 5), .lst 0 (some 0) [], .lst 1 (some 2) [], .lst 2 (some 1) []]) wok0 tv hF hr (by kernel_rfl) ⟨(r a1), (r (a2.length : Int)), (show (r1.length : Int) = ((List.replicate ((r1.length : Int)).toNat (0 : Int)).length : Int) by first | rfl | (simp only [List.length_set]; done) | (simp only [List.length_set, List.length_replicate, List.length_append, List.length_cons, List.length_nil]; omega)), (r (r1.length : Int)), (r (r1.length : Int)), (r (0 : Int)), ⟨[], rfl, lnil _⟩, ⟨[], rfl, lnil _⟩, ⟨[], rfl, lnil _⟩, tv⟩ (at_re (V' := (vals [a0, a1, (a2.length : Int), (r1.length : Int)] [(a2.flatMap enI), (r1.flatMap enS), ((List.replicate ((r1.length : Int)).toNat (0 : Int)).flatMap enI)])) (T := ⟨[(0, .ss (.v 0)), (1, (ys 1)), (2, .gs 0 0 (.v 2) 1 false)], [some (.rows 0 [] 3 true)], [some (0, 0)]⟩) (qs := [(ns 0 0), (ns 1 1), (ns 2 2), .lst 0 (some 0) []]) hat (by kernel_rfl) ⟨rfl, rfl, rfl, ⟨[], rfl, lnil _⟩, tv⟩) fun aa1 ww1 hat1 => loop_in (u_NumbersIn_L1_ok fu a2 a1 r1 (r1.length : Int) fu (List.replicate ((r1.length : Int)).toNat (0 : Int)) (0 : Int) o4 ho4 _ _ _ _ _ _ _ hF hr hat1 ?_ ?_)
   ·intro y5 hy aa2 ww2 hat
    subst hy
    dsimp only at h
    show (Wk.out .ret).goal _ _ _ [.bk 0, .sq (subAt (bodyOf Tryz.prog 92) [1, 1, 1, 1]) [1, 1, 1, 1]] _ aa2 ww2
    injection h with h; subst h
    exact to_fin mixed ⟨[], [], [(0, 1, (.v 0))], [], [], []⟩ (V := (vals [(a2.length : Int)] [(a2.flatMap enI)])) (n := 3000) (f := 3000) (fid := 92) (fun _ => rfl) ⟨tv, tv, ⟨flat_length enI_len _, tv⟩, tv, tv⟩ tv (R := ⟨.tup [.gs 1 0 (.v 0) 1 true, .bs (.v 1)], [none, some (.rows 0 [] 3 false)], [some (0, 0), none]⟩) (qs := [.num (.c 0) (.v 0), .num (.c 0) (.v 1)]) tv ⟨rfl, tv⟩ hF hr (by kernel_rfl) ⟨rfl, rfl, tv⟩ hat
   ·intro y6 hy aa2 ww2 hat
    subst hy
    dsimp only at h
    show (Wk.out (.exit 0)).goal _ _ _ [.bk 0, .sq (subAt (bodyOf Tryz.prog 92) [1, 1, 1, 1]) [1, 1, 1, 1]] _ aa2 ww2
    injection h with h; subst h
    exact to_fin mixed ⟨[], [], [(0, 1, (.v 0)), (1, 1, (.v 1))], [], [], []⟩ (V := (vals [(a2.length : Int), (y6.length : Int)] [(a2.flatMap enI), (y6.flatMap enI)])) (n := 3000) (f := 3000) (fid := 92) (fun _ => rfl) ⟨tv, tv, ⟨flat_length enI_len _, flat_length enI_len _, tv⟩, tv, tv⟩ tv (R := ⟨.tup [.gs 1 0 (.v 0) 1 true, .bs (.v 1)], [none, some (.rows 0 [] 3 false)], [some (0, 0), some (1, 0)]⟩) (qs := [(ns 1 0), .num (.c 1) (.v 1), .lst 0 (some 1) []]) tv ⟨rfl, tv⟩ hF hr (by kernel_rfl) ⟨(r (y6.length : Int)), rfl, ⟨[], rfl, lnil _⟩, tv⟩ hat
  ·rw [if_neg h3] at h
   cases h
 ·rw [if_neg h2] at h
  cases h
def u_LimitError (a0 : Int) (a1 : Int) (a2 : Int) : Option (Int) := if a0 < a1 then (some (2 : Int)) else (if a2 < a0 then (some (2 : Int)) else (some (0 : Int)))
theorem u_LimitError_ok (a0 : Int) (a1 : Int) (a2 : Int) (y : Int) (h : u_LimitError a0 a1 a2 = some y) : CallOk Tryz.prog 216 (vals [a0, a1, a2] []) [(ys 0), (ys 1), (ys 2)] [] 0 (vals [y] []) ((ys 0)) [] := by
 refine fun_of (nt := 15) (by kernel_rfl) (by kernel_rfl) fun φ0 w0 a w hat => ?_
 have hF := wide_fw
 have hr : Fence.wide.round = none := rfl
 unfold u_LimitError at h
 by_cases h1 : a0 < a1
 ·rw [if_pos h1] at h
  injection h with h; subst h
  exact to_fin mixed ⟨[(.lss, (.v 0), (.v 1), true)], [], [], [], [], []⟩ (V := (vals [a0, a1, a2] [])) (n := 3000) (f := 3000) (fid := 216) (fun _ => rfl) ⟨⟨lss_t h1, tv⟩, tv, tv, tv, tv⟩ tv (R := ⟨(ys 0), [], []⟩) (qs := [.num (.c 2) (.v 0)]) wok0 tv hF hr (by kernel_rfl) ⟨(r (2 : Int)), tv⟩ hat
 ·rw [if_neg h1] at h
  by_cases h2 : a2 < a0
  ·rw [if_pos h2] at h
   injection h with h; subst h
   exact to_fin mixed ⟨[(.lss, (.v 0), (.v 1), false), (.gtr, (.v 0), (.v 2), true)], [], [], [], [], []⟩ (V := (vals [a0, a1, a2] [])) (n := 3000) (f := 3000) (fid := 216) (fun _ => rfl) ⟨⟨lss_f h1, gtr_t h2, tv⟩, tv, tv, tv, tv⟩ tv (R := ⟨(ys 0), [], []⟩) (qs := [.num (.c 2) (.v 0)]) wok0 tv hF hr (by kernel_rfl) ⟨(r (2 : Int)), tv⟩ hat
  ·rw [if_neg h2] at h
   injection h with h; subst h
   exact to_fin mixed ⟨[(.lss, (.v 0), (.v 1), false), (.gtr, (.v 0), (.v 2), false)], [], [], [], [], []⟩ (V := (vals [a0, a1, a2] [])) (n := 3000) (f := 3000) (fid := 216) (fun _ => rfl) ⟨⟨lss_f h1, gtr_f h2, tv⟩, tv, tv, tv, tv⟩ tv (R := ⟨(ys 0), [], []⟩) (qs := [.num (.c 0) (.v 0)]) wok0 tv hF hr (by kernel_rfl) ⟨(r (0 : Int)), tv⟩ hat
def u_FirstError_L1 (fu : Nat) (p0 : List (Int)) (p1 : Int) : Nat → Int → Option ((Int) ⊕ (Unit))
 | 0, _ => none
 | n + 1, v2 => if v2 < p1 then (if (0 : Int) ≤ v2 then (if v2 < (p0.length : Int) then (Option.bind ((p0)[0 + (v2).toNat]?) fun e4 => if e4 = (0 : Int) then (u_FirstError_L1 fu p0 p1 n (IntKind.wrap .i64 (v2 + (1 : Int)))) else (some (.inl e4))) else none) else none) else (some (.inr ()))
theorem u_FirstError_L1_ok (fu : Nat) (p0 : List (Int)) (p1 : Int) : ∀ (n : Nat) (v2 : Int) (o : (Int) ⊕ (Unit)), u_FirstError_L1 fu p0 p1 n v2 = some o → ∀ (φ0 : Phi) (w0 : World) (F : Fence) (k : Nat) (R : Exit → Act → World → Prop) (a : Act) (w : World), FW F → F.round = none → AtS (vals [(p0.length : Int), p1, v2] [(p0.flatMap enI)]) [(5, .gs 0 0 (.v 0) 1 false), (6, (ys 1)), (7, (ys 2))] [some (.rows 0 [] 34 true)] 15 1 1 φ0 w0 a w → (∀ (y : Int), o = .inl y → ∀ a' w', AtS (vals [(p0.length : Int), y] [(p0.flatMap enI)]) [(2, (ys 1))] [some (.rows 0 [] 34 true)] 15 1 1 φ0 w0 a' w' → R Exit.ret a' w') → (∀ (y : Unit), o = .inr y → ∀ a' w', AtS (vals [(p0.length : Int)] [(p0.flatMap enI)]) [] [some (.rows 0 [] 34 true)] 15 1 1 φ0 w0 a' w' → R (Exit.exit 0) a' w') → Code.roundsIn F k Tryz.prog (subAt (bodyOf Tryz.prog 219) [1, 0, 1, 0, 0]) R n a w
 | 0, _, _, h => by cases h
 | n + 1, v2, o, h => by
  intro φ0 w0 F k R a w hF hr hat hx0 hx1
  rw [u_FirstError_L1] at h
  refine rounds_in (p := [1, 0, 1, 0, 0]) ?_
  by_cases h1 : v2 < p1
  ·rw [if_pos h1] at h
   by_cases h2 : (0 : Int) ≤ v2
   ·rw [if_pos h2] at h
    by_cases h3 : v2 < (p0.length : Int)
    ·rw [if_pos h3] at h
     obtain ⟨e4, he4, h⟩ := bs1 h
     by_cases h5 : e4 = (0 : Int)
     ·rw [if_pos h5] at h
      refine to_done mixed ⟨[(.lss, (.v 2), (.v 1), true), (.leq, (.c 0), (.v 2), true), (.lss, (.v 2), (.v 0), true), (.neq, (.v 3), (.c 0), false)], [(0, 0, (.v 2), [(ys 3)])], [(0, 1, (.v 0))], [], [], []⟩ (V := (vals [(p0.length : Int), p1, v2, e4] [(p0.flatMap enI)])) (n := 3000) (f := 3000) (fid := 219) (fun _ => rfl) (V' := (vals [(p0.length : Int), p1, (IntKind.wrap .i64 (v2 + (1 : Int)))] [(p0.flatMap enI)])) ⟨⟨lss_t h1, leq_t h2, lss_t h3, neq_f h5, tv⟩, ⟨⟨h2, _, rfl, flat_row enI_len he4⟩, tv⟩, ⟨flat_length enI_len _, tv⟩, tv, tv⟩ tv (T := ⟨[(5, .gs 0 0 (.v 0) 1 false), (6, (ys 1)), (7, (ys 2))], [some (.rows 0 [] 34 true)], [some (0, 0)]⟩) (ce := .normal) (qs := [(ns 0 0), (ns 1 1), .num (.add .i64 (.v 2) (.c 1)) (.v 2), .lst 0 (some 0) []]) rfl tv hF hr (by kernel_rfl) ⟨(r (p0.length : Int)), (r p1), (r (IntKind.wrap .i64 (v2 + (1 : Int)))), ⟨[], rfl, lnil _⟩, tv⟩ (at_re (V' := (vals [(p0.length : Int), p1, v2, e4] [(p0.flatMap enI)])) (T := ⟨[(5, .gs 0 0 (.v 0) 1 false), (6, (ys 1)), (7, (ys 2))], [some (.rows 0 [] 34 true)], [some (0, 0)]⟩) (qs := [(ns 0 0), (ns 1 1), (ns 2 2), .lst 0 (some 0) []]) hat (by kernel_rfl) ⟨rfl, rfl, rfl, ⟨[], rfl, lnil _⟩, tv⟩) fun a' w' hat' => ?_
      exact u_FirstError_L1_ok fu p0 p1 n (IntKind.wrap .i64 (v2 + (1 : Int))) o h _ _ _ _ _ _ _ hF hr hat' hx0 hx1
     ·rw [if_neg h5] at h
      injection h with h; subst h
      exact to_done mixed ⟨[(.lss, (.v 2), (.v 1), true), (.leq, (.c 0), (.v 2), true), (.lss, (.v 2), (.v 0), true), (.neq, (.v 3), (.c 0), true)], [(0, 0, (.v 2), [(ys 3)])], [(0, 1, (.v 0))], [], [], []⟩ (V := (vals [(p0.length : Int), p1, v2, e4] [(p0.flatMap enI)])) (n := 3000) (f := 3000) (fid := 219) (fun _ => rfl) (V' := (vals [(p0.length : Int), e4] [(p0.flatMap enI)])) ⟨⟨lss_t h1, leq_t h2, lss_t h3, neq_t h5, tv⟩, ⟨⟨h2, _, rfl, flat_row enI_len he4⟩, tv⟩, ⟨flat_length enI_len _, tv⟩, tv, tv⟩ tv (T := ⟨[(2, (ys 1))], [some (.rows 0 [] 34 true)], [some (0, 0)]⟩) (ce := .ret) (qs := [(ns 3 1), .lst 0 (some 0) []]) rfl tv hF hr (by kernel_rfl) ⟨(r e4), ⟨[], rfl, lnil _⟩, tv⟩ (at_re (V' := (vals [(p0.length : Int), p1, v2, e4] [(p0.flatMap enI)])) (T := ⟨[(5, .gs 0 0 (.v 0) 1 false), (6, (ys 1)), (7, (ys 2))], [some (.rows 0 [] 34 true)], [some (0, 0)]⟩) (qs := [(ns 0 0), (ns 1 1), (ns 2 2), .lst 0 (some 0) []]) hat (by kernel_rfl) ⟨rfl, rfl, rfl, ⟨[], rfl, lnil _⟩, tv⟩) fun a' w' hat' => hx0 e4 rfl a' w' hat'
    ·rw [if_neg h3] at h
     cases h
   ·rw [if_neg h2] at h
    cases h
  ·rw [if_neg h1] at h
   injection h with h; subst h
   exact to_done mixed ⟨[(.lss, (.v 2), (.v 1), false)], [], [(0, 1, (.v 0))], [], [], []⟩ (V := (vals [(p0.length : Int), p1, v2] [(p0.flatMap enI)])) (n := 3000) (f := 3000) (fid := 219) (fun _ => rfl) (V' := (vals [(p0.length : Int)] [(p0.flatMap enI)])) ⟨⟨lss_f h1, tv⟩, tv, ⟨flat_length enI_len _, tv⟩, tv, tv⟩ tv (T := ⟨[], [some (.rows 0 [] 34 true)], [some (0, 0)]⟩) (ce := (.exit 0)) (qs := [.lst 0 (some 0) []]) rfl tv hF hr (by kernel_rfl) ⟨⟨[], rfl, lnil _⟩, tv⟩ hat fun a' w' hat' => hx1 () rfl a' w' hat'
def u_FirstError (fu : Nat) (a0 : List (Int)) : Option (Int) := Option.bind (u_FirstError_L1 fu a0 (a0.length : Int) fu (0 : Int)) fun o1 => (match o1 with | .inl y2 => (some y2) | .inr y3 => (some (0 : Int)))
theorem u_FirstError_ok (fu : Nat) (a0 : List (Int)) (y : Int) (h : u_FirstError fu a0 = some y) : CallOk Tryz.prog 219 (vals [(a0.length : Int)] [(a0.flatMap enI)]) [.gs 0 0 (.v 0) 1 false] [some (.rows 0 [] 34 true)] 1 (vals [y] []) ((ys 0)) [none] := by
 refine fun_of (nt := 15) (by kernel_rfl) (by kernel_rfl) fun φ0 w0 a w hat => ?_
 have hF := wide_fw
 have hr : Fence.wide.round = none := rfl
 unfold u_FirstError at h
 obtain ⟨o1, ho1, h⟩ := bs1 h
 refine to_loop mixed ⟨[], [], [(0, 1, (.v 0))], [], [], []⟩ (V := (vals [(a0.length : Int)] [(a0.flatMap enI)])) (n := 3000) (f := 3000) (fid := 219) (fun _ => rfl) (V' := (vals [(a0.length : Int), (a0.length : Int), (0 : Int)] [(a0.flatMap enI)])) ⟨tv, tv, ⟨flat_length enI_len _, tv⟩, tv, tv⟩ tv (T := ⟨[(5, .gs 0 0 (.v 0) 1 false), (6, (ys 1)), (7, (ys 2))], [some (.rows 0 [] 34 true)], [some (0, 0)]⟩) (B := subAt (bodyOf Tryz.prog 219) [1, 0, 1, 0, 0]) (K' := [.bk 0, .sq (subAt (bodyOf Tryz.prog 219) [1, 1]) [1, 1]]) (qs := [(ns 0 0), (ns 0 1), .num (.c 0) (.v 2), .lst 0 (some 0) []]) wok0 tv hF hr (by kernel_rfl) ⟨(r (a0.length : Int)), (r (a0.length : Int)), (r (0 : Int)), ⟨[], rfl, lnil _⟩, tv⟩ hat fun aa1 ww1 hat1 => loop_in (u_FirstError_L1_ok fu a0 (a0.length : Int) fu (0 : Int) o1 ho1 _ _ _ _ _ _ _ hF hr hat1 ?_ ?_)
 ·intro y2 hy aa2 ww2 hat
  subst hy
  dsimp only at h
  show (Wk.out .ret).goal _ _ _ [.bk 0, .sq (subAt (bodyOf Tryz.prog 219) [1, 1]) [1, 1]] _ aa2 ww2
  injection h with h; subst h
  exact to_fin mixed ⟨[], [], [(0, 1, (.v 0))], [], [], []⟩ (V := (vals [(a0.length : Int), y2] [(a0.flatMap enI)])) (n := 3000) (f := 3000) (fid := 219) (fun _ => rfl) ⟨tv, tv, ⟨flat_length enI_len _, tv⟩, tv, tv⟩ tv (R := ⟨(ys 0), [none], [some (0, 0)]⟩) (qs := [(ns 1 0)]) tv ⟨rfl, tv⟩ hF hr (by kernel_rfl) ⟨(r y2), tv⟩ hat
 ·intro y3 hy aa2 ww2 hat
  subst hy
  dsimp only at h
  show (Wk.out (.exit 0)).goal _ _ _ [.bk 0, .sq (subAt (bodyOf Tryz.prog 219) [1, 1]) [1, 1]] _ aa2 ww2
  injection h with h; subst h
  exact to_fin mixed ⟨[], [], [(0, 1, (.v 0))], [], [], []⟩ (V := (vals [(a0.length : Int)] [(a0.flatMap enI)])) (n := 3000) (f := 3000) (fid := 219) (fun _ => rfl) ⟨tv, tv, ⟨flat_length enI_len _, tv⟩, tv, tv⟩ tv (R := ⟨(ys 0), [none], [some (0, 0)]⟩) (qs := [.num (.c 0) (.v 0)]) tv ⟨rfl, tv⟩ hF hr (by kernel_rfl) ⟨(r (0 : Int)), tv⟩ hat
end Go.Proofs.YtlfmdkmjfokgbaaGreatDoor
