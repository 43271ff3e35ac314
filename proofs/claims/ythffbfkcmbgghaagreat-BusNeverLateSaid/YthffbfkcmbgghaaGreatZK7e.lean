/-
  Go functions as Lean functions (written by tools/lift.py).
-/
import Derived.Test.YthffbfkcmbgghaaGreatZEd
import Derived.Test.YthffbfkcmbgghaaGreatZEg
import Derived.Test.YthffbfkcmbgghaaGreatZYa
import Derived.Test.YthffbfkcmbgghaaGreatZK7a
set_option linter.all false
namespace Go.Proofs.YthffbfkcmbgghaaGreat
open Go Go.RowKit Cm
set_option maxRecDepth 100000
set_option maxHeartbeats 4000000
def b_IsName_L1 (fu : Nat) (p0 : Int) : Nat → Int → Option ((Unit) ⊕ (Unit))
 | 0, _ => none
 | n + 1, v1 => if v1 < (sln p0) then (if (0 : Int) ≤ v1 then (if (97 : Int) ≤ (sat p0 v1) then (if (sat p0 v1) ≤ (122 : Int) then (b_IsName_L1 fu p0 n (IntKind.wrap .i64 (v1 + (1 : Int)))) else (if (65 : Int) ≤ (sat p0 v1) then (if (sat p0 v1) ≤ (90 : Int) then (b_IsName_L1 fu p0 n (IntKind.wrap .i64 (v1 + (1 : Int)))) else (if v1 = (0 : Int) then (some (.inl ())) else (if (sat p0 v1) = (45 : Int) then (b_IsName_L1 fu p0 n (IntKind.wrap .i64 (v1 + (1 : Int)))) else (if (sat p0 v1) < (48 : Int) then (some (.inl ())) else (if (57 : Int) < (sat p0 v1) then (some (.inl ())) else (b_IsName_L1 fu p0 n (IntKind.wrap .i64 (v1 + (1 : Int))))))))) else (if v1 = (0 : Int) then (some (.inl ())) else (if (sat p0 v1) = (45 : Int) then (b_IsName_L1 fu p0 n (IntKind.wrap .i64 (v1 + (1 : Int)))) else (if (sat p0 v1) < (48 : Int) then (some (.inl ())) else (if (57 : Int) < (sat p0 v1) then (some (.inl ())) else (b_IsName_L1 fu p0 n (IntKind.wrap .i64 (v1 + (1 : Int)))))))))) else (if (65 : Int) ≤ (sat p0 v1) then (if (sat p0 v1) ≤ (90 : Int) then (b_IsName_L1 fu p0 n (IntKind.wrap .i64 (v1 + (1 : Int)))) else (if v1 = (0 : Int) then (some (.inl ())) else (if (sat p0 v1) = (45 : Int) then (b_IsName_L1 fu p0 n (IntKind.wrap .i64 (v1 + (1 : Int)))) else (if (sat p0 v1) < (48 : Int) then (some (.inl ())) else (if (57 : Int) < (sat p0 v1) then (some (.inl ())) else (b_IsName_L1 fu p0 n (IntKind.wrap .i64 (v1 + (1 : Int))))))))) else (if v1 = (0 : Int) then (some (.inl ())) else (if (sat p0 v1) = (45 : Int) then (b_IsName_L1 fu p0 n (IntKind.wrap .i64 (v1 + (1 : Int)))) else (if (sat p0 v1) < (48 : Int) then (some (.inl ())) else (if (57 : Int) < (sat p0 v1) then (some (.inl ())) else (b_IsName_L1 fu p0 n (IntKind.wrap .i64 (v1 + (1 : Int)))))))))) else none) else (some (.inr ()))
theorem b_IsName_L1_ok (fu : Nat) (p0 : Int) : ∀ (n : Nat) (v1 : Int) (o : (Unit) ⊕ (Unit)), b_IsName_L1 fu p0 n v1 = some o → ∀ (φ0 : Phi) (w0 : World) (F : Fence) (k : Nat) (R : Exit → Act → World → Prop) (a : Act) (w : World), FW F → F.round = none → AtS (vals [p0, v1] []) [(0, .ss (.v 0)), (3, (ys 1))] [] 55 0 0 φ0 w0 a w → (∀ (y : Unit), o = .inl y → ∀ a' w', AtS (vals [] []) [(2, .bool false)] [] 55 0 0 φ0 w0 a' w' → R Exit.ret a' w') → (∀ (y : Unit), o = .inr y → ∀ a' w', AtS (vals [] []) [] [] 55 0 0 φ0 w0 a' w' → R (Exit.exit 0) a' w') → Code.roundsIn F k Tryz.prog (subAt (bodyOf Tryz.prog 110) [1, 1, 0, 1, 0, 0]) R n a w
 | 0, _, _, h => by cases h
 | n + 1, v1, o, h => by
  intro φ0 w0 F k R a w hF hr hat hx0 hx1
  rw [b_IsName_L1] at h
  refine rounds_in (p := [1, 1, 0, 1, 0, 0]) ?_
  by_cases h1 : v1 < (sln p0)
  ·rw [if_pos h1] at h
   by_cases h2 : (0 : Int) ≤ v1
   ·rw [if_pos h2] at h
    by_cases h3 : (97 : Int) ≤ (sat p0 v1)
    ·rw [if_pos h3] at h
     by_cases h4 : (sat p0 v1) ≤ (122 : Int)
     ·rw [if_pos h4] at h
      refine to_done mixed ⟨[(.lss, (.v 1), (.sln (.v 0)), true), (.leq, (.c 0), (.v 1), true), (.geq, (.sat (.v 0) (.v 1)), (.c 97), true), (.leq, (.sat (.v 0) (.v 1)), (.c 122), true)], [], [], [], [], []⟩ (V := (vals [p0, v1] [])) (n := 3000) (f := 3000) (fid := 110) (fun _ => rfl) (V' := (vals [p0, (IntKind.wrap .i64 (v1 + (1 : Int)))] [])) ⟨⟨lss_t h1, leq_t h2, geq_t h3, leq_t h4, tv⟩, tv, tv, tv, tv⟩ tv (T := ⟨[(0, .ss (.v 0)), (3, (ys 1))], [], []⟩) (ce := .normal) (qs := [(ns 0 0), .num (.add .i64 (.v 1) (.c 1)) (.v 1)]) rfl tv hF hr (by kernel_rfl) ⟨(r p0), (r (IntKind.wrap .i64 (v1 + (1 : Int)))), tv⟩ hat fun a' w' hat' => ?_
      exact b_IsName_L1_ok fu p0 n (IntKind.wrap .i64 (v1 + (1 : Int))) o h _ _ _ _ _ _ _ hF hr hat' hx0 hx1
     ·rw [if_neg h4] at h
      by_cases h5 : (65 : Int) ≤ (sat p0 v1)
      ·rw [if_pos h5] at h
       by_cases h6 : (sat p0 v1) ≤ (90 : Int)
       ·rw [if_pos h6] at h
        refine to_done mixed ⟨[(.lss, (.v 1), (.sln (.v 0)), true), (.leq, (.c 0), (.v 1), true), (.geq, (.sat (.v 0) (.v 1)), (.c 97), true), (.leq, (.sat (.v 0) (.v 1)), (.c 122), false), (.geq, (.sat (.v 0) (.v 1)), (.c 65), true), (.leq, (.sat (.v 0) (.v 1)), (.c 90), true)], [], [], [], [], []⟩ (V := (vals [p0, v1] [])) (n := 3000) (f := 3000) (fid := 110) (fun _ => rfl) (V' := (vals [p0, (IntKind.wrap .i64 (v1 + (1 : Int)))] [])) ⟨⟨lss_t h1, leq_t h2, geq_t h3, leq_f h4, geq_t h5, leq_t h6, tv⟩, tv, tv, tv, tv⟩ tv (T := ⟨[(0, .ss (.v 0)), (3, (ys 1))], [], []⟩) (ce := .normal) (qs := [(ns 0 0), .num (.add .i64 (.v 1) (.c 1)) (.v 1)]) rfl tv hF hr (by kernel_rfl) ⟨(r p0), (r (IntKind.wrap .i64 (v1 + (1 : Int)))), tv⟩ hat fun a' w' hat' => ?_
        exact b_IsName_L1_ok fu p0 n (IntKind.wrap .i64 (v1 + (1 : Int))) o h _ _ _ _ _ _ _ hF hr hat' hx0 hx1
       ·rw [if_neg h6] at h
        by_cases h7 : v1 = (0 : Int)
        ·rw [if_pos h7] at h
         injection h with h; subst h
         exact to_done mixed ⟨[(.lss, (.v 1), (.sln (.v 0)), true), (.leq, (.c 0), (.v 1), true), (.geq, (.sat (.v 0) (.v 1)), (.c 97), true), (.leq, (.sat (.v 0) (.v 1)), (.c 122), false), (.geq, (.sat (.v 0) (.v 1)), (.c 65), true), (.leq, (.sat (.v 0) (.v 1)), (.c 90), false), (.eql, (.v 1), (.c 0), true)], [], [], [], [], []⟩ (V := (vals [p0, v1] [])) (n := 3000) (f := 3000) (fid := 110) (fun _ => rfl) (V' := (vals [] [])) ⟨⟨lss_t h1, leq_t h2, geq_t h3, leq_f h4, geq_t h5, leq_f h6, eql_t h7, tv⟩, tv, tv, tv, tv⟩ tv (T := ⟨[(2, .bool false)], [], []⟩) (ce := .ret) (qs := []) rfl tv hF hr (by kernel_rfl) tv hat fun a' w' hat' => hx0 () rfl a' w' hat'
        ·rw [if_neg h7] at h
         by_cases h8 : (sat p0 v1) = (45 : Int)
         ·rw [if_pos h8] at h
          refine to_done mixed ⟨[(.lss, (.v 1), (.sln (.v 0)), true), (.leq, (.c 0), (.v 1), true), (.geq, (.sat (.v 0) (.v 1)), (.c 97), true), (.leq, (.sat (.v 0) (.v 1)), (.c 122), false), (.geq, (.sat (.v 0) (.v 1)), (.c 65), true), (.leq, (.sat (.v 0) (.v 1)), (.c 90), false), (.eql, (.v 1), (.c 0), false), (.neq, (.sat (.v 0) (.v 1)), (.c 45), false)], [], [], [], [], []⟩ (V := (vals [p0, v1] [])) (n := 3000) (f := 3000) (fid := 110) (fun _ => rfl) (V' := (vals [p0, (IntKind.wrap .i64 (v1 + (1 : Int)))] [])) ⟨⟨lss_t h1, leq_t h2, geq_t h3, leq_f h4, geq_t h5, leq_f h6, eql_f h7, neq_f h8, tv⟩, tv, tv, tv, tv⟩ tv (T := ⟨[(0, .ss (.v 0)), (3, (ys 1))], [], []⟩) (ce := .normal) (qs := [(ns 0 0), .num (.add .i64 (.v 1) (.c 1)) (.v 1)]) rfl tv hF hr (by kernel_rfl) ⟨(r p0), (r (IntKind.wrap .i64 (v1 + (1 : Int)))), tv⟩ hat fun a' w' hat' => ?_
          exact b_IsName_L1_ok fu p0 n (IntKind.wrap .i64 (v1 + (1 : Int))) o h _ _ _ _ _ _ _ hF hr hat' hx0 hx1
         ·rw [if_neg h8] at h
          by_cases h9 : (sat p0 v1) < (48 : Int)
          ·rw [if_pos h9] at h
           injection h with h; subst h
           exact to_done mixed ⟨[(.lss, (.v 1), (.sln (.v 0)), true), (.leq, (.c 0), (.v 1), true), (.geq, (.sat (.v 0) (.v 1)), (.c 97), true), (.leq, (.sat (.v 0) (.v 1)), (.c 122), false), (.geq, (.sat (.v 0) (.v 1)), (.c 65), true), (.leq, (.sat (.v 0) (.v 1)), (.c 90), false), (.eql, (.v 1), (.c 0), false), (.neq, (.sat (.v 0) (.v 1)), (.c 45), true), (.lss, (.sat (.v 0) (.v 1)), (.c 48), true)], [], [], [], [], []⟩ (V := (vals [p0, v1] [])) (n := 3000) (f := 3000) (fid := 110) (fun _ => rfl) (V' := (vals [] [])) ⟨⟨lss_t h1, leq_t h2, geq_t h3, leq_f h4, geq_t h5, leq_f h6, eql_f h7, neq_t h8, lss_t h9, tv⟩, tv, tv, tv, tv⟩ tv (T := ⟨[(2, .bool false)], [], []⟩) (ce := .ret) (qs := []) rfl tv hF hr (by kernel_rfl) tv hat fun a' w' hat' => hx0 () rfl a' w' hat'
          ·rw [if_neg h9] at h
           by_cases h10 : (57 : Int) < (sat p0 v1)
           ·rw [if_pos h10] at h
            injection h with h; subst h
            exact to_done mixed ⟨[(.lss, (.v 1), (.sln (.v 0)), true), (.leq, (.c 0), (.v 1), true), (.geq, (.sat (.v 0) (.v 1)), (.c 97), true), (.leq, (.sat (.v 0) (.v 1)), (.c 122), false), (.geq, (.sat (.v 0) (.v 1)), (.c 65), true), (.leq, (.sat (.v 0) (.v 1)), (.c 90), false), (.eql, (.v 1), (.c 0), false), (.neq, (.sat (.v 0) (.v 1)), (.c 45), true), (.lss, (.sat (.v 0) (.v 1)), (.c 48), false), (.gtr, (.sat (.v 0) (.v 1)), (.c 57), true)], [], [], [], [], []⟩ (V := (vals [p0, v1] [])) (n := 3000) (f := 3000) (fid := 110) (fun _ => rfl) (V' := (vals [] [])) ⟨⟨lss_t h1, leq_t h2, geq_t h3, leq_f h4, geq_t h5, leq_f h6, eql_f h7, neq_t h8, lss_f h9, gtr_t h10, tv⟩, tv, tv, tv, tv⟩ tv (T := ⟨[(2, .bool false)], [], []⟩) (ce := .ret) (qs := []) rfl tv hF hr (by kernel_rfl) tv hat fun a' w' hat' => hx0 () rfl a' w' hat'
           ·rw [if_neg h10] at h
            refine to_done mixed ⟨[(.lss, (.v 1), (.sln (.v 0)), true), (.leq, (.c 0), (.v 1), true), (.geq, (.sat (.v 0) (.v 1)), (.c 97), true), (.leq, (.sat (.v 0) (.v 1)), (.c 122), false), (.geq, (.sat (.v 0) (.v 1)), (.c 65), true), (.leq, (.sat (.v 0) (.v 1)), (.c 90), false), (.eql, (.v 1), (.c 0), false), (.neq, (.sat (.v 0) (.v 1)), (.c 45), true), (.lss, (.sat (.v 0) (.v 1)), (.c 48), false), (.gtr, (.sat (.v 0) (.v 1)), (.c 57), false)], [], [], [], [], []⟩ (V := (vals [p0, v1] [])) (n := 3000) (f := 3000) (fid := 110) (fun _ => rfl) (V' := (vals [p0, (IntKind.wrap .i64 (v1 + (1 : Int)))] [])) ⟨⟨lss_t h1, leq_t h2, geq_t h3, leq_f h4, geq_t h5, leq_f h6, eql_f h7, neq_t h8, lss_f h9, gtr_f h10, tv⟩, tv, tv, tv, tv⟩ tv (T := ⟨[(0, .ss (.v 0)), (3, (ys 1))], [], []⟩) (ce := .normal) (qs := [(ns 0 0), .num (.add .i64 (.v 1) (.c 1)) (.v 1)]) rfl tv hF hr (by kernel_rfl) ⟨(r p0), (r (IntKind.wrap .i64 (v1 + (1 : Int)))), tv⟩ hat fun a' w' hat' => ?_
            exact b_IsName_L1_ok fu p0 n (IntKind.wrap .i64 (v1 + (1 : Int))) o h _ _ _ _ _ _ _ hF hr hat' hx0 hx1
      ·rw [if_neg h5] at h
       by_cases h11 : v1 = (0 : Int)
       ·rw [if_pos h11] at h
        injection h with h; subst h
        exact to_done mixed ⟨[(.lss, (.v 1), (.sln (.v 0)), true), (.leq, (.c 0), (.v 1), true), (.geq, (.sat (.v 0) (.v 1)), (.c 97), true), (.leq, (.sat (.v 0) (.v 1)), (.c 122), false), (.geq, (.sat (.v 0) (.v 1)), (.c 65), false), (.eql, (.v 1), (.c 0), true)], [], [], [], [], []⟩ (V := (vals [p0, v1] [])) (n := 3000) (f := 3000) (fid := 110) (fun _ => rfl) (V' := (vals [] [])) ⟨⟨lss_t h1, leq_t h2, geq_t h3, leq_f h4, geq_f h5, eql_t h11, tv⟩, tv, tv, tv, tv⟩ tv (T := ⟨[(2, .bool false)], [], []⟩) (ce := .ret) (qs := []) rfl tv hF hr (by kernel_rfl) tv hat fun a' w' hat' => hx0 () rfl a' w' hat'
       ·rw [if_neg h11] at h
        by_cases h12 : (sat p0 v1) = (45 : Int)
        ·rw [if_pos h12] at h
         refine to_done mixed ⟨[(.lss, (.v 1), (.sln (.v 0)), true), (.leq, (.c 0), (.v 1), true), (.geq, (.sat (.v 0) (.v 1)), (.c 97), true), (.leq, (.sat (.v 0) (.v 1)), (.c 122), false), (.geq, (.sat (.v 0) (.v 1)), (.c 65), false), (.eql, (.v 1), (.c 0), false), (.neq, (.sat (.v 0) (.v 1)), (.c 45), false)], [], [], [], [], []⟩ (V := (vals [p0, v1] [])) (n := 3000) (f := 3000) (fid := 110) (fun _ => rfl) (V' := (vals [p0, (IntKind.wrap .i64 (v1 + (1 : Int)))] [])) ⟨⟨lss_t h1, leq_t h2, geq_t h3, leq_f h4, geq_f h5, eql_f h11, neq_f h12, tv⟩, tv, tv, tv, tv⟩ tv (T := ⟨[(0, .ss (.v 0)), (3, (ys 1))], [], []⟩) (ce := .normal) (qs := [(ns 0 0), .num (.add .i64 (.v 1) (.c 1)) (.v 1)]) rfl tv hF hr (by kernel_rfl) ⟨(r p0), (r (IntKind.wrap .i64 (v1 + (1 : Int)))), tv⟩ hat fun a' w' hat' => ?_
         exact b_IsName_L1_ok fu p0 n (IntKind.wrap .i64 (v1 + (1 : Int))) o h _ _ _ _ _ _ _ hF hr hat' hx0 hx1
        ·rw [if_neg h12] at h
         by_cases h13 : (sat p0 v1) < (48 : Int)
         ·rw [if_pos h13] at h
          injection h with h; subst h
          exact to_done mixed ⟨[(.lss, (.v 1), (.sln (.v 0)), true), (.leq, (.c 0), (.v 1), true), (.geq, (.sat (.v 0) (.v 1)), (.c 97), true), (.leq, (.sat (.v 0) (.v 1)), (.c 122), false), (.geq, (.sat (.v 0) (.v 1)), (.c 65), false), (.eql, (.v 1), (.c 0), false), (.neq, (.sat (.v 0) (.v 1)), (.c 45), true), (.lss, (.sat (.v 0) (.v 1)), (.c 48), true)], [], [], [], [], []⟩ (V := (vals [p0, v1] [])) (n := 3000) (f := 3000) (fid := 110) (fun _ => rfl) (V' := (vals [] [])) ⟨⟨lss_t h1, leq_t h2, geq_t h3, leq_f h4, geq_f h5, eql_f h11, neq_t h12, lss_t h13, tv⟩, tv, tv, tv, tv⟩ tv (T := ⟨[(2, .bool false)], [], []⟩) (ce := .ret) (qs := []) rfl tv hF hr (by kernel_rfl) tv hat fun a' w' hat' => hx0 () rfl a' w' hat'
         ·rw [if_neg h13] at h
          by_cases h14 : (57 : Int) < (sat p0 v1)
          ·rw [if_pos h14] at h
           injection h with h; subst h
           exact to_done mixed ⟨[(.lss, (.v 1), (.sln (.v 0)), true), (.leq, (.c 0), (.v 1), true), (.geq, (.sat (.v 0) (.v 1)), (.c 97), true), (.leq, (.sat (.v 0) (.v 1)), (.c 122), false), (.geq, (.sat (.v 0) (.v 1)), (.c 65), false), (.eql, (.v 1), (.c 0), false), (.neq, (.sat (.v 0) (.v 1)), (.c 45), true), (.lss, (.sat (.v 0) (.v 1)), (.c 48), false), (.gtr, (.sat (.v 0) (.v 1)), (.c 57), true)], [], [], [], [], []⟩ (V := (vals [p0, v1] [])) (n := 3000) (f := 3000) (fid := 110) (fun _ => rfl) (V' := (vals [] [])) ⟨⟨lss_t h1, leq_t h2, geq_t h3, leq_f h4, geq_f h5, eql_f h11, neq_t h12, lss_f h13, gtr_t h14, tv⟩, tv, tv, tv, tv⟩ tv (T := ⟨[(2, .bool false)], [], []⟩) (ce := .ret) (qs := []) rfl tv hF hr (by kernel_rfl) tv hat fun a' w' hat' => hx0 () rfl a' w' hat'
          ·rw [if_neg h14] at h
           refine to_done mixed ⟨[(.lss, (.v 1), (.sln (.v 0)), true), (.leq, (.c 0), (.v 1), true), (.geq, (.sat (.v 0) (.v 1)), (.c 97), true), (.leq, (.sat (.v 0) (.v 1)), (.c 122), false), (.geq, (.sat (.v 0) (.v 1)), (.c 65), false), (.eql, (.v 1), (.c 0), false), (.neq, (.sat (.v 0) (.v 1)), (.c 45), true), (.lss, (.sat (.v 0) (.v 1)), (.c 48), false), (.gtr, (.sat (.v 0) (.v 1)), (.c 57), false)], [], [], [], [], []⟩ (V := (vals [p0, v1] [])) (n := 3000) (f := 3000) (fid := 110) (fun _ => rfl) (V' := (vals [p0, (IntKind.wrap .i64 (v1 + (1 : Int)))] [])) ⟨⟨lss_t h1, leq_t h2, geq_t h3, leq_f h4, geq_f h5, eql_f h11, neq_t h12, lss_f h13, gtr_f h14, tv⟩, tv, tv, tv, tv⟩ tv (T := ⟨[(0, .ss (.v 0)), (3, (ys 1))], [], []⟩) (ce := .normal) (qs := [(ns 0 0), .num (.add .i64 (.v 1) (.c 1)) (.v 1)]) rfl tv hF hr (by kernel_rfl) ⟨(r p0), (r (IntKind.wrap .i64 (v1 + (1 : Int)))), tv⟩ hat fun a' w' hat' => ?_
           exact b_IsName_L1_ok fu p0 n (IntKind.wrap .i64 (v1 + (1 : Int))) o h _ _ _ _ _ _ _ hF hr hat' hx0 hx1
    ·rw [if_neg h3] at h
     by_cases h15 : (65 : Int) ≤ (sat p0 v1)
     ·rw [if_pos h15] at h
      by_cases h16 : (sat p0 v1) ≤ (90 : Int)
      ·rw [if_pos h16] at h
       refine to_done mixed ⟨[(.lss, (.v 1), (.sln (.v 0)), true), (.leq, (.c 0), (.v 1), true), (.geq, (.sat (.v 0) (.v 1)), (.c 97), false), (.geq, (.sat (.v 0) (.v 1)), (.c 65), true), (.leq, (.sat (.v 0) (.v 1)), (.c 90), true)], [], [], [], [], []⟩ (V := (vals [p0, v1] [])) (n := 3000) (f := 3000) (fid := 110) (fun _ => rfl) (V' := (vals [p0, (IntKind.wrap .i64 (v1 + (1 : Int)))] [])) ⟨⟨lss_t h1, leq_t h2, geq_f h3, geq_t h15, leq_t h16, tv⟩, tv, tv, tv, tv⟩ tv (T := ⟨[(0, .ss (.v 0)), (3, (ys 1))], [], []⟩) (ce := .normal) (qs := [(ns 0 0), .num (.add .i64 (.v 1) (.c 1)) (.v 1)]) rfl tv hF hr (by kernel_rfl) ⟨(r p0), (r (IntKind.wrap .i64 (v1 + (1 : Int)))), tv⟩ hat fun a' w' hat' => ?_
       exact b_IsName_L1_ok fu p0 n (IntKind.wrap .i64 (v1 + (1 : Int))) o h _ _ _ _ _ _ _ hF hr hat' hx0 hx1
      ·rw [if_neg h16] at h
       by_cases h17 : v1 = (0 : Int)
       ·rw [if_pos h17] at h
        injection h with h; subst h
        exact to_done mixed ⟨[(.lss, (.v 1), (.sln (.v 0)), true), (.leq, (.c 0), (.v 1), true), (.geq, (.sat (.v 0) (.v 1)), (.c 97), false), (.geq, (.sat (.v 0) (.v 1)), (.c 65), true), (.leq, (.sat (.v 0) (.v 1)), (.c 90), false), (.eql, (.v 1), (.c 0), true)], [], [], [], [], []⟩ (V := (vals [p0, v1] [])) (n := 3000) (f := 3000) (fid := 110) (fun _ => rfl) (V' := (vals [] [])) ⟨⟨lss_t h1, leq_t h2, geq_f h3, geq_t h15, leq_f h16, eql_t h17, tv⟩, tv, tv, tv, tv⟩ tv (T := ⟨[(2, .bool false)], [], []⟩) (ce := .ret) (qs := []) rfl tv hF hr (by kernel_rfl) tv hat fun a' w' hat' => hx0 () rfl a' w' hat'
       ·rw [if_neg h17] at h
        by_cases h18 : (sat p0 v1) = (45 : Int)
        ·rw [if_pos h18] at h
         refine to_done mixed ⟨[(.lss, (.v 1), (.sln (.v 0)), true), (.leq, (.c 0), (.v 1), true), (.geq, (.sat (.v 0) (.v 1)), (.c 97), false), (.geq, (.sat (.v 0) (.v 1)), (.c 65), true), (.leq, (.sat (.v 0) (.v 1)), (.c 90), false), (.eql, (.v 1), (.c 0), false), (.neq, (.sat (.v 0) (.v 1)), (.c 45), false)], [], [], [], [], []⟩ (V := (vals [p0, v1] [])) (n := 3000) (f := 3000) (fid := 110) (fun _ => rfl) (V' := (vals [p0, (IntKind.wrap .i64 (v1 + (1 : Int)))] [])) ⟨⟨lss_t h1, leq_t h2, geq_f h3, geq_t h15, leq_f h16, eql_f h17, neq_f h18, tv⟩, tv, tv, tv, tv⟩ tv (T := ⟨[(0, .ss (.v 0)), (3, (ys 1))], [], []⟩) (ce := .normal) (qs := [(ns 0 0), .num (.add .i64 (.v 1) (.c 1)) (.v 1)]) rfl tv hF hr (by kernel_rfl) ⟨(r p0), (r (IntKind.wrap .i64 (v1 + (1 : Int)))), tv⟩ hat fun a' w' hat' => ?_
         exact b_IsName_L1_ok fu p0 n (IntKind.wrap .i64 (v1 + (1 : Int))) o h _ _ _ _ _ _ _ hF hr hat' hx0 hx1
        ·rw [if_neg h18] at h
         by_cases h19 : (sat p0 v1) < (48 : Int)
         ·rw [if_pos h19] at h
          injection h with h; subst h
          exact to_done mixed ⟨[(.lss, (.v 1), (.sln (.v 0)), true), (.leq, (.c 0), (.v 1), true), (.geq, (.sat (.v 0) (.v 1)), (.c 97), false), (.geq, (.sat (.v 0) (.v 1)), (.c 65), true), (.leq, (.sat (.v 0) (.v 1)), (.c 90), false), (.eql, (.v 1), (.c 0), false), (.neq, (.sat (.v 0) (.v 1)), (.c 45), true), (.lss, (.sat (.v 0) (.v 1)), (.c 48), true)], [], [], [], [], []⟩ (V := (vals [p0, v1] [])) (n := 3000) (f := 3000) (fid := 110) (fun _ => rfl) (V' := (vals [] [])) ⟨⟨lss_t h1, leq_t h2, geq_f h3, geq_t h15, leq_f h16, eql_f h17, neq_t h18, lss_t h19, tv⟩, tv, tv, tv, tv⟩ tv (T := ⟨[(2, .bool false)], [], []⟩) (ce := .ret) (qs := []) rfl tv hF hr (by kernel_rfl) tv hat fun a' w' hat' => hx0 () rfl a' w' hat'
         ·rw [if_neg h19] at h
          by_cases h20 : (57 : Int) < (sat p0 v1)
          ·rw [if_pos h20] at h
           injection h with h; subst h
           exact to_done mixed ⟨[(.lss, (.v 1), (.sln (.v 0)), true), (.leq, (.c 0), (.v 1), true), (.geq, (.sat (.v 0) (.v 1)), (.c 97), false), (.geq, (.sat (.v 0) (.v 1)), (.c 65), true), (.leq, (.sat (.v 0) (.v 1)), (.c 90), false), (.eql, (.v 1), (.c 0), false), (.neq, (.sat (.v 0) (.v 1)), (.c 45), true), (.lss, (.sat (.v 0) (.v 1)), (.c 48), false), (.gtr, (.sat (.v 0) (.v 1)), (.c 57), true)], [], [], [], [], []⟩ (V := (vals [p0, v1] [])) (n := 3000) (f := 3000) (fid := 110) (fun _ => rfl) (V' := (vals [] [])) ⟨⟨lss_t h1, leq_t h2, geq_f h3, geq_t h15, leq_f h16, eql_f h17, neq_t h18, lss_f h19, gtr_t h20, tv⟩, tv, tv, tv, tv⟩ tv (T := ⟨[(2, .bool false)], [], []⟩) (ce := .ret) (qs := []) rfl tv hF hr (by kernel_rfl) tv hat fun a' w' hat' => hx0 () rfl a' w' hat'
          ·rw [if_neg h20] at h
           refine to_done mixed ⟨[(.lss, (.v 1), (.sln (.v 0)), true), (.leq, (.c 0), (.v 1), true), (.geq, (.sat (.v 0) (.v 1)), (.c 97), false), (.geq, (.sat (.v 0) (.v 1)), (.c 65), true), (.leq, (.sat (.v 0) (.v 1)), (.c 90), false), (.eql, (.v 1), (.c 0), false), (.neq, (.sat (.v 0) (.v 1)), (.c 45), true), (.lss, (.sat (.v 0) (.v 1)), (.c 48), false), (.gtr, (.sat (.v 0) (.v 1)), (.c 57), false)], [], [], [], [], []⟩ (V := (vals [p0, v1] [])) (n := 3000) (f := 3000) (fid := 110) (fun _ => rfl) (V' := (vals [p0, (IntKind.wrap .i64 (v1 + (1 : Int)))] [])) ⟨⟨lss_t h1, leq_t h2, geq_f h3, geq_t h15, leq_f h16, eql_f h17, neq_t h18, lss_f h19, gtr_f h20, tv⟩, tv, tv, tv, tv⟩ tv (T := ⟨[(0, .ss (.v 0)), (3, (ys 1))], [], []⟩) (ce := .normal) (qs := [(ns 0 0), .num (.add .i64 (.v 1) (.c 1)) (.v 1)]) rfl tv hF hr (by kernel_rfl) ⟨(r p0), (r (IntKind.wrap .i64 (v1 + (1 : Int)))), tv⟩ hat fun a' w' hat' => ?_
           exact b_IsName_L1_ok fu p0 n (IntKind.wrap .i64 (v1 + (1 : Int))) o h _ _ _ _ _ _ _ hF hr hat' hx0 hx1
     ·rw [if_neg h15] at h
      by_cases h21 : v1 = (0 : Int)
      ·rw [if_pos h21] at h
       injection h with h; subst h
       exact to_done mixed ⟨[(.lss, (.v 1), (.sln (.v 0)), true), (.leq, (.c 0), (.v 1), true), (.geq, (.sat (.v 0) (.v 1)), (.c 97), false), (.geq, (.sat (.v 0) (.v 1)), (.c 65), false), (.eql, (.v 1), (.c 0), true)], [], [], [], [], []⟩ (V := (vals [p0, v1] [])) (n := 3000) (f := 3000) (fid := 110) (fun _ => rfl) (V' := (vals [] [])) ⟨⟨lss_t h1, leq_t h2, geq_f h3, geq_f h15, eql_t h21, tv⟩, tv, tv, tv, tv⟩ tv (T := ⟨[(2, .bool false)], [], []⟩) (ce := .ret) (qs := []) rfl tv hF hr (by kernel_rfl) tv hat fun a' w' hat' => hx0 () rfl a' w' hat'
      ·rw [if_neg h21] at h
       by_cases h22 : (sat p0 v1) = (45 : Int)
       ·rw [if_pos h22] at h
        refine to_done mixed ⟨[(.lss, (.v 1), (.sln (.v 0)), true), (.leq, (.c 0), (.v 1), true), (.geq, (.sat (.v 0) (.v 1)), (.c 97), false), (.geq, (.sat (.v 0) (.v 1)), (.c 65), false), (.eql, (.v 1), (.c 0), false), (.neq, (.sat (.v 0) (.v 1)), (.c 45), false)], [], [], [], [], []⟩ (V := (vals [p0, v1] [])) (n := 3000) (f := 3000) (fid := 110) (fun _ => rfl) (V' := (vals [p0, (IntKind.wrap .i64 (v1 + (1 : Int)))] [])) ⟨⟨lss_t h1, leq_t h2, geq_f h3, geq_f h15, eql_f h21, neq_f h22, tv⟩, tv, tv, tv, tv⟩ tv (T := ⟨[(0, .ss (.v 0)), (3, (ys 1))], [], []⟩) (ce := .normal) (qs := [(ns 0 0), .num (.add .i64 (.v 1) (.c 1)) (.v 1)]) rfl tv hF hr (by kernel_rfl) ⟨(r p0), (r (IntKind.wrap .i64 (v1 + (1 : Int)))), tv⟩ hat fun a' w' hat' => ?_
        exact b_IsName_L1_ok fu p0 n (IntKind.wrap .i64 (v1 + (1 : Int))) o h _ _ _ _ _ _ _ hF hr hat' hx0 hx1
       ·rw [if_neg h22] at h
        by_cases h23 : (sat p0 v1) < (48 : Int)
        ·rw [if_pos h23] at h
         injection h with h; subst h
         exact to_done mixed ⟨[(.lss, (.v 1), (.sln (.v 0)), true), (.leq, (.c 0), (.v 1), true), (.geq, (.sat (.v 0) (.v 1)), (.c 97), false), (.geq, (.sat (.v 0) (.v 1)), (.c 65), false), (.eql, (.v 1), (.c 0), false), (.neq, (.sat (.v 0) (.v 1)), (.c 45), true), (.lss, (.sat (.v 0) (.v 1)), (.c 48), true)], [], [], [], [], []⟩ (V := (vals [p0, v1] [])) (n := 3000) (f := 3000) (fid := 110) (fun _ => rfl) (V' := (vals [] [])) ⟨⟨lss_t h1, leq_t h2, geq_f h3, geq_f h15, eql_f h21, neq_t h22, lss_t h23, tv⟩, tv, tv, tv, tv⟩ tv (T := ⟨[(2, .bool false)], [], []⟩) (ce := .ret) (qs := []) rfl tv hF hr (by kernel_rfl) tv hat fun a' w' hat' => hx0 () rfl a' w' hat'
        ·rw [if_neg h23] at h
         by_cases h24 : (57 : Int) < (sat p0 v1)
         ·rw [if_pos h24] at h
          injection h with h; subst h
          exact to_done mixed ⟨[(.lss, (.v 1), (.sln (.v 0)), true), (.leq, (.c 0), (.v 1), true), (.geq, (.sat (.v 0) (.v 1)), (.c 97), false), (.geq, (.sat (.v 0) (.v 1)), (.c 65), false), (.eql, (.v 1), (.c 0), false), (.neq, (.sat (.v 0) (.v 1)), (.c 45), true), (.lss, (.sat (.v 0) (.v 1)), (.c 48), false), (.gtr, (.sat (.v 0) (.v 1)), (.c 57), true)], [], [], [], [], []⟩ (V := (vals [p0, v1] [])) (n := 3000) (f := 3000) (fid := 110) (fun _ => rfl) (V' := (vals [] [])) ⟨⟨lss_t h1, leq_t h2, geq_f h3, geq_f h15, eql_f h21, neq_t h22, lss_f h23, gtr_t h24, tv⟩, tv, tv, tv, tv⟩ tv (T := ⟨[(2, .bool false)], [], []⟩) (ce := .ret) (qs := []) rfl tv hF hr (by kernel_rfl) tv hat fun a' w' hat' => hx0 () rfl a' w' hat'
         ·rw [if_neg h24] at h
          refine to_done mixed ⟨[(.lss, (.v 1), (.sln (.v 0)), true), (.leq, (.c 0), (.v 1), true), (.geq, (.sat (.v 0) (.v 1)), (.c 97), false), (.geq, (.sat (.v 0) (.v 1)), (.c 65), false), (.eql, (.v 1), (.c 0), false), (.neq, (.sat (.v 0) (.v 1)), (.c 45), true), (.lss, (.sat (.v 0) (.v 1)), (.c 48), false), (.gtr, (.sat (.v 0) (.v 1)), (.c 57), false)], [], [], [], [], []⟩ (V := (vals [p0, v1] [])) (n := 3000) (f := 3000) (fid := 110) (fun _ => rfl) (V' := (vals [p0, (IntKind.wrap .i64 (v1 + (1 : Int)))] [])) ⟨⟨lss_t h1, leq_t h2, geq_f h3, geq_f h15, eql_f h21, neq_t h22, lss_f h23, gtr_f h24, tv⟩, tv, tv, tv, tv⟩ tv (T := ⟨[(0, .ss (.v 0)), (3, (ys 1))], [], []⟩) (ce := .normal) (qs := [(ns 0 0), .num (.add .i64 (.v 1) (.c 1)) (.v 1)]) rfl tv hF hr (by kernel_rfl) ⟨(r p0), (r (IntKind.wrap .i64 (v1 + (1 : Int)))), tv⟩ hat fun a' w' hat' => ?_
          exact b_IsName_L1_ok fu p0 n (IntKind.wrap .i64 (v1 + (1 : Int))) o h _ _ _ _ _ _ _ hF hr hat' hx0 hx1
   ·rw [if_neg h2] at h
    cases h
  ·rw [if_neg h1] at h
   injection h with h; subst h
   exact to_done mixed ⟨[(.lss, (.v 1), (.sln (.v 0)), false)], [], [], [], [], []⟩ (V := (vals [p0, v1] [])) (n := 3000) (f := 3000) (fid := 110) (fun _ => rfl) (V' := (vals [] [])) ⟨⟨lss_f h1, tv⟩, tv, tv, tv, tv⟩ tv (T := ⟨[], [], []⟩) (ce := (.exit 0)) (qs := []) rfl tv hF hr (by kernel_rfl) tv hat fun a' w' hat' => hx1 () rfl a' w' hat'
def b_IsName (fu : Nat) (a0 : Int) : Option (Bool) := if (sln a0) < (1 : Int) then (some false) else (if (12 : Int) < (sln a0) then (some false) else (Option.bind (b_IsName_L1 fu a0 fu (0 : Int)) fun o3 => (match o3 with | .inl y4 => (some false) | .inr y5 => (some true))))
theorem b_IsName_ok (fu : Nat) (a0 : Int) (y : Bool) (h : b_IsName fu a0 = some y) : CallOk Tryz.prog 110 (vals [a0] []) [.ss (.v 0)] [] 0 (vals [bI y] []) (.bs (.v 0)) [] := by
 refine fun_of (nt := 55) (by kernel_rfl) (by kernel_rfl) fun φ0 w0 a w hat => ?_
 have hF := wide_fw
 have hr : Fence.wide.round = none := rfl
 unfold b_IsName at h
 by_cases h1 : (sln a0) < (1 : Int)
 ·rw [if_pos h1] at h
  injection h with h; subst h
  exact to_fin mixed ⟨[(.lss, (.sln (.v 0)), (.c 1), true)], [], [], [], [], []⟩ (V := (vals [a0] [])) (n := 3000) (f := 3000) (fid := 110) (fun _ => rfl) ⟨⟨lss_t h1, tv⟩, tv, tv, tv, tv⟩ tv (R := ⟨.bs (.v 0), [], []⟩) (qs := [.num (.c 0) (.v 0)]) wok0 tv hF hr (by kernel_rfl) ⟨rfl, tv⟩ hat
 ·rw [if_neg h1] at h
  by_cases h2 : (12 : Int) < (sln a0)
  ·rw [if_pos h2] at h
   injection h with h; subst h
   exact to_fin mixed ⟨[(.lss, (.sln (.v 0)), (.c 1), false), (.gtr, (.sln (.v 0)), (.c 12), true)], [], [], [], [], []⟩ (V := (vals [a0] [])) (n := 3000) (f := 3000) (fid := 110) (fun _ => rfl) ⟨⟨lss_f h1, gtr_t h2, tv⟩, tv, tv, tv, tv⟩ tv (R := ⟨.bs (.v 0), [], []⟩) (qs := [.num (.c 0) (.v 0)]) wok0 tv hF hr (by kernel_rfl) ⟨rfl, tv⟩ hat
  ·rw [if_neg h2] at h
   obtain ⟨o3, ho3, h⟩ := bs1 h
   refine to_loop mixed ⟨[(.lss, (.sln (.v 0)), (.c 1), false), (.gtr, (.sln (.v 0)), (.c 12), false)], [], [], [], [], []⟩ (V := (vals [a0] [])) (n := 3000) (f := 3000) (fid := 110) (fun _ => rfl) (V' := (vals [a0, (0 : Int)] [])) ⟨⟨lss_f h1, gtr_f h2, tv⟩, tv, tv, tv, tv⟩ tv (T := ⟨[(0, .ss (.v 0)), (3, (ys 1))], [], []⟩) (B := subAt (bodyOf Tryz.prog 110) [1, 1, 0, 1, 0, 0]) (K' := [.bk 0, .sq (subAt (bodyOf Tryz.prog 110) [1, 1, 1]) [1, 1, 1]]) (qs := [(ns 0 0), .num (.c 0) (.v 1)]) wok0 tv hF hr (by kernel_rfl) ⟨(r a0), (r (0 : Int)), tv⟩ hat fun aa1 ww1 hat1 => loop_in (b_IsName_L1_ok fu a0 fu (0 : Int) o3 ho3 _ _ _ _ _ _ _ hF hr hat1 ?_ ?_)
   ·intro y4 hy aa2 ww2 hat
    subst hy
    dsimp only at h
    show (Wk.out .ret).goal _ _ _ [.bk 0, .sq (subAt (bodyOf Tryz.prog 110) [1, 1, 1]) [1, 1, 1]] _ aa2 ww2
    injection h with h; subst h
    exact to_fin mixed ⟨[], [], [], [], [], []⟩ (V := (vals [] [])) (n := 3000) (f := 3000) (fid := 110) (fun _ => rfl) ⟨tv, tv, tv, tv, tv⟩ tv (R := ⟨.bs (.v 0), [], []⟩) (qs := [.num (.c 0) (.v 0)]) tv ⟨rfl, tv⟩ hF hr (by kernel_rfl) ⟨rfl, tv⟩ hat
   ·intro y5 hy aa2 ww2 hat
    subst hy
    dsimp only at h
    show (Wk.out (.exit 0)).goal _ _ _ [.bk 0, .sq (subAt (bodyOf Tryz.prog 110) [1, 1, 1]) [1, 1, 1]] _ aa2 ww2
    injection h with h; subst h
    exact to_fin mixed ⟨[], [], [], [], [], []⟩ (V := (vals [] [])) (n := 3000) (f := 3000) (fid := 110) (fun _ => rfl) ⟨tv, tv, tv, tv, tv⟩ tv (R := ⟨.bs (.v 0), [], []⟩) (qs := [.num (.c 1) (.v 0)]) tv ⟨rfl, tv⟩ hF hr (by kernel_rfl) ⟨rfl, tv⟩ hat
def r7_CheckStreams_L1 (fu : Nat) (p0 : List (Int × Int × Int × Int)) (p1 : Int) (p2 : Int) (p3 : Int) (p4 : Int) (p5 : Int) : Nat → Int → Option ((Unit) ⊕ (Unit))
 | 0, _ => none
 | n + 1, v6 => if v6 < p1 then (if (0 : Int) ≤ v6 then (if v6 < (p0.length : Int) then (Option.bind ((p0)[0 + (v6).toNat]?) fun e4 => if e4.1 = p2 then (some (.inl ())) else (r7_CheckStreams_L1 fu p0 p1 p2 p3 p4 p5 n (IntKind.wrap .i64 (v6 + (1 : Int))))) else none) else none) else (some (.inr ()))
theorem r7_CheckStreams_L1_ok (fu : Nat) (p0 : List (Int × Int × Int × Int)) (p1 : Int) (p2 : Int) (p3 : Int) (p4 : Int) (p5 : Int) : ∀ (n : Nat) (v6 : Int) (o : (Unit) ⊕ (Unit)), r7_CheckStreams_L1 fu p0 p1 p2 p3 p4 p5 n v6 = some o → ∀ (φ0 : Phi) (w0 : World) (F : Fence) (k : Nat) (R : Exit → Act → World → Prop) (a : Act) (w : World), FW F → F.round = none → AtS (vals [(p0.length : Int), p1, p2, p3, p4, p5, v6] [(p0.flatMap enSIII)]) [(0, .gs 0 0 (.v 0) 4 false), (4, (ys 1)), (5, .ptr 1 0), (6, (ys 6))] [some (.rows 0 [] 55 true), some (.cells [.ss (.v 2), (ys 3), (ys 4), (ys 5)] 55 false)] 61 1 1 φ0 w0 a w → (∀ (y : Unit), o = .inl y → ∀ a' w', AtS (vals [(p0.length : Int), p1] [(p0.flatMap enSIII)]) [(2, (ys 1)), (3, .int .i64 5)] [some (.rows 0 [] 55 true)] 61 1 1 φ0 w0 a' w' → R Exit.ret a' w') → (∀ (y : Unit), o = .inr y → ∀ a' w', AtS (vals [(p0.length : Int), p1, p2, p3, p4, p5] [(p0.flatMap enSIII)]) [(0, .gs 0 0 (.v 0) 4 false), (4, (ys 1)), (5, .ptr 1 0)] [some (.rows 0 [] 55 true), some (.cells [.ss (.v 2), (ys 3), (ys 4), (ys 5)] 55 false)] 61 1 1 φ0 w0 a' w' → R (Exit.exit 2) a' w') → Code.roundsIn F k Tryz.prog (subAt (bodyOf Tryz.prog 55) [1, 1, 1, 0, 1, 0, 0, 1, 0, 0, 1, 1, 0, 1, 0, 0]) R n a w
 | 0, _, _, h => by cases h
 | n + 1, v6, o, h => by
  intro φ0 w0 F k R a w hF hr hat hx0 hx1
  rw [r7_CheckStreams_L1] at h
  refine rounds_in (p := [1, 1, 1, 0, 1, 0, 0, 1, 0, 0, 1, 1, 0, 1, 0, 0]) ?_
  by_cases h1 : v6 < p1
  ·rw [if_pos h1] at h
   by_cases h2 : (0 : Int) ≤ v6
   ·rw [if_pos h2] at h
    by_cases h3 : v6 < (p0.length : Int)
    ·rw [if_pos h3] at h
     obtain ⟨e4, he4, h⟩ := bs1 h
     by_cases h5 : e4.1 = p2
     ·rw [if_pos h5] at h
      injection h with h; subst h
      exact to_done mixed ⟨[(.lss, (.v 6), (.v 1), true), (.leq, (.c 0), (.v 6), true), (.lss, (.v 6), (.v 0), true), (.eql, (.v 7), (.v 2), true)], [(0, 0, (.v 6), [.ss (.v 7), (ys 8), (ys 9), (ys 10)])], [(0, 4, (.v 0))], [], [], []⟩ (V := (vals [(p0.length : Int), p1, p2, p3, p4, p5, v6, e4.1, e4.2.1, e4.2.2.1, e4.2.2.2] [(p0.flatMap enSIII)])) (n := 3000) (f := 3000) (fid := 55) (fun _ => rfl) (V' := (vals [(p0.length : Int), p1] [(p0.flatMap enSIII)])) ⟨⟨lss_t h1, leq_t h2, lss_t h3, eql_t h5, tv⟩, ⟨⟨h2, _, rfl, flat_row enSIII_len he4⟩, tv⟩, ⟨flat_length enSIII_len _, tv⟩, tv, tv⟩ tv (T := ⟨[(2, (ys 1)), (3, .int .i64 5)], [some (.rows 0 [] 55 true)], [some (0, 0)]⟩) (ce := .ret) (qs := [(ns 1 1), .lst 0 (some 0) []]) rfl tv hF hr (by kernel_rfl) ⟨(r p1), ⟨[], rfl, lnil _⟩, tv⟩ (at_re (V' := (vals [(p0.length : Int), p1, p2, p3, p4, p5, v6, e4.1, e4.2.1, e4.2.2.1, e4.2.2.2] [(p0.flatMap enSIII)])) (T := ⟨[(0, .gs 0 0 (.v 0) 4 false), (4, (ys 1)), (5, .ptr 1 0), (6, (ys 6))], [some (.rows 0 [] 55 true), some (.cells [.ss (.v 2), (ys 3), (ys 4), (ys 5)] 55 false)], [some (0, 0), some (1, 0)]⟩) (qs := [(ns 0 0), (ns 1 1), (ns 6 6), .lst 0 (some 0) [], (ns 2 2), (ns 3 3), (ns 4 4), (ns 5 5)]) hat (by kernel_rfl) ⟨rfl, rfl, rfl, ⟨[], rfl, lnil _⟩, rfl, rfl, rfl, rfl, tv⟩) fun a' w' hat' => hx0 () rfl a' w' hat'
     ·rw [if_neg h5] at h
      refine to_done mixed ⟨[(.lss, (.v 6), (.v 1), true), (.leq, (.c 0), (.v 6), true), (.lss, (.v 6), (.v 0), true), (.eql, (.v 7), (.v 2), false)], [(0, 0, (.v 6), [.ss (.v 7), (ys 8), (ys 9), (ys 10)])], [(0, 4, (.v 0))], [], [], []⟩ (V := (vals [(p0.length : Int), p1, p2, p3, p4, p5, v6, e4.1, e4.2.1, e4.2.2.1, e4.2.2.2] [(p0.flatMap enSIII)])) (n := 3000) (f := 3000) (fid := 55) (fun _ => rfl) (V' := (vals [(p0.length : Int), p1, p2, p3, p4, p5, (IntKind.wrap .i64 (v6 + (1 : Int)))] [(p0.flatMap enSIII)])) ⟨⟨lss_t h1, leq_t h2, lss_t h3, eql_f h5, tv⟩, ⟨⟨h2, _, rfl, flat_row enSIII_len he4⟩, tv⟩, ⟨flat_length enSIII_len _, tv⟩, tv, tv⟩ tv (T := ⟨[(0, .gs 0 0 (.v 0) 4 false), (4, (ys 1)), (5, .ptr 1 0), (6, (ys 6))], [some (.rows 0 [] 55 true), some (.cells [.ss (.v 2), (ys 3), (ys 4), (ys 5)] 55 false)], [some (0, 0), some (1, 0)]⟩) (ce := .normal) (qs := [(ns 0 0), (ns 1 1), .num (.add .i64 (.v 6) (.c 1)) (.v 6), .lst 0 (some 0) [], (ns 2 2), (ns 3 3), (ns 4 4), (ns 5 5)]) rfl tv hF hr (by kernel_rfl) ⟨(r (p0.length : Int)), (r p1), (r (IntKind.wrap .i64 (v6 + (1 : Int)))), ⟨[], rfl, lnil _⟩, (r p2), (r p3), (r p4), (r p5), tv⟩ (at_re (V' := (vals [(p0.length : Int), p1, p2, p3, p4, p5, v6, e4.1, e4.2.1, e4.2.2.1, e4.2.2.2] [(p0.flatMap enSIII)])) (T := ⟨[(0, .gs 0 0 (.v 0) 4 false), (4, (ys 1)), (5, .ptr 1 0), (6, (ys 6))], [some (.rows 0 [] 55 true), some (.cells [.ss (.v 2), (ys 3), (ys 4), (ys 5)] 55 false)], [some (0, 0), some (1, 0)]⟩) (qs := [(ns 0 0), (ns 1 1), (ns 6 6), .lst 0 (some 0) [], (ns 2 2), (ns 3 3), (ns 4 4), (ns 5 5)]) hat (by kernel_rfl) ⟨rfl, rfl, rfl, ⟨[], rfl, lnil _⟩, rfl, rfl, rfl, rfl, tv⟩) fun a' w' hat' => ?_
      exact r7_CheckStreams_L1_ok fu p0 p1 p2 p3 p4 p5 n (IntKind.wrap .i64 (v6 + (1 : Int))) o h _ _ _ _ _ _ _ hF hr hat' hx0 hx1
    ·rw [if_neg h3] at h
     cases h
   ·rw [if_neg h2] at h
    cases h
  ·rw [if_neg h1] at h
   injection h with h; subst h
   exact to_done mixed ⟨[(.lss, (.v 6), (.v 1), false)], [], [(0, 4, (.v 0))], [], [], []⟩ (V := (vals [(p0.length : Int), p1, p2, p3, p4, p5, v6] [(p0.flatMap enSIII)])) (n := 3000) (f := 3000) (fid := 55) (fun _ => rfl) (V' := (vals [(p0.length : Int), p1, p2, p3, p4, p5] [(p0.flatMap enSIII)])) ⟨⟨lss_f h1, tv⟩, tv, ⟨flat_length enSIII_len _, tv⟩, tv, tv⟩ tv (T := ⟨[(0, .gs 0 0 (.v 0) 4 false), (4, (ys 1)), (5, .ptr 1 0)], [some (.rows 0 [] 55 true), some (.cells [.ss (.v 2), (ys 3), (ys 4), (ys 5)] 55 false)], [some (0, 0), some (1, 0)]⟩) (ce := (.exit 2)) (qs := [(ns 0 0), (ns 1 1), .lst 0 (some 0) [], (ns 2 2), (ns 3 3), (ns 4 4), (ns 5 5)]) rfl tv hF hr (by kernel_rfl) ⟨(r (p0.length : Int)), (r p1), ⟨[], rfl, lnil _⟩, (r p2), (r p3), (r p4), (r p5), tv⟩ hat fun a' w' hat' => hx1 () rfl a' w' hat'
def b_Within (a0 : Int) (a1 : Int) (a2 : Int) : Option (Bool) := if a1 ≤ a0 then (if a0 ≤ a2 then (some true) else (some false)) else (some false)
theorem b_Within_ok (a0 : Int) (a1 : Int) (a2 : Int) (y : Bool) (h : b_Within a0 a1 a2 = some y) : CallOk Tryz.prog 13 (vals [a0, a1, a2] []) [(ys 0), (ys 1), (ys 2)] [] 0 (vals [bI y] []) (.bs (.v 0)) [] := by
 refine fun_of (nt := 15) (by kernel_rfl) (by kernel_rfl) fun φ0 w0 a w hat => ?_
 have hF := wide_fw
 have hr : Fence.wide.round = none := rfl
 unfold b_Within at h
 by_cases h1 : a1 ≤ a0
 ·rw [if_pos h1] at h
  by_cases h2 : a0 ≤ a2
  ·rw [if_pos h2] at h
   injection h with h; subst h
   exact to_fin mixed ⟨[(.leq, (.v 1), (.v 0), true), (.leq, (.v 0), (.v 2), true)], [], [], [], [], []⟩ (V := (vals [a0, a1, a2] [])) (n := 3000) (f := 3000) (fid := 13) (fun _ => rfl) ⟨⟨leq_t h1, leq_t h2, tv⟩, tv, tv, tv, tv⟩ tv (R := ⟨.bs (.v 0), [], []⟩) (qs := [.num (.c 1) (.v 0)]) wok0 tv hF hr (by kernel_rfl) ⟨rfl, tv⟩ hat
  ·rw [if_neg h2] at h
   injection h with h; subst h
   exact to_fin mixed ⟨[(.leq, (.v 1), (.v 0), true), (.leq, (.v 0), (.v 2), false)], [], [], [], [], []⟩ (V := (vals [a0, a1, a2] [])) (n := 3000) (f := 3000) (fid := 13) (fun _ => rfl) ⟨⟨leq_t h1, leq_f h2, tv⟩, tv, tv, tv, tv⟩ tv (R := ⟨.bs (.v 0), [], []⟩) (qs := [.num (.c 0) (.v 0)]) wok0 tv hF hr (by kernel_rfl) ⟨rfl, tv⟩ hat
 ·rw [if_neg h1] at h
  injection h with h; subst h
  exact to_fin mixed ⟨[(.leq, (.v 1), (.v 0), false)], [], [], [], [], []⟩ (V := (vals [a0, a1, a2] [])) (n := 3000) (f := 3000) (fid := 13) (fun _ => rfl) ⟨⟨leq_f h1, tv⟩, tv, tv, tv, tv⟩ tv (R := ⟨.bs (.v 0), [], []⟩) (qs := [.num (.c 0) (.v 0)]) wok0 tv hF hr (by kernel_rfl) ⟨rfl, tv⟩ hat
def r7_CheckStreams_L2 (fu : Nat) (p0 : List (Int × Int × Int × Int)) : Nat → Int → Option ((Int × Int) ⊕ (Unit))
 | 0, _ => none
 | n + 1, v1 => if v1 < (p0.length : Int) then (if (0 : Int) ≤ v1 then (Option.bind ((p0)[0 + (v1).toNat]?) fun e3 => Option.bind (b_IsName fu e3.1) fun r4 => if r4 = true then (Option.bind (r7_CheckStreams_L1 fu p0 v1 e3.1 e3.2.1 e3.2.2.1 e3.2.2.2 fu (0 : Int)) fun o6 => (match o6 with | .inl y7 => (some (.inl (v1, (5 : Int)))) | .inr y8 => (Option.bind (b_Within e3.2.1 (1 : Int) (60 : Int)) fun r9 => if r9 = true then (Option.bind (b_Within e3.2.2.1 (1 : Int) e3.2.1) fun r11 => if r11 = true then (Option.bind (b_Within e3.2.2.2 (1 : Int) (20 : Int)) fun r13 => if r13 = true then (r7_CheckStreams_L2 fu p0 n (IntKind.wrap .i64 (v1 + (1 : Int)))) else (some (.inl (v1, (2 : Int))))) else (some (.inl (v1, (2 : Int))))) else (some (.inl (v1, (2 : Int))))))) else (some (.inl (v1, (4 : Int))))) else none) else (some (.inr ()))
theorem r7_CheckStreams_L2_ok (fu : Nat) (p0 : List (Int × Int × Int × Int)) : ∀ (n : Nat) (v1 : Int) (o : (Int × Int) ⊕ (Unit)), r7_CheckStreams_L2 fu p0 n v1 = some o → ∀ (φ0 : Phi) (w0 : World) (F : Fence) (k : Nat) (R : Exit → Act → World → Prop) (a : Act) (w : World), FW F → F.round = none → AtS (vals [(p0.length : Int), v1] [(p0.flatMap enSIII)]) [(0, .gs 0 0 (.v 0) 4 false), (4, (ys 1))] [some (.rows 0 [] 55 true)] 61 1 1 φ0 w0 a w → (∀ (y : Int × Int), o = .inl y → ∀ a' w', AtS (vals [(p0.length : Int), y.1, y.2] [(p0.flatMap enSIII)]) [(2, (ys 1)), (3, (ys 2))] [some (.rows 0 [] 55 true)] 61 1 1 φ0 w0 a' w' → R Exit.ret a' w') → (∀ (y : Unit), o = .inr y → ∀ a' w', AtS (vals [(p0.length : Int)] [(p0.flatMap enSIII)]) [] [some (.rows 0 [] 55 true)] 61 1 1 φ0 w0 a' w' → R (Exit.exit 0) a' w') → Code.roundsIn F k Tryz.prog (subAt (bodyOf Tryz.prog 55) [1, 1, 1, 0, 1, 0, 0]) R n a w
 | 0, _, _, h => by cases h
 | n + 1, v1, o, h => by
  intro φ0 w0 F k R a w hF hr hat hx0 hx1
  rw [r7_CheckStreams_L2] at h
  refine rounds_in (p := [1, 1, 1, 0, 1, 0, 0]) ?_
  by_cases h1 : v1 < (p0.length : Int)
  ·rw [if_pos h1] at h
   by_cases h2 : (0 : Int) ≤ v1
   ·rw [if_pos h2] at h
    obtain ⟨e3, he3, h⟩ := bs1 h
    obtain ⟨r4, hr4, h⟩ := bs1 h
    have Kr4 : KO Tryz.prog [(p0.length : Int), v1, e3.1, e3.2.1, e3.2.2.1, e3.2.2.2, bI r4] [(p0.flatMap enSIII)] ⟨110, 2, [], [.ss (.v 0)], [], [(ns 2 0)], 0, .bs (.v 0), [], .bs (.v 6), [], []⟩ := fun N M => ⟨_, _, [(ns 0 6)], ⟨b_IsName_ok fu e3.1 r4 hr4, ⟨(r e3.1), tv⟩, by kernel_rfl, ⟨rfl, tv⟩⟩⟩
    by_cases h5 : r4 = true
    ·rw [if_pos h5] at h
     obtain ⟨o6, ho6, h⟩ := bs1 h
     refine to_loop mixed ⟨[(.lss, (.v 1), (.v 0), true), (.leq, (.c 0), (.v 1), true), (.neq, (.v 6), (.c 0), true)], [(0, 0, (.v 1), [.ss (.v 2), (ys 3), (ys 4), (ys 5)])], [(0, 4, (.v 0))], [⟨110, 2, [], [.ss (.v 0)], [], [(ns 2 0)], 0, .bs (.v 0), [], .bs (.v 6), [], []⟩], [], []⟩ (V := (vals [(p0.length : Int), v1, e3.1, e3.2.1, e3.2.2.1, e3.2.2.2, bI r4] [(p0.flatMap enSIII)])) (n := 3000) (f := 3000) (fid := 55) (fun _ => rfl) (V' := (vals [(p0.length : Int), v1, e3.1, e3.2.1, e3.2.2.1, e3.2.2.2, (0 : Int)] [(p0.flatMap enSIII)])) ⟨⟨lss_t h1, leq_t h2, bi_t h5, tv⟩, ⟨⟨h2, _, rfl, flat_row enSIII_len he3⟩, tv⟩, ⟨flat_length enSIII_len _, tv⟩, tv, tv⟩ ⟨Kr4 _ _, tv⟩ (T := ⟨[(0, .gs 0 0 (.v 0) 4 false), (4, (ys 1)), (5, .ptr 1 0), (6, (ys 6))], [some (.rows 0 [] 55 true), some (.cells [.ss (.v 2), (ys 3), (ys 4), (ys 5)] 55 false)], [some (0, 0), some (1, 0)]⟩) (B := subAt (bodyOf Tryz.prog 55) [1, 1, 1, 0, 1, 0, 0, 1, 0, 0, 1, 1, 0, 1, 0, 0]) (K' := [.bk 2, .sq (subAt (bodyOf Tryz.prog 55) [1, 1, 1, 0, 1, 0, 0, 1, 0, 0, 1, 1, 1]) [1, 1, 1, 0, 1, 0, 0, 1, 0, 0, 1, 1, 1], .bk 1, .sq (subAt (bodyOf Tryz.prog 55) [1, 1, 1, 0, 1, 0, 0, 1, 1]) [1, 1, 1, 0, 1, 0, 0, 1, 1]]) (qs := [(ns 0 0), (ns 1 1), .num (.c 0) (.v 6), .lst 0 (some 0) [], (ns 2 2), (ns 3 3), (ns 4 4), (ns 5 5)]) rfl tv hF hr (by kernel_rfl) ⟨(r (p0.length : Int)), (r v1), (r (0 : Int)), ⟨[], rfl, lnil _⟩, (r e3.1), (r e3.2.1), (r e3.2.2.1), (r e3.2.2.2), tv⟩ (at_re (V' := (vals [(p0.length : Int), v1, e3.1, e3.2.1, e3.2.2.1, e3.2.2.2, bI r4] [(p0.flatMap enSIII)])) (T := ⟨[(0, .gs 0 0 (.v 0) 4 false), (4, (ys 1))], [some (.rows 0 [] 55 true)], [some (0, 0)]⟩) (qs := [(ns 0 0), (ns 1 1), .lst 0 (some 0) []]) hat (by kernel_rfl) ⟨rfl, rfl, ⟨[], rfl, lnil _⟩, tv⟩) fun aa1 ww1 hat1 => loop_in (r7_CheckStreams_L1_ok fu p0 v1 e3.1 e3.2.1 e3.2.2.1 e3.2.2.2 fu (0 : Int) o6 ho6 _ _ _ _ _ _ _ hF hr hat1 ?_ ?_)
     ·intro y7 hy aa2 ww2 hat
      subst hy
      dsimp only at h
      show (Wk.out .ret).goal _ _ _ [.bk 2, .sq (subAt (bodyOf Tryz.prog 55) [1, 1, 1, 0, 1, 0, 0, 1, 0, 0, 1, 1, 1]) [1, 1, 1, 0, 1, 0, 0, 1, 0, 0, 1, 1, 1], .bk 1, .sq (subAt (bodyOf Tryz.prog 55) [1, 1, 1, 0, 1, 0, 0, 1, 1]) [1, 1, 1, 0, 1, 0, 0, 1, 1]] _ aa2 ww2
      injection h with h; subst h
      exact to_done mixed ⟨[], [], [(0, 4, (.v 0))], [], [], []⟩ (V := (vals [(p0.length : Int), v1] [(p0.flatMap enSIII)])) (n := 3000) (f := 3000) (fid := 55) (fun _ => rfl) (V' := (vals [(p0.length : Int), v1, (5 : Int)] [(p0.flatMap enSIII)])) ⟨tv, tv, ⟨flat_length enSIII_len _, tv⟩, tv, tv⟩ tv (T := ⟨[(2, (ys 1)), (3, (ys 2))], [some (.rows 0 [] 55 true)], [some (0, 0)]⟩) (ce := .ret) (qs := [(ns 1 1), .num (.c 5) (.v 2), .lst 0 (some 0) []]) tv ⟨rfl, rfl, tv⟩ hF hr (by kernel_rfl) ⟨(r v1), (r (5 : Int)), ⟨[], rfl, lnil _⟩, tv⟩ hat fun a' w' hat' => hx0 (v1, (5 : Int)) rfl a' w' hat'
     ·intro y8 hy aa2 ww2 hat
      subst hy
      dsimp only at h
      show (Wk.out (.exit 2)).goal _ _ _ [.bk 2, .sq (subAt (bodyOf Tryz.prog 55) [1, 1, 1, 0, 1, 0, 0, 1, 0, 0, 1, 1, 1]) [1, 1, 1, 0, 1, 0, 0, 1, 0, 0, 1, 1, 1], .bk 1, .sq (subAt (bodyOf Tryz.prog 55) [1, 1, 1, 0, 1, 0, 0, 1, 1]) [1, 1, 1, 0, 1, 0, 0, 1, 1]] _ aa2 ww2
      obtain ⟨r9, hr9, h⟩ := bs1 h
      have Kr9 : KO Tryz.prog [(p0.length : Int), v1, e3.1, e3.2.1, e3.2.2.1, e3.2.2.2, bI r9] [(p0.flatMap enSIII)] ⟨13, 2, [], [(ys 0), (ys 1), (ys 2)], [], [(ns 3 0), .num (.c 1) (.v 1), .num (.c 60) (.v 2)], 0, .bs (.v 0), [], .bs (.v 6), [], []⟩ := fun N M => ⟨_, _, [(ns 0 6)], ⟨b_Within_ok e3.2.1 (1 : Int) (60 : Int) r9 hr9, ⟨(r e3.2.1), (r (1 : Int)), (r (60 : Int)), tv⟩, by kernel_rfl, ⟨rfl, tv⟩⟩⟩
      by_cases h10 : r9 = true
      ·rw [if_pos h10] at h
       obtain ⟨r11, hr11, h⟩ := bs1 h
       have Kr11 : KO Tryz.prog [(p0.length : Int), v1, e3.1, e3.2.1, e3.2.2.1, e3.2.2.2, bI r9, bI r11] [(p0.flatMap enSIII)] ⟨13, 2, [], [(ys 0), (ys 1), (ys 2)], [], [(ns 4 0), .num (.c 1) (.v 1), (ns 3 2)], 0, .bs (.v 0), [], .bs (.v 7), [], []⟩ := fun N M => ⟨_, _, [(ns 0 7)], ⟨b_Within_ok e3.2.2.1 (1 : Int) e3.2.1 r11 hr11, ⟨(r e3.2.2.1), (r (1 : Int)), (r e3.2.1), tv⟩, by kernel_rfl, ⟨rfl, tv⟩⟩⟩
       by_cases h12 : r11 = true
       ·rw [if_pos h12] at h
        obtain ⟨r13, hr13, h⟩ := bs1 h
        have Kr13 : KO Tryz.prog [(p0.length : Int), v1, e3.1, e3.2.1, e3.2.2.1, e3.2.2.2, bI r9, bI r11, bI r13] [(p0.flatMap enSIII)] ⟨13, 2, [], [(ys 0), (ys 1), (ys 2)], [], [(ns 5 0), .num (.c 1) (.v 1), .num (.c 20) (.v 2)], 0, .bs (.v 0), [], .bs (.v 8), [], []⟩ := fun N M => ⟨_, _, [(ns 0 8)], ⟨b_Within_ok e3.2.2.2 (1 : Int) (20 : Int) r13 hr13, ⟨(r e3.2.2.2), (r (1 : Int)), (r (20 : Int)), tv⟩, by kernel_rfl, ⟨rfl, tv⟩⟩⟩
        by_cases h14 : r13 = true
        ·rw [if_pos h14] at h
         refine to_done mixed ⟨[(.neq, (.v 6), (.c 0), true), (.neq, (.v 7), (.c 0), true), (.neq, (.v 8), (.c 0), true)], [], [(0, 4, (.v 0))], [⟨13, 2, [], [(ys 0), (ys 1), (ys 2)], [], [(ns 3 0), .num (.c 1) (.v 1), .num (.c 60) (.v 2)], 0, .bs (.v 0), [], .bs (.v 6), [], []⟩, ⟨13, 2, [], [(ys 0), (ys 1), (ys 2)], [], [(ns 4 0), .num (.c 1) (.v 1), (ns 3 2)], 0, .bs (.v 0), [], .bs (.v 7), [], []⟩, ⟨13, 2, [], [(ys 0), (ys 1), (ys 2)], [], [(ns 5 0), .num (.c 1) (.v 1), .num (.c 20) (.v 2)], 0, .bs (.v 0), [], .bs (.v 8), [], []⟩], [], []⟩ (V := (vals [(p0.length : Int), v1, e3.1, e3.2.1, e3.2.2.1, e3.2.2.2, bI r9, bI r11, bI r13] [(p0.flatMap enSIII)])) (n := 3000) (f := 3000) (fid := 55) (fun _ => rfl) (V' := (vals [(p0.length : Int), (IntKind.wrap .i64 (v1 + (1 : Int)))] [(p0.flatMap enSIII)])) ⟨⟨bi_t h10, bi_t h12, bi_t h14, tv⟩, tv, ⟨flat_length enSIII_len _, tv⟩, tv, tv⟩ ⟨Kr9 _ _, Kr11 _ _, Kr13 _ _, tv⟩ (T := ⟨[(0, .gs 0 0 (.v 0) 4 false), (4, (ys 1))], [some (.rows 0 [] 55 true)], [some (0, 0)]⟩) (ce := .normal) (qs := [(ns 0 0), .num (.add .i64 (.v 1) (.c 1)) (.v 1), .lst 0 (some 0) []]) tv ⟨rfl, rfl, tv⟩ hF hr (by kernel_rfl) ⟨(r (p0.length : Int)), (r (IntKind.wrap .i64 (v1 + (1 : Int)))), ⟨[], rfl, lnil _⟩, tv⟩ (at_re (V' := (vals [(p0.length : Int), v1, e3.1, e3.2.1, e3.2.2.1, e3.2.2.2, bI r9, bI r11, bI r13] [(p0.flatMap enSIII)])) (T := ⟨[(0, .gs 0 0 (.v 0) 4 false), (4, (ys 1)), (5, .ptr 1 0)], [some (.rows 0 [] 55 true), some (.cells [.ss (.v 2), (ys 3), (ys 4), (ys 5)] 55 false)], [some (0, 0), some (1, 0)]⟩) (qs := [(ns 0 0), (ns 1 1), .lst 0 (some 0) [], (ns 2 2), (ns 3 3), (ns 4 4), (ns 5 5)]) hat (by kernel_rfl) ⟨rfl, rfl, ⟨[], rfl, lnil _⟩, rfl, rfl, rfl, rfl, tv⟩) fun a' w' hat' => ?_
         exact r7_CheckStreams_L2_ok fu p0 n (IntKind.wrap .i64 (v1 + (1 : Int))) o h _ _ _ _ _ _ _ hF hr hat' hx0 hx1
        ·rw [if_neg h14] at h
         injection h with h; subst h
         exact to_done mixed ⟨[(.neq, (.v 6), (.c 0), true), (.neq, (.v 7), (.c 0), true), (.neq, (.v 8), (.c 0), false)], [], [(0, 4, (.v 0))], [⟨13, 2, [], [(ys 0), (ys 1), (ys 2)], [], [(ns 3 0), .num (.c 1) (.v 1), .num (.c 60) (.v 2)], 0, .bs (.v 0), [], .bs (.v 6), [], []⟩, ⟨13, 2, [], [(ys 0), (ys 1), (ys 2)], [], [(ns 4 0), .num (.c 1) (.v 1), (ns 3 2)], 0, .bs (.v 0), [], .bs (.v 7), [], []⟩, ⟨13, 2, [], [(ys 0), (ys 1), (ys 2)], [], [(ns 5 0), .num (.c 1) (.v 1), .num (.c 20) (.v 2)], 0, .bs (.v 0), [], .bs (.v 8), [], []⟩], [], []⟩ (V := (vals [(p0.length : Int), v1, e3.1, e3.2.1, e3.2.2.1, e3.2.2.2, bI r9, bI r11, bI r13] [(p0.flatMap enSIII)])) (n := 3000) (f := 3000) (fid := 55) (fun _ => rfl) (V' := (vals [(p0.length : Int), v1, (2 : Int)] [(p0.flatMap enSIII)])) ⟨⟨bi_t h10, bi_t h12, bi_f h14, tv⟩, tv, ⟨flat_length enSIII_len _, tv⟩, tv, tv⟩ ⟨Kr9 _ _, Kr11 _ _, Kr13 _ _, tv⟩ (T := ⟨[(2, (ys 1)), (3, (ys 2))], [some (.rows 0 [] 55 true)], [some (0, 0)]⟩) (ce := .ret) (qs := [(ns 1 1), .num (.c 2) (.v 2), .lst 0 (some 0) []]) tv ⟨rfl, rfl, tv⟩ hF hr (by kernel_rfl) ⟨(r v1), (r (2 : Int)), ⟨[], rfl, lnil _⟩, tv⟩ (at_re (V' := (vals [(p0.length : Int), v1, e3.1, e3.2.1, e3.2.2.1, e3.2.2.2, bI r9, bI r11, bI r13] [(p0.flatMap enSIII)])) (T := ⟨[(0, .gs 0 0 (.v 0) 4 false), (4, (ys 1)), (5, .ptr 1 0)], [some (.rows 0 [] 55 true), some (.cells [.ss (.v 2), (ys 3), (ys 4), (ys 5)] 55 false)], [some (0, 0), some (1, 0)]⟩) (qs := [(ns 0 0), (ns 1 1), .lst 0 (some 0) [], (ns 2 2), (ns 3 3), (ns 4 4), (ns 5 5)]) hat (by kernel_rfl) ⟨rfl, rfl, ⟨[], rfl, lnil _⟩, rfl, rfl, rfl, rfl, tv⟩) fun a' w' hat' => hx0 (v1, (2 : Int)) rfl a' w' hat'
       ·rw [if_neg h12] at h
        injection h with h; subst h
        exact to_done mixed ⟨[(.neq, (.v 6), (.c 0), true), (.neq, (.v 7), (.c 0), false)], [], [(0, 4, (.v 0))], [⟨13, 2, [], [(ys 0), (ys 1), (ys 2)], [], [(ns 3 0), .num (.c 1) (.v 1), .num (.c 60) (.v 2)], 0, .bs (.v 0), [], .bs (.v 6), [], []⟩, ⟨13, 2, [], [(ys 0), (ys 1), (ys 2)], [], [(ns 4 0), .num (.c 1) (.v 1), (ns 3 2)], 0, .bs (.v 0), [], .bs (.v 7), [], []⟩], [], []⟩ (V := (vals [(p0.length : Int), v1, e3.1, e3.2.1, e3.2.2.1, e3.2.2.2, bI r9, bI r11] [(p0.flatMap enSIII)])) (n := 3000) (f := 3000) (fid := 55) (fun _ => rfl) (V' := (vals [(p0.length : Int), v1, (2 : Int)] [(p0.flatMap enSIII)])) ⟨⟨bi_t h10, bi_f h12, tv⟩, tv, ⟨flat_length enSIII_len _, tv⟩, tv, tv⟩ ⟨Kr9 _ _, Kr11 _ _, tv⟩ (T := ⟨[(2, (ys 1)), (3, (ys 2))], [some (.rows 0 [] 55 true)], [some (0, 0)]⟩) (ce := .ret) (qs := [(ns 1 1), .num (.c 2) (.v 2), .lst 0 (some 0) []]) tv ⟨rfl, rfl, tv⟩ hF hr (by kernel_rfl) ⟨(r v1), (r (2 : Int)), ⟨[], rfl, lnil _⟩, tv⟩ (at_re (V' := (vals [(p0.length : Int), v1, e3.1, e3.2.1, e3.2.2.1, e3.2.2.2, bI r9, bI r11] [(p0.flatMap enSIII)])) (T := ⟨[(0, .gs 0 0 (.v 0) 4 false), (4, (ys 1)), (5, .ptr 1 0)], [some (.rows 0 [] 55 true), some (.cells [.ss (.v 2), (ys 3), (ys 4), (ys 5)] 55 false)], [some (0, 0), some (1, 0)]⟩) (qs := [(ns 0 0), (ns 1 1), .lst 0 (some 0) [], (ns 2 2), (ns 3 3), (ns 4 4), (ns 5 5)]) hat (by kernel_rfl) ⟨rfl, rfl, ⟨[], rfl, lnil _⟩, rfl, rfl, rfl, rfl, tv⟩) fun a' w' hat' => hx0 (v1, (2 : Int)) rfl a' w' hat'
      ·rw [if_neg h10] at h
       injection h with h; subst h
       exact to_done mixed ⟨[(.neq, (.v 6), (.c 0), false)], [], [(0, 4, (.v 0))], [⟨13, 2, [], [(ys 0), (ys 1), (ys 2)], [], [(ns 3 0), .num (.c 1) (.v 1), .num (.c 60) (.v 2)], 0, .bs (.v 0), [], .bs (.v 6), [], []⟩], [], []⟩ (V := (vals [(p0.length : Int), v1, e3.1, e3.2.1, e3.2.2.1, e3.2.2.2, bI r9] [(p0.flatMap enSIII)])) (n := 3000) (f := 3000) (fid := 55) (fun _ => rfl) (V' := (vals [(p0.length : Int), v1, (2 : Int)] [(p0.flatMap enSIII)])) ⟨⟨bi_f h10, tv⟩, tv, ⟨flat_length enSIII_len _, tv⟩, tv, tv⟩ ⟨Kr9 _ _, tv⟩ (T := ⟨[(2, (ys 1)), (3, (ys 2))], [some (.rows 0 [] 55 true)], [some (0, 0)]⟩) (ce := .ret) (qs := [(ns 1 1), .num (.c 2) (.v 2), .lst 0 (some 0) []]) tv ⟨rfl, rfl, tv⟩ hF hr (by kernel_rfl) ⟨(r v1), (r (2 : Int)), ⟨[], rfl, lnil _⟩, tv⟩ (at_re (V' := (vals [(p0.length : Int), v1, e3.1, e3.2.1, e3.2.2.1, e3.2.2.2, bI r9] [(p0.flatMap enSIII)])) (T := ⟨[(0, .gs 0 0 (.v 0) 4 false), (4, (ys 1)), (5, .ptr 1 0)], [some (.rows 0 [] 55 true), some (.cells [.ss (.v 2), (ys 3), (ys 4), (ys 5)] 55 false)], [some (0, 0), some (1, 0)]⟩) (qs := [(ns 0 0), (ns 1 1), .lst 0 (some 0) [], (ns 2 2), (ns 3 3), (ns 4 4), (ns 5 5)]) hat (by kernel_rfl) ⟨rfl, rfl, ⟨[], rfl, lnil _⟩, rfl, rfl, rfl, rfl, tv⟩) fun a' w' hat' => hx0 (v1, (2 : Int)) rfl a' w' hat'
    ·rw [if_neg h5] at h
     injection h with h; subst h
     exact to_done mixed ⟨[(.lss, (.v 1), (.v 0), true), (.leq, (.c 0), (.v 1), true), (.neq, (.v 6), (.c 0), false)], [(0, 0, (.v 1), [.ss (.v 2), (ys 3), (ys 4), (ys 5)])], [(0, 4, (.v 0))], [⟨110, 2, [], [.ss (.v 0)], [], [(ns 2 0)], 0, .bs (.v 0), [], .bs (.v 6), [], []⟩], [], []⟩ (V := (vals [(p0.length : Int), v1, e3.1, e3.2.1, e3.2.2.1, e3.2.2.2, bI r4] [(p0.flatMap enSIII)])) (n := 3000) (f := 3000) (fid := 55) (fun _ => rfl) (V' := (vals [(p0.length : Int), v1, (4 : Int)] [(p0.flatMap enSIII)])) ⟨⟨lss_t h1, leq_t h2, bi_f h5, tv⟩, ⟨⟨h2, _, rfl, flat_row enSIII_len he3⟩, tv⟩, ⟨flat_length enSIII_len _, tv⟩, tv, tv⟩ ⟨Kr4 _ _, tv⟩ (T := ⟨[(2, (ys 1)), (3, (ys 2))], [some (.rows 0 [] 55 true)], [some (0, 0)]⟩) (ce := .ret) (qs := [(ns 1 1), .num (.c 4) (.v 2), .lst 0 (some 0) []]) rfl tv hF hr (by kernel_rfl) ⟨(r v1), (r (4 : Int)), ⟨[], rfl, lnil _⟩, tv⟩ (at_re (V' := (vals [(p0.length : Int), v1, e3.1, e3.2.1, e3.2.2.1, e3.2.2.2, bI r4] [(p0.flatMap enSIII)])) (T := ⟨[(0, .gs 0 0 (.v 0) 4 false), (4, (ys 1))], [some (.rows 0 [] 55 true)], [some (0, 0)]⟩) (qs := [(ns 0 0), (ns 1 1), .lst 0 (some 0) []]) hat (by kernel_rfl) ⟨rfl, rfl, ⟨[], rfl, lnil _⟩, tv⟩) fun a' w' hat' => hx0 (v1, (4 : Int)) rfl a' w' hat'
   ·rw [if_neg h2] at h
    cases h
  ·rw [if_neg h1] at h
   injection h with h; subst h
   exact to_done mixed ⟨[(.lss, (.v 1), (.v 0), false)], [], [(0, 4, (.v 0))], [], [], []⟩ (V := (vals [(p0.length : Int), v1] [(p0.flatMap enSIII)])) (n := 3000) (f := 3000) (fid := 55) (fun _ => rfl) (V' := (vals [(p0.length : Int)] [(p0.flatMap enSIII)])) ⟨⟨lss_f h1, tv⟩, tv, ⟨flat_length enSIII_len _, tv⟩, tv, tv⟩ tv (T := ⟨[], [some (.rows 0 [] 55 true)], [some (0, 0)]⟩) (ce := (.exit 0)) (qs := [.lst 0 (some 0) []]) rfl tv hF hr (by kernel_rfl) ⟨⟨[], rfl, lnil _⟩, tv⟩ hat fun a' w' hat' => hx1 () rfl a' w' hat'
def r7_CheckStreams (fu : Nat) (a0 : List (Int × Int × Int × Int)) : Option (Int × Int) := if (a0.length : Int) = (0 : Int) then (some ((0 : Int), (10 : Int))) else (if (6 : Int) < (a0.length : Int) then (some ((0 : Int), (8 : Int))) else (Option.bind (r7_CheckStreams_L2 fu a0 fu (0 : Int)) fun o3 => (match o3 with | .inl y4 => (some (y4.1, y4.2)) | .inr y5 => (some ((0 : Int), (0 : Int))))))
theorem r7_CheckStreams_ok (fu : Nat) (a0 : List (Int × Int × Int × Int)) (y : Int × Int) (h : r7_CheckStreams fu a0 = some y) : CallOk Tryz.prog 55 (vals [(a0.length : Int)] [(a0.flatMap enSIII)]) [.gs 0 0 (.v 0) 4 false] [some (.rows 0 [] 55 true)] 1 (vals [y.1, y.2] []) (.tup [(ys 0), (ys 1)]) [none] := by
 refine fun_of (nt := 61) (by kernel_rfl) (by kernel_rfl) fun φ0 w0 a w hat => ?_
 have hF := wide_fw
 have hr : Fence.wide.round = none := rfl
 unfold r7_CheckStreams at h
 by_cases h1 : (a0.length : Int) = (0 : Int)
 ·rw [if_pos h1] at h
  injection h with h; subst h
  exact to_fin mixed ⟨[(.eql, (.v 0), (.c 0), true)], [], [(0, 4, (.v 0))], [], [], []⟩ (V := (vals [(a0.length : Int)] [(a0.flatMap enSIII)])) (n := 3000) (f := 3000) (fid := 55) (fun _ => rfl) ⟨⟨eql_t h1, tv⟩, tv, ⟨flat_length enSIII_len _, tv⟩, tv, tv⟩ tv (R := ⟨.tup [(ys 0), (ys 1)], [none], [some (0, 0)]⟩) (qs := [.num (.c 0) (.v 0), .num (.c 10) (.v 1)]) wok0 tv hF hr (by kernel_rfl) ⟨(r (0 : Int)), (r (10 : Int)), tv⟩ hat
 ·rw [if_neg h1] at h
  by_cases h2 : (6 : Int) < (a0.length : Int)
  ·rw [if_pos h2] at h
   injection h with h; subst h
   exact to_fin mixed ⟨[(.eql, (.v 0), (.c 0), false), (.gtr, (.v 0), (.c 6), true)], [], [(0, 4, (.v 0))], [], [], []⟩ (V := (vals [(a0.length : Int)] [(a0.flatMap enSIII)])) (n := 3000) (f := 3000) (fid := 55) (fun _ => rfl) ⟨⟨eql_f h1, gtr_t h2, tv⟩, tv, ⟨flat_length enSIII_len _, tv⟩, tv, tv⟩ tv (R := ⟨.tup [(ys 0), (ys 1)], [none], [some (0, 0)]⟩) (qs := [.num (.c 0) (.v 0), .num (.c 8) (.v 1)]) wok0 tv hF hr (by kernel_rfl) ⟨(r (0 : Int)), (r (8 : Int)), tv⟩ hat
  ·rw [if_neg h2] at h
   obtain ⟨o3, ho3, h⟩ := bs1 h
   refine to_loop mixed ⟨[(.eql, (.v 0), (.c 0), false), (.gtr, (.v 0), (.c 6), false)], [], [(0, 4, (.v 0))], [], [], []⟩ (V := (vals [(a0.length : Int)] [(a0.flatMap enSIII)])) (n := 3000) (f := 3000) (fid := 55) (fun _ => rfl) (V' := (vals [(a0.length : Int), (0 : Int)] [(a0.flatMap enSIII)])) ⟨⟨eql_f h1, gtr_f h2, tv⟩, tv, ⟨flat_length enSIII_len _, tv⟩, tv, tv⟩ tv (T := ⟨[(0, .gs 0 0 (.v 0) 4 false), (4, (ys 1))], [some (.rows 0 [] 55 true)], [some (0, 0)]⟩) (B := subAt (bodyOf Tryz.prog 55) [1, 1, 1, 0, 1, 0, 0]) (K' := [.bk 0, .sq (subAt (bodyOf Tryz.prog 55) [1, 1, 1, 1]) [1, 1, 1, 1]]) (qs := [(ns 0 0), .num (.c 0) (.v 1), .lst 0 (some 0) []]) wok0 tv hF hr (by kernel_rfl) ⟨(r (a0.length : Int)), (r (0 : Int)), ⟨[], rfl, lnil _⟩, tv⟩ hat fun aa1 ww1 hat1 => loop_in (r7_CheckStreams_L2_ok fu a0 fu (0 : Int) o3 ho3 _ _ _ _ _ _ _ hF hr hat1 ?_ ?_)
   ·intro y4 hy aa2 ww2 hat
    subst hy
    dsimp only at h
    show (Wk.out .ret).goal _ _ _ [.bk 0, .sq (subAt (bodyOf Tryz.prog 55) [1, 1, 1, 1]) [1, 1, 1, 1]] _ aa2 ww2
    injection h with h; subst h
    exact to_fin mixed ⟨[], [], [(0, 4, (.v 0))], [], [], []⟩ (V := (vals [(a0.length : Int), y4.1, y4.2] [(a0.flatMap enSIII)])) (n := 3000) (f := 3000) (fid := 55) (fun _ => rfl) ⟨tv, tv, ⟨flat_length enSIII_len _, tv⟩, tv, tv⟩ tv (R := ⟨.tup [(ys 0), (ys 1)], [none], [some (0, 0)]⟩) (qs := [(ns 1 0), (ns 2 1)]) tv ⟨rfl, tv⟩ hF hr (by kernel_rfl) ⟨(r y4.1), (r y4.2), tv⟩ hat
   ·intro y5 hy aa2 ww2 hat
    subst hy
    dsimp only at h
    show (Wk.out (.exit 0)).goal _ _ _ [.bk 0, .sq (subAt (bodyOf Tryz.prog 55) [1, 1, 1, 1]) [1, 1, 1, 1]] _ aa2 ww2
    injection h with h; subst h
    exact to_fin mixed ⟨[], [], [(0, 4, (.v 0))], [], [], []⟩ (V := (vals [(a0.length : Int)] [(a0.flatMap enSIII)])) (n := 3000) (f := 3000) (fid := 55) (fun _ => rfl) ⟨tv, tv, ⟨flat_length enSIII_len _, tv⟩, tv, tv⟩ tv (R := ⟨.tup [(ys 0), (ys 1)], [none], [some (0, 0)]⟩) (qs := [.num (.c 0) (.v 0), .num (.c 0) (.v 1)]) tv ⟨rfl, tv⟩ hF hr (by kernel_rfl) ⟨(r (0 : Int)), (r (0 : Int)), tv⟩ hat
def r7_StreamsErr (fu : Nat) (a0 : List (Int × Int × Int × Int)) : Option (Int) := Option.bind (r7_CheckStreams fu a0) fun r1 => some r1.2
theorem r7_StreamsErr_ok (fu : Nat) (a0 : List (Int × Int × Int × Int)) (y : Int) (h : r7_StreamsErr fu a0 = some y) : CallOk Tryz.prog 19 (vals [(a0.length : Int)] [(a0.flatMap enSIII)]) [.gs 0 0 (.v 0) 4 false] [some (.rows 0 [] 55 true)] 1 (vals [y] []) ((ys 0)) [none] := by
 refine fun_of (nt := 11) (by kernel_rfl) (by kernel_rfl) fun φ0 w0 a w hat => ?_
 have hF := wide_fw
 have hr : Fence.wide.round = none := rfl
 unfold r7_StreamsErr at h
 obtain ⟨r1, hr1, h⟩ := bs1 h
 have Kr1 : KO Tryz.prog [(a0.length : Int), r1.1, r1.2] [(a0.flatMap enSIII)] ⟨55, 1, [some (0, 0)], [.gs 0 0 (.v 0) 4 false], [some (.rows 0 [] 55 true)], [(ns 0 0), .lst 0 (some 0) []], 1, .tup [(ys 0), (ys 1)], [none], .tup [(ys 1), (ys 2)], [], []⟩ := fun N M => ⟨_, _, [(ns 0 1), (ns 1 2)], ⟨r7_CheckStreams_ok fu a0 r1 hr1, ⟨(r (a0.length : Int)), ⟨[], rfl, lnil _⟩, tv⟩, by kernel_rfl, ⟨rfl, rfl, tv⟩⟩⟩
 injection h with h; subst h
 exact to_fin mixed ⟨[], [], [(0, 4, (.v 0))], [⟨55, 1, [some (0, 0)], [.gs 0 0 (.v 0) 4 false], [some (.rows 0 [] 55 true)], [(ns 0 0), .lst 0 (some 0) []], 1, .tup [(ys 0), (ys 1)], [none], .tup [(ys 1), (ys 2)], [], []⟩], [], []⟩ (V := (vals [(a0.length : Int), r1.1, r1.2] [(a0.flatMap enSIII)])) (n := 3000) (f := 3000) (fid := 19) (fun _ => rfl) ⟨tv, tv, ⟨flat_length enSIII_len _, tv⟩, tv, tv⟩ ⟨Kr1 _ _, tv⟩ (R := ⟨(ys 0), [none], [some (0, 0)]⟩) (qs := [(ns 2 0)]) wok0 tv hF hr (by kernel_rfl) ⟨(r r1.2), tv⟩ (at_re (V' := (vals [(a0.length : Int), r1.1, r1.2] [(a0.flatMap enSIII)])) (T := ⟨[(0, .gs 0 0 (.v 0) 4 false)], [some (.rows 0 [] 55 true)], [some (0, 0)]⟩) (qs := [(ns 0 0), .lst 0 (some 0) []]) hat (by kernel_rfl) ⟨rfl, ⟨[], rfl, lnil _⟩, tv⟩)
def r7_StartsErr_L1 (fu : Nat) (p0 : List (Int × Int × Int × Int)) (p1 : List (Int)) (p2 : Int) : Nat → Int → Option ((Unit) ⊕ (Unit))
 | 0, _ => none
 | n + 1, v3 => if v3 < (p1.length : Int) then (if (0 : Int) ≤ v3 then (Option.bind ((p1)[0 + (v3).toNat]?) fun e3 => Option.bind (b_Within e3 (0 : Int) (400 : Int)) fun r4 => if r4 = true then (r7_StartsErr_L1 fu p0 p1 p2 n (IntKind.wrap .i64 (v3 + (1 : Int)))) else (some (.inl ()))) else none) else (some (.inr ()))
theorem r7_StartsErr_L1_ok (fu : Nat) (p0 : List (Int × Int × Int × Int)) (p1 : List (Int)) (p2 : Int) : ∀ (n : Nat) (v3 : Int) (o : (Unit) ⊕ (Unit)), r7_StartsErr_L1 fu p0 p1 p2 n v3 = some o → ∀ (φ0 : Phi) (w0 : World) (F : Fence) (k : Nat) (R : Exit → Act → World → Prop) (a : Act) (w : World), FW F → F.round = none → AtS (vals [(p0.length : Int), (p1.length : Int), p2, v3] [(p0.flatMap enSIII), (p1.flatMap enI)]) [(1, .gs 1 0 (.v 1) 1 false), (2, (ys 2)), (7, (ys 3))] [some (.rows 0 [] 55 true), some (.rows 1 [] 3 true)] 28 2 2 φ0 w0 a w → (∀ (y : Unit), o = .inl y → ∀ a' w', AtS (vals [(p0.length : Int), (p1.length : Int)] [(p0.flatMap enSIII), (p1.flatMap enI)]) [(6, .int .i64 2)] [some (.rows 0 [] 55 true), some (.rows 1 [] 3 true)] 28 2 2 φ0 w0 a' w' → R Exit.ret a' w') → (∀ (y : Unit), o = .inr y → ∀ a' w', AtS (vals [(p0.length : Int), (p1.length : Int), p2] [(p0.flatMap enSIII), (p1.flatMap enI)]) [(2, (ys 2))] [some (.rows 0 [] 55 true), some (.rows 1 [] 3 true)] 28 2 2 φ0 w0 a' w' → R (Exit.exit 0) a' w') → Code.roundsIn F k Tryz.prog (subAt (bodyOf Tryz.prog 20) [1, 1, 0, 1, 0, 0]) R n a w
 | 0, _, _, h => by cases h
 | n + 1, v3, o, h => by
  intro φ0 w0 F k R a w hF hr hat hx0 hx1
  rw [r7_StartsErr_L1] at h
  refine rounds_in (p := [1, 1, 0, 1, 0, 0]) ?_
  by_cases h1 : v3 < (p1.length : Int)
  ·rw [if_pos h1] at h
   by_cases h2 : (0 : Int) ≤ v3
   ·rw [if_pos h2] at h
    obtain ⟨e3, he3, h⟩ := bs1 h
    obtain ⟨r4, hr4, h⟩ := bs1 h
    have Kr4 : KO Tryz.prog [(p0.length : Int), (p1.length : Int), p2, v3, e3, bI r4] [(p0.flatMap enSIII), (p1.flatMap enI)] ⟨13, 2, [], [(ys 0), (ys 1), (ys 2)], [], [(ns 4 0), .num (.c 0) (.v 1), .num (.c 400) (.v 2)], 0, .bs (.v 0), [], .bs (.v 5), [], []⟩ := fun N M => ⟨_, _, [(ns 0 5)], ⟨b_Within_ok e3 (0 : Int) (400 : Int) r4 hr4, ⟨(r e3), (r (0 : Int)), (r (400 : Int)), tv⟩, by kernel_rfl, ⟨rfl, tv⟩⟩⟩
    by_cases h5 : r4 = true
    ·rw [if_pos h5] at h
     refine to_done mixed ⟨[(.lss, (.v 3), (.v 1), true), (.leq, (.c 0), (.v 3), true), (.neq, (.v 5), (.c 0), true)], [(1, 0, (.v 3), [(ys 4)])], [(0, 4, (.v 0)), (1, 1, (.v 1))], [⟨13, 2, [], [(ys 0), (ys 1), (ys 2)], [], [(ns 4 0), .num (.c 0) (.v 1), .num (.c 400) (.v 2)], 0, .bs (.v 0), [], .bs (.v 5), [], []⟩], [], []⟩ (V := (vals [(p0.length : Int), (p1.length : Int), p2, v3, e3, bI r4] [(p0.flatMap enSIII), (p1.flatMap enI)])) (n := 3000) (f := 3000) (fid := 20) (fun _ => rfl) (V' := (vals [(p0.length : Int), (p1.length : Int), p2, (IntKind.wrap .i64 (v3 + (1 : Int)))] [(p0.flatMap enSIII), (p1.flatMap enI)])) ⟨⟨lss_t h1, leq_t h2, bi_t h5, tv⟩, ⟨⟨h2, _, rfl, flat_row enI_len he3⟩, tv⟩, ⟨flat_length enSIII_len _, flat_length enI_len _, tv⟩, tv, tv⟩ ⟨Kr4 _ _, tv⟩ (T := ⟨[(1, .gs 1 0 (.v 1) 1 false), (2, (ys 2)), (7, (ys 3))], [some (.rows 0 [] 55 true), some (.rows 1 [] 3 true)], [some (0, 0), some (1, 0)]⟩) (ce := .normal) (qs := [(ns 1 1), (ns 2 2), .num (.add .i64 (.v 3) (.c 1)) (.v 3), .lst 0 (some 0) [], .lst 1 (some 1) []]) rfl tv hF hr (by kernel_rfl) ⟨(r (p1.length : Int)), (r p2), (r (IntKind.wrap .i64 (v3 + (1 : Int)))), ⟨[], rfl, lnil _⟩, ⟨[], rfl, lnil _⟩, tv⟩ (at_re (V' := (vals [(p0.length : Int), (p1.length : Int), p2, v3, e3, bI r4] [(p0.flatMap enSIII), (p1.flatMap enI)])) (T := ⟨[(1, .gs 1 0 (.v 1) 1 false), (2, (ys 2)), (7, (ys 3))], [some (.rows 0 [] 55 true), some (.rows 1 [] 3 true)], [some (0, 0), some (1, 0)]⟩) (qs := [(ns 1 1), (ns 2 2), (ns 3 3), .lst 0 (some 0) [], .lst 1 (some 1) []]) hat (by kernel_rfl) ⟨rfl, rfl, rfl, ⟨[], rfl, lnil _⟩, ⟨[], rfl, lnil _⟩, tv⟩) fun a' w' hat' => ?_
     exact r7_StartsErr_L1_ok fu p0 p1 p2 n (IntKind.wrap .i64 (v3 + (1 : Int))) o h _ _ _ _ _ _ _ hF hr hat' hx0 hx1
    ·rw [if_neg h5] at h
     injection h with h; subst h
     exact to_done mixed ⟨[(.lss, (.v 3), (.v 1), true), (.leq, (.c 0), (.v 3), true), (.neq, (.v 5), (.c 0), false)], [(1, 0, (.v 3), [(ys 4)])], [(0, 4, (.v 0)), (1, 1, (.v 1))], [⟨13, 2, [], [(ys 0), (ys 1), (ys 2)], [], [(ns 4 0), .num (.c 0) (.v 1), .num (.c 400) (.v 2)], 0, .bs (.v 0), [], .bs (.v 5), [], []⟩], [], []⟩ (V := (vals [(p0.length : Int), (p1.length : Int), p2, v3, e3, bI r4] [(p0.flatMap enSIII), (p1.flatMap enI)])) (n := 3000) (f := 3000) (fid := 20) (fun _ => rfl) (V' := (vals [(p0.length : Int), (p1.length : Int)] [(p0.flatMap enSIII), (p1.flatMap enI)])) ⟨⟨lss_t h1, leq_t h2, bi_f h5, tv⟩, ⟨⟨h2, _, rfl, flat_row enI_len he3⟩, tv⟩, ⟨flat_length enSIII_len _, flat_length enI_len _, tv⟩, tv, tv⟩ ⟨Kr4 _ _, tv⟩ (T := ⟨[(6, .int .i64 2)], [some (.rows 0 [] 55 true), some (.rows 1 [] 3 true)], [some (0, 0), some (1, 0)]⟩) (ce := .ret) (qs := [.lst 0 (some 0) [], .lst 1 (some 1) []]) rfl tv hF hr (by kernel_rfl) ⟨⟨[], rfl, lnil _⟩, ⟨[], rfl, lnil _⟩, tv⟩ (at_re (V' := (vals [(p0.length : Int), (p1.length : Int), p2, v3, e3, bI r4] [(p0.flatMap enSIII), (p1.flatMap enI)])) (T := ⟨[(1, .gs 1 0 (.v 1) 1 false), (2, (ys 2)), (7, (ys 3))], [some (.rows 0 [] 55 true), some (.rows 1 [] 3 true)], [some (0, 0), some (1, 0)]⟩) (qs := [(ns 1 1), (ns 2 2), (ns 3 3), .lst 0 (some 0) [], .lst 1 (some 1) []]) hat (by kernel_rfl) ⟨rfl, rfl, rfl, ⟨[], rfl, lnil _⟩, ⟨[], rfl, lnil _⟩, tv⟩) fun a' w' hat' => hx0 () rfl a' w' hat'
   ·rw [if_neg h2] at h
    cases h
  ·rw [if_neg h1] at h
   injection h with h; subst h
   exact to_done mixed ⟨[(.lss, (.v 3), (.v 1), false)], [], [(0, 4, (.v 0)), (1, 1, (.v 1))], [], [], []⟩ (V := (vals [(p0.length : Int), (p1.length : Int), p2, v3] [(p0.flatMap enSIII), (p1.flatMap enI)])) (n := 3000) (f := 3000) (fid := 20) (fun _ => rfl) (V' := (vals [(p0.length : Int), (p1.length : Int), p2] [(p0.flatMap enSIII), (p1.flatMap enI)])) ⟨⟨lss_f h1, tv⟩, tv, ⟨flat_length enSIII_len _, flat_length enI_len _, tv⟩, tv, tv⟩ tv (T := ⟨[(2, (ys 2))], [some (.rows 0 [] 55 true), some (.rows 1 [] 3 true)], [some (0, 0), some (1, 0)]⟩) (ce := (.exit 0)) (qs := [(ns 2 2), .lst 0 (some 0) [], .lst 1 (some 1) []]) rfl tv hF hr (by kernel_rfl) ⟨(r p2), ⟨[], rfl, lnil _⟩, ⟨[], rfl, lnil _⟩, tv⟩ hat fun a' w' hat' => hx1 () rfl a' w' hat'
def r7_StartsErr (fu : Nat) (a0 : List (Int × Int × Int × Int)) (a1 : List (Int)) (a2 : Int) : Option (Int) := if (a1.length : Int) = (a0.length : Int) then (Option.bind (r7_StartsErr_L1 fu a0 a1 a2 fu (0 : Int)) fun o2 => (match o2 with | .inl y3 => (some (2 : Int)) | .inr y4 => (Option.bind (b_Within a2 (0 : Int) (400 : Int)) fun r5 => if r5 = true then (some (0 : Int)) else (some (2 : Int))))) else (some (10 : Int))
theorem r7_StartsErr_ok (fu : Nat) (a0 : List (Int × Int × Int × Int)) (a1 : List (Int)) (a2 : Int) (y : Int) (h : r7_StartsErr fu a0 a1 a2 = some y) : CallOk Tryz.prog 20 (vals [(a0.length : Int), (a1.length : Int), a2] [(a0.flatMap enSIII), (a1.flatMap enI)]) [.gs 0 0 (.v 0) 4 false, .gs 1 0 (.v 1) 1 false, (ys 2)] [some (.rows 0 [] 55 true), some (.rows 1 [] 3 true)] 2 (vals [y] []) ((ys 0)) [none, none] := by
 refine fun_of (nt := 28) (by kernel_rfl) (by kernel_rfl) fun φ0 w0 a w hat => ?_
 have hF := wide_fw
 have hr : Fence.wide.round = none := rfl
 unfold r7_StartsErr at h
 by_cases h1 : (a1.length : Int) = (a0.length : Int)
 ·rw [if_pos h1] at h
  obtain ⟨o2, ho2, h⟩ := bs1 h
  refine to_loop mixed ⟨[(.neq, (.v 1), (.v 0), false)], [], [(0, 4, (.v 0)), (1, 1, (.v 1))], [], [], []⟩ (V := (vals [(a0.length : Int), (a1.length : Int), a2] [(a0.flatMap enSIII), (a1.flatMap enI)])) (n := 3000) (f := 3000) (fid := 20) (fun _ => rfl) (V' := (vals [(a0.length : Int), (a1.length : Int), a2, (0 : Int)] [(a0.flatMap enSIII), (a1.flatMap enI)])) ⟨⟨neq_f h1, tv⟩, tv, ⟨flat_length enSIII_len _, flat_length enI_len _, tv⟩, tv, tv⟩ tv (T := ⟨[(1, .gs 1 0 (.v 1) 1 false), (2, (ys 2)), (7, (ys 3))], [some (.rows 0 [] 55 true), some (.rows 1 [] 3 true)], [some (0, 0), some (1, 0)]⟩) (B := subAt (bodyOf Tryz.prog 20) [1, 1, 0, 1, 0, 0]) (K' := [.bk 0, .sq (subAt (bodyOf Tryz.prog 20) [1, 1, 1]) [1, 1, 1]]) (qs := [(ns 1 1), (ns 2 2), .num (.c 0) (.v 3), .lst 0 (some 0) [], .lst 1 (some 1) []]) wok0 tv hF hr (by kernel_rfl) ⟨(r (a1.length : Int)), (r a2), (r (0 : Int)), ⟨[], rfl, lnil _⟩, ⟨[], rfl, lnil _⟩, tv⟩ hat fun aa1 ww1 hat1 => loop_in (r7_StartsErr_L1_ok fu a0 a1 a2 fu (0 : Int) o2 ho2 _ _ _ _ _ _ _ hF hr hat1 ?_ ?_)
  ·intro y3 hy aa2 ww2 hat
   subst hy
   dsimp only at h
   show (Wk.out .ret).goal _ _ _ [.bk 0, .sq (subAt (bodyOf Tryz.prog 20) [1, 1, 1]) [1, 1, 1]] _ aa2 ww2
   injection h with h; subst h
   exact to_fin mixed ⟨[], [], [(0, 4, (.v 0)), (1, 1, (.v 1))], [], [], []⟩ (V := (vals [(a0.length : Int), (a1.length : Int)] [(a0.flatMap enSIII), (a1.flatMap enI)])) (n := 3000) (f := 3000) (fid := 20) (fun _ => rfl) ⟨tv, tv, ⟨flat_length enSIII_len _, flat_length enI_len _, tv⟩, tv, tv⟩ tv (R := ⟨(ys 0), [none, none], [some (0, 0), some (1, 0)]⟩) (qs := [.num (.c 2) (.v 0)]) tv ⟨rfl, tv⟩ hF hr (by kernel_rfl) ⟨(r (2 : Int)), tv⟩ hat
  ·intro y4 hy aa2 ww2 hat
   subst hy
   dsimp only at h
   show (Wk.out (.exit 0)).goal _ _ _ [.bk 0, .sq (subAt (bodyOf Tryz.prog 20) [1, 1, 1]) [1, 1, 1]] _ aa2 ww2
   obtain ⟨r5, hr5, h⟩ := bs1 h
   have Kr5 : KO Tryz.prog [(a0.length : Int), (a1.length : Int), a2, bI r5] [(a0.flatMap enSIII), (a1.flatMap enI)] ⟨13, 2, [], [(ys 0), (ys 1), (ys 2)], [], [(ns 2 0), .num (.c 0) (.v 1), .num (.c 400) (.v 2)], 0, .bs (.v 0), [], .bs (.v 3), [], []⟩ := fun N M => ⟨_, _, [(ns 0 3)], ⟨b_Within_ok a2 (0 : Int) (400 : Int) r5 hr5, ⟨(r a2), (r (0 : Int)), (r (400 : Int)), tv⟩, by kernel_rfl, ⟨rfl, tv⟩⟩⟩
   by_cases h6 : r5 = true
   ·rw [if_pos h6] at h
    injection h with h; subst h
    exact to_fin mixed ⟨[(.neq, (.v 3), (.c 0), true)], [], [(0, 4, (.v 0)), (1, 1, (.v 1))], [⟨13, 2, [], [(ys 0), (ys 1), (ys 2)], [], [(ns 2 0), .num (.c 0) (.v 1), .num (.c 400) (.v 2)], 0, .bs (.v 0), [], .bs (.v 3), [], []⟩], [], []⟩ (V := (vals [(a0.length : Int), (a1.length : Int), a2, bI r5] [(a0.flatMap enSIII), (a1.flatMap enI)])) (n := 3000) (f := 3000) (fid := 20) (fun _ => rfl) ⟨⟨bi_t h6, tv⟩, tv, ⟨flat_length enSIII_len _, flat_length enI_len _, tv⟩, tv, tv⟩ ⟨Kr5 _ _, tv⟩ (R := ⟨(ys 0), [none, none], [some (0, 0), some (1, 0)]⟩) (qs := [.num (.c 0) (.v 0)]) tv ⟨rfl, tv⟩ hF hr (by kernel_rfl) ⟨(r (0 : Int)), tv⟩ (at_re (V' := (vals [(a0.length : Int), (a1.length : Int), a2, bI r5] [(a0.flatMap enSIII), (a1.flatMap enI)])) (T := ⟨[(2, (ys 2))], [some (.rows 0 [] 55 true), some (.rows 1 [] 3 true)], [some (0, 0), some (1, 0)]⟩) (qs := [(ns 2 2), .lst 0 (some 0) [], .lst 1 (some 1) []]) hat (by kernel_rfl) ⟨rfl, ⟨[], rfl, lnil _⟩, ⟨[], rfl, lnil _⟩, tv⟩)
   ·rw [if_neg h6] at h
    injection h with h; subst h
    exact to_fin mixed ⟨[(.neq, (.v 3), (.c 0), false)], [], [(0, 4, (.v 0)), (1, 1, (.v 1))], [⟨13, 2, [], [(ys 0), (ys 1), (ys 2)], [], [(ns 2 0), .num (.c 0) (.v 1), .num (.c 400) (.v 2)], 0, .bs (.v 0), [], .bs (.v 3), [], []⟩], [], []⟩ (V := (vals [(a0.length : Int), (a1.length : Int), a2, bI r5] [(a0.flatMap enSIII), (a1.flatMap enI)])) (n := 3000) (f := 3000) (fid := 20) (fun _ => rfl) ⟨⟨bi_f h6, tv⟩, tv, ⟨flat_length enSIII_len _, flat_length enI_len _, tv⟩, tv, tv⟩ ⟨Kr5 _ _, tv⟩ (R := ⟨(ys 0), [none, none], [some (0, 0), some (1, 0)]⟩) (qs := [.num (.c 2) (.v 0)]) tv ⟨rfl, tv⟩ hF hr (by kernel_rfl) ⟨(r (2 : Int)), tv⟩ (at_re (V' := (vals [(a0.length : Int), (a1.length : Int), a2, bI r5] [(a0.flatMap enSIII), (a1.flatMap enI)])) (T := ⟨[(2, (ys 2))], [some (.rows 0 [] 55 true), some (.rows 1 [] 3 true)], [some (0, 0), some (1, 0)]⟩) (qs := [(ns 2 2), .lst 0 (some 0) [], .lst 1 (some 1) []]) hat (by kernel_rfl) ⟨rfl, ⟨[], rfl, lnil _⟩, ⟨[], rfl, lnil _⟩, tv⟩)
 ·rw [if_neg h1] at h
  injection h with h; subst h
  exact to_fin mixed ⟨[(.neq, (.v 1), (.v 0), true)], [], [(0, 4, (.v 0)), (1, 1, (.v 1))], [], [], []⟩ (V := (vals [(a0.length : Int), (a1.length : Int), a2] [(a0.flatMap enSIII), (a1.flatMap enI)])) (n := 3000) (f := 3000) (fid := 20) (fun _ => rfl) ⟨⟨neq_t h1, tv⟩, tv, ⟨flat_length enSIII_len _, flat_length enI_len _, tv⟩, tv, tv⟩ tv (R := ⟨(ys 0), [none, none], [some (0, 0), some (1, 0)]⟩) (qs := [.num (.c 10) (.v 0)]) wok0 tv hF hr (by kernel_rfl) ⟨(r (10 : Int)), tv⟩ hat
def r7_CopyStreams (a0 : List (Int × Int × Int × Int)) : Option (List (Int × Int × Int × Int)) := if (a0.length : Int) < (65536 : Int) then (some a0) else none
theorem r7_CopyStreams_ok (a0 : List (Int × Int × Int × Int)) (y : List (Int × Int × Int × Int)) (h : r7_CopyStreams a0 = some y) : CallOk Tryz.prog 15 (vals [(a0.length : Int)] [(a0.flatMap enSIII)]) [.gs 0 0 (.v 0) 4 false] [some (.rows 0 [] 55 true)] 1 (vals [(y.length : Int)] [(y.flatMap enSIII)]) (.gs 1 0 (.v 0) 4 true) [none, some (.rows 0 [] 55 false)] := by
 refine fun_of (nt := 6) (by kernel_rfl) (by kernel_rfl) fun φ0 w0 a w hat => ?_
 have hF := wide_fw
 have hr : Fence.wide.round = none := rfl
 unfold r7_CopyStreams at h
 by_cases h1 : (a0.length : Int) < (65536 : Int)
 ·rw [if_pos h1] at h
  injection h with h; subst h
  exact to_fin mixed ⟨[(.lss, (.v 0), (.c 65536), true)], [], [(0, 4, (.v 0))], [], [], []⟩ (V := (vals [(a0.length : Int)] [(a0.flatMap enSIII)])) (n := 3000) (f := 3000) (fid := 15) (fun _ => rfl) ⟨⟨lss_t h1, tv⟩, tv, ⟨flat_length enSIII_len _, tv⟩, tv, tv⟩ tv (R := ⟨.gs 1 0 (.v 0) 4 true, [none, some (.rows 0 [] 55 false)], [some (0, 0), some (1, 0)]⟩) (qs := [(ns 0 0), .lst 0 (some 0) []]) wok0 tv hF hr (by kernel_rfl) ⟨(r (a0.length : Int)), ⟨[], rfl, lnil _⟩, tv⟩ hat
 ·rw [if_neg h1] at h
  cases h
def b_CopyInts (a0 : List (Int)) : Option (List (Int)) := if (a0.length : Int) < (65536 : Int) then (some a0) else none
theorem b_CopyInts_ok (a0 : List (Int)) (y : List (Int)) (h : b_CopyInts a0 = some y) : CallOk Tryz.prog 16 (vals [(a0.length : Int)] [(a0.flatMap enI)]) [.gs 0 0 (.v 0) 1 false] [some (.rows 0 [] 3 true)] 1 (vals [(y.length : Int)] [(y.flatMap enI)]) (.gs 1 0 (.v 0) 1 true) [none, some (.rows 0 [] 3 false)] := by
 refine fun_of (nt := 6) (by kernel_rfl) (by kernel_rfl) fun φ0 w0 a w hat => ?_
 have hF := wide_fw
 have hr : Fence.wide.round = none := rfl
 unfold b_CopyInts at h
 by_cases h1 : (a0.length : Int) < (65536 : Int)
 ·rw [if_pos h1] at h
  injection h with h; subst h
  exact to_fin mixed ⟨[(.lss, (.v 0), (.c 65536), true)], [], [(0, 1, (.v 0))], [], [], []⟩ (V := (vals [(a0.length : Int)] [(a0.flatMap enI)])) (n := 3000) (f := 3000) (fid := 16) (fun _ => rfl) ⟨⟨lss_t h1, tv⟩, tv, ⟨flat_length enI_len _, tv⟩, tv, tv⟩ tv (R := ⟨.gs 1 0 (.v 0) 1 true, [none, some (.rows 0 [] 3 false)], [some (0, 0), some (1, 0)]⟩) (qs := [(ns 0 0), .lst 0 (some 0) []]) wok0 tv hF hr (by kernel_rfl) ⟨(r (a0.length : Int)), ⟨[], rfl, lnil _⟩, tv⟩ hat
 ·rw [if_neg h1] at h
  cases h
end Go.Proofs.YthffbfkcmbgghaaGreat
