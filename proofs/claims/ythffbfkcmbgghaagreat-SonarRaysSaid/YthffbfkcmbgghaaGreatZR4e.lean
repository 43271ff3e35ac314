/-
  'SonarRays' returns true for every input, and leaves its arguments as they were: the cells that a ray crosses are as the document says; back again they are the same, both ends are among them, and a ray moved by one cell crosses the moved cells.
-/
import Derived.Test.YthffbfkcmbgghaaGreatZKd
import Derived.Test.YthffbfkcmbgghaaGreatZEf
import Derived.Test.YthffbfkcmbgghaaGreatZR4d
import Derived.Test.YthffbfkcmbgghaaGreatZR4ej
set_option linter.all false
namespace Go.Proofs.YthffbfkcmbgghaaGreat
open Go.ChangeShapes Go.WideShapes Go.ChangeAt Go.RowKit
theorem sonarRaysParams : ∀ t ∈ Tryz.f3.params.toList, Tryz.prog.readableRec t = true ∧ t < Tryz.prog.types.size := by
  have h : (Tryz.f3.params.toList.all fun t => Tryz.prog.readableRec t && decide (t < Tryz.prog.types.size)) = true := by kernel_rfl
  intro t ht
  have := List.all_eq_true.1 h t ht
  simpa using this
set_option maxHeartbeats 4000000 in
theorem sonarRays_open0 {W : World} : ∀ {cs : List Value}, Cm.okKTs W [.c .i, .c .i, .c .i, .c .i, .c .b] cs → ∃ (a0_0 : Int) (a0_1 : Int) (a0_2 : Int) (a0_3 : Int) (a0_4 : Bool), cs = [.int .i64 a0_0, .int .i64 a0_1, .int .i64 a0_2, .int .i64 a0_3, .bool a0_4] ∧ True
  | [_, _, _, _, _], ⟨⟨z0, rfl⟩, ⟨z1, rfl⟩, ⟨z2, rfl⟩, ⟨z3, rfl⟩, ⟨z4, rfl⟩, _⟩ => ⟨z0, z1, z2, z3, z4, rfl, trivial⟩
set_option maxRecDepth 100000 in
set_option maxHeartbeats 2000000 in
theorem sonarRays_lifted (os : Os) (started : os.Started) (H : Type) (enc : TypeId × Value → H) :
    ReturnsInHanded {} Tryz.checked os 3 .any (Rows.sonarRaysSpec.pre6 enc Tryz.prog Tryz.f3 Rows.sonarRaysRow.domain false) (Rows.sonarRaysSpec.post enc Tryz.prog Tryz.f3 false true false false) := by
  refine returnsInHanded_of_change (C := Tryz.checked) Cm.lawOwn started (by kernel_rfl) Tryz.func3
    (ChangeSpec.witness6 (enc := enc) (C := Tryz.checked) false ⟨#[], #[.agg #[.int .i64 0, .int .i64 0, .int .i64 0, .int .i64 0, .bool false]], []⟩ 8 (by kernel_rfl) (by kernel_rfl) (by kernel_rfl) (by kernel_rfl)) ?_
  intro W base args ds gs before hval0 hW hcnd _
  have hval : ∀ (j : Nat) t v, Tryz.f3.params[j]? = some t → args[j]? = some v → Value.okWide Tryz.prog W .any base t v := hval0
  have hW' : DataW.Whole enc Tryz.prog Tryz.f3.params.toList Rows.sonarRaysSpec.vars false W args.toList ds gs before := hW
  obtain ⟨p, q, hA0, hV, rfl, hfz, hnd⟩ := hW
  have hA : DataW.TrodAll enc Tryz.prog W 0 (fun _ => true) true Tryz.f3.params.toList args.toList ds p := hA0
  rw [Tryz.params3] at hA hval
  obtain ⟨v0, vs0, d0, ds0, p0, q0, hargs, rfl, rfl, h0, r0⟩ := trodAll_cons hA
  obtain ⟨rfl, rfl, rfl⟩ := trodAll_nil r0
  obtain rfl : args = #[v0] := by cases args; simp_all
  obtain ⟨rfl, rfl⟩ := trodVars_none hV
  obtain ⟨cs0, rfl, k0⟩ := Cm.arg_kinds (n := 9) (ks := [.c .i, .c .i, .c .i, .c .i, .c .b]) Tryz.underlying25 (by kernel_rfl) (hval 0 25 v0 rfl rfl) h0
  obtain ⟨a0_0, a0_1, a0_2, a0_3, a0_4, rfl, _⟩ := sonarRays_open0 k0
  obtain ⟨fu, hfu⟩ := l4_SonarRays_true a0_0 a0_1 a0_2 a0_3 a0_4
  refine (Cm.true_of_ok (w := W) (l4_SonarRays_ok fu a0_0 a0_1 a0_2 a0_3 a0_4 true hfu) rfl rfl (xs := []) trivial (args' := [.agg ⟨[.int .i64 a0_0, .int .i64 a0_1, .int .i64 a0_2, .int .i64 a0_3, .bool a0_4]⟩]) (Cm.vrs_cons (Cm.vr_agg (Cm.vrs_cons (Cm.vr_i rfl) (Cm.vrs_cons (Cm.vr_i rfl) (Cm.vrs_cons (Cm.vr_i rfl) (Cm.vrs_cons (Cm.vr_i rfl) (Cm.vrs_cons (Cm.vr_b rfl) Cm.vrs_nil)))))) Cm.vrs_nil)).mono fun e W' ⟨he, hb⟩ => ?_
  subst he
  exact ⟨_, rfl, post_true Cm.lawLaid sonarRaysParams rfl Tryz.underlying4 rfl ⟨rfl, rfl, rfl⟩ hW' hb⟩
theorem sonarRays_holds : Rows.SonarRaysSaid :=
  OpenClaim.holds_of_wide 3 Tryz.f3 rfl rfl rfl rfl rfl rfl rfl ⟨rfl, rfl, rfl, rfl, rfl⟩ rfl rfl rfl rfl rfl (by kernel_rfl) Tryz.func3 sonarRaysJoined
    (of_decide_eq_true (by kernel_rfl)) (by unfold Func.isWrapper; first | (rw [if_pos (by decide +kernel)]; kernel_rfl) | (rw [if_neg (by decide +kernel)]; exact ⟨rfl, rfl⟩))
    (fun os started H enc _ => sonarRays_lifted os started H enc)
end Go.Proofs.YthffbfkcmbgghaaGreat
