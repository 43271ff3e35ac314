/-
  'WinchEquations' returns true for every input, and leaves its arguments as they were: the predictor of samples is accepted and no other one, leaves no greater sum of squares than whole coefficients, and finds a recurrence that samples follow exactly.
-/
import Derived.Test.YthffbfkcmbgghaaZKd
import Derived.Test.YthffbfkcmbgghaaZEf
import Derived.Test.YthffbfkcmbgghaaZW3c
import Derived.Test.YthffbfkcmbgghaaZW3dj
set_option linter.all false
namespace Go.Proofs.Ythffbfkcmbgghaa
open Go.ChangeShapes Go.WideShapes Go.ChangeAt Go.RowKit
theorem winchEquationsParams : ∀ t ∈ Try.f5.params.toList, Try.prog.readableRec t = true ∧ t < Try.prog.types.size := by
  have h : (Try.f5.params.toList.all fun t => Try.prog.readableRec t && decide (t < Try.prog.types.size)) = true := by kernel_rfl
  intro t ht
  have := List.all_eq_true.1 h t ht
  simpa using this
theorem winchEquations_open0 {W : World} {v : Value} : Cm.okKTs W [.l [.i]] [v] → ∃ a0 : List (Int), Sl Cm.enI 1 W v a0
  | ⟨⟨_, s⟩, _⟩ => Cm.sl_typed (enc := Cm.enI) (fun x hx => by match x, hx with | [_], ⟨⟨y0, rfl⟩, _⟩ => exact ⟨y0, rfl⟩) s
set_option maxHeartbeats 4000000 in
theorem winchEquations_open1 {W : World} : ∀ {cs : List Value}, Cm.okKTs W [.c .i, .c .i, .c .i, .c .i, .c .i] cs → ∃ (a1_0 : Int) (a1_1 : Int) (a1_2 : Int) (a1_3 : Int) (a1_4 : Int), cs = [.int .i64 a1_0, .int .i64 a1_1, .int .i64 a1_2, .int .i64 a1_3, .int .i64 a1_4] ∧ True
  | [_, _, _, _, _], ⟨⟨z0, rfl⟩, ⟨z1, rfl⟩, ⟨z2, rfl⟩, ⟨z3, rfl⟩, ⟨z4, rfl⟩, _⟩ => ⟨z0, z1, z2, z3, z4, rfl, trivial⟩
set_option maxRecDepth 100000 in
set_option maxHeartbeats 2000000 in
theorem winchEquations_lifted (os : Os) (started : os.Started) (H : Type) (enc : TypeId × Value → H) :
    ReturnsInHanded {} Try.checked os 5 .any (Rows.winchEquationsSpec.pre6 enc Try.prog Try.f5 Rows.winchEquationsRow.domain false) (Rows.winchEquationsSpec.post enc Try.prog Try.f5 false true false false) := by
  refine returnsInHanded_of_change (C := Try.checked) Cm.lawOwn started (by kernel_rfl) Try.func5
    (ChangeSpec.witness6 (enc := enc) (C := Try.checked) false ⟨#[], #[.slice none 0 0, .agg #[.int .i64 0, .int .i64 0, .int .i64 0, .int .i64 0, .int .i64 0]], []⟩ 8 (by kernel_rfl) (by kernel_rfl) (by kernel_rfl) (by kernel_rfl)) ?_
  intro W base args ds gs before hval0 hW hcnd _
  have hval : ∀ (j : Nat) t v, Try.f5.params[j]? = some t → args[j]? = some v → Value.okWide Try.prog W .any base t v := hval0
  have hW' : DataW.Whole enc Try.prog Try.f5.params.toList Rows.winchEquationsSpec.vars false W args.toList ds gs before := hW
  obtain ⟨p, q, hA0, hV, rfl, hfz, hnd⟩ := hW
  have hA : DataW.TrodAll enc Try.prog W 0 (fun _ => true) true Try.f5.params.toList args.toList ds p := hA0
  rw [Try.params5] at hA hval
  obtain ⟨v0, vs0, d0, ds0, p0, q0, hargs, rfl, rfl, h0, r0⟩ := trodAll_cons hA
  obtain ⟨v1, vs1, d1, ds1, p1, q1, rfl, rfl, rfl, h1, r1⟩ := trodAll_cons r0
  obtain ⟨rfl, rfl, rfl⟩ := trodAll_nil r1
  obtain rfl : args = #[v0, v1] := by cases args; simp_all
  obtain ⟨rfl, rfl⟩ := trodVars_none hV
  obtain ⟨a0, hsa0⟩ := winchEquations_open0 (Cm.arg_slice (n := 9) (ks := [.l [.i]]) Try.underlying28 (by kernel_rfl) (hval 0 28 v0 rfl rfl) h0)
  obtain ⟨cs1, rfl, k1⟩ := Cm.arg_kinds (n := 9) (ks := [.c .i, .c .i, .c .i, .c .i, .c .i]) Try.underlying78 (by kernel_rfl) (hval 1 78 v1 rfl rfl) h1
  obtain ⟨a1_0, a1_1, a1_2, a1_3, a1_4, rfl, _⟩ := winchEquations_open1 k1
  obtain ⟨x0, A0, c0, rfl, hc0, hp0, hr0⟩ := Cm.sl_rd (V := (Cm.vals [(a0.length : Int), a1_0, a1_1, a1_2, a1_3, a1_4] [(a0.flatMap Cm.enI)])) (i := 0) hsa0 Cm.enI_len (by decide) rfl
  obtain ⟨fu, hfu⟩ := l2_WinchEquations_true a0 a1_0 a1_1 a1_2 a1_3 a1_4
  refine (Cm.true_of_ok (w := W) (l2_WinchEquations_ok fu a0 a1_0 a1_1 a1_2 a1_3 a1_4 true hfu) rfl rfl (xs := [x0]) ⟨Cm.rdO_of hr0, trivial⟩ (args' := [.slice A0 a0.length c0, .agg ⟨[.int .i64 a1_0, .int .i64 a1_1, .int .i64 a1_2, .int .i64 a1_3, .int .i64 a1_4]⟩]) (Cm.vrs_cons (Cm.vr_gs (x := x0) rfl rfl hc0 hp0) (Cm.vrs_cons (Cm.vr_agg (Cm.vrs_cons (Cm.vr_i rfl) (Cm.vrs_cons (Cm.vr_i rfl) (Cm.vrs_cons (Cm.vr_i rfl) (Cm.vrs_cons (Cm.vr_i rfl) (Cm.vrs_cons (Cm.vr_i rfl) Cm.vrs_nil)))))) Cm.vrs_nil))).mono fun e W' ⟨he, hb⟩ => ?_
  subst he
  exact ⟨_, rfl, post_true Cm.lawLaid winchEquationsParams rfl Try.underlying4 rfl ⟨rfl, rfl, rfl⟩ hW' hb⟩
theorem winchEquations_holds : Rows.WinchEquationsSaid :=
  OpenClaim.holds_of_wide 5 Try.f5 rfl rfl rfl rfl rfl rfl rfl ⟨rfl, rfl, rfl, rfl, rfl⟩ rfl rfl rfl rfl rfl (by kernel_rfl) Try.func5 winchEquationsJoined
    (of_decide_eq_true (by kernel_rfl)) (by unfold Func.isWrapper; first | (rw [if_pos (by decide +kernel)]; kernel_rfl) | (rw [if_neg (by decide +kernel)]; exact ⟨rfl, rfl⟩))
    (fun os started H enc _ => winchEquations_lifted os started H enc)
end Go.Proofs.Ythffbfkcmbgghaa
