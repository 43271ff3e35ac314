/-
  'WinchSamples' returns true for every input, and leaves its arguments as they were: which samples and predictors are valid, the predictor of samples and its residual are as the document says, for at most 22 samples.
-/
import Derived.Test.YthffbfkcmbgghaaZKd
import Derived.Test.YthffbfkcmbgghaaZEf
import Derived.Test.YthffbfkcmbgghaaZW2g
import Derived.Test.YthffbfkcmbgghaaZW2hj
set_option linter.all false
namespace Go.Proofs.Ythffbfkcmbgghaa
open Go.ChangeShapes Go.WideShapes Go.ChangeAt Go.RowKit
theorem winchSamplesParams : ∀ t ∈ Try.f4.params.toList, Try.prog.readableRec t = true ∧ t < Try.prog.types.size := by
  have h : (Try.f4.params.toList.all fun t => Try.prog.readableRec t && decide (t < Try.prog.types.size)) = true := by kernel_rfl
  intro t ht
  have := List.all_eq_true.1 h t ht
  simpa using this
theorem winchSamples_open0 {W : World} {v : Value} : Cm.okKTs W [.l [.i]] [v] → ∃ a0 : List (Int), Sl Cm.enI 1 W v a0
  | ⟨⟨_, s⟩, _⟩ => Cm.sl_typed (enc := Cm.enI) (fun x hx => by match x, hx with | [_], ⟨⟨y0, rfl⟩, _⟩ => exact ⟨y0, rfl⟩) s
set_option maxHeartbeats 4000000 in
theorem winchSamples_open1 {W : World} : ∀ {cs : List Value}, Cm.okKTs W [.c .i, .c .i, .c .i] cs → ∃ (a1_0 : Int) (a1_1 : Int) (a1_2 : Int), cs = [.int .i64 a1_0, .int .i64 a1_1, .int .i64 a1_2] ∧ True
  | [_, _, _], ⟨⟨z0, rfl⟩, ⟨z1, rfl⟩, ⟨z2, rfl⟩, _⟩ => ⟨z0, z1, z2, rfl, trivial⟩
set_option maxRecDepth 100000 in
set_option maxHeartbeats 2000000 in
theorem winchSamples_lifted (os : Os) (started : os.Started) (H : Type) (enc : TypeId × Value → H) :
    ReturnsInHanded {} Try.checked os 4 .any (Rows.winchSamplesSpec.pre6 enc Try.prog Try.f4 Rows.winchSamplesRow.domain false) (Rows.winchSamplesSpec.post enc Try.prog Try.f4 false true false false) := by
  refine returnsInHanded_of_change (C := Try.checked) Cm.lawOwn started (by kernel_rfl) Try.func4
    (ChangeSpec.witness6 (enc := enc) (C := Try.checked) false ⟨#[], #[.slice none 0 0, .agg #[.int .i64 0, .int .i64 0, .int .i64 0]], []⟩ 8 (by kernel_rfl) (by kernel_rfl) (by kernel_rfl) (by kernel_rfl)) ?_
  intro W base args ds gs before hval0 hW hcnd _
  have hval : ∀ (j : Nat) t v, Try.f4.params[j]? = some t → args[j]? = some v → Value.okWide Try.prog W .any base t v := hval0
  have hW' : DataW.Whole enc Try.prog Try.f4.params.toList Rows.winchSamplesSpec.vars false W args.toList ds gs before := hW
  obtain ⟨p, q, hA0, hV, rfl, hfz, hnd⟩ := hW
  have hA : DataW.TrodAll enc Try.prog W 0 (fun _ => true) true Try.f4.params.toList args.toList ds p := hA0
  rw [Try.params4] at hA hval
  obtain ⟨v0, vs0, d0, ds0, p0, q0, hargs, rfl, rfl, h0, r0⟩ := trodAll_cons hA
  obtain ⟨v1, vs1, d1, ds1, p1, q1, rfl, rfl, rfl, h1, r1⟩ := trodAll_cons r0
  obtain ⟨rfl, rfl, rfl⟩ := trodAll_nil r1
  obtain rfl : args = #[v0, v1] := by cases args; simp_all
  obtain ⟨rfl, rfl⟩ := trodVars_none hV
  obtain ⟨a0, hsa0⟩ := winchSamples_open0 (Cm.arg_slice (n := 9) (ks := [.l [.i]]) Try.underlying28 (by kernel_rfl) (hval 0 28 v0 rfl rfl) h0)
  obtain ⟨cs1, rfl, k1⟩ := Cm.arg_kinds (n := 9) (ks := [.c .i, .c .i, .c .i]) Try.underlying60 (by kernel_rfl) (hval 1 60 v1 rfl rfl) h1
  obtain ⟨a1_0, a1_1, a1_2, rfl, _⟩ := winchSamples_open1 k1
  obtain ⟨x0, A0, c0, rfl, hc0, hp0, hr0⟩ := Cm.sl_rd (V := (Cm.vals [(a0.length : Int), a1_0, a1_1, a1_2] [(a0.flatMap Cm.enI)])) (i := 0) hsa0 Cm.enI_len (by decide) rfl
  obtain ⟨fu, hfu⟩ := l2_WinchSamples_true a0 a1_0 a1_1 a1_2
  refine (Cm.true_of_ok (w := W) (l2_WinchSamples_ok fu a0 a1_0 a1_1 a1_2 true hfu) rfl rfl (xs := [x0]) ⟨Cm.rdO_of hr0, trivial⟩ (args' := [.slice A0 a0.length c0, .agg ⟨[.int .i64 a1_0, .int .i64 a1_1, .int .i64 a1_2]⟩]) (Cm.vrs_cons (Cm.vr_gs (x := x0) rfl rfl hc0 hp0) (Cm.vrs_cons (Cm.vr_agg (Cm.vrs_cons (Cm.vr_i rfl) (Cm.vrs_cons (Cm.vr_i rfl) (Cm.vrs_cons (Cm.vr_i rfl) Cm.vrs_nil)))) Cm.vrs_nil))).mono fun e W' ⟨he, hb⟩ => ?_
  subst he
  exact ⟨_, rfl, post_true Cm.lawLaid winchSamplesParams rfl Try.underlying4 rfl ⟨rfl, rfl, rfl⟩ hW' hb⟩
theorem winchSamples_holds : Rows.WinchSamplesSaid :=
  OpenClaim.holds_of_wide 4 Try.f4 rfl rfl rfl rfl rfl rfl rfl ⟨rfl, rfl, rfl, rfl, rfl⟩ rfl rfl rfl rfl rfl (by kernel_rfl) Try.func4 winchSamplesJoined
    (of_decide_eq_true (by kernel_rfl)) (by unfold Func.isWrapper; first | (rw [if_pos (by decide +kernel)]; kernel_rfl) | (rw [if_neg (by decide +kernel)]; exact ⟨rfl, rfl⟩))
    (fun os started H enc _ => winchSamples_lifted os started H enc)
end Go.Proofs.Ythffbfkcmbgghaa
