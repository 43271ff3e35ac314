/-
  'WinchLoops' returns true for every input, and leaves its arguments as they were: which loops are valid, with an index, the next state after a heave, and the states of a run, are as the reference says, or the errors (tables of at most 13 numbers, at most 62 heaves; beyond that the statement says nothing).
-/
import Derived.Test.YtpkjkekdfpdelaaZKd
import Derived.Test.YtpkjkekdfpdelaaZEf
import Derived.Test.YtpkjkekdfpdelaaZIf
set_option linter.all false
namespace Go.Proofs.Ytpkjkekdfpdelaa
open Go.ChangeShapes Go.WideShapes Go.ChangeAt Go.RowKit

theorem winchLoopsParams : ∀ t ∈ Try.f5.params.toList, Try.prog.readableRec t = true ∧ t < Try.prog.types.size := by
  have h : (Try.f5.params.toList.all fun t => Try.prog.readableRec t && decide (t < Try.prog.types.size)) = true := by kernel_rfl
  intro t ht
  have := List.all_eq_true.1 h t ht
  simpa using this
theorem winchLoops_open0 {W : World} : ∀ {cs : List Value}, Cm.okKTs W [.l [.i], .c .i, .c .i, .c .i, .c .i] cs → ∃ (ua0_0 : Value) (a0_1 : Int) (a0_2 : Int) (a0_3 : Int) (a0_4 : Int), cs = [ua0_0, .int .i64 a0_1, .int .i64 a0_2, .int .i64 a0_3, .int .i64 a0_4] ∧ (∃ a0_0 : List (Int), Sl Cm.enI 1 W ua0_0 a0_0) ∧ True
  | [w0, _, _, _, _], ⟨⟨xs0, s0⟩, ⟨z1, rfl⟩, ⟨z2, rfl⟩, ⟨z3, rfl⟩, ⟨z4, rfl⟩, _⟩ => ⟨w0, z1, z2, z3, z4, rfl, Cm.sl_typed (enc := Cm.enI) (fun x hx => by match x, hx with | [_], ⟨⟨y0, rfl⟩, _⟩ => exact ⟨y0, rfl⟩) s0, trivial⟩
theorem winchLoops_open1 {W : World} : ∀ {cs : List Value}, Cm.okKTs W [.c .i, .c .i, .c .i] cs → ∃ (a1_0 : Int) (a1_1 : Int) (a1_2 : Int), cs = [.int .i64 a1_0, .int .i64 a1_1, .int .i64 a1_2] ∧ True
  | [_, _, _], ⟨⟨z0, rfl⟩, ⟨z1, rfl⟩, ⟨z2, rfl⟩, _⟩ => ⟨z0, z1, z2, rfl, trivial⟩
theorem winchLoops_open2 {W : World} {v : Value} : Cm.okKTs W [.l [.i]] [v] → ∃ a2 : List (Int), Sl Cm.enI 1 W v a2
  | ⟨⟨_, s⟩, _⟩ => Cm.sl_typed (enc := Cm.enI) (fun x hx => by match x, hx with | [_], ⟨⟨y0, rfl⟩, _⟩ => exact ⟨y0, rfl⟩) s
set_option maxRecDepth 100000 in
set_option maxHeartbeats 2000000 in
theorem winchLoops_lifted (os : Os) (started : os.Started) (H : Type) (enc : TypeId × Value → H) :
    ReturnsInHanded {} Try.checked os 5 .any (Rows.winchLoopsSpec.pre6 enc Try.prog Try.f5 Rows.winchLoopsRow.domain false) (Rows.winchLoopsSpec.post enc Try.prog Try.f5 false true false false) := by
  refine returnsInHanded_of_change (C := Try.checked) Cm.lawOwn started (by kernel_rfl) Try.func5
    (ChangeSpec.witness6 (enc := enc) (C := Try.checked) false ⟨#[], #[.agg #[.slice none 0 0, .int .i64 0, .int .i64 0, .int .i64 0, .int .i64 0], .agg #[.int .i64 0, .int .i64 0, .int .i64 0], .slice none 0 0], []⟩ 8 (by kernel_rfl) (by kernel_rfl) (by kernel_rfl) (by kernel_rfl)) ?_
  intro W base args ds gs before hval0 hW hcnd _
  have hval : ∀ (j : Nat) t v, Try.f5.params[j]? = some t → args[j]? = some v → Value.okWide Try.prog W .any base t v := hval0
  have hW' : DataW.Whole enc Try.prog Try.f5.params.toList Rows.winchLoopsSpec.vars false W args.toList ds gs before := hW
  obtain ⟨p, q, hA0, hV, rfl, hfz, hnd⟩ := hW
  have hA : DataW.TrodAll enc Try.prog W 0 (fun _ => true) true Try.f5.params.toList args.toList ds p := hA0
  rw [Try.params5] at hA hval
  obtain ⟨v0, vs0, d0, ds0, p0, q0, hargs, rfl, rfl, h0, r0⟩ := trodAll_cons hA
  obtain ⟨v1, vs1, d1, ds1, p1, q1, rfl, rfl, rfl, h1, r1⟩ := trodAll_cons r0
  obtain ⟨v2, vs2, d2, ds2, p2, q2, rfl, rfl, rfl, h2, r2⟩ := trodAll_cons r1
  obtain ⟨rfl, rfl, rfl⟩ := trodAll_nil r2
  obtain rfl : args = #[v0, v1, v2] := by cases args; simp_all
  obtain ⟨rfl, rfl⟩ := trodVars_none hV
  obtain ⟨cs0, rfl, k0⟩ := Cm.arg_kinds (n := 9) (ks := [.l [.i], .c .i, .c .i, .c .i, .c .i]) Try.underlying55 (by kernel_rfl) (hval 0 55 v0 rfl rfl) h0
  obtain ⟨ua0_0, a0_1, a0_2, a0_3, a0_4, rfl, ⟨a0_0, hsa0_0⟩, _⟩ := winchLoops_open0 k0
  obtain ⟨cs1, rfl, k1⟩ := Cm.arg_kinds (n := 9) (ks := [.c .i, .c .i, .c .i]) Try.underlying57 (by kernel_rfl) (hval 1 57 v1 rfl rfl) h1
  obtain ⟨a1_0, a1_1, a1_2, rfl, _⟩ := winchLoops_open1 k1
  obtain ⟨a2, hsa2⟩ := winchLoops_open2 (Cm.arg_slice (n := 9) (ks := [.l [.i]]) Try.underlying24 (by kernel_rfl) (hval 2 24 v2 rfl rfl) h2)
  obtain ⟨x0, A0, c0, rfl, hc0, hp0, hr0⟩ := Cm.sl_rd (V := (Cm.vals [(a0_0.length : Int), a0_1, a0_2, a0_3, a0_4, a1_0, a1_1, a1_2, (a2.length : Int)] [(a0_0.flatMap Cm.enI), (a2.flatMap Cm.enI)])) (i := 0) hsa0_0 Cm.enI_len (by decide) rfl
  obtain ⟨x1, A1, c1, rfl, hc1, hp1, hr1⟩ := Cm.sl_rd (V := (Cm.vals [(a0_0.length : Int), a0_1, a0_2, a0_3, a0_4, a1_0, a1_1, a1_2, (a2.length : Int)] [(a0_0.flatMap Cm.enI), (a2.flatMap Cm.enI)])) (i := 1) hsa2 Cm.enI_len (by decide) rfl
  obtain ⟨fu, hfu⟩ := l2_WinchLoops_true a0_0 a0_1 a0_2 a0_3 a0_4 a1_0 a1_1 a1_2 a2
  refine (Cm.true_of_ok (w := W) (l2_WinchLoops_ok fu a0_0 a0_1 a0_2 a0_3 a0_4 a1_0 a1_1 a1_2 a2 true hfu) rfl rfl (xs := [x0, x1]) ⟨Cm.rdO_of hr0, Cm.rdO_of hr1, trivial⟩ (args' := [.agg ⟨[.slice A0 a0_0.length c0, .int .i64 a0_1, .int .i64 a0_2, .int .i64 a0_3, .int .i64 a0_4]⟩, .agg ⟨[.int .i64 a1_0, .int .i64 a1_1, .int .i64 a1_2]⟩, .slice A1 a2.length c1]) (Cm.vrs_cons (Cm.vr_agg (Cm.vrs_cons (Cm.vr_gs (x := x0) rfl rfl hc0 hp0) (Cm.vrs_cons (Cm.vr_i rfl) (Cm.vrs_cons (Cm.vr_i rfl) (Cm.vrs_cons (Cm.vr_i rfl) (Cm.vrs_cons (Cm.vr_i rfl) Cm.vrs_nil)))))) (Cm.vrs_cons (Cm.vr_agg (Cm.vrs_cons (Cm.vr_i rfl) (Cm.vrs_cons (Cm.vr_i rfl) (Cm.vrs_cons (Cm.vr_i rfl) Cm.vrs_nil)))) (Cm.vrs_cons (Cm.vr_gs (x := x1) rfl rfl hc1 hp1) Cm.vrs_nil)))).mono fun e W' ⟨he, hb⟩ => ?_
  subst he
  exact ⟨_, rfl, post_true Cm.lawLaid winchLoopsParams rfl Try.underlying4 rfl ⟨rfl, rfl, rfl⟩ hW' hb⟩
theorem winchLoops_holds : Rows.WinchLoopsSaid :=
  OpenClaim.holds_of_wide 5 Try.f5 rfl rfl rfl rfl rfl rfl rfl ⟨rfl, rfl, rfl, rfl, rfl⟩ rfl rfl rfl rfl rfl (by kernel_rfl) Try.func5 (by kernel_rfl)
    (of_decide_eq_true (by kernel_rfl)) (by unfold Func.isWrapper; first | (rw [if_pos (by decide +kernel)]; kernel_rfl) | (rw [if_neg (by decide +kernel)]; exact ⟨rfl, rfl⟩))
    (fun os started H enc _ => winchLoops_lifted os started H enc)
end Go.Proofs.Ytpkjkekdfpdelaa
