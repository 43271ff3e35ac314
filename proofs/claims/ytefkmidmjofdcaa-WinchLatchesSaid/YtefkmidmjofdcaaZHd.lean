/-
  'WinchLatches' returns true for every input, and leaves its arguments as they were: the next state of a latch after an event, and its state after events, are as specified, or the errors.
-/
import Derived.Test.YtefkmidmjofdcaaZKd
import Derived.Test.YtefkmidmjofdcaaZEf
import Derived.Test.YtefkmidmjofdcaaZHc
import Derived.Test.YtefkmidmjofdcaaZHdj
set_option linter.all false
namespace Go.Proofs.Ytefkmidmjofdcaa
open Go.ChangeShapes Go.WideShapes Go.ChangeAt Go.RowKit

theorem winchLatchesParams : ∀ t ∈ Try.f4.params.toList, Try.prog.readableRec t = true ∧ t < Try.prog.types.size := by
  have h : (Try.f4.params.toList.all fun t => Try.prog.readableRec t && decide (t < Try.prog.types.size)) = true := by kernel_rfl
  intro t ht
  have := List.all_eq_true.1 h t ht
  simpa using this
theorem winchLatches_open0 {W : World} : ∀ {cs : List Value}, Cm.okKTs W [.c .i, .c .i] cs → ∃ (a0_0 : Int) (a0_1 : Int), cs = [.int .i64 a0_0, .int .i64 a0_1] ∧ True
  | [_, _], ⟨⟨z0, rfl⟩, ⟨z1, rfl⟩, _⟩ => ⟨z0, z1, rfl, trivial⟩
theorem winchLatches_open1 {W : World} : ∀ {cs : List Value}, Cm.okKTs W [.c .b, .c .i, .c .i] cs → ∃ (a1_0 : Bool) (a1_1 : Int) (a1_2 : Int), cs = [.bool a1_0, .int .i64 a1_1, .int .i64 a1_2] ∧ True
  | [_, _, _], ⟨⟨z0, rfl⟩, ⟨z1, rfl⟩, ⟨z2, rfl⟩, _⟩ => ⟨z0, z1, z2, rfl, trivial⟩
theorem winchLatches_open2 {W : World} {v : Value} : Cm.okKTs W [.l [.i, .i, .i]] [v] → ∃ a2 : List (Int × Int × Int), Sl Cm.enIII 3 W v a2
  | ⟨⟨_, s⟩, _⟩ => Cm.sl_typed (enc := Cm.enIII) (fun x hx => by match x, hx with | [_, _, _], ⟨⟨y0, rfl⟩, ⟨y1, rfl⟩, ⟨y2, rfl⟩, _⟩ => exact ⟨(y0, y1, y2), rfl⟩) s
set_option maxRecDepth 100000 in
set_option maxHeartbeats 2000000 in
theorem winchLatches_lifted (os : Os) (started : os.Started) (H : Type) (enc : TypeId × Value → H) :
    ReturnsInHanded {} Try.checked os 4 .any (Rows.winchLatchesSpec.pre6 enc Try.prog Try.f4 Rows.winchLatchesRow.domain false) (Rows.winchLatchesSpec.post enc Try.prog Try.f4 false true false false) := by
  refine returnsInHanded_of_change (C := Try.checked) Cm.lawOwn started (by kernel_rfl) Try.func4
    (ChangeSpec.witness6 (enc := enc) (C := Try.checked) false ⟨#[], #[.agg #[.int .i64 0, .int .i64 0], .agg #[.bool false, .int .i64 0, .int .i64 0], .slice none 0 0], []⟩ 8 (by kernel_rfl) (by kernel_rfl) (by kernel_rfl) (by kernel_rfl)) ?_
  intro W base args ds gs before hval0 hW hcnd _
  have hval : ∀ (j : Nat) t v, Try.f4.params[j]? = some t → args[j]? = some v → Value.okWide Try.prog W .any base t v := hval0
  have hW' : DataW.Whole enc Try.prog Try.f4.params.toList Rows.winchLatchesSpec.vars false W args.toList ds gs before := hW
  obtain ⟨p, q, hA0, hV, rfl, hfz, hnd⟩ := hW
  have hA : DataW.TrodAll enc Try.prog W 0 (fun _ => true) true Try.f4.params.toList args.toList ds p := hA0
  rw [Try.params4] at hA hval
  obtain ⟨v0, vs0, d0, ds0, p0, q0, hargs, rfl, rfl, h0, r0⟩ := trodAll_cons hA
  obtain ⟨v1, vs1, d1, ds1, p1, q1, rfl, rfl, rfl, h1, r1⟩ := trodAll_cons r0
  obtain ⟨v2, vs2, d2, ds2, p2, q2, rfl, rfl, rfl, h2, r2⟩ := trodAll_cons r1
  obtain ⟨rfl, rfl, rfl⟩ := trodAll_nil r2
  obtain rfl : args = #[v0, v1, v2] := by cases args; simp_all
  obtain ⟨rfl, rfl⟩ := trodVars_none hV
  obtain ⟨cs0, rfl, k0⟩ := Cm.arg_kinds (n := 9) (ks := [.c .i, .c .i]) Try.underlying40 (by kernel_rfl) (hval 0 40 v0 rfl rfl) h0
  obtain ⟨a0_0, a0_1, rfl, _⟩ := winchLatches_open0 k0
  obtain ⟨cs1, rfl, k1⟩ := Cm.arg_kinds (n := 9) (ks := [.c .b, .c .i, .c .i]) Try.underlying42 (by kernel_rfl) (hval 1 42 v1 rfl rfl) h1
  obtain ⟨a1_0, a1_1, a1_2, rfl, _⟩ := winchLatches_open1 k1
  obtain ⟨a2, hsa2⟩ := winchLatches_open2 (Cm.arg_slice (n := 9) (ks := [.l [.i, .i, .i]]) Try.underlying43 (by kernel_rfl) (hval 2 43 v2 rfl rfl) h2)
  obtain ⟨x0, A0, c0, rfl, hc0, hp0, hr0⟩ := Cm.sl_rd (V := (Cm.vals [a0_0, a0_1, Cm.bI a1_0, a1_1, a1_2, (a2.length : Int)] [(a2.flatMap Cm.enIII)])) (i := 0) hsa2 Cm.enIII_len (by decide) rfl
  obtain ⟨fu, hfu⟩ := l2_WinchLatches_true a0_0 a0_1 a1_0 a1_1 a1_2 a2
  refine (Cm.true_of_ok (w := W) (l2_WinchLatches_ok fu a0_0 a0_1 a1_0 a1_1 a1_2 a2 true hfu) rfl rfl (xs := [x0]) ⟨Cm.rdO_of hr0, trivial⟩ (args' := [.agg ⟨[.int .i64 a0_0, .int .i64 a0_1]⟩, .agg ⟨[.bool a1_0, .int .i64 a1_1, .int .i64 a1_2]⟩, .slice A0 a2.length c0]) (Cm.vrs_cons (Cm.vr_agg (Cm.vrs_cons (Cm.vr_i rfl) (Cm.vrs_cons (Cm.vr_i rfl) Cm.vrs_nil))) (Cm.vrs_cons (Cm.vr_agg (Cm.vrs_cons (Cm.vr_b rfl) (Cm.vrs_cons (Cm.vr_i rfl) (Cm.vrs_cons (Cm.vr_i rfl) Cm.vrs_nil)))) (Cm.vrs_cons (Cm.vr_gs (x := x0) rfl rfl hc0 hp0) Cm.vrs_nil)))).mono fun e W' ⟨he, hb⟩ => ?_
  subst he
  exact ⟨_, rfl, post_true Cm.lawLaid winchLatchesParams rfl Try.underlying4 rfl ⟨rfl, rfl, rfl⟩ hW' hb⟩
theorem winchLatches_holds : Rows.WinchLatchesSaid :=
  OpenClaim.holds_of_wide 4 Try.f4 rfl rfl rfl rfl rfl rfl rfl ⟨rfl, rfl, rfl, rfl, rfl⟩ rfl rfl rfl rfl rfl (by kernel_rfl) Try.func4 winchLatchesJoined
    (of_decide_eq_true (by kernel_rfl)) (by unfold Func.isWrapper; first | (rw [if_pos (by decide +kernel)]; kernel_rfl) | (rw [if_neg (by decide +kernel)]; exact ⟨rfl, rfl⟩))
    (fun os started H enc _ => winchLatches_lifted os started H enc)
end Go.Proofs.Ytefkmidmjofdcaa
