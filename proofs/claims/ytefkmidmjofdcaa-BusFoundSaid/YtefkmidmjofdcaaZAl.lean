/-
  'BusFound' returns true for every input, and leaves its arguments as they were: a frame in which up to 8 neighbouring bits are changed is not decoded; one that was encoded is.
-/
import Derived.Test.YtefkmidmjofdcaaZKd
import Derived.Test.YtefkmidmjofdcaaZEf
import Derived.Test.YtefkmidmjofdcaaZAj
import Derived.Test.YtefkmidmjofdcaaZAlj
set_option linter.all false
namespace Go.Proofs.Ytefkmidmjofdcaa
open Go.ChangeShapes Go.WideShapes Go.ChangeAt Go.RowKit

theorem busFoundParams : ∀ t ∈ Try.f6.params.toList, Try.prog.readableRec t = true ∧ t < Try.prog.types.size := by
  have h : (Try.f6.params.toList.all fun t => Try.prog.readableRec t && decide (t < Try.prog.types.size)) = true := by kernel_rfl
  intro t ht
  have := List.all_eq_true.1 h t ht
  simpa using this
theorem busFound_open0 {W : World} : ∀ {cs : List Value}, Cm.okKTs W [.c .i, .c .i, .c .i, .c .i, .c .i, .c .i, .c .i] cs → ∃ (a0_0 : Int) (a0_1 : Int) (a0_2 : Int) (a0_3 : Int) (a0_4 : Int) (a0_5 : Int) (a0_6 : Int), cs = [.int .i64 a0_0, .int .i64 a0_1, .int .i64 a0_2, .int .i64 a0_3, .int .i64 a0_4, .int .i64 a0_5, .int .i64 a0_6] ∧ True
  | [_, _, _, _, _, _, _], ⟨⟨z0, rfl⟩, ⟨z1, rfl⟩, ⟨z2, rfl⟩, ⟨z3, rfl⟩, ⟨z4, rfl⟩, ⟨z5, rfl⟩, ⟨z6, rfl⟩, _⟩ => ⟨z0, z1, z2, z3, z4, z5, z6, rfl, trivial⟩
theorem busFound_open1 {W : World} {v : Value} : Cm.okKTs W [.l [.i, .i]] [v] → ∃ a1 : List (Int × Int), Sl Cm.enII 2 W v a1
  | ⟨⟨_, s⟩, _⟩ => Cm.sl_typed (enc := Cm.enII) (fun x hx => by match x, hx with | [_, _], ⟨⟨y0, rfl⟩, ⟨y1, rfl⟩, _⟩ => exact ⟨(y0, y1), rfl⟩) s
theorem busFound_open2 {W : World} : ∀ {cs : List Value}, Cm.okKTs W [.c .i, .c .i] cs → ∃ (a2_0 : Int) (a2_1 : Int), cs = [.int .i64 a2_0, .int .i64 a2_1] ∧ True
  | [_, _], ⟨⟨z0, rfl⟩, ⟨z1, rfl⟩, _⟩ => ⟨z0, z1, rfl, trivial⟩
set_option maxRecDepth 100000 in
set_option maxHeartbeats 2000000 in
theorem busFound_lifted (os : Os) (started : os.Started) (H : Type) (enc : TypeId × Value → H) :
    ReturnsInHanded {} Try.checked os 6 .any (Rows.busFoundSpec.pre6 enc Try.prog Try.f6 Rows.busFoundRow.domain false) (Rows.busFoundSpec.post enc Try.prog Try.f6 false true false false) := by
  refine returnsInHanded_of_change (C := Try.checked) Cm.lawOwn started (by kernel_rfl) Try.func6
    (ChangeSpec.witness6 (enc := enc) (C := Try.checked) false ⟨#[], #[.agg #[.int .i64 0, .int .i64 0, .int .i64 0, .int .i64 0, .int .i64 0, .int .i64 0, .int .i64 0], .slice none 0 0, .agg #[.int .i64 0, .int .i64 0]], []⟩ 8 (by kernel_rfl) (by kernel_rfl) (by kernel_rfl) (by kernel_rfl)) ?_
  intro W base args ds gs before hval0 hW hcnd _
  have hval : ∀ (j : Nat) t v, Try.f6.params[j]? = some t → args[j]? = some v → Value.okWide Try.prog W .any base t v := hval0
  have hW' : DataW.Whole enc Try.prog Try.f6.params.toList Rows.busFoundSpec.vars false W args.toList ds gs before := hW
  obtain ⟨p, q, hA0, hV, rfl, hfz, hnd⟩ := hW
  have hA : DataW.TrodAll enc Try.prog W 0 (fun _ => true) true Try.f6.params.toList args.toList ds p := hA0
  rw [Try.params6] at hA hval
  obtain ⟨v0, vs0, d0, ds0, p0, q0, hargs, rfl, rfl, h0, r0⟩ := trodAll_cons hA
  obtain ⟨v1, vs1, d1, ds1, p1, q1, rfl, rfl, rfl, h1, r1⟩ := trodAll_cons r0
  obtain ⟨v2, vs2, d2, ds2, p2, q2, rfl, rfl, rfl, h2, r2⟩ := trodAll_cons r1
  obtain ⟨rfl, rfl, rfl⟩ := trodAll_nil r2
  obtain rfl : args = #[v0, v1, v2] := by cases args; simp_all
  obtain ⟨rfl, rfl⟩ := trodVars_none hV
  obtain ⟨cs0, rfl, k0⟩ := Cm.arg_kinds (n := 9) (ks := [.c .i, .c .i, .c .i, .c .i, .c .i, .c .i, .c .i]) Try.underlying58 (by kernel_rfl) (hval 0 58 v0 rfl rfl) h0
  obtain ⟨a0_0, a0_1, a0_2, a0_3, a0_4, a0_5, a0_6, rfl, _⟩ := busFound_open0 k0
  obtain ⟨a1, hsa1⟩ := busFound_open1 (Cm.arg_slice (n := 9) (ks := [.l [.i, .i]]) Try.underlying59 (by kernel_rfl) (hval 1 59 v1 rfl rfl) h1)
  obtain ⟨cs2, rfl, k2⟩ := Cm.arg_kindsA (n := 9) (ks := [.c .i, .c .i]) Try.underlying60 (by kernel_rfl) (hval 2 60 v2 rfl rfl) h2
  obtain ⟨a2_0, a2_1, rfl, _⟩ := busFound_open2 k2
  obtain ⟨x0, A0, c0, rfl, hc0, hp0, hr0⟩ := Cm.sl_rd (V := (Cm.vals [a0_0, a0_1, a0_2, a0_3, a0_4, a0_5, a0_6, (a1.length : Int), a2_0, a2_1] [(a1.flatMap Cm.enII)])) (i := 0) hsa1 Cm.enII_len (by decide) rfl
  obtain ⟨fu, hfu⟩ := l7_BusFound_true a0_0 a0_1 a0_2 a0_3 a0_4 a0_5 a0_6 a1 a2_0 a2_1
  refine (Cm.true_of_ok (w := W) (l7_BusFound_ok fu a0_0 a0_1 a0_2 a0_3 a0_4 a0_5 a0_6 a1 a2_0 a2_1 true hfu) rfl rfl (xs := [x0]) ⟨Cm.rdO_of hr0, trivial⟩ (args' := [.agg ⟨[.int .i64 a0_0, .int .i64 a0_1, .int .i64 a0_2, .int .i64 a0_3, .int .i64 a0_4, .int .i64 a0_5, .int .i64 a0_6]⟩, .slice A0 a1.length c0, .agg ⟨[.int .i64 a2_0, .int .i64 a2_1]⟩]) (Cm.vrs_cons (Cm.vr_agg (Cm.vrs_cons (Cm.vr_i rfl) (Cm.vrs_cons (Cm.vr_i rfl) (Cm.vrs_cons (Cm.vr_i rfl) (Cm.vrs_cons (Cm.vr_i rfl) (Cm.vrs_cons (Cm.vr_i rfl) (Cm.vrs_cons (Cm.vr_i rfl) (Cm.vrs_cons (Cm.vr_i rfl) Cm.vrs_nil)))))))) (Cm.vrs_cons (Cm.vr_gs (x := x0) rfl rfl hc0 hp0) (Cm.vrs_cons (Cm.vr_agg (Cm.vrs_cons (Cm.vr_i rfl) (Cm.vrs_cons (Cm.vr_i rfl) Cm.vrs_nil))) Cm.vrs_nil)))).mono fun e W' ⟨he, hb⟩ => ?_
  subst he
  exact ⟨_, rfl, post_true Cm.lawLaid busFoundParams rfl Try.underlying4 rfl ⟨rfl, rfl, rfl⟩ hW' hb⟩
theorem busFound_holds : Rows.BusFoundSaid :=
  OpenClaim.holds_of_wide 6 Try.f6 rfl rfl rfl rfl rfl rfl rfl ⟨rfl, rfl, rfl, rfl, rfl⟩ rfl rfl rfl rfl rfl (by kernel_rfl) Try.func6 busFoundJoined
    (of_decide_eq_true (by kernel_rfl)) (by unfold Func.isWrapper; first | (rw [if_pos (by decide +kernel)]; kernel_rfl) | (rw [if_neg (by decide +kernel)]; exact ⟨rfl, rfl⟩))
    (fun os started H enc _ => busFound_lifted os started H enc)
end Go.Proofs.Ytefkmidmjofdcaa
