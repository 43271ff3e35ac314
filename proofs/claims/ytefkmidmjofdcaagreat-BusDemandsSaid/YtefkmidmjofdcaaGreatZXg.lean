/-
  'BusDemands' returns true for every input, and leaves its arguments as they were: the demand of streams in a stretch, and whether they overload the bus, are as specified, or the errors.
-/
import Derived.Test.YtefkmidmjofdcaaGreatZKd
import Derived.Test.YtefkmidmjofdcaaGreatZEf
import Derived.Test.YtefkmidmjofdcaaGreatZXf
import Derived.Test.YtefkmidmjofdcaaGreatZXgj
set_option linter.all false
namespace Go.Proofs.YtefkmidmjofdcaaGreat
open Go.ChangeShapes Go.WideShapes Go.ChangeAt Go.RowKit

theorem busDemandsParams : ∀ t ∈ Tryz.f4.params.toList, Tryz.prog.readableRec t = true ∧ t < Tryz.prog.types.size := by
  have h : (Tryz.f4.params.toList.all fun t => Tryz.prog.readableRec t && decide (t < Tryz.prog.types.size)) = true := by kernel_rfl
  intro t ht
  have := List.all_eq_true.1 h t ht
  simpa using this
theorem busDemands_open0 {W : World} {v : Value} : Cm.okKTs W [.l [.s, .i, .i, .i]] [v] → ∃ a0 : List (Int × Int × Int × Int), Sl Cm.enSIII 4 W v a0
  | ⟨⟨_, s⟩, _⟩ => Cm.sl_typed (enc := Cm.enSIII) (fun x hx => by match x, hx with | [_, _, _, _], ⟨⟨y0, rfl⟩, ⟨y1, rfl⟩, ⟨y2, rfl⟩, ⟨y3, rfl⟩, _⟩ => exact ⟨(y0, y1, y2, y3), rfl⟩) s
set_option maxRecDepth 100000 in
set_option maxHeartbeats 2000000 in
theorem busDemands_lifted (os : Os) (started : os.Started) (H : Type) (enc : TypeId × Value → H) :
    ReturnsInHanded {} Tryz.checked os 4 .any (Rows.busDemandsSpec.pre6 enc Tryz.prog Tryz.f4 Rows.busDemandsRow.domain false) (Rows.busDemandsSpec.post enc Tryz.prog Tryz.f4 false true false false) := by
  refine returnsInHanded_of_change (C := Tryz.checked) Cm.lawOwn started (by kernel_rfl) Tryz.func4
    (ChangeSpec.witness6 (enc := enc) (C := Tryz.checked) false ⟨#[], #[.slice none 0 0, .int .i64 0], []⟩ 8 (by kernel_rfl) (by kernel_rfl) (by kernel_rfl) (by kernel_rfl)) ?_
  intro W base args ds gs before hval0 hW hcnd _
  have hval : ∀ (j : Nat) t v, Tryz.f4.params[j]? = some t → args[j]? = some v → Value.okWide Tryz.prog W .any base t v := hval0
  have hW' : DataW.Whole enc Tryz.prog Tryz.f4.params.toList Rows.busDemandsSpec.vars false W args.toList ds gs before := hW
  obtain ⟨p, q, hA0, hV, rfl, hfz, hnd⟩ := hW
  have hA : DataW.TrodAll enc Tryz.prog W 0 (fun _ => true) true Tryz.f4.params.toList args.toList ds p := hA0
  rw [Tryz.params4] at hA hval
  obtain ⟨v0, vs0, d0, ds0, p0, q0, hargs, rfl, rfl, h0, r0⟩ := trodAll_cons hA
  obtain ⟨v1, vs1, d1, ds1, p1, q1, rfl, rfl, rfl, h1, r1⟩ := trodAll_cons r0
  obtain ⟨rfl, rfl, rfl⟩ := trodAll_nil r1
  obtain rfl : args = #[v0, v1] := by cases args; simp_all
  obtain ⟨rfl, rfl⟩ := trodVars_none hV
  obtain ⟨a0, hsa0⟩ := busDemands_open0 (Cm.arg_slice (n := 9) (ks := [.l [.s, .i, .i, .i]]) Tryz.underlying43 (by kernel_rfl) (hval 0 43 v0 rfl rfl) h0)
  obtain ⟨a1, rfl⟩ := Cm.arg_int Tryz.underlying3 (hval 1 3 v1 rfl rfl)
  obtain ⟨x0, A0, c0, rfl, hc0, hp0, hr0⟩ := Cm.sl_rd (V := (Cm.vals [(a0.length : Int), a1] [(a0.flatMap Cm.enSIII)])) (i := 0) hsa0 Cm.enSIII_len (by decide) rfl
  obtain ⟨fu, hfu⟩ := l7_BusDemands_true a0 a1
  refine (Cm.true_of_ok (w := W) (l7_BusDemands_ok fu a0 a1 true hfu) rfl rfl (xs := [x0]) ⟨Cm.rdO_of hr0, trivial⟩ (args' := [.slice A0 a0.length c0, .int .i64 a1]) (Cm.vrs_cons (Cm.vr_gs (x := x0) rfl rfl hc0 hp0) (Cm.vrs_cons (Cm.vr_i rfl) Cm.vrs_nil))).mono fun e W' ⟨he, hb⟩ => ?_
  subst he
  exact ⟨_, rfl, post_true Cm.lawLaid busDemandsParams rfl Tryz.underlying4 rfl ⟨rfl, rfl, rfl⟩ hW' hb⟩
theorem busDemands_holds : Rows.BusDemandsSaid :=
  OpenClaim.holds_of_wide 4 Tryz.f4 rfl rfl rfl rfl rfl rfl rfl ⟨rfl, rfl, rfl, rfl, rfl⟩ rfl rfl rfl rfl rfl (by kernel_rfl) Tryz.func4 busDemandsJoined
    (of_decide_eq_true (by kernel_rfl)) (by unfold Func.isWrapper; first | (rw [if_pos (by decide +kernel)]; kernel_rfl) | (rw [if_neg (by decide +kernel)]; exact ⟨rfl, rfl⟩))
    (fun os started H enc _ => busDemands_lifted os started H enc)
end Go.Proofs.YtefkmidmjofdcaaGreat
