/-
  'BusCarried' returns true for every input, and leaves its arguments as they were: what is carried by priorities, and by the earliest deadline, and the worst responses, are as the document says, or the errors.
-/
import Derived.Test.YthffbfkcmbgghaaGreatQM
import Derived.Test.YthffbfkcmbgghaaGreatZEf
import Derived.Test.YthffbfkcmbgghaaGreatQKu
import Derived.Test.YthffbfkcmbgghaaGreatZK7gj
set_option linter.all false
namespace Go.Proofs.YthffbfkcmbgghaaGreat
open Go.ChangeShapes Go.WideShapes Go.ChangeAt Go.RowKit
theorem busCarriedParams : ∀ t ∈ Tryz.f4.params.toList, Tryz.prog.readableRec t = true ∧ t < Tryz.prog.types.size := by
  have h : (Tryz.f4.params.toList.all fun t => Tryz.prog.readableRec t && decide (t < Tryz.prog.types.size)) = true := by kernel_rfl
  intro t ht
  have := List.all_eq_true.1 h t ht
  simpa using this
theorem busCarried_open0 {W : World} {v : Value} : Cm.okKTs W [.l [.s, .i, .i, .i]] [v] → ∃ a0 : List (Int × Int × Int × Int), Sl Cm.enSIII 4 W v a0
  | ⟨⟨_, s⟩, _⟩ => Cm.sl_typed (enc := Cm.enSIII) (fun x hx => by match x, hx with | [_, _, _, _], ⟨⟨y0, rfl⟩, ⟨y1, rfl⟩, ⟨y2, rfl⟩, ⟨y3, rfl⟩, _⟩ => exact ⟨(y0, y1, y2, y3), rfl⟩) s
theorem busCarried_open1 {W : World} {v : Value} : Cm.okKTs W [.l [.i]] [v] → ∃ a1 : List (Int), Sl Cm.enI 1 W v a1
  | ⟨⟨_, s⟩, _⟩ => Cm.sl_typed (enc := Cm.enI) (fun x hx => by match x, hx with | [_], ⟨⟨y0, rfl⟩, _⟩ => exact ⟨y0, rfl⟩) s
set_option maxRecDepth 100000 in
set_option maxHeartbeats 2000000 in
theorem busCarried_lifted (os : Os) (started : os.Started) (H : Type) (enc : TypeId × Value → H) :
    ReturnsInHanded {} Tryz.checked os 4 .any (Rows.busCarriedSpec.pre6 enc Tryz.prog Tryz.f4 Rows.busCarriedRow.domain false) (Rows.busCarriedSpec.post enc Tryz.prog Tryz.f4 false true false false) := by
  refine returnsInHanded_of_change (C := Tryz.checked) Cm.lawOwn started (by kernel_rfl) Tryz.func4
    (ChangeSpec.witness6 (enc := enc) (C := Tryz.checked) false ⟨#[], #[.slice none 0 0, .slice none 0 0, .int .i64 0], []⟩ 8 (by kernel_rfl) (by kernel_rfl) (by kernel_rfl) (by kernel_rfl)) ?_
  intro W base args ds gs before hval0 hW hcnd _
  have hval : ∀ (j : Nat) t v, Tryz.f4.params[j]? = some t → args[j]? = some v → Value.okWide Tryz.prog W .any base t v := hval0
  have hW' : DataW.Whole enc Tryz.prog Tryz.f4.params.toList Rows.busCarriedSpec.vars false W args.toList ds gs before := hW
  obtain ⟨p, q, hA0, hV, rfl, hfz, hnd⟩ := hW
  have hA : DataW.TrodAll enc Tryz.prog W 0 (fun _ => true) true Tryz.f4.params.toList args.toList ds p := hA0
  rw [Tryz.params4] at hA hval
  obtain ⟨v0, vs0, d0, ds0, p0, q0, hargs, rfl, rfl, h0, r0⟩ := trodAll_cons hA
  obtain ⟨v1, vs1, d1, ds1, p1, q1, rfl, rfl, rfl, h1, r1⟩ := trodAll_cons r0
  obtain ⟨v2, vs2, d2, ds2, p2, q2, rfl, rfl, rfl, h2, r2⟩ := trodAll_cons r1
  obtain ⟨rfl, rfl, rfl⟩ := trodAll_nil r2
  obtain rfl : args = #[v0, v1, v2] := by cases args; simp_all
  obtain ⟨rfl, rfl⟩ := trodVars_none hV
  obtain ⟨a0, hsa0⟩ := busCarried_open0 (Cm.arg_slice (n := 9) (ks := [.l [.s, .i, .i, .i]]) Tryz.underlying35 (by kernel_rfl) (hval 0 35 v0 rfl rfl) h0)
  obtain ⟨a1, hsa1⟩ := busCarried_open1 (Cm.arg_slice (n := 9) (ks := [.l [.i]]) Tryz.underlying36 (by kernel_rfl) (hval 1 36 v1 rfl rfl) h1)
  obtain ⟨a2, rfl⟩ := Cm.arg_int Tryz.underlying3 (hval 2 3 v2 rfl rfl)
  obtain ⟨x0, A0, c0, rfl, hc0, hp0, hr0⟩ := Cm.sl_rd (V := (Cm.vals [(a0.length : Int), (a1.length : Int), a2] [(a0.flatMap Cm.enSIII), (a1.flatMap Cm.enI)])) (i := 0) hsa0 Cm.enSIII_len (by decide) rfl
  obtain ⟨x1, A1, c1, rfl, hc1, hp1, hr1⟩ := Cm.sl_rd (V := (Cm.vals [(a0.length : Int), (a1.length : Int), a2] [(a0.flatMap Cm.enSIII), (a1.flatMap Cm.enI)])) (i := 1) hsa1 Cm.enI_len (by decide) rfl
  obtain ⟨fu, hfu⟩ := l7_BusCarried_true a0 a1 a2
  refine (Cm.true_of_ok (w := W) (l7_BusCarried_ok fu a0 a1 a2 true hfu) rfl rfl (xs := [x0, x1]) ⟨Cm.rdO_of hr0, Cm.rdO_of hr1, trivial⟩ (args' := [.slice A0 a0.length c0, .slice A1 a1.length c1, .int .i64 a2]) (Cm.vrs_cons (Cm.vr_gs (x := x0) rfl rfl hc0 hp0) (Cm.vrs_cons (Cm.vr_gs (x := x1) rfl rfl hc1 hp1) (Cm.vrs_cons (Cm.vr_i rfl) Cm.vrs_nil)))).mono fun e W' ⟨he, hb⟩ => ?_
  subst he
  exact ⟨_, rfl, post_true Cm.lawLaid busCarriedParams rfl Tryz.underlying4 rfl ⟨rfl, rfl, rfl⟩ hW' hb⟩
theorem busCarried_holds : Rows.BusCarriedSaid :=
  OpenClaim.holds_of_wide 4 Tryz.f4 rfl rfl rfl rfl rfl rfl rfl ⟨rfl, rfl, rfl, rfl, rfl⟩ rfl rfl rfl rfl rfl (by kernel_rfl) Tryz.func4 busCarriedJoined
    (of_decide_eq_true (by kernel_rfl)) (by unfold Func.isWrapper; first | (rw [if_pos (by decide +kernel)]; kernel_rfl) | (rw [if_neg (by decide +kernel)]; exact ⟨rfl, rfl⟩))
    (fun os started H enc _ => busCarried_lifted os started H enc)
end Go.Proofs.YthffbfkcmbgghaaGreat
