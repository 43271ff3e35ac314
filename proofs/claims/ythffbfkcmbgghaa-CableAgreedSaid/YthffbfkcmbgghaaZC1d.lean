/-
  'CableAgreed' returns true for every input, and leaves its arguments as they were: readings around the tensions of currents in a box do not contradict it, one reading more of a pull that no current makes does, and what is told of given readings is a smallest contradiction.
-/
import Derived.Test.YthffbfkcmbgghaaZKd
import Derived.Test.YthffbfkcmbgghaaZEf
import Derived.Test.YthffbfkcmbgghaaZC1c
import Derived.Test.YthffbfkcmbgghaaZC1dj
set_option linter.all false
namespace Go.Proofs.Ythffbfkcmbgghaa
open Go.ChangeShapes Go.WideShapes Go.ChangeAt Go.RowKit
theorem cableAgreedParams : ∀ t ∈ Try.f3.params.toList, Try.prog.readableRec t = true ∧ t < Try.prog.types.size := by
  have h : (Try.f3.params.toList.all fun t => Try.prog.readableRec t && decide (t < Try.prog.types.size)) = true := by kernel_rfl
  intro t ht
  have := List.all_eq_true.1 h t ht
  simpa using this
set_option maxHeartbeats 4000000 in
theorem cableAgreed_open0 {W : World} : ∀ {cs : List Value}, Cm.okKTs W [.c .i, .c .i, .l [.i, .i, .i]] cs → ∃ (a0_0 : Int) (a0_1 : Int) (ua0_2 : Value), cs = [.int .i64 a0_0, .int .i64 a0_1, ua0_2] ∧ (∃ a0_2 : List (Int × Int × Int), Sl Cm.enIII 3 W ua0_2 a0_2) ∧ True
  | [_, _, w2], ⟨⟨z0, rfl⟩, ⟨z1, rfl⟩, ⟨xs2, s2⟩, _⟩ => ⟨z0, z1, w2, rfl, Cm.sl_typed (enc := Cm.enIII) (fun x hx => by match x, hx with | [_, _, _], ⟨⟨y0, rfl⟩, ⟨y1, rfl⟩, ⟨y2, rfl⟩, _⟩ => exact ⟨(y0, y1, y2), rfl⟩) s2, trivial⟩
theorem cableAgreed_open1 {W : World} {v : Value} : Cm.okKTs W [.l [.i, .i]] [v] → ∃ a1 : List (Int × Int), Sl Cm.enII 2 W v a1
  | ⟨⟨_, s⟩, _⟩ => Cm.sl_typed (enc := Cm.enII) (fun x hx => by match x, hx with | [_, _], ⟨⟨y0, rfl⟩, ⟨y1, rfl⟩, _⟩ => exact ⟨(y0, y1), rfl⟩) s
set_option maxHeartbeats 4000000 in
theorem cableAgreed_open2 {W : World} : ∀ {cs : List Value}, Cm.okKTs W [.l [.i], .l [.i, .i, .i]] cs → ∃ (ua2_0 : Value) (ua2_1 : Value), cs = [ua2_0, ua2_1] ∧ (∃ a2_0 : List (Int), Sl Cm.enI 1 W ua2_0 a2_0) ∧ (∃ a2_1 : List (Int × Int × Int), Sl Cm.enIII 3 W ua2_1 a2_1) ∧ True
  | [w0, w1], ⟨⟨xs0, s0⟩, ⟨xs1, s1⟩, _⟩ => ⟨w0, w1, rfl, Cm.sl_typed (enc := Cm.enI) (fun x hx => by match x, hx with | [_], ⟨⟨y0, rfl⟩, _⟩ => exact ⟨y0, rfl⟩) s0, Cm.sl_typed (enc := Cm.enIII) (fun x hx => by match x, hx with | [_, _, _], ⟨⟨y0, rfl⟩, ⟨y1, rfl⟩, ⟨y2, rfl⟩, _⟩ => exact ⟨(y0, y1, y2), rfl⟩) s1, trivial⟩
set_option maxRecDepth 100000 in
set_option maxHeartbeats 2000000 in
theorem cableAgreed_lifted (os : Os) (started : os.Started) (H : Type) (enc : TypeId × Value → H) :
    ReturnsInHanded {} Try.checked os 3 .any (Rows.cableAgreedSpec.pre6 enc Try.prog Try.f3 Rows.cableAgreedRow.domain false) (Rows.cableAgreedSpec.post enc Try.prog Try.f3 false true false false) := by
  refine returnsInHanded_of_change (C := Try.checked) Cm.lawOwn started (by kernel_rfl) Try.func3
    (ChangeSpec.witness6 (enc := enc) (C := Try.checked) false ⟨#[], #[.agg #[.int .i64 0, .int .i64 0, .slice none 0 0], .slice none 0 0, .agg #[.slice none 0 0, .slice none 0 0]], []⟩ 8 (by kernel_rfl) (by kernel_rfl) (by kernel_rfl) (by kernel_rfl)) ?_
  intro W base args ds gs before hval0 hW hcnd _
  have hval : ∀ (j : Nat) t v, Try.f3.params[j]? = some t → args[j]? = some v → Value.okWide Try.prog W .any base t v := hval0
  have hW' : DataW.Whole enc Try.prog Try.f3.params.toList Rows.cableAgreedSpec.vars false W args.toList ds gs before := hW
  obtain ⟨p, q, hA0, hV, rfl, hfz, hnd⟩ := hW
  have hA : DataW.TrodAll enc Try.prog W 0 (fun _ => true) true Try.f3.params.toList args.toList ds p := hA0
  rw [Try.params3] at hA hval
  obtain ⟨v0, vs0, d0, ds0, p0, q0, hargs, rfl, rfl, h0, r0⟩ := trodAll_cons hA
  obtain ⟨v1, vs1, d1, ds1, p1, q1, rfl, rfl, rfl, h1, r1⟩ := trodAll_cons r0
  obtain ⟨v2, vs2, d2, ds2, p2, q2, rfl, rfl, rfl, h2, r2⟩ := trodAll_cons r1
  obtain ⟨rfl, rfl, rfl⟩ := trodAll_nil r2
  obtain rfl : args = #[v0, v1, v2] := by cases args; simp_all
  obtain ⟨rfl, rfl⟩ := trodVars_none hV
  obtain ⟨cs0, rfl, k0⟩ := Cm.arg_kinds (n := 9) (ks := [.c .i, .c .i, .l [.i, .i, .i]]) Try.underlying26 (by kernel_rfl) (hval 0 26 v0 rfl rfl) h0
  obtain ⟨a0_0, a0_1, ua0_2, rfl, ⟨a0_2, hsa0_2⟩, _⟩ := cableAgreed_open0 k0
  obtain ⟨a1, hsa1⟩ := cableAgreed_open1 (Cm.arg_slice (n := 9) (ks := [.l [.i, .i]]) Try.underlying27 (by kernel_rfl) (hval 1 27 v1 rfl rfl) h1)
  obtain ⟨cs2, rfl, k2⟩ := Cm.arg_kinds (n := 9) (ks := [.l [.i], .l [.i, .i, .i]]) Try.underlying31 (by kernel_rfl) (hval 2 31 v2 rfl rfl) h2
  obtain ⟨ua2_0, ua2_1, rfl, ⟨a2_0, hsa2_0⟩, ⟨a2_1, hsa2_1⟩, _⟩ := cableAgreed_open2 k2
  obtain ⟨x0, A0, c0, rfl, hc0, hp0, hr0⟩ := Cm.sl_rd (V := (Cm.vals [a0_0, a0_1, (a0_2.length : Int), (a1.length : Int), (a2_0.length : Int), (a2_1.length : Int)] [(a0_2.flatMap Cm.enIII), (a1.flatMap Cm.enII), (a2_0.flatMap Cm.enI), (a2_1.flatMap Cm.enIII)])) (i := 0) hsa0_2 Cm.enIII_len (by decide) rfl
  obtain ⟨x1, A1, c1, rfl, hc1, hp1, hr1⟩ := Cm.sl_rd (V := (Cm.vals [a0_0, a0_1, (a0_2.length : Int), (a1.length : Int), (a2_0.length : Int), (a2_1.length : Int)] [(a0_2.flatMap Cm.enIII), (a1.flatMap Cm.enII), (a2_0.flatMap Cm.enI), (a2_1.flatMap Cm.enIII)])) (i := 1) hsa1 Cm.enII_len (by decide) rfl
  obtain ⟨x2, A2, c2, rfl, hc2, hp2, hr2⟩ := Cm.sl_rd (V := (Cm.vals [a0_0, a0_1, (a0_2.length : Int), (a1.length : Int), (a2_0.length : Int), (a2_1.length : Int)] [(a0_2.flatMap Cm.enIII), (a1.flatMap Cm.enII), (a2_0.flatMap Cm.enI), (a2_1.flatMap Cm.enIII)])) (i := 2) hsa2_0 Cm.enI_len (by decide) rfl
  obtain ⟨x3, A3, c3, rfl, hc3, hp3, hr3⟩ := Cm.sl_rd (V := (Cm.vals [a0_0, a0_1, (a0_2.length : Int), (a1.length : Int), (a2_0.length : Int), (a2_1.length : Int)] [(a0_2.flatMap Cm.enIII), (a1.flatMap Cm.enII), (a2_0.flatMap Cm.enI), (a2_1.flatMap Cm.enIII)])) (i := 3) hsa2_1 Cm.enIII_len (by decide) rfl
  obtain ⟨fu, hfu⟩ := l1_CableAgreed_true a0_0 a0_1 a0_2 a1 a2_0 a2_1
  refine (Cm.true_of_ok (w := W) (l1_CableAgreed_ok fu a0_0 a0_1 a0_2 a1 a2_0 a2_1 true hfu) rfl rfl (xs := [x0, x1, x2, x3]) ⟨Cm.rdO_of hr0, Cm.rdO_of hr1, Cm.rdO_of hr2, Cm.rdO_of hr3, trivial⟩ (args' := [.agg ⟨[.int .i64 a0_0, .int .i64 a0_1, .slice A0 a0_2.length c0]⟩, .slice A1 a1.length c1, .agg ⟨[.slice A2 a2_0.length c2, .slice A3 a2_1.length c3]⟩]) (Cm.vrs_cons (Cm.vr_agg (Cm.vrs_cons (Cm.vr_i rfl) (Cm.vrs_cons (Cm.vr_i rfl) (Cm.vrs_cons (Cm.vr_gs (x := x0) rfl rfl hc0 hp0) Cm.vrs_nil)))) (Cm.vrs_cons (Cm.vr_gs (x := x1) rfl rfl hc1 hp1) (Cm.vrs_cons (Cm.vr_agg (Cm.vrs_cons (Cm.vr_gs (x := x2) rfl rfl hc2 hp2) (Cm.vrs_cons (Cm.vr_gs (x := x3) rfl rfl hc3 hp3) Cm.vrs_nil))) Cm.vrs_nil)))).mono fun e W' ⟨he, hb⟩ => ?_
  subst he
  exact ⟨_, rfl, post_true Cm.lawLaid cableAgreedParams rfl Try.underlying4 rfl ⟨rfl, rfl, rfl⟩ hW' hb⟩
theorem cableAgreed_holds : Rows.CableAgreedSaid :=
  OpenClaim.holds_of_wide 3 Try.f3 rfl rfl rfl rfl rfl rfl rfl ⟨rfl, rfl, rfl, rfl, rfl⟩ rfl rfl rfl rfl rfl (by kernel_rfl) Try.func3 cableAgreedJoined
    (of_decide_eq_true (by kernel_rfl)) (by unfold Func.isWrapper; first | (rw [if_pos (by decide +kernel)]; kernel_rfl) | (rw [if_neg (by decide +kernel)]; exact ⟨rfl, rfl⟩))
    (fun os started H enc _ => cableAgreed_lifted os started H enc)
end Go.Proofs.Ythffbfkcmbgghaa
