/-
  'BusNeverLate' returns true for every input, and leaves its arguments as they were: 'BusNeverLate' returns true for every input, and leaves its arguments as they were: no message of a stream that is not late has a greater response than the stream's, whatever the starts are.
-/
import Derived.Test.YthffbfkcmbgghaaGreatZKd
import Derived.Test.YthffbfkcmbgghaaGreatZEf
import Derived.Test.YthffbfkcmbgghaaGreatQNk
import Derived.Test.YthffbfkcmbgghaaGreatZK8gj
set_option linter.all false
namespace Go.Proofs.YthffbfkcmbgghaaGreat
open Go.ChangeShapes Go.WideShapes Go.ChangeAt Go.RowKit
theorem busNeverLateParams : ∀ t ∈ Tryz.f5.params.toList, Tryz.prog.readableRec t = true ∧ t < Tryz.prog.types.size := by
 have h : (Tryz.f5.params.toList.all fun t => Tryz.prog.readableRec t && decide (t < Tryz.prog.types.size)) = true := by kernel_rfl
 intro t ht
 have := List.all_eq_true.1 h t ht
 simpa using this
set_option maxRecDepth 100000 in
theorem busNeverLate_open0 {W : World} {v : Value} : Cm.okKTs W [.l [.s, .i, .i, .i]] [v] → ∃ a0 : List (Int × Int × Int × Int), Sl Cm.enSIII 4 W v a0
 | ⟨⟨_, s⟩, _⟩ => Cm.sl_typed (enc := Cm.enSIII) (fun x hx => by obtain ⟨y0, x0, e0, q0, h0⟩ := Cm.k1S hx; obtain ⟨y1, x1, e1, q1, h1⟩ := Cm.k1I h0; obtain ⟨y2, x2, e2, q2, h2⟩ := Cm.k1I h1; obtain ⟨y3, x3, e3, q3, h3⟩ := Cm.k1I h2; have en := Cm.k1N h3; exact ⟨(y0, y1, y2, y3), (by rw [e0, e1, e2, e3, en]; rfl)⟩) s
set_option maxRecDepth 100000 in
theorem busNeverLate_open1 {W : World} {v : Value} : Cm.okKTs W [.l [.i]] [v] → ∃ a1 : List (Int), Sl Cm.enI 1 W v a1
 | ⟨⟨_, s⟩, _⟩ => Cm.sl_typed (enc := Cm.enI) (fun x hx => by obtain ⟨y0, x0, e0, q0, h0⟩ := Cm.k1I hx; have en := Cm.k1N h0; exact ⟨y0, (by rw [e0, en]; rfl)⟩) s
set_option maxRecDepth 100000 in
set_option maxHeartbeats 4000000 in
theorem busNeverLate_open2 {W : World} {cs : List Value} (h : Cm.okKTs W [.c .i, .c .i] cs) : ∃ (a2_0 : Int) (a2_1 : Int), cs = [.int .i64 a2_0, .int .i64 a2_1] ∧ True := by
 obtain ⟨z0, c0, e0, q0, h0⟩ := Cm.ktI h
 obtain ⟨z1, c1, e1, q1, h1⟩ := Cm.ktI h0
 have en := Cm.ktN h1
 exact ⟨z0, z1, (by rw [e0, e1, en]), trivial⟩
set_option maxRecDepth 100000 in
set_option maxHeartbeats 2000000 in
theorem busNeverLate_lifted (os : Os) (started : os.Started) (H : Type) (enc : TypeId × Value → H) :
  ReturnsInHanded {} Tryz.checked os 5 .any (Rows.busNeverLateSpec.pre6 enc Tryz.prog Tryz.f5 Rows.busNeverLateRow.domain false) (Rows.busNeverLateSpec.post enc Tryz.prog Tryz.f5 false true false false) := by
 refine returnsInHanded_of_change (C := Tryz.checked) Cm.lawOwn started (by kernel_rfl) Tryz.func5
  (ChangeSpec.witness6 (enc := enc) (C := Tryz.checked) false ⟨#[], #[.slice none 0 0, .slice none 0 0, .agg #[.int .i64 0, .int .i64 0]], []⟩ 8 (by kernel_rfl) (by kernel_rfl) (by kernel_rfl) (by kernel_rfl)) ?_
 intro W base args ds gs before hval0 hW hcnd _
 have hval : ∀ (j : Nat) t v, Tryz.f5.params[j]? = some t → args[j]? = some v → Value.okWide Tryz.prog W .any base t v := hval0
 have hW' : DataW.Whole enc Tryz.prog Tryz.f5.params.toList Rows.busNeverLateSpec.vars false W args.toList ds gs before := hW
 obtain ⟨p, q, hA0, hV, rfl, hfz, hnd⟩ := hW
 have hA : DataW.TrodAll enc Tryz.prog W 0 (fun _ => true) true Tryz.f5.params.toList args.toList ds p := hA0
 rw [Tryz.params5] at hA hval
 obtain ⟨v0, vs0, d0, ds0, p0, q0, hargs, rfl, rfl, h0, r0⟩ := trodAll_cons hA
 obtain ⟨v1, vs1, d1, ds1, p1, q1, rfl, rfl, rfl, h1, r1⟩ := trodAll_cons r0
 obtain ⟨v2, vs2, d2, ds2, p2, q2, rfl, rfl, rfl, h2, r2⟩ := trodAll_cons r1
 obtain ⟨rfl, rfl, rfl⟩ := trodAll_nil r2
 obtain rfl : args = #[v0, v1, v2] := by cases args; simp_all
 obtain ⟨rfl, rfl⟩ := trodVars_none hV
 obtain ⟨a0, hsa0⟩ := busNeverLate_open0 (Cm.arg_slice (n := 9) (ks := [.l [.s, .i, .i, .i]]) Tryz.underlying35 (by kernel_rfl) (hval 0 35 v0 rfl rfl) h0)
 obtain ⟨a1, hsa1⟩ := busNeverLate_open1 (Cm.arg_slice (n := 9) (ks := [.l [.i]]) Tryz.underlying36 (by kernel_rfl) (hval 1 36 v1 rfl rfl) h1)
 obtain ⟨cs2, rfl, k2⟩ := Cm.arg_kindsA (n := 9) (ks := [.c .i, .c .i]) Tryz.underlying51 (by kernel_rfl) (hval 2 51 v2 rfl rfl) h2
 obtain ⟨a2_0, a2_1, rfl, _⟩ := busNeverLate_open2 k2
 obtain ⟨x0, A0, c0, rfl, hc0, hp0, hr0⟩ := Cm.sl_rd (V := (Cm.vals [(a0.length : Int), (a1.length : Int), a2_0, a2_1] [(a0.flatMap Cm.enSIII), (a1.flatMap Cm.enI)])) (i := 0) hsa0 Cm.enSIII_len (by decide) rfl
 obtain ⟨x1, A1, c1, rfl, hc1, hp1, hr1⟩ := Cm.sl_rd (V := (Cm.vals [(a0.length : Int), (a1.length : Int), a2_0, a2_1] [(a0.flatMap Cm.enSIII), (a1.flatMap Cm.enI)])) (i := 1) hsa1 Cm.enI_len (by decide) rfl
 obtain ⟨fu, hfu⟩ := l7_BusNeverLate_true a0 a1 a2_0 a2_1
 refine (Cm.true_of_ok (w := W) (l7_BusNeverLate_ok fu a0 a1 a2_0 a2_1 true hfu) rfl rfl (xs := [x0, x1]) ⟨Cm.rdO_of hr0, Cm.rdO_of hr1, trivial⟩ (args' := [.slice A0 a0.length c0, .slice A1 a1.length c1, .agg ⟨[.int .i64 a2_0, .int .i64 a2_1]⟩]) (Cm.vrs_cons (Cm.vr_gs (x := x0) rfl rfl hc0 hp0) (Cm.vrs_cons (Cm.vr_gs (x := x1) rfl rfl hc1 hp1) (Cm.vrs_cons (Cm.vr_agg (Cm.vrs_cons (Cm.vr_i rfl) (Cm.vrs_cons (Cm.vr_i rfl) Cm.vrs_nil))) Cm.vrs_nil)))).mono fun e W' ⟨he, hb⟩ => ?_
 subst he
 exact ⟨_, rfl, post_true Cm.lawLaid busNeverLateParams rfl Tryz.underlying4 rfl ⟨rfl, rfl, rfl⟩ hW' hb⟩
theorem busNeverLate_holds : Rows.BusNeverLateSaid :=
 OpenClaim.holds_of_wide 5 Tryz.f5 rfl rfl rfl rfl rfl rfl rfl ⟨rfl, rfl, rfl, rfl, rfl⟩ rfl rfl rfl rfl rfl (by kernel_rfl) Tryz.func5 busNeverLateJoined
  (of_decide_eq_true (by kernel_rfl)) (by unfold Func.isWrapper; first | (rw [if_pos (by decide +kernel)]; kernel_rfl) | (rw [if_neg (by decide +kernel)]; exact ⟨rfl, rfl⟩))
  (fun os started H enc _ => busNeverLate_lifted os started H enc)
end Go.Proofs.YthffbfkcmbgghaaGreat
