/-
  'FixMoves' returns true for every input, and leaves its arguments as they were: a box carried and carried back, and the squares of the distances from a beacon, are as specified, or the errors.
-/
import Derived.Test.YtaafodbiigdbaaaGreatZKd
import Derived.Test.YtaafodbiigdbaaaGreatZEf
import Derived.Test.YtaafodbiigdbaaaGreatZEh
import Derived.Test.YtaafodbiigdbaaaGreatZM5c
import Derived.Test.YtaafodbiigdbaaaGreatZM5rj
set_option linter.all false
namespace Go.Proofs.YtaafodbiigdbaaaGreat
open Go.ChangeShapes Go.WideShapes Go.ChangeAt Go.RowKit
theorem fixMovesParams : ∀ t ∈ Tryz.f6.params.toList, Tryz.prog.readableRec t = true ∧ t < Tryz.prog.types.size := by
  have h : (Tryz.f6.params.toList.all fun t => Tryz.prog.readableRec t && decide (t < Tryz.prog.types.size)) = true := by kernel_rfl
  intro t ht
  have := List.all_eq_true.1 h t ht
  simpa using this
set_option maxHeartbeats 4000000 in
theorem fixMoves_open0 {W : World} : ∀ {cs : List Value}, Cm.okKTs W [.c .i, .c .i, .c .i, .c .i, .c .i, .c .i, .l [.s, .i, .i, .i]] cs → ∃ (a0_0 : Int) (a0_1 : Int) (a0_2 : Int) (a0_3 : Int) (a0_4 : Int) (a0_5 : Int) (ua0_6 : Value), cs = [.int .i64 a0_0, .int .i64 a0_1, .int .i64 a0_2, .int .i64 a0_3, .int .i64 a0_4, .int .i64 a0_5, ua0_6] ∧ (∃ a0_6 : List (Int × Int × Int × Int), Sl Cm.enSIII 4 W ua0_6 a0_6) ∧ True
  | [_, _, _, _, _, _, w6], ⟨⟨z0, rfl⟩, ⟨z1, rfl⟩, ⟨z2, rfl⟩, ⟨z3, rfl⟩, ⟨z4, rfl⟩, ⟨z5, rfl⟩, ⟨xs6, s6⟩, _⟩ => ⟨z0, z1, z2, z3, z4, z5, w6, rfl, Cm.sl_typed (enc := Cm.enSIII) (fun x hx => by match x, hx with | [_, _, _, _], ⟨⟨y0, rfl⟩, ⟨y1, rfl⟩, ⟨y2, rfl⟩, ⟨y3, rfl⟩, _⟩ => exact ⟨(y0, y1, y2, y3), rfl⟩) s6, trivial⟩
set_option maxHeartbeats 4000000 in
theorem fixMoves_open1 {W : World} : ∀ {cs : List Value}, Cm.okKTs W [.c .i, .c .i, .c .i, .c .i, .c .i, .c .i] cs → ∃ (a1_0 : Int) (a1_1 : Int) (a1_2 : Int) (a1_3 : Int) (a1_4 : Int) (a1_5 : Int), cs = [.int .i64 a1_0, .int .i64 a1_1, .int .i64 a1_2, .int .i64 a1_3, .int .i64 a1_4, .int .i64 a1_5] ∧ True
  | [_, _, _, _, _, _], ⟨⟨z0, rfl⟩, ⟨z1, rfl⟩, ⟨z2, rfl⟩, ⟨z3, rfl⟩, ⟨z4, rfl⟩, ⟨z5, rfl⟩, _⟩ => ⟨z0, z1, z2, z3, z4, z5, rfl, trivial⟩
theorem fixMoves_open2 {W : World} {cs : List Value} (h : Cm.okKTs W [.c .i, .c .i, .c .i, .c .i, .c .i, .c .i, .c .i, .c .i] cs) : ∃ (a2_0 : Int) (a2_1 : Int) (a2_2 : Int) (a2_3 : Int) (a2_4 : Int) (a2_5 : Int) (a2_6 : Int) (a2_7 : Int), cs = [.int .i64 a2_0, .int .i64 a2_1, .int .i64 a2_2, .int .i64 a2_3, .int .i64 a2_4, .int .i64 a2_5, .int .i64 a2_6, .int .i64 a2_7] ∧ True := by
  obtain ⟨z0, cs0, e0, h0⟩ := Cm.okKTs_i h
  obtain ⟨z1, cs1, e1, h1⟩ := Cm.okKTs_i h0
  obtain ⟨z2, cs2, e2, h2⟩ := Cm.okKTs_i h1
  obtain ⟨z3, cs3, e3, h3⟩ := Cm.okKTs_i h2
  obtain ⟨z4, cs4, e4, h4⟩ := Cm.okKTs_i h3
  obtain ⟨z5, cs5, e5, h5⟩ := Cm.okKTs_i h4
  obtain ⟨z6, cs6, e6, h6⟩ := Cm.okKTs_i h5
  obtain ⟨z7, cs7, e7, h7⟩ := Cm.okKTs_i h6
  have en := Cm.okKTs_nil h7
  exact ⟨z0, z1, z2, z3, z4, z5, z6, z7, by rw [e0, e1, e2, e3, e4, e5, e6, e7, en], trivial⟩
set_option maxRecDepth 100000 in
set_option maxHeartbeats 2000000 in
theorem fixMoves_lifted (os : Os) (started : os.Started) (H : Type) (enc : TypeId × Value → H) :
    ReturnsInHanded {} Tryz.checked os 6 .any (Rows.fixMovesSpec.pre6 enc Tryz.prog Tryz.f6 Rows.fixMovesRow.domain false) (Rows.fixMovesSpec.post enc Tryz.prog Tryz.f6 false true false false) := by
  refine returnsInHanded_of_change (C := Tryz.checked) Cm.lawOwn started (by kernel_rfl) Tryz.func6
    (ChangeSpec.witness6 (enc := enc) (C := Tryz.checked) false ⟨#[], #[.agg #[.int .i64 0, .int .i64 0, .int .i64 0, .int .i64 0, .int .i64 0, .int .i64 0, .slice none 0 0], .agg #[.int .i64 0, .int .i64 0, .int .i64 0, .int .i64 0, .int .i64 0, .int .i64 0], .agg #[.int .i64 0, .int .i64 0, .int .i64 0, .int .i64 0, .int .i64 0, .int .i64 0, .int .i64 0, .int .i64 0]], []⟩ 8 (by kernel_rfl) (by kernel_rfl) (by kernel_rfl) (by kernel_rfl)) ?_
  intro W base args ds gs before hval0 hW hcnd _
  have hval : ∀ (j : Nat) t v, Tryz.f6.params[j]? = some t → args[j]? = some v → Value.okWide Tryz.prog W .any base t v := hval0
  have hW' : DataW.Whole enc Tryz.prog Tryz.f6.params.toList Rows.fixMovesSpec.vars false W args.toList ds gs before := hW
  obtain ⟨p, q, hA0, hV, rfl, hfz, hnd⟩ := hW
  have hA : DataW.TrodAll enc Tryz.prog W 0 (fun _ => true) true Tryz.f6.params.toList args.toList ds p := hA0
  rw [Tryz.params6] at hA hval
  obtain ⟨v0, vs0, d0, ds0, p0, q0, hargs, rfl, rfl, h0, r0⟩ := trodAll_cons hA
  obtain ⟨v1, vs1, d1, ds1, p1, q1, rfl, rfl, rfl, h1, r1⟩ := trodAll_cons r0
  obtain ⟨v2, vs2, d2, ds2, p2, q2, rfl, rfl, rfl, h2, r2⟩ := trodAll_cons r1
  obtain ⟨rfl, rfl, rfl⟩ := trodAll_nil r2
  obtain rfl : args = #[v0, v1, v2] := by cases args; simp_all
  obtain ⟨rfl, rfl⟩ := trodVars_none hV
  obtain ⟨cs0, rfl, k0⟩ := Cm.arg_kinds (n := 9) (ks := [.c .i, .c .i, .c .i, .c .i, .c .i, .c .i, .l [.s, .i, .i, .i]]) Tryz.underlying58 (by kernel_rfl) (hval 0 58 v0 rfl rfl) h0
  obtain ⟨a0_0, a0_1, a0_2, a0_3, a0_4, a0_5, ua0_6, rfl, ⟨a0_6, hsa0_6⟩, _⟩ := fixMoves_open0 k0
  obtain ⟨cs1, rfl, k1⟩ := Cm.arg_kinds (n := 9) (ks := [.c .i, .c .i, .c .i, .c .i, .c .i, .c .i]) Tryz.underlying55 (by kernel_rfl) (hval 1 55 v1 rfl rfl) h1
  obtain ⟨a1_0, a1_1, a1_2, a1_3, a1_4, a1_5, rfl, _⟩ := fixMoves_open1 k1
  obtain ⟨cs2, rfl, k2⟩ := Cm.arg_kinds (n := 9) (ks := [.c .i, .c .i, .c .i, .c .i, .c .i, .c .i, .c .i, .c .i]) Tryz.underlying73 (by kernel_rfl) (hval 2 73 v2 rfl rfl) h2
  have rg2 := Cm.okWide_ints Tryz.underlying73 (hval 2 73 _ rfl rfl)
  obtain ⟨a2_0, a2_1, a2_2, a2_3, a2_4, a2_5, a2_6, a2_7, rfl, _⟩ := fixMoves_open2 k2
  have hr2 : ∀ x ∈ [a2_0, a2_1, a2_2, a2_3, a2_4, a2_5, a2_6, a2_7], -9223372036854775808 ≤ x ∧ x ≤ 9223372036854775807 := by
    intro x hx
    simp only [List.mem_cons, List.not_mem_nil, or_false] at hx
    rcases hx with rfl | rfl | rfl | rfl | rfl | rfl | rfl | rfl
    · exact rg2 0 _ rfl
    · exact rg2 1 _ rfl
    · exact rg2 2 _ rfl
    · exact rg2 3 _ rfl
    · exact rg2 4 _ rfl
    · exact rg2 5 _ rfl
    · exact rg2 6 _ rfl
    · exact rg2 7 _ rfl
  obtain ⟨x0, A0, c0, rfl, hc0, hp0, hr0⟩ := Cm.sl_rd (V := (Cm.vals [a0_0, a0_1, a0_2, a0_3, a0_4, a0_5, (a0_6.length : Int), a1_0, a1_1, a1_2, a1_3, a1_4, a1_5, a2_0, a2_1, a2_2, a2_3, a2_4, a2_5, a2_6, a2_7] [(a0_6.flatMap Cm.enSIII)])) (i := 0) hsa0_6 Cm.enSIII_len (by decide) rfl
  obtain ⟨fu, hfu⟩ := l5_FixMoves_true a0_0 a0_1 a0_2 a0_3 a0_4 a0_5 a0_6 a1_0 a1_1 a1_2 a1_3 a1_4 a1_5 a2_0 a2_1 a2_2 a2_3 a2_4 a2_5 a2_6 a2_7 hr2
  refine (Cm.true_of_ok (w := W) (l5_FixMoves_ok fu a0_0 a0_1 a0_2 a0_3 a0_4 a0_5 a0_6 a1_0 a1_1 a1_2 a1_3 a1_4 a1_5 a2_0 a2_1 a2_2 a2_3 a2_4 a2_5 a2_6 a2_7 true hfu) rfl rfl (xs := [x0]) ⟨Cm.rdO_of hr0, trivial⟩ (args' := [.agg ⟨[.int .i64 a0_0, .int .i64 a0_1, .int .i64 a0_2, .int .i64 a0_3, .int .i64 a0_4, .int .i64 a0_5, .slice A0 a0_6.length c0]⟩, .agg ⟨[.int .i64 a1_0, .int .i64 a1_1, .int .i64 a1_2, .int .i64 a1_3, .int .i64 a1_4, .int .i64 a1_5]⟩, .agg ⟨[.int .i64 a2_0, .int .i64 a2_1, .int .i64 a2_2, .int .i64 a2_3, .int .i64 a2_4, .int .i64 a2_5, .int .i64 a2_6, .int .i64 a2_7]⟩]) (Cm.vrs_cons (Cm.vr_agg (Cm.vrs_cons (Cm.vr_i rfl) (Cm.vrs_cons (Cm.vr_i rfl) (Cm.vrs_cons (Cm.vr_i rfl) (Cm.vrs_cons (Cm.vr_i rfl) (Cm.vrs_cons (Cm.vr_i rfl) (Cm.vrs_cons (Cm.vr_i rfl) (Cm.vrs_cons (Cm.vr_gs (x := x0) rfl rfl hc0 hp0) Cm.vrs_nil)))))))) (Cm.vrs_cons (Cm.vr_agg (Cm.vrs_cons (Cm.vr_i rfl) (Cm.vrs_cons (Cm.vr_i rfl) (Cm.vrs_cons (Cm.vr_i rfl) (Cm.vrs_cons (Cm.vr_i rfl) (Cm.vrs_cons (Cm.vr_i rfl) (Cm.vrs_cons (Cm.vr_i rfl) Cm.vrs_nil))))))) (Cm.vrs_cons (Cm.vr_agg (Cm.vrs_cons (Cm.vr_i rfl) (Cm.vrs_cons (Cm.vr_i rfl) (Cm.vrs_cons (Cm.vr_i rfl) (Cm.vrs_cons (Cm.vr_i rfl) (Cm.vrs_cons (Cm.vr_i rfl) (Cm.vrs_cons (Cm.vr_i rfl) (Cm.vrs_cons (Cm.vr_i rfl) (Cm.vrs_cons (Cm.vr_i rfl) Cm.vrs_nil))))))))) Cm.vrs_nil)))).mono fun e W' ⟨he, hb⟩ => ?_
  subst he
  exact ⟨_, rfl, post_true Cm.lawLaid fixMovesParams rfl Tryz.underlying4 rfl ⟨rfl, rfl, rfl⟩ hW' hb⟩
theorem fixMoves_holds : Rows.FixMovesSaid :=
  OpenClaim.holds_of_wide 6 Tryz.f6 rfl rfl rfl rfl rfl rfl rfl ⟨rfl, rfl, rfl, rfl, rfl⟩ rfl rfl rfl rfl rfl (by kernel_rfl) Tryz.func6 fixMovesJoined
    (of_decide_eq_true (by kernel_rfl)) (by unfold Func.isWrapper; first | (rw [if_pos (by decide +kernel)]; kernel_rfl) | (rw [if_neg (by decide +kernel)]; exact ⟨rfl, rfl⟩))
    (fun os started H enc _ => fixMoves_lifted os started H enc)
end Go.Proofs.YtaafodbiigdbaaaGreat
