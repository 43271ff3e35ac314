/-
  'SurveySwaths' returns true for every input, and leaves its arguments as they were: the gaps of swaths are as the reference says, or the errors; they are apart; with a further swath and with a greater need they lie in each other.
-/
import Derived.Test.YtidahkefillmeaaGreatDoorZKd
import Derived.Test.YtidahkefillmeaaGreatDoorZEf
import Derived.Test.YtidahkefillmeaaGreatDoorZS9n
import Derived.Test.YtidahkefillmeaaGreatDoorZSwDj
import Derived.Test.YtidahkefillmeaaGreatDoorTie
import Derived.Test.YtidahkefillmeaaGreatDoorCards
import Derived.SevenTiedAt
import Derived.MakeChecks
import Derived.LaidMore
import Derived.Stop.LaidErr
import Derived.Stop.Joined
set_option linter.all false
namespace Go.Proofs.YtidahkefillmeaaGreatDoor
open Go.ChangeShapes Go.WideShapes Go.ChangeAt Go.RowKit
theorem surveySwathsParams : ∀ t ∈ Tryz.f7.params.toList, Tryz.prog.readableRec t = true ∧ t < Tryz.prog.types.size := by
  have h : (Tryz.f7.params.toList.all fun t => Tryz.prog.readableRec t && decide (t < Tryz.prog.types.size)) = true := by kernel_rfl
  intro t ht
  have := List.all_eq_true.1 h t ht
  simpa using this
theorem surveySwaths_open0 {W : World} {v : Value} : Cm.okKTs W [.l [.i, .i]] [v] → ∃ a0 : List (Int × Int), Sl Cm.enII 2 W v a0
  | ⟨⟨_, s⟩, _⟩ => Cm.sl_typed (enc := Cm.enII) (fun x hx => by match x, hx with | [_, _], ⟨⟨y0, rfl⟩, ⟨y1, rfl⟩, _⟩ => exact ⟨(y0, y1), rfl⟩) s
set_option maxHeartbeats 4000000 in
theorem surveySwaths_open1 {W : World} : ∀ {cs : List Value}, Cm.okKTs W [.c .i, .c .i] cs → ∃ (a1_0 : Int) (a1_1 : Int), cs = [.int .i64 a1_0, .int .i64 a1_1] ∧ True
  | [_, _], ⟨⟨z0, rfl⟩, ⟨z1, rfl⟩, _⟩ => ⟨z0, z1, rfl, trivial⟩
set_option maxHeartbeats 4000000 in
theorem surveySwaths_open2 {W : World} : ∀ {cs : List Value}, Cm.okKTs W [.c .i, .c .i, .c .i] cs → ∃ (a2_0 : Int) (a2_1 : Int) (a2_2 : Int), cs = [.int .i64 a2_0, .int .i64 a2_1, .int .i64 a2_2] ∧ True
  | [_, _, _], ⟨⟨z0, rfl⟩, ⟨z1, rfl⟩, ⟨z2, rfl⟩, _⟩ => ⟨z0, z1, z2, rfl, trivial⟩
theorem surveySwaths_door (os : Os) (args : Array Value) : laidMetH Tryz.prog Rows.surveySwathsRow.laid ((World.doorLaid Tryz.prog 400 os).forCall (fun _ _ => 0) ⟨#[], args, []⟩).memory :=
  laidMetH_of_parts3 (fuel := 8) (laidMet_of_run' 8 (by kernel_rfl) (by kernel_rfl)) (by kernel_rfl) (by kernel_rfl)
theorem surveySwaths_tab {W : World} (h : laidMetH Tryz.prog Rows.surveySwathsRow.laid W) : Lib.TabIs Tryz.prog W "internal/strconv.uint64pow10" .u64 [1, 10, 100, 1000, 10000, 100000, 1000000, 10000000, 100000000, 1000000000, 10000000000, 100000000000, 1000000000000, 10000000000000, 100000000000000, 1000000000000000, 10000000000000000, 100000000000000000, 1000000000000000000, 10000000000000000000] := by
  rw [MakeChecks.laidMetH_plain _ _ _ (by kernel_rfl)] at h
  exact Lib.tabIs_of_head (g := 1) (t := 273) (e := 211) (n := 20) (by kernel_rfl) (by kernel_rfl) Tryz.underlying273 Tryz.underlying211 (by kernel_rfl) (by kernel_rfl) (laidMet.tail (laidMet.tail (h)))
set_option maxRecDepth 100000 in
set_option maxHeartbeats 2000000 in
theorem surveySwaths_lifted (os : Os) (started : os.Started) (H : Type) (enc : TypeId × Value → H) :
    ReturnsInHanded {} Tryz.checked os 7 .any (fun w args => (Rows.surveySwathsSpec.pre enc Tryz.prog Tryz.f7 [] false w args ∧ laidMetH Tryz.prog Rows.surveySwathsRow.laid w) ∧ sizedMet enc Tryz.prog Tryz.f7 (OpenSpec.ofChange Rows.surveySwathsSpec) false w args) (Rows.surveySwathsSpec.post enc Tryz.prog Tryz.f7 false true false false) := by
  refine returnsInHanded_of_change_and (C := Tryz.checked) (X := fun w _ => laidMetH Tryz.prog Rows.surveySwathsRow.laid w) (fun _ _ _ hh h => h.of_heap hh) Cm.lawOwn started (by kernel_rfl) Tryz.func7
    (ChangeSpec.witness_shaped (enc := enc) (C := Tryz.checked) (os := os) (X := fun w _ => laidMetH Tryz.prog Rows.surveySwathsRow.laid w) false (World.doorLaid Tryz.prog 400 os) #[.slice none 0 0, .agg #[.int .i64 0, .int .i64 0], .agg #[.int .i64 0, .int .i64 0, .int .i64 0]] 8 rfl (World.shaped_of_RefB (by kernel_rfl) (by kernel_rfl)) (by kernel_rfl) (by kernel_rfl) (by kernel_rfl) (surveySwaths_door os _)) ?_
  intro W base args ds gs before hval0 hW _ _ hL _
  have htab := surveySwaths_tab hL
  have hval : ∀ (j : Nat) t v, Tryz.f7.params[j]? = some t → args[j]? = some v → Value.okWide Tryz.prog W .any base t v := hval0
  have hW' : DataW.Whole enc Tryz.prog Tryz.f7.params.toList Rows.surveySwathsSpec.vars false W args.toList ds gs before := hW
  obtain ⟨p, q, hA0, hV, rfl, hfz, hnd⟩ := hW
  have hA : DataW.TrodAll enc Tryz.prog W 0 (fun _ => true) true Tryz.f7.params.toList args.toList ds p := hA0
  rw [Tryz.params7] at hA hval
  obtain ⟨v0, vs0, d0, ds0, p0, q0, hargs, rfl, rfl, h0, r0⟩ := trodAll_cons hA
  obtain ⟨v1, vs1, d1, ds1, p1, q1, rfl, rfl, rfl, h1, r1⟩ := trodAll_cons r0
  obtain ⟨v2, vs2, d2, ds2, p2, q2, rfl, rfl, rfl, h2, r2⟩ := trodAll_cons r1
  obtain ⟨rfl, rfl, rfl⟩ := trodAll_nil r2
  obtain rfl : args = #[v0, v1, v2] := by cases args; simp_all
  obtain ⟨rfl, rfl⟩ := trodVars_none hV
  obtain ⟨a0, hsa0⟩ := surveySwaths_open0 (Cm.arg_slice (n := 9) (ks := [.l [.i, .i]]) Tryz.underlying49 (by kernel_rfl) (hval 0 49 v0 rfl rfl) h0)
  obtain ⟨cs1, rfl, k1⟩ := Cm.arg_kinds (n := 9) (ks := [.c .i, .c .i]) Tryz.underlying32 (by kernel_rfl) (hval 1 32 v1 rfl rfl) h1
  obtain ⟨a1_0, a1_1, rfl, _⟩ := surveySwaths_open1 k1
  obtain ⟨cs2, rfl, k2⟩ := Cm.arg_kinds (n := 9) (ks := [.c .i, .c .i, .c .i]) Tryz.underlying65 (by kernel_rfl) (hval 2 65 v2 rfl rfl) h2
  obtain ⟨a2_0, a2_1, a2_2, rfl, _⟩ := surveySwaths_open2 k2
  obtain ⟨x1, A1, c1, rfl, hc1, hp1, hr1⟩ := Cm.sl_rd (V := (Cm.vals [(a0.length : Int), a1_0, a1_1, a2_0, a2_1, a2_2] [(a0.flatMap Cm.enII)])) (i := 0) hsa0 Cm.enII_len (by decide) rfl
  obtain ⟨fu, hfu⟩ := l9_SurveySwaths_true a0 a1_0 a1_1 a2_0 a2_1 a2_2
  refine (Cm.true_of_ok (w := W) (l9_SurveySwaths_ok fu a0 a1_0 a1_1 a2_0 a2_1 a2_2 true hfu) rfl rfl (xs := [some ⟨1, 0, 20⟩, x1]) ⟨Cm.rdG_of (g := 1) (zs := [1, 10, 100, 1000, 10000, 100000, 1000000, 10000000, 100000000, 1000000000, 10000000000, 100000000000, 1000000000000, 10000000000000, 100000000000000, 1000000000000000, 10000000000000000, 100000000000000000, 1000000000000000000, 10000000000000000000]) htab (by kernel_rfl) (by kernel_rfl), Cm.rdO_of hr1, trivial⟩ (args' := [.slice A1 a0.length c1, .agg ⟨[.int .i64 a1_0, .int .i64 a1_1]⟩, .agg ⟨[.int .i64 a2_0, .int .i64 a2_1, .int .i64 a2_2]⟩]) (Cm.vrs_cons (Cm.vr_gs (x := x1) rfl rfl hc1 hp1) (Cm.vrs_cons (Cm.vr_agg (Cm.vrs_cons (Cm.vr_i rfl) (Cm.vrs_cons (Cm.vr_i rfl) Cm.vrs_nil))) (Cm.vrs_cons (Cm.vr_agg (Cm.vrs_cons (Cm.vr_i rfl) (Cm.vrs_cons (Cm.vr_i rfl) (Cm.vrs_cons (Cm.vr_i rfl) Cm.vrs_nil)))) Cm.vrs_nil)))).mono fun e W' ⟨he, hb⟩ => ?_
  subst he
  exact ⟨_, rfl, post_true Cm.lawLaid surveySwathsParams rfl Tryz.underlying4 rfl ⟨rfl, rfl, rfl⟩ hW' hb⟩
theorem surveySwaths_holds : Rows.SurveySwathsSaid :=
  OpenClaim.holds_of_wide 7 Tryz.f7 rfl rfl rfl rfl rfl rfl rfl ⟨rfl, rfl, rfl, rfl, rfl⟩ rfl rfl rfl rfl rfl (by kernel_rfl) Tryz.func7 surveySwathsJoined
    (of_decide_eq_true (by kernel_rfl)) (by unfold Func.isWrapper; first | (rw [if_pos (by decide +kernel)]; kernel_rfl) | (rw [if_neg (by decide +kernel)]; exact ⟨rfl, rfl⟩))
    (fun os started H enc _ => surveySwaths_lifted os started H enc)
theorem surveySwaths_card : Rows.SurveySwathsCardSaid :=
  Claim7.holds_tied_plain_at .later [] [.data, .data, .data] true (true, "0b8c1453ef3af0b4261a03a224acc2a1b634457886635c851bf9eae4cab80811") false
    surveySwaths_holds (fun _ h => by cases h) (by kernel_rfl) (fun _ h => by cases h) surveySwaths_row_tie rfl ⟨rfl, rfl⟩ (by kernel_rfl) rfl
    (fun f fn hf hfn => by
      obtain rfl : f = 7 := Option.some.inj ((show Tryz.prog.funcNamed Rows.surveySwathsRow.func = some 7 by kernel_rfl).symm.trans hf) |>.symm
      obtain rfl : fn = Tryz.f7 := (Option.some.inj (Tryz.func7.symm.trans hfn)).symm
      exact ⟨by kernel_rfl, fun j t ht => by
        rw [Tryz.params7] at ht
        have hm : t ∈ [49, 32, 65] := by simpa using Array.mem_of_getElem? ht
        have hall : ([49, 32, 65].all fun u => !Tryz.prog.wantsStandIn u) = true := by kernel_rfl
        exact (show Tryz.prog.wantsStandIn t = false by simpa using List.all_eq_true.1 hall t hm)⟩)
    (by kernel_rfl)
end Go.Proofs.YtidahkefillmeaaGreatDoor
