/-
  'SurveyShifts' returns true for every input, and leaves its arguments as they were: the shifts that fit, and the odd pairs, are as the reference says, or the errors; without the odd pairs some shift fits; a shift of true heights fits.
-/
import Derived.Test.YtidahkefillmeaaGreatDoorZKd
import Derived.Test.YtidahkefillmeaaGreatDoorZEf
import Derived.Test.YtidahkefillmeaaGreatDoorZS9w
import Derived.Test.YtidahkefillmeaaGreatDoorZShDj
import Derived.Test.YtidahkefillmeaaGreatDoorTie
import Derived.Test.YtidahkefillmeaaGreatDoorCards
import Derived.SevenTiedAt
import Derived.MakeChecks
import Derived.LaidMore
import Derived.Stop.LaidErr
import Derived.Stop.Joined
set_option linter.all false
namespace Go.Proofs.YtidahkefillmeaaGreatDoor
open Go.ChangeShapes Go.WideShapes Go.ChangeAt Go.RowKit
theorem surveyShiftsParams : ∀ t ∈ Tryz.f8.params.toList, Tryz.prog.readableRec t = true ∧ t < Tryz.prog.types.size := by
  have h : (Tryz.f8.params.toList.all fun t => Tryz.prog.readableRec t && decide (t < Tryz.prog.types.size)) = true := by kernel_rfl
  intro t ht
  have := List.all_eq_true.1 h t ht
  simpa using this
theorem surveyShifts_open0 {W : World} {v : Value} : Cm.okKTs W [.l [.i, .i, .i, .i]] [v] → ∃ a0 : List (Int × Int × Int × Int), Sl Cm.enIIII 4 W v a0
  | ⟨⟨_, s⟩, _⟩ => Cm.sl_typed (enc := Cm.enIIII) (fun x hx => by match x, hx with | [_, _, _, _], ⟨⟨y0, rfl⟩, ⟨y1, rfl⟩, ⟨y2, rfl⟩, ⟨y3, rfl⟩, _⟩ => exact ⟨(y0, y1, y2, y3), rfl⟩) s
theorem surveyShifts_open2 {W : World} {v : Value} : Cm.okKTs W [.l [.i]] [v] → ∃ a2 : List (Int), Sl Cm.enI 1 W v a2
  | ⟨⟨_, s⟩, _⟩ => Cm.sl_typed (enc := Cm.enI) (fun x hx => by match x, hx with | [_], ⟨⟨y0, rfl⟩, _⟩ => exact ⟨y0, rfl⟩) s
theorem surveyShifts_door (os : Os) (args : Array Value) : laidMetH Tryz.prog Rows.surveyShiftsRow.laid ((World.doorLaid Tryz.prog 400 os).forCall (fun _ _ => 0) ⟨#[], args, []⟩).memory :=
  laidMetH_of_parts3 (fuel := 8) (laidMet_of_run' 8 (by kernel_rfl) (by kernel_rfl)) (by kernel_rfl) (by kernel_rfl)
theorem surveyShifts_tab {W : World} (h : laidMetH Tryz.prog Rows.surveyShiftsRow.laid W) : Lib.TabIs Tryz.prog W "internal/strconv.uint64pow10" .u64 [1, 10, 100, 1000, 10000, 100000, 1000000, 10000000, 100000000, 1000000000, 10000000000, 100000000000, 1000000000000, 10000000000000, 100000000000000, 1000000000000000, 10000000000000000, 100000000000000000, 1000000000000000000, 10000000000000000000] := by
  rw [MakeChecks.laidMetH_plain _ _ _ (by kernel_rfl)] at h
  exact Lib.tabIs_of_head (g := 1) (t := 273) (e := 211) (n := 20) (by kernel_rfl) (by kernel_rfl) Tryz.underlying273 Tryz.underlying211 (by kernel_rfl) (by kernel_rfl) (laidMet.tail (laidMet.tail (h)))
set_option maxRecDepth 100000 in
set_option maxHeartbeats 2000000 in
theorem surveyShifts_lifted (os : Os) (started : os.Started) (H : Type) (enc : TypeId × Value → H) :
    ReturnsInHanded {} Tryz.checked os 8 .any (fun w args => (Rows.surveyShiftsSpec.pre enc Tryz.prog Tryz.f8 [] false w args ∧ laidMetH Tryz.prog Rows.surveyShiftsRow.laid w) ∧ sizedMet enc Tryz.prog Tryz.f8 (OpenSpec.ofChange Rows.surveyShiftsSpec) false w args) (Rows.surveyShiftsSpec.post enc Tryz.prog Tryz.f8 false true false false) := by
  refine returnsInHanded_of_change_and (C := Tryz.checked) (X := fun w _ => laidMetH Tryz.prog Rows.surveyShiftsRow.laid w) (fun _ _ _ hh h => h.of_heap hh) Cm.lawOwn started (by kernel_rfl) Tryz.func8
    (ChangeSpec.witness_shaped (enc := enc) (C := Tryz.checked) (os := os) (X := fun w _ => laidMetH Tryz.prog Rows.surveyShiftsRow.laid w) false (World.doorLaid Tryz.prog 400 os) #[.slice none 0 0, .int .i64 0, .slice none 0 0] 8 rfl (World.shaped_of_RefB (by kernel_rfl) (by kernel_rfl)) (by kernel_rfl) (by kernel_rfl) (by kernel_rfl) (surveyShifts_door os _)) ?_
  intro W base args ds gs before hval0 hW _ _ hL _
  have htab := surveyShifts_tab hL
  have hval : ∀ (j : Nat) t v, Tryz.f8.params[j]? = some t → args[j]? = some v → Value.okWide Tryz.prog W .any base t v := hval0
  have hW' : DataW.Whole enc Tryz.prog Tryz.f8.params.toList Rows.surveyShiftsSpec.vars false W args.toList ds gs before := hW
  obtain ⟨p, q, hA0, hV, rfl, hfz, hnd⟩ := hW
  have hA : DataW.TrodAll enc Tryz.prog W 0 (fun _ => true) true Tryz.f8.params.toList args.toList ds p := hA0
  rw [Tryz.params8] at hA hval
  obtain ⟨v0, vs0, d0, ds0, p0, q0, hargs, rfl, rfl, h0, r0⟩ := trodAll_cons hA
  obtain ⟨v1, vs1, d1, ds1, p1, q1, rfl, rfl, rfl, h1, r1⟩ := trodAll_cons r0
  obtain ⟨v2, vs2, d2, ds2, p2, q2, rfl, rfl, rfl, h2, r2⟩ := trodAll_cons r1
  obtain ⟨rfl, rfl, rfl⟩ := trodAll_nil r2
  obtain rfl : args = #[v0, v1, v2] := by cases args; simp_all
  obtain ⟨rfl, rfl⟩ := trodVars_none hV
  obtain ⟨a0, hsa0⟩ := surveyShifts_open0 (Cm.arg_slice (n := 9) (ks := [.l [.i, .i, .i, .i]]) Tryz.underlying72 (by kernel_rfl) (hval 0 72 v0 rfl rfl) h0)
  obtain ⟨a1, rfl⟩ := Cm.arg_int Tryz.underlying3 (hval 1 3 v1 rfl rfl)
  obtain ⟨a2, hsa2⟩ := surveyShifts_open2 (Cm.arg_slice (n := 9) (ks := [.l [.i]]) Tryz.underlying73 (by kernel_rfl) (hval 2 73 v2 rfl rfl) h2)
  obtain ⟨x1, A1, c1, rfl, hc1, hp1, hr1⟩ := Cm.sl_rd (V := (Cm.vals [(a0.length : Int), a1, (a2.length : Int)] [(a0.flatMap Cm.enIIII), (a2.flatMap Cm.enI)])) (i := 0) hsa0 Cm.enIIII_len (by decide) rfl
  obtain ⟨x2, A2, c2, rfl, hc2, hp2, hr2⟩ := Cm.sl_rd (V := (Cm.vals [(a0.length : Int), a1, (a2.length : Int)] [(a0.flatMap Cm.enIIII), (a2.flatMap Cm.enI)])) (i := 1) hsa2 Cm.enI_len (by decide) rfl
  obtain ⟨fu, hfu⟩ := l9_SurveyShifts_true a0 a1 a2
  refine (Cm.true_of_ok (w := W) (l9_SurveyShifts_ok fu a0 a1 a2 true hfu) rfl rfl (xs := [some ⟨1, 0, 20⟩, x1, x2]) ⟨Cm.rdG_of (g := 1) (zs := [1, 10, 100, 1000, 10000, 100000, 1000000, 10000000, 100000000, 1000000000, 10000000000, 100000000000, 1000000000000, 10000000000000, 100000000000000, 1000000000000000, 10000000000000000, 100000000000000000, 1000000000000000000, 10000000000000000000]) htab (by kernel_rfl) (by kernel_rfl), Cm.rdO_of hr1, Cm.rdO_of hr2, trivial⟩ (args' := [.slice A1 a0.length c1, .int .i64 a1, .slice A2 a2.length c2]) (Cm.vrs_cons (Cm.vr_gs (x := x1) rfl rfl hc1 hp1) (Cm.vrs_cons (Cm.vr_i rfl) (Cm.vrs_cons (Cm.vr_gs (x := x2) rfl rfl hc2 hp2) Cm.vrs_nil)))).mono fun e W' ⟨he, hb⟩ => ?_
  subst he
  exact ⟨_, rfl, post_true Cm.lawLaid surveyShiftsParams rfl Tryz.underlying4 rfl ⟨rfl, rfl, rfl⟩ hW' hb⟩
theorem surveyShifts_holds : Rows.SurveyShiftsSaid :=
  OpenClaim.holds_of_wide 8 Tryz.f8 rfl rfl rfl rfl rfl rfl rfl ⟨rfl, rfl, rfl, rfl, rfl⟩ rfl rfl rfl rfl rfl (by kernel_rfl) Tryz.func8 surveyShiftsJoined
    (of_decide_eq_true (by kernel_rfl)) (by unfold Func.isWrapper; first | (rw [if_pos (by decide +kernel)]; kernel_rfl) | (rw [if_neg (by decide +kernel)]; exact ⟨rfl, rfl⟩))
    (fun os started H enc _ => surveyShifts_lifted os started H enc)
theorem surveyShifts_card : Rows.SurveyShiftsCardSaid :=
  Claim7.holds_tied_plain_at .later [] [.data, .data, .data] true (true, "0b8c1453ef3af0b4261a03a224acc2a1b634457886635c851bf9eae4cab80811") false
    surveyShifts_holds (fun _ h => by cases h) (by kernel_rfl) (fun _ h => by cases h) surveyShifts_row_tie rfl ⟨rfl, rfl⟩ (by kernel_rfl) rfl
    (fun f fn hf hfn => by
      obtain rfl : f = 8 := Option.some.inj ((show Tryz.prog.funcNamed Rows.surveyShiftsRow.func = some 8 by kernel_rfl).symm.trans hf) |>.symm
      obtain rfl : fn = Tryz.f8 := (Option.some.inj (Tryz.func8.symm.trans hfn)).symm
      exact ⟨by kernel_rfl, fun j t ht => by
        rw [Tryz.params8] at ht
        have hm : t ∈ [72, 3, 73] := by simpa using Array.mem_of_getElem? ht
        have hall : ([72, 3, 73].all fun u => !Tryz.prog.wantsStandIn u) = true := by kernel_rfl
        exact (show Tryz.prog.wantsStandIn t = false by simpa using List.all_eq_true.1 hall t hm)⟩)
    (by kernel_rfl)
end Go.Proofs.YtidahkefillmeaaGreatDoor
