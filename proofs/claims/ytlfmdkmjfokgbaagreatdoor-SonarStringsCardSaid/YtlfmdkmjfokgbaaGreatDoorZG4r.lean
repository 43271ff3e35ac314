/-
  'SonarStrings' returns true for every input, and leaves its arguments as they were: Strings of sonars: the row.
-/
import Derived.Test.YtlfmdkmjfokgbaaGreatDoorZKd
import Derived.Test.YtlfmdkmjfokgbaaGreatDoorZEf
import Derived.Test.YtlfmdkmjfokgbaaGreatDoorZEh
import Derived.Test.YtlfmdkmjfokgbaaGreatDoorZEs
import Derived.Test.YtlfmdkmjfokgbaaGreatDoorZG4i
import Derived.Test.YtlfmdkmjfokgbaaGreatDoorZG4rj
import Derived.Lay
import Derived.Test.YtlfmdkmjfokgbaaGreatDoorTie
import Derived.Test.YtlfmdkmjfokgbaaGreatDoorCards
import Derived.SevenTiedAt
import Derived.MakeChecks
import Derived.LaidMore
import Derived.Stop.LaidErr
import Derived.Stop.Joined
set_option linter.all false
namespace Go.Proofs.YtlfmdkmjfokgbaaGreatDoor
open Go.ChangeShapes Go.WideShapes Go.ChangeAt Go.RowKit
theorem sonarStringsParams : ∀ t ∈ Tryz.f5.params.toList, Tryz.prog.readableRec t = true ∧ t < Tryz.prog.types.size := by
 have h : (Tryz.f5.params.toList.all fun t => Tryz.prog.readableRec t && decide (t < Tryz.prog.types.size)) = true := by kernel_rfl
 intro t ht
 have := List.all_eq_true.1 h t ht
 simpa using this
set_option maxRecDepth 100000 in
theorem sonarStrings_open0 {W : World} {v : Value} : Cm.okKTs W [.l [.i, .i, .i]] [v] → ∃ a0 : List (Int × Int × Int), Sl Cm.enIII 3 W v a0 ∧ ∀ x ∈ a0, Cm.Rg64 (x.1) ∧ Cm.Rg64 (x.2.1) ∧ Cm.Rg64 (x.2.2)
 | ⟨⟨_, s⟩, _⟩ => Cm.sl_typedR (enc := Cm.enIII) (Q := fun x => Cm.Rg64 (x.1) ∧ Cm.Rg64 (x.2.1) ∧ Cm.Rg64 (x.2.2)) (fun x hx => by obtain ⟨y0, x0, e0, q0, h0⟩ := Cm.k1I hx; obtain ⟨y1, x1, e1, q1, h1⟩ := Cm.k1I h0; obtain ⟨y2, x2, e2, q2, h2⟩ := Cm.k1I h1; have en := Cm.k1N h2; exact ⟨(y0, y1, y2), (by rw [e0, e1, e2, en]; rfl), q0, q1, q2⟩) s
set_option maxRecDepth 100000 in
set_option maxHeartbeats 4000000 in
theorem sonarStrings_open1 {W : World} {cs : List Value} (h : Cm.okKTs W [.c .i, .c .i, .l [.i, .i, .i, .i, .b]] cs) : ∃ (a1_0 : Int) (a1_1 : Int) (ua1_2 : Value), cs = [.int .i64 a1_0, .int .i64 a1_1, ua1_2] ∧ (∃ a1_2 : List (Int × Int × Int × Int × Bool), Sl Cm.enIIIIB 5 W ua1_2 a1_2 ∧ ∀ x ∈ a1_2, Cm.Rg64 (x.1) ∧ Cm.Rg64 (x.2.1) ∧ Cm.Rg64 (x.2.2.1) ∧ Cm.Rg64 (x.2.2.2.1)) ∧ True := by
 obtain ⟨z0, c0, e0, q0, h0⟩ := Cm.ktI h
 obtain ⟨z1, c1, e1, q1, h1⟩ := Cm.ktI h0
 obtain ⟨w2, c2, e2, ⟨xs2, s2⟩, h2⟩ := Cm.ktL h1
 have en := Cm.ktN h2
 exact ⟨z0, z1, w2, (by rw [e0, e1, e2, en]), Cm.sl_typedR (enc := Cm.enIIIIB) (Q := fun x => Cm.Rg64 (x.1) ∧ Cm.Rg64 (x.2.1) ∧ Cm.Rg64 (x.2.2.1) ∧ Cm.Rg64 (x.2.2.2.1)) (fun x hx => by obtain ⟨y0, x0, e0, q0, h0⟩ := Cm.k1I hx; obtain ⟨y1, x1, e1, q1, h1⟩ := Cm.k1I h0; obtain ⟨y2, x2, e2, q2, h2⟩ := Cm.k1I h1; obtain ⟨y3, x3, e3, q3, h3⟩ := Cm.k1I h2; obtain ⟨y4, x4, e4, q4, h4⟩ := Cm.k1B h3; have en := Cm.k1N h4; exact ⟨(y0, y1, y2, y3, y4), (by rw [e0, e1, e2, e3, e4, en]; cases y4 <;> rfl), q0, q1, q2, q3⟩) s2, trivial⟩
theorem sonarStrings_shape (os : Os) : (World.laidAll Tryz.prog os Rows.sonarStringsRow.laid).Shaped Tryz.prog := World.shaped_of_ZipB (by kernel_rfl) (by kernel_rfl)
theorem sonarStrings_door (os : Os) (args : Array Value) : laidMetH Tryz.prog Rows.sonarStringsRow.laid ((World.laidAll Tryz.prog os Rows.sonarStringsRow.laid).forCall (fun _ _ => 0) ⟨#[], args, []⟩).memory := by
 rw [MakeChecks.laidMetH_plain _ _ _ (by kernel_rfl)]
 exact laidMet_laidAll _ (by kernel_rfl) (by kernel_rfl)
theorem sonarStrings_tab {W : World} (h : laidMetH Tryz.prog Rows.sonarStringsRow.laid W) : Lib.TabIs Tryz.prog W "internal/strconv.uint64pow10" .u64 [1, 10, 100, 1000, 10000, 100000, 1000000, 10000000, 100000000, 1000000000, 10000000000, 100000000000, 1000000000000, 10000000000000, 100000000000000, 1000000000000000, 10000000000000000, 100000000000000000, 1000000000000000000, 10000000000000000000] := by
 rw [MakeChecks.laidMetH_plain _ _ _ (by kernel_rfl)] at h
 exact Lib.tabIs_of_head (g := 1) (t := 563) (e := 417) (n := 20) (by kernel_rfl) (by kernel_rfl) Tryz.underlying563 Tryz.underlying417 (by kernel_rfl) (by kernel_rfl) (laidMet.tail (laidMet.tail (h)))
set_option maxRecDepth 100000 in
set_option maxHeartbeats 2000000 in
theorem sonarStrings_lifted (os : Os) (started : os.Started) (H : Type) (enc : TypeId × Value → H) :
  ReturnsInHanded {} Tryz.checked os 5 .any (fun w args => (Rows.sonarStringsSpec.pre enc Tryz.prog Tryz.f5 [] false w args ∧ laidMetH Tryz.prog Rows.sonarStringsRow.laid w) ∧ sizedMet enc Tryz.prog Tryz.f5 (OpenSpec.ofChange Rows.sonarStringsSpec) false w args) (Rows.sonarStringsSpec.post enc Tryz.prog Tryz.f5 false true false false) := by
 refine returnsInHanded_of_change_and (C := Tryz.checked) (X := fun w _ => laidMetH Tryz.prog Rows.sonarStringsRow.laid w) (fun _ _ _ hh h => h.of_heap hh) Cm.lawOwn started (by kernel_rfl) Tryz.func5
  (ChangeSpec.witness_shaped (enc := enc) (C := Tryz.checked) (os := os) (X := fun w _ => laidMetH Tryz.prog Rows.sonarStringsRow.laid w) false (World.laidAll Tryz.prog os Rows.sonarStringsRow.laid) #[.slice none 0 0, .agg #[.int .i64 0, .int .i64 0, .slice none 0 0], .string ⟨#[]⟩] 8 (World.laidAll_os _ _ _) (sonarStrings_shape os) (by kernel_rfl) (by kernel_rfl) (by kernel_rfl) (sonarStrings_door os _)) ?_
 intro W base args ds gs before hval0 hW _ _ hL _
 have htab := sonarStrings_tab hL
 have hval : ∀ (j : Nat) t v, Tryz.f5.params[j]? = some t → args[j]? = some v → Value.okWide Tryz.prog W .any base t v := hval0
 have hW' : DataW.Whole enc Tryz.prog Tryz.f5.params.toList Rows.sonarStringsSpec.vars false W args.toList ds gs before := hW
 obtain ⟨p, q, hA0, hV, rfl, hfz, hnd⟩ := hW
 have hA : DataW.TrodAll enc Tryz.prog W 0 (fun _ => true) true Tryz.f5.params.toList args.toList ds p := hA0
 rw [Tryz.params5] at hA hval
 obtain ⟨v0, vs0, d0, ds0, p0, q0, hargs, rfl, rfl, h0, r0⟩ := trodAll_cons hA
 obtain ⟨v1, vs1, d1, ds1, p1, q1, rfl, rfl, rfl, h1, r1⟩ := trodAll_cons r0
 obtain ⟨v2, vs2, d2, ds2, p2, q2, rfl, rfl, rfl, h2, r2⟩ := trodAll_cons r1
 obtain ⟨rfl, rfl, rfl⟩ := trodAll_nil r2
 obtain rfl : args = #[v0, v1, v2] := by cases args; simp_all
 obtain ⟨rfl, rfl⟩ := trodVars_none hV
 obtain ⟨a0, hsa0, hqa0⟩ := sonarStrings_open0 (Cm.arg_slice (n := 9) (ks := [.l [.i, .i, .i]]) Tryz.underlying71 (by kernel_rfl) (hval 0 71 v0 rfl rfl) h0)
 obtain ⟨cs1, rfl, k1⟩ := Cm.arg_kinds (n := 9) (ks := [.c .i, .c .i, .l [.i, .i, .i, .i, .b]]) Tryz.underlying74 (by kernel_rfl) (hval 1 74 v1 rfl rfl) h1
 have rg1 := Cm.okWide_ints Tryz.underlying74 (hval 1 74 _ rfl rfl)
 obtain ⟨a1_0, a1_1, ua1_2, rfl, ⟨a1_2, hsa1_2, hqa1_2⟩, _⟩ := sonarStrings_open1 k1
 have hg1 : ∀ x ∈ [a1_0, a1_1], -9223372036854775808 ≤ x ∧ x ≤ 9223372036854775807 := by
  intro x hx
  simp only [List.mem_cons, List.not_mem_nil, or_false] at hx
  rcases hx with rfl | rfl
  ·exact rg1 0 _ rfl
  ·exact rg1 1 _ rfl
 obtain ⟨a2, rfl⟩ := Cm.arg_str Tryz.underlying9 (hval 2 9 v2 rfl rfl)
 obtain ⟨x1, A1, c1, rfl, hc1, hp1, hr1⟩ := Cm.sl_rd (V := (Cm.vals [(a0.length : Int), a1_0, a1_1, (a1_2.length : Int), a2] [(a0.flatMap Cm.enIII), (a1_2.flatMap Cm.enIIIIB)])) (i := 0) hsa0 Cm.enIII_len (by decide) rfl
 obtain ⟨x2, A2, c2, rfl, hc2, hp2, hr2⟩ := Cm.sl_rd (V := (Cm.vals [(a0.length : Int), a1_0, a1_1, (a1_2.length : Int), a2] [(a0.flatMap Cm.enIII), (a1_2.flatMap Cm.enIIIIB)])) (i := 1) hsa1_2 Cm.enIIIIB_len (by decide) rfl
 obtain ⟨fu, hfu⟩ := l4_SonarStrings_true a0 a1_0 a1_1 a1_2 a2 hg1 hqa0 hqa1_2
 refine (Cm.true_of_ok (w := W) (l4_SonarStrings_ok fu a0 a1_0 a1_1 a1_2 a2 true hfu) rfl rfl (xs := [some ⟨1, 0, 20⟩, x1, x2]) ⟨Cm.rdG_of (g := 1) (zs := [1, 10, 100, 1000, 10000, 100000, 1000000, 10000000, 100000000, 1000000000, 10000000000, 100000000000, 1000000000000, 10000000000000, 100000000000000, 1000000000000000, 10000000000000000, 100000000000000000, 1000000000000000000, 10000000000000000000]) htab (by kernel_rfl) (by kernel_rfl), Cm.rdO_of hr1, Cm.rdO_of hr2, trivial⟩ (args' := [.slice A1 a0.length c1, .agg ⟨[.int .i64 a1_0, .int .i64 a1_1, .slice A2 a1_2.length c2]⟩, .string (Cm.strOf a2)]) (Cm.vrs_cons (Cm.vr_gs (x := x1) rfl rfl hc1 hp1) (Cm.vrs_cons (Cm.vr_agg (Cm.vrs_cons (Cm.vr_i rfl) (Cm.vrs_cons (Cm.vr_i rfl) (Cm.vrs_cons (Cm.vr_gs (x := x2) rfl rfl hc2 hp2) Cm.vrs_nil)))) (Cm.vrs_cons (Cm.vr_s rfl) Cm.vrs_nil)))).mono fun e W' ⟨he, hb⟩ => ?_
 subst he
 exact ⟨_, rfl, post_true Cm.lawLaid sonarStringsParams rfl Tryz.underlying4 rfl ⟨rfl, rfl, rfl⟩ hW' hb⟩
theorem sonarStrings_holds : Rows.SonarStringsSaid :=
 OpenClaim.holds_of_wide 5 Tryz.f5 rfl rfl rfl rfl rfl rfl rfl ⟨rfl, rfl, rfl, rfl, rfl⟩ rfl rfl rfl rfl rfl (by kernel_rfl) Tryz.func5 sonarStringsJoined
  (of_decide_eq_true (by kernel_rfl)) (by unfold Func.isWrapper; first | (rw [if_pos (by decide +kernel)]; kernel_rfl) | (rw [if_neg (by decide +kernel)]; exact ⟨rfl, rfl⟩))
  (fun os started H enc _ => sonarStrings_lifted os started H enc)
theorem sonarStringsWf : Rows.sonarStringsRow.wfByText (OpenSpec.ofChange Rows.sonarStringsSpec) = true := by kernel_rfl
theorem sonarStringsMain : Tryz.pinned.checked.prog.mainIs = some ((true, "1cc63bbb5824a66bbe0af12ebbeefb80857a24917655d1f3deb101e5f6c3179a").1, (true, "1cc63bbb5824a66bbe0af12ebbeefb80857a24917655d1f3deb101e5f6c3179a").2.toList) := by kernel_rfl
theorem sonarStringsLooks : false = Tryz.pinned.checked.prog.looks [] := by kernel_rfl
theorem sonarStringsGoes : false = Rows.sonarStringsRow.goesBy Tryz.pinned.checked.prog := by kernel_rfl
theorem sonarStrings_card : Rows.SonarStringsCardSaid :=
 Claim7.holds_tied_plain_at .later [] [.data, .data, .data, .data, .pinned] true (true, "1cc63bbb5824a66bbe0af12ebbeefb80857a24917655d1f3deb101e5f6c3179a") false
  sonarStrings_holds (fun _ h => by cases h) sonarStringsWf (fun _ h => by cases h) sonarStrings_row_tie rfl ⟨rfl, rfl⟩ sonarStringsMain rfl
  (fun f fn hf hfn => by
   obtain rfl : f = 5 := Option.some.inj ((show Tryz.prog.funcNamed Rows.sonarStringsRow.func = some 5 by kernel_rfl).symm.trans hf) |>.symm
   obtain rfl : fn = Tryz.f5 := (Option.some.inj (Tryz.func5.symm.trans hfn)).symm
   exact ⟨sonarStringsLooks, fun j t ht => by
    rw [Tryz.params5] at ht
    have hm : t ∈ [71, 74, 9] := by simpa using Array.mem_of_getElem? ht
    have hall : ([71, 74, 9].all fun u => !Tryz.prog.wantsStandIn u) = true := by kernel_rfl
    exact (show Tryz.prog.wantsStandIn t = false by simpa using List.all_eq_true.1 hall t hm)⟩)
  sonarStringsGoes
end Go.Proofs.YtlfmdkmjfokgbaaGreatDoor
