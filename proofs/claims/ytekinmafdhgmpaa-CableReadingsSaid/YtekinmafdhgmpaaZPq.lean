/-
  'CableReadings' returns true for every input, and leaves its arguments as they were: which readings contradict a box, and which sets of one or two of them are accepted as a contradiction, with the distance, are as the reference says, or the errors (a few more links, currents, readings and numbers than are permitted; beyond that the statement says nothing).
-/
import Derived.Test.YtekinmafdhgmpaaQM
import Derived.Test.YtekinmafdhgmpaaZUo
import Derived.Test.YtekinmafdhgmpaaQU
namespace Go.Proofs.Ytekinmafdhgmpaa
open Go.ChangeShapes Go.WideShapes Go.ChangeAt Go.RowKit

theorem readingsParams : ∀ t ∈ Try.f3.params.toList, Try.prog.readableRec t = true ∧ t < Try.prog.types.size := by
  have h : (Try.f3.params.toList.all fun t => Try.prog.readableRec t && decide (t < Try.prog.types.size)) = true := by kernel_rfl
  intro t ht
  have := List.all_eq_true.1 h t ht
  simpa using this
theorem readingsCall (v u t y : Value) (l : Ln) (b : List (Int × Int)) (r : List Rd) (s : List Int) (w : World) (hs : Sl e3 3 w v l.ks) (hu : Sl e2 2 w u b) (ht : Sl e3 3 w t r) (hy : Sl e1 1 w y s) :
    Calls Try.prog 3 #[.agg #[.int .i64 l.x, .int .i64 l.z, v], u, .agg #[t, y]] w fun e w' => e = .returned (.bool true) ∧ Below w.heap.size w w' := by
  by_cases hn : l.ks.length ≤ 12 ∧ b.length ≤ 14 ∧ r.length ≤ 14 ∧ s.length ≤ 4
  · by_cases h0 : readingsErr l b r = 0
    · exact readings_ok v u t y l b r s w hs hu ht hy hn.1 hn.2.1 hn.2.2.1 hn.2.2.2 h0
    · exact readings_bad v u t y l b r s w hs hu ht hy hn.1 hn.2.1 hn.2.2.1 hn.2.2.2 h0
  · exact readings_far v u t y l b r s w hs hu ht hy hn
set_option maxRecDepth 100000 in
theorem readings_lifted (os : Os) (started : os.Started) (H : Type) (enc : TypeId × Value → H) :
    ReturnsInHanded {} Try.checked os 3 .any (Rows.cableReadingsSpec.pre6 enc Try.prog Try.f3 Rows.cableReadingsRow.domain false) (Rows.cableReadingsSpec.post enc Try.prog Try.f3 false true false false) := by
  refine returnsInHanded_of_change (C := Try.checked) lawOwn started (by kernel_rfl) Try.func3
    (ChangeSpec.witness6 (enc := enc) (C := Try.checked) false ⟨#[], #[.agg #[.int .i64 0, .int .i64 0, .slice none 0 0], .slice none 0 0, .agg #[.slice none 0 0, .slice none 0 0]], []⟩ 8 (by kernel_rfl) (by kernel_rfl) (by kernel_rfl) (by kernel_rfl)) ?_
  intro W base args ds gs before hval0 hW hcnd _
  have hval : ∀ (j : Nat) t v, Try.f3.params[j]? = some t → args[j]? = some v → Value.okWide Try.prog W .any base t v := hval0
  have hW' : DataW.Whole enc Try.prog Try.f3.params.toList Rows.cableReadingsSpec.vars false W args.toList ds gs before := hW
  obtain ⟨p, q, hA0, hV, rfl, hfz, hnd⟩ := hW
  have hA : DataW.TrodAll enc Try.prog W 0 (fun _ => true) true Try.f3.params.toList args.toList ds p := hA0
  rw [Try.params3] at hA hval
  obtain ⟨v0, vs0, d0, ds0, p0, q0, hargs, rfl, rfl, h0, r0⟩ := trodAll_cons hA
  obtain ⟨v1, vs1, d1, ds1, p1, q1, rfl, rfl, rfl, h1, r1⟩ := trodAll_cons r0
  obtain ⟨v2, vs2, d2, ds2, p2, q2, rfl, rfl, rfl, h2, r2⟩ := trodAll_cons r1
  obtain ⟨rfl, rfl, rfl⟩ := trodAll_nil r2
  obtain rfl : args = #[v0, v1, v2] := by cases args; simp_all
  obtain ⟨rfl, rfl⟩ := trodVars_none hV
  obtain ⟨l, u0, rfl, hs, _⟩ := arg_line (hval 0 26 v0 rfl rfl) h0
  obtain ⟨b, hu, _⟩ := arg_box (hval 1 27 v1 rfl rfl) h1
  obtain ⟨t9, y9, r9, s9, rfl, ht, hy⟩ := arg_readings (hval 2 31 v2 rfl rfl) h2
  refine (readingsCall u0 v1 t9 y9 l b r9 s9 W hs hu ht hy).mono fun e W' ⟨he, hb⟩ => ?_
  subst he
  exact ⟨_, rfl, post_true lawLaid readingsParams rfl Try.underlying4 rfl ⟨rfl, rfl, rfl⟩ hW' hb⟩
theorem cableReadings_holds : Rows.CableReadingsSaid :=
  OpenClaim.holds_of_wide 3 Try.f3 rfl rfl rfl rfl rfl rfl rfl ⟨rfl, rfl, rfl, rfl, rfl⟩ rfl rfl rfl rfl rfl (by kernel_rfl) Try.func3 (by kernel_rfl)
    (of_decide_eq_true (by kernel_rfl)) (by unfold Func.isWrapper; first | (rw [if_pos (by decide +kernel)]; kernel_rfl) | (rw [if_neg (by decide +kernel)]; exact ⟨rfl, rfl⟩))
    (fun os started H enc _ => readings_lifted os started H enc)
end Go.Proofs.Ytekinmafdhgmpaa
