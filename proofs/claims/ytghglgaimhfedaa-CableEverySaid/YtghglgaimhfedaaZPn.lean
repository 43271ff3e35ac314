/-
  'CableEvery' returns true for every input, and leaves its arguments as they were: for given currents in a box each pull and each square of a tension lies in its range, the layback in that over the box, and the length is at most the length that is enough; a box around these currents has ranges within the ranges.
-/
import Derived.Test.YtghglgaimhfedaaQM
import Derived.Test.YtghglgaimhfedaaZSe
namespace Go.Proofs.Ytghglgaimhfedaa
open Go.ChangeShapes Go.WideShapes Go.ChangeAt Go.RowKit

theorem everyParams : ∀ t ∈ Try.f9.params.toList, Try.prog.readableRec t = true ∧ t < Try.prog.types.size := by
  have h : (Try.f9.params.toList.all fun t => Try.prog.readableRec t && decide (t < Try.prog.types.size)) = true := by kernel_rfl
  intro t ht
  have := List.all_eq_true.1 h t ht
  simpa using this
theorem everyCall (v0 v1 v2 : Value) (x0 : Ln) (x1 : List (Int × Int)) (x2 : List Int) (w : World) (hs0 : Sl e3 3 w v0 x0.ks) (hs1 : Sl e2 2 w v1 x1) (hs2 : Sl e1 1 w v2 x2) :
    Calls Try.prog 9 #[.agg #[.int .i64 x0.x, .int .i64 x0.z, v0], v1, v2] w fun e w' => e = .returned (.bool true) ∧ Below w.heap.size w w' := by
  by_cases hn : x0.ks.length ≤ 12 ∧ x1.length ≤ 14 ∧ x2.length ≤ 20
  · exact every_near v0 v1 v2 x0 x1 x2 w hs0 hs1 hs2 hn.1 hn.2.1 hn.2.2
  · exact every_far v0 v1 v2 x0 x1 x2 w hs0 hs1 hs2 hn
set_option maxRecDepth 100000 in
theorem every_lifted (os : Os) (started : os.Started) (H : Type) (enc : TypeId × Value → H) :
    ReturnsInHanded {} Try.checked os 9 .any (Rows.cableEverySpec.pre6 enc Try.prog Try.f9 Rows.cableEveryRow.domain false) (Rows.cableEverySpec.post enc Try.prog Try.f9 false true false false) := by
  refine returnsInHanded_of_change (C := Try.checked) lawOwn started (by kernel_rfl) Try.func9
    (ChangeSpec.witness6 (enc := enc) (C := Try.checked) false ⟨#[], #[.agg #[.int .i64 0, .int .i64 0, .slice none 0 0], .slice none 0 0, .slice none 0 0], []⟩ 8 (by kernel_rfl) (by kernel_rfl) (by kernel_rfl) (by kernel_rfl)) ?_
  intro W base args ds gs before hval0 hW hcnd _
  have hval : ∀ (j : Nat) t v, Try.f9.params[j]? = some t → args[j]? = some v → Value.okWide Try.prog W .any base t v := hval0
  have hW' : DataW.Whole enc Try.prog Try.f9.params.toList Rows.cableEverySpec.vars false W args.toList ds gs before := hW
  obtain ⟨p, q, hA0, hV, rfl, hfz, hnd⟩ := hW
  have hA : DataW.TrodAll enc Try.prog W 0 (fun _ => true) true Try.f9.params.toList args.toList ds p := hA0
  rw [Try.params9] at hA hval
  obtain ⟨v0, vs0, d0, ds0, p0, q0, hargs, rfl, rfl, h0, r0⟩ := trodAll_cons hA
  obtain ⟨v1, vs1, d1, ds1, p1, q1, rfl, rfl, rfl, h1, r1⟩ := trodAll_cons r0
  obtain ⟨v2, vs2, d2, ds2, p2, q2, rfl, rfl, rfl, h2, r2⟩ := trodAll_cons r1
  obtain ⟨rfl, rfl, rfl⟩ := trodAll_nil r2
  obtain rfl : args = #[v0, v1, v2] := by cases args; simp_all
  obtain ⟨rfl, rfl⟩ := trodVars_none hV
  obtain ⟨x0, u0, rfl, hs0, _⟩ := arg_line (hval 0 26 v0 rfl rfl) h0
  obtain ⟨x1, hs1, _⟩ := arg_box (hval 1 27 v1 rfl rfl) h1
  obtain ⟨x2, hs2, _⟩ := arg_ints (hval 2 36 v2 rfl rfl) h2
  refine (everyCall u0 v1 v2 x0 x1 x2 W hs0 hs1 hs2).mono fun e W' ⟨he, hb⟩ => ?_
  subst he
  exact ⟨_, rfl, post_true lawLaid everyParams rfl Try.underlying4 rfl ⟨rfl, rfl, rfl⟩ hW' hb⟩
theorem cableEvery_holds : Rows.CableEverySaid :=
  OpenClaim.holds_of_wide 9 Try.f9 rfl rfl rfl rfl rfl rfl rfl ⟨rfl, rfl, rfl, rfl, rfl⟩ rfl rfl rfl rfl rfl (by kernel_rfl) Try.func9 (by kernel_rfl)
    (of_decide_eq_true (by kernel_rfl)) (by unfold Func.isWrapper; first | (rw [if_pos (by decide +kernel)]; kernel_rfl) | (rw [if_neg (by decide +kernel)]; exact ⟨rfl, rfl⟩))
    (fun os started H enc _ => every_lifted os started H enc)
end Go.Proofs.Ytghglgaimhfedaa
