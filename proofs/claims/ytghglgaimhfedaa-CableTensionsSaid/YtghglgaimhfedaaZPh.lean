/-
  'CableTensions' returns true for every input, and leaves its arguments as they were: the tensions, which ones are accepted as a balance, and the strongest link, are as the reference says, or the errors.
-/
import Derived.Test.YtghglgaimhfedaaQM
import Derived.Test.YtghglgaimhfedaaZMg
namespace Go.Proofs.Ytghglgaimhfedaa
open Go.ChangeShapes Go.WideShapes Go.ChangeAt Go.RowKit

theorem tensionsParams : ∀ t ∈ Try.f4.params.toList, Try.prog.readableRec t = true ∧ t < Try.prog.types.size := by
  have h : (Try.f4.params.toList.all fun t => Try.prog.readableRec t && decide (t < Try.prog.types.size)) = true := by kernel_rfl
  intro t ht
  have := List.all_eq_true.1 h t ht
  simpa using this
theorem tensionsCall (v0 v1 v2 : Value) (l : Ln) (cu : List Int) (ts : List (Int × Int)) (w : World) (hs : Sl e3 3 w v0 l.ks) (hu : Sl e1 1 w v1 cu) (hx : Sl e2 2 w v2 ts) :
    Calls Try.prog 4 #[.agg #[.int .i64 l.x, .int .i64 l.z, v0], v1, v2] w fun e w' => e = .returned (.bool true) ∧ Below w.heap.size w w' := by
  by_cases hn : l.ks.length ≤ 12 ∧ cu.length ≤ 14 ∧ ts.length ≤ 14
  · exact tensions_near v0 v1 v2 l cu ts w hs hu hx hn.1 hn.2.1 hn.2.2
  · exact tensions_far v0 v1 v2 l cu ts w hs hu hx hn
set_option maxRecDepth 100000 in
theorem tensions_lifted (os : Os) (started : os.Started) (H : Type) (enc : TypeId × Value → H) :
    ReturnsInHanded {} Try.checked os 4 .any (Rows.cableTensionsSpec.pre6 enc Try.prog Try.f4 Rows.cableTensionsRow.domain false) (Rows.cableTensionsSpec.post enc Try.prog Try.f4 false true false false) := by
  refine returnsInHanded_of_change (C := Try.checked) lawOwn started (by kernel_rfl) Try.func4
    (ChangeSpec.witness6 (enc := enc) (C := Try.checked) false ⟨#[], #[.agg #[.int .i64 0, .int .i64 0, .slice none 0 0], .slice none 0 0, .slice none 0 0], []⟩ 8 (by kernel_rfl) (by kernel_rfl) (by kernel_rfl) (by kernel_rfl)) ?_
  intro W base args ds gs before hval0 hW hcnd _
  have hval : ∀ (j : Nat) t v, Try.f4.params[j]? = some t → args[j]? = some v → Value.okWide Try.prog W .any base t v := hval0
  have hW' : DataW.Whole enc Try.prog Try.f4.params.toList Rows.cableTensionsSpec.vars false W args.toList ds gs before := hW
  obtain ⟨p, q, hA0, hV, rfl, hfz, hnd⟩ := hW
  have hA : DataW.TrodAll enc Try.prog W 0 (fun _ => true) true Try.f4.params.toList args.toList ds p := hA0
  rw [Try.params4] at hA hval
  obtain ⟨v0, vs0, d0, ds0, p0, q0, hargs, rfl, rfl, h0, r0⟩ := trodAll_cons hA
  obtain ⟨v1, vs1, d1, ds1, p1, q1, rfl, rfl, rfl, h1, r1⟩ := trodAll_cons r0
  obtain ⟨v2, vs2, d2, ds2, p2, q2, rfl, rfl, rfl, h2, r2⟩ := trodAll_cons r1
  obtain ⟨rfl, rfl, rfl⟩ := trodAll_nil r2
  obtain rfl : args = #[v0, v1, v2] := by cases args; simp_all
  obtain ⟨rfl, rfl⟩ := trodVars_none hV
  obtain ⟨l, u, rfl, hs, _⟩ := arg_line (hval 0 26 v0 rfl rfl) h0
  obtain ⟨cu, hu, _⟩ := arg_ints (hval 1 36 v1 rfl rfl) h1
  obtain ⟨ts, hx, _⟩ := arg_forces (hval 2 47 v2 rfl rfl) h2
  refine (tensionsCall u v1 v2 l cu ts W hs hu hx).mono fun e W' ⟨he, hb⟩ => ?_
  subst he
  exact ⟨_, rfl, post_true lawLaid tensionsParams rfl Try.underlying4 rfl ⟨rfl, rfl, rfl⟩ hW' hb⟩
theorem cableTensions_holds : Rows.CableTensionsSaid :=
  OpenClaim.holds_of_wide 4 Try.f4 rfl rfl rfl rfl rfl rfl rfl ⟨rfl, rfl, rfl, rfl, rfl⟩ rfl rfl rfl rfl rfl (by kernel_rfl) Try.func4 (by kernel_rfl)
    (of_decide_eq_true (by kernel_rfl)) (by unfold Func.isWrapper; first | (rw [if_pos (by decide +kernel)]; kernel_rfl) | (rw [if_neg (by decide +kernel)]; exact ⟨rfl, rfl⟩))
    (fun os started H enc _ => tensions_lifted os started H enc)
end Go.Proofs.Ytghglgaimhfedaa
