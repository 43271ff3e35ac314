/-
  'CableTurns' returns true for every input, and leaves its arguments as they were: the winding of any path around any post, and the posts around which it is not 0, are as the reference says, or the errors.
-/
import Derived.Test.YtghglgaimhfedaaQM
import Derived.Test.YtghglgaimhfedaaZLw
import Derived.Test.YtghglgaimhfedaaChecked
namespace Go.Proofs.Ytghglgaimhfedaa
open Go.ChangeShapes Go.WideShapes Go.ChangeAt Go.RowKit

theorem turnsOwn : ownKnob Try.prog.godebug = none := by kernel_rfl
theorem turnsLaid : laidOutB Try.prog = true := by kernel_rfl
theorem turnsParams : ∀ t ∈ Try.f11.params.toList, Try.prog.readableRec t = true ∧ t < Try.prog.types.size := by
  have h : (Try.f11.params.toList.all fun t => Try.prog.readableRec t && decide (t < Try.prog.types.size)) = true := by kernel_rfl
  intro t ht
  have := List.all_eq_true.1 h t ht
  simpa using this
theorem turnsCall (v0 v1 : Value) (path posts : List Pt) (p : Pt) (w : World) (hs : Sl e2 2 w v0 path) (hu : Sl e2 2 w v1 posts) :
    Calls Try.prog 11 #[v0, v1, .agg #[.int .i64 p.1, .int .i64 p.2]] w fun e w' => e = .returned (.bool true) ∧ Below w.heap.size w w' := by
  by_cases hn : path.length ≤ 32 ∧ posts.length ≤ 12
  · exact turns_any v0 v1 path posts p w hs hu hn.1 hn.2
  · obtain ⟨A, c, h1, _⟩ := hs.form
    obtain ⟨A', c', h2, _⟩ := hu.form
    exact turns_far v0 v1 _ _ p w A c A' c' h1 h2 (by omega)
set_option maxRecDepth 100000 in
theorem turns_lifted (os : Os) (started : os.Started) (H : Type) (enc : TypeId × Value → H) :
    ReturnsInHanded {} Try.checked os 11 .any (Rows.cableTurnsSpec.pre6 enc Try.prog Try.f11 Rows.cableTurnsRow.domain false) (Rows.cableTurnsSpec.post enc Try.prog Try.f11 false true false false) := by
  refine returnsInHanded_of_change (C := Try.checked) turnsOwn started (by kernel_rfl) Try.func11
    (ChangeSpec.witness6 (enc := enc) (C := Try.checked) false ⟨#[], #[.slice none 0 0, .slice none 0 0, .agg #[.int .i64 0, .int .i64 0]], []⟩ 8 (by kernel_rfl) (by kernel_rfl) (by kernel_rfl) (by kernel_rfl)) ?_
  intro W base args ds gs before hval0 hW hcnd _
  have hval : ∀ (j : Nat) t v, Try.f11.params[j]? = some t → args[j]? = some v → Value.okWide Try.prog W .any base t v := hval0
  have hW' : DataW.Whole enc Try.prog Try.f11.params.toList Rows.cableTurnsSpec.vars false W args.toList ds gs before := hW
  obtain ⟨p, q, hA0, hV, rfl, hfz, hnd⟩ := hW
  have hA : DataW.TrodAll enc Try.prog W 0 (fun _ => true) true Try.f11.params.toList args.toList ds p := hA0
  rw [Try.params11] at hA hval
  obtain ⟨v0, vs0, d0, ds0, p0, q0, hargs, rfl, rfl, h0, r0⟩ := trodAll_cons hA
  obtain ⟨v1, vs1, d1, ds1, p1, q1, rfl, rfl, rfl, h1, r1⟩ := trodAll_cons r0
  obtain ⟨v2, vs2, d2, ds2, p2, q2, rfl, rfl, rfl, h2, r2⟩ := trodAll_cons r1
  obtain ⟨rfl, rfl, rfl⟩ := trodAll_nil r2
  obtain rfl : args = #[v0, v1, v2] := by cases args; simp_all
  obtain ⟨rfl, rfl⟩ := trodVars_none hV
  obtain ⟨path, hs, _⟩ := arg_pairs Try.underlying107 Try.underlying61 Try.underlying3 (by kernel_rfl) (by kernel_rfl) (hval 0 107 v0 rfl rfl) h0
  obtain ⟨posts, hu, _⟩ := arg_pairs Try.underlying107 Try.underlying61 Try.underlying3 (by kernel_rfl) (by kernel_rfl) (hval 1 107 v1 rfl rfl) h1
  obtain ⟨a, b, rfl⟩ := arg_pair Try.underlying61 Try.underlying3 (by kernel_rfl) (by kernel_rfl) (hval 2 61 v2 rfl rfl) h2
  refine (turnsCall v0 v1 path posts (a, b) W hs hu).mono fun e W' ⟨he, hb⟩ => ?_
  subst he
  exact ⟨_, rfl, post_true turnsLaid turnsParams rfl Try.underlying4 rfl ⟨rfl, rfl, rfl⟩ hW' hb⟩
theorem cableTurns_holds : Rows.CableTurnsSaid :=
  OpenClaim.holds_of_wide 11 Try.f11 rfl rfl rfl rfl rfl rfl rfl ⟨rfl, rfl, rfl, rfl, rfl⟩ rfl rfl rfl rfl rfl (by kernel_rfl) Try.func11 (by kernel_rfl)
    (of_decide_eq_true (by kernel_rfl)) (by unfold Func.isWrapper; first | (rw [if_pos (by decide +kernel)]; kernel_rfl) | (rw [if_neg (by decide +kernel)]; exact ⟨rfl, rfl⟩))
    (fun os started H enc _ => turns_lifted os started H enc)
end Go.Proofs.Ytghglgaimhfedaa
