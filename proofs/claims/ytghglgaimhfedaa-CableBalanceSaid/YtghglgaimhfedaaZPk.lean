/-
  'CableBalance' returns true for every input, and leaves its arguments as they were: the balance are the only balance, go on link by link, and are those of the upper links alone; mirrored to the other side the pulls and the layback are opposite, the lengths and the bends the same.
-/
import Derived.Test.YtghglgaimhfedaaQM
import Derived.Test.YtghglgaimhfedaaZMy
import Derived.Test.YtghglgaimhfedaaZMz
namespace Go.Proofs.Ytghglgaimhfedaa
open Go.ChangeShapes Go.WideShapes Go.ChangeAt Go.RowKit

theorem balanceParams : ∀ t ∈ Try.f5.params.toList, Try.prog.readableRec t = true ∧ t < Try.prog.types.size := by
  have h : (Try.f5.params.toList.all fun t => Try.prog.readableRec t && decide (t < Try.prog.types.size)) = true := by kernel_rfl
  intro t ht
  have := List.all_eq_true.1 h t ht
  simpa using this
theorem balanceCall (v0 v1 : Value) (l : Ln) (cu : List Int) (p : Int × Int) (w : World) (hs : Sl e3 3 w v0 l.ks) (hu : Sl e1 1 w v1 cu) :
    Calls Try.prog 5 #[.agg #[.int .i64 l.x, .int .i64 l.z, v0], v1, .agg #[.int .i64 p.1, .int .i64 p.2]] w fun e w' => e = .returned (.bool true) ∧ Below w.heap.size w w' := by
  by_cases hn : l.ks.length ≤ 12 ∧ cu.length ≤ 14 ∧ currentsErr l cu = 0
  · by_cases hp : p.2 % 2 = 0
    · exact balance_even v0 v1 l cu p w hs hu hn.1 hn.2.1 hn.2.2 hp
    · exact balance_odd v0 v1 l cu p w hs hu hn.1 hn.2.1 hn.2.2 hp
  · exact balance_far v0 v1 l cu p w hs hu hn
set_option maxRecDepth 100000 in
theorem balance_lifted (os : Os) (started : os.Started) (H : Type) (enc : TypeId × Value → H) :
    ReturnsInHanded {} Try.checked os 5 .any (Rows.cableBalanceSpec.pre6 enc Try.prog Try.f5 Rows.cableBalanceRow.domain false) (Rows.cableBalanceSpec.post enc Try.prog Try.f5 false true false false) := by
  refine returnsInHanded_of_change (C := Try.checked) lawOwn started (by kernel_rfl) Try.func5
    (ChangeSpec.witness6 (enc := enc) (C := Try.checked) false ⟨#[], #[.agg #[.int .i64 0, .int .i64 0, .slice none 0 0], .slice none 0 0, .agg #[.int .i64 0, .int .i64 0]], []⟩ 8 (by kernel_rfl) (by kernel_rfl) (by kernel_rfl) (by kernel_rfl)) ?_
  intro W base args ds gs before hval0 hW hcnd _
  have hval : ∀ (j : Nat) t v, Try.f5.params[j]? = some t → args[j]? = some v → Value.okWide Try.prog W .any base t v := hval0
  have hW' : DataW.Whole enc Try.prog Try.f5.params.toList Rows.cableBalanceSpec.vars false W args.toList ds gs before := hW
  obtain ⟨p, q, hA0, hV, rfl, hfz, hnd⟩ := hW
  have hA : DataW.TrodAll enc Try.prog W 0 (fun _ => true) true Try.f5.params.toList args.toList ds p := hA0
  rw [Try.params5] at hA hval
  obtain ⟨v0, vs0, d0, ds0, p0, q0, hargs, rfl, rfl, h0, r0⟩ := trodAll_cons hA
  obtain ⟨v1, vs1, d1, ds1, p1, q1, rfl, rfl, rfl, h1, r1⟩ := trodAll_cons r0
  obtain ⟨v2, vs2, d2, ds2, p2, q2, rfl, rfl, rfl, h2, r2⟩ := trodAll_cons r1
  obtain ⟨rfl, rfl, rfl⟩ := trodAll_nil r2
  obtain rfl : args = #[v0, v1, v2] := by cases args; simp_all
  obtain ⟨rfl, rfl⟩ := trodVars_none hV
  obtain ⟨l, u, rfl, hs, _⟩ := arg_line (hval 0 26 v0 rfl rfl) h0
  obtain ⟨cu, hu, _⟩ := arg_ints (hval 1 36 v1 rfl rfl) h1
  obtain ⟨a, b, rfl⟩ := arg_pair Try.underlying61 Try.underlying3 (by kernel_rfl) (by kernel_rfl) (hval 2 61 v2 rfl rfl) h2
  refine (balanceCall u v1 l cu (a, b) W hs hu).mono fun e W' ⟨he, hb⟩ => ?_
  subst he
  exact ⟨_, rfl, post_true lawLaid balanceParams rfl Try.underlying4 rfl ⟨rfl, rfl, rfl⟩ hW' hb⟩
theorem cableBalance_holds : Rows.CableBalanceSaid :=
  OpenClaim.holds_of_wide 5 Try.f5 rfl rfl rfl rfl rfl rfl rfl ⟨rfl, rfl, rfl, rfl, rfl⟩ rfl rfl rfl rfl rfl (by kernel_rfl) Try.func5 (by kernel_rfl)
    (of_decide_eq_true (by kernel_rfl)) (by unfold Func.isWrapper; first | (rw [if_pos (by decide +kernel)]; kernel_rfl) | (rw [if_neg (by decide +kernel)]; exact ⟨rfl, rfl⟩))
    (fun os started H enc _ => balance_lifted os started H enc)
end Go.Proofs.Ytghglgaimhfedaa
