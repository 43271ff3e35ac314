/-
  'CableWound' returns true for every input, and leaves its arguments as they were: a path in reverse order has the opposite winding, one that begins at its second position the same, one that is moved together with the post the same, a path and then a second one from its first position the sum of both, and a square around the post adds as many turns as it is gone around (paths of at most 10 positions, coordinates up to 4000 in size: outside of that the statement says nothing).
-/
import Derived.Test.YtghglgaimhfedaaQM
import Derived.Test.YtghglgaimhfedaaZTj
namespace Go.Proofs.Ytghglgaimhfedaa
open Go.ChangeShapes Go.WideShapes Go.ChangeAt Go.RowKit

theorem woundParams : ∀ t ∈ Try.f12.params.toList, Try.prog.readableRec t = true ∧ t < Try.prog.types.size := by
  have h : (Try.f12.params.toList.all fun t => Try.prog.readableRec t && decide (t < Try.prog.types.size)) = true := by kernel_rfl
  intro t ht
  have := List.all_eq_true.1 h t ht
  simpa using this
theorem woundCall (v0 v1 : Value) (path more : List Pt) (p m : Pt) (t : Int) (w : World) (hs : Sl e2 2 w v0 path) (hu : Sl e2 2 w v1 more) :
    Calls Try.prog 12 #[v0, v1, .agg #[.int .i64 p.1, .int .i64 p.2, .int .i64 m.1, .int .i64 m.2, .int .i64 t]] w fun e w' => e = .returned (.bool true) ∧ Below w.heap.size w w' := by
  by_cases hn : 0 < path.length ∧ path.length ≤ 10 ∧ more.length ≤ 10 ∧ (-3 ≤ t ∧ t ≤ 3) ∧ smB p = true ∧ smB m = true
  · obtain ⟨h0, h1, h2, ⟨h3, h4⟩, h5, h6⟩ := hn
    by_cases hps : ∀ k (h : k < path.length), smB path[k] = true
    · by_cases hms : ∀ k (h : k < more.length), smB more[k] = true
      · have hpm : ∀ q ∈ path, smB q = true := fun q hq => by
          obtain ⟨k, hk, rfl⟩ := List.getElem_of_mem hq
          exact hps k hk
        have hmm : ∀ q ∈ more, smB q = true := fun q hq => by
          obtain ⟨k, hk, rfl⟩ := List.getElem_of_mem hq
          exact hms k hk
        obtain ⟨a, ha⟩ : ∃ a, path[0]? = some a := ⟨_, List.getElem?_eq_getElem h0⟩
        have hsa : smB a = true := hpm a (List.mem_of_getElem? ha)
        have hsec : ∀ q ∈ a :: more, smB q = true := fun q hq => by
          rcases List.mem_cons.1 hq with rfl | hq
          · exact hsa
          · exact hmm q hq
        have hone : ∀ b, path[0]? = some b → b = a := fun b hb => by rw [ha] at hb; exact (Option.some.inj hb).symm
        rcases windingOf_two h0 (by omega) hpm h5 with ⟨n, hn⟩ | hn
        · rcases windingOf_two (xs := a :: more) (by simp) (by simp; omega) hsec h5 with ⟨k, hk⟩ | hk
          · obtain ⟨w1, w2, w3, w4⟩ := wound_all (m := m) ha h1 h2 hpm hmm h5 h6 hn hk
            exact wound_ok v0 v1 path more p m t w hs hu h0 h1 h2 h3 h4 h5 h6 hps hms n k hn (fun b hb => by rw [hone b hb]; exact hk) (winding_bd hn) (winding_bd hk) _ _ _ rfl rfl rfl w1 w2 w3 (fun b hb => by rw [hone b hb]; exact w4) (fun ht => squaresP_ok h5 h3 h4 ht)
          · exact wound_on v0 v1 path more p m t w hs hu h0 h1 h2 h3 h4 h5 h6 hps hms n 0 0 13 hn (fun b hb => by rw [hone b hb]; exact hk) (.inr (.inl ⟨rfl, rfl⟩))
        · rcases windingOf_two (xs := a :: more) (by simp) (by simp; omega) hsec h5 with ⟨k, hk⟩ | hk
          · exact wound_on v0 v1 path more p m t w hs hu h0 h1 h2 h3 h4 h5 h6 hps hms 0 13 k 0 hn (fun b hb => by rw [hone b hb]; exact hk) (.inl ⟨rfl, rfl⟩)
          · exact wound_on v0 v1 path more p m t w hs hu h0 h1 h2 h3 h4 h5 h6 hps hms 0 13 0 13 hn (fun b hb => by rw [hone b hb]; exact hk) (.inr (.inr ⟨rfl, rfl⟩))
      · exact wound_b2 v0 v1 path more p m t w hs hu h0 h1 h2 h3 h4 h5 h6 hps hms
    · exact wound_b1 v0 v1 path more p m t w hs hu h0 h1 h2 h3 h4 h5 h6 hps
  · exact wound_far v0 v1 path more p m t w hs hu hn
set_option maxRecDepth 100000 in
theorem wound_lifted (os : Os) (started : os.Started) (H : Type) (enc : TypeId × Value → H) :
    ReturnsInHanded {} Try.checked os 12 .any (Rows.cableWoundSpec.pre6 enc Try.prog Try.f12 Rows.cableWoundRow.domain false) (Rows.cableWoundSpec.post enc Try.prog Try.f12 false true false false) := by
  refine returnsInHanded_of_change (C := Try.checked) lawOwn started (by kernel_rfl) Try.func12
    (ChangeSpec.witness6 (enc := enc) (C := Try.checked) false ⟨#[], #[.slice none 0 0, .slice none 0 0, .agg #[.int .i64 0, .int .i64 0, .int .i64 0, .int .i64 0, .int .i64 0]], []⟩ 8 (by kernel_rfl) (by kernel_rfl) (by kernel_rfl) (by kernel_rfl)) ?_
  intro W base args ds gs before hval0 hW hcnd _
  have hval : ∀ (j : Nat) t v, Try.f12.params[j]? = some t → args[j]? = some v → Value.okWide Try.prog W .any base t v := hval0
  have hW' : DataW.Whole enc Try.prog Try.f12.params.toList Rows.cableWoundSpec.vars false W args.toList ds gs before := hW
  obtain ⟨p, q, hA0, hV, rfl, hfz, hnd⟩ := hW
  have hA : DataW.TrodAll enc Try.prog W 0 (fun _ => true) true Try.f12.params.toList args.toList ds p := hA0
  rw [Try.params12] at hA hval
  obtain ⟨v0, vs0, d0, ds0, p0, q0, hargs, rfl, rfl, h0, r0⟩ := trodAll_cons hA
  obtain ⟨v1, vs1, d1, ds1, p1, q1, rfl, rfl, rfl, h1, r1⟩ := trodAll_cons r0
  obtain ⟨v2, vs2, d2, ds2, p2, q2, rfl, rfl, rfl, h2, r2⟩ := trodAll_cons r1
  obtain ⟨rfl, rfl, rfl⟩ := trodAll_nil r2
  obtain rfl : args = #[v0, v1, v2] := by cases args; simp_all
  obtain ⟨rfl, rfl⟩ := trodVars_none hV
  obtain ⟨path, hs, _⟩ := arg_pairs Try.underlying107 Try.underlying61 Try.underlying3 (by kernel_rfl) (by kernel_rfl) (hval 0 107 v0 rfl rfl) h0
  obtain ⟨more, hu, _⟩ := arg_pairs Try.underlying107 Try.underlying61 Try.underlying3 (by kernel_rfl) (by kernel_rfl) (hval 1 107 v1 rfl rfl) h1
  obtain ⟨p9, m9, t9, rfl⟩ := arg_post (hval 2 117 v2 rfl rfl) h2
  refine (woundCall v0 v1 path more p9 m9 t9 W hs hu).mono fun e W' ⟨he, hb⟩ => ?_
  subst he
  exact ⟨_, rfl, post_true lawLaid woundParams rfl Try.underlying4 rfl ⟨rfl, rfl, rfl⟩ hW' hb⟩
theorem cableWound_holds : Rows.CableWoundSaid :=
  OpenClaim.holds_of_wide 12 Try.f12 rfl rfl rfl rfl rfl rfl rfl ⟨rfl, rfl, rfl, rfl, rfl⟩ rfl rfl rfl rfl rfl (by kernel_rfl) Try.func12 (by kernel_rfl)
    (of_decide_eq_true (by kernel_rfl)) (by unfold Func.isWrapper; first | (rw [if_pos (by decide +kernel)]; kernel_rfl) | (rw [if_neg (by decide +kernel)]; exact ⟨rfl, rfl⟩))
    (fun os started H enc _ => wound_lifted os started H enc)
end Go.Proofs.Ytghglgaimhfedaa
