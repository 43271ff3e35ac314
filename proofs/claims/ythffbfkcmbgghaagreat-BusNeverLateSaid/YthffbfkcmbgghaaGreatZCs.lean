/-
  The clean machine: what an operation leaves of memory.
-/
import Derived.Test.YthffbfkcmbgghaaGreatZCq
set_option linter.all false
namespace Go.Proofs.YthffbfkcmbgghaaGreat.Cm
open Go Go.RowKit
variable [Env]
namespace Kp
variable {h h' h'' : CH} {lw lw' lw'' : Nat}
theorem refl (h : CH) (lw : Nat) : Kp h h lw := ⟨Nat.le_refl _, fun _ _ _ => rfl, fun h => h, fun _ _ e _ => e⟩
theorem trans (a : Kp h h' lw) (b : Kp h' h'' lw') (h1 : lw'' ≤ lw) (h2 : lw'' ≤ lw') : Kp h h'' lw'' :=
  ⟨Nat.le_trans a.n b.n, fun x hx hn => (b.same x (by omega) (by have := a.n; omega)).trans (a.same x (by omega) hn), fun hw => b.wf (a.wf hw), fun x o e1 e2 => a.ng x o (b.ng x o e1 e2) e2⟩
theorem weak (a : Kp h h' lw) (h1 : lw' ≤ lw) : Kp h h' lw' := ⟨a.n, fun x hx => a.same x (by omega), a.wf, a.ng⟩
theorem new (h : CH) (o : CObj) (lw : Nat) (ho : o.isGlob = false := by rfl) : Kp h (h.new o) lw :=
  ⟨Nat.le_succ _, fun x _ hn => by rw [h.get_new, if_neg (by omega)], (fun hw x hx => by have hx : h.n + 1 ≤ x := hx; rw [h.get_new, if_neg (by omega)]; exact hw x (by omega)), fun x o' e1 e2 => by
    rw [h.get_new] at e1
    by_cases hx : x = h.n
    · rw [if_pos hx] at e1; injection e1 with e1; subst e1; rw [ho] at e2; cases e2
    · rwa [if_neg hx] at e1⟩
theorem put (h : CH) (b : Nat) (o : CObj) (hb : h.get b ≠ none) (ho : o.isGlob = false := by rfl) : Kp h (h.put b (some o)) b :=
  ⟨Nat.le_refl _, fun x hx _ => by rw [h.get_put, if_neg (by omega)], (fun hw x hx => by
    have hx : h.n ≤ x := hx
    rw [h.get_put, if_neg]
    · exact hw x hx
    · rintro rfl; exact hb (hw x hx)), fun x o' e1 e2 => by
    rw [h.get_put] at e1
    by_cases hx : x = b
    · rw [if_pos hx] at e1; injection e1 with e1; subst e1; rw [ho] at e2; cases e2
    · rwa [if_neg hx] at e1⟩
theorem kill (h : CH) (b : Nat) : Kp h (h.put b none) b :=
  ⟨Nat.le_refl _, fun x hx _ => by rw [h.get_put, if_neg (by omega)], (fun hw x hx => by
    have hx : h.n ≤ x := hx
    rw [h.get_put]; by_cases e : x = b
    · rw [if_pos e]
    · rw [if_neg e]; exact hw x hx), fun x o' e1 e2 => by
    rw [h.get_put] at e1
    by_cases hx : x = b
    · rw [if_pos hx] at e1; cases e1
    · rwa [if_neg hx] at e1⟩
end Kp
def RunKp (run : Runs) : Prop := ∀ {rd l c s e s'}, run rd l c s = some (e, s') → Kp s.h s'.h s'.lw ∧ s'.lw ≤ s.lw
section
variable {P : Program} {h h' : CH} {run : Runs} {ts : Tr CV} {c : CV} {lw : Nat}
theorem vC_kp {oc : Option CV} (e : vC h oc = some (c, h', lw)) : Kp h h' lw := by
  obtain ⟨_, e2, e3⟩ := vC_inv e; subst e2; exact Kp.refl _ _
theorem storeC_kp {t : TypeId} {x y : CV} {b : Nat} (e : storeC P h t x y = some (h', b)) : Kp h h' b := by
  unfold storeC at e
  split at e
  · split at e
    · rename_i l t' hs hb
      obtain ⟨_, e⟩ := bif_some e
      injection e with e; injection e with e1 e2; subst e1; subst e2
      exact Kp.put _ _ _ (by rw [hb]; simp)
    · cases e
  · split at e
    · rename_i hb
      split at e
      · obtain ⟨_, e⟩ := bif_some e
        injection e with e; injection e with e1 e2; subst e1; subst e2
        exact Kp.put _ _ _ (by rw [hb]; simp)
      · cases e
    · cases e
  · cases e
theorem insertC_kp {t : TypeId} {m k x : CV} {b : Nat} (e : insertC P t m k x h = some (h', b)) : Kp h h' b := by
  unfold insertC at e
  split at e
  · split at e
    · rename_i hb
      cases hq : (!(keyC P 20 _ k.cells && aggOk P _ k)) with
      | true => rw [hq] at e; cases e
      | false =>
        rw [hq] at e
        simp only [cond_false] at e
        split at e
        · split at e
          · obtain ⟨_, e⟩ := bif_some e
            injection e with e; injection e with e1 e2; subst e1; subst e2
            exact Kp.put _ _ _ (by rw [hb]; simp)
          · cases e
        · injection e with e; injection e with e1 e2; subst e1; subst e2
          exact Kp.put _ _ _ (by rw [hb]; simp)
        · cases e
    · cases e
  · cases e
theorem buildSliceC0_kp {t : TypeId} {n : Nat} {ps : List (Nat × CV)} (e : buildSliceC0 P t n ps h = some (c, h', lw)) : Kp h h' lw := by
  unfold buildSliceC0 at e
  split at e
  · split at e
    · obtain ⟨_, e⟩ := bif_some e
      split at e
      · injection e with e; injection e with _ e; injection e with e1 e2; subst e1; subst e2
        exact Kp.new _ _ _
      · cases e
    · cases e
  · cases e
theorem buildSliceC_kp {t : TypeId} {n : Nat} {ps : List (Nat × CV)} (e : buildSliceC P t n ps h = some (c, h', lw)) : Kp h h' lw := by
  unfold buildSliceC at e
  cases hn : Nat.beq n 0 with
  | true =>
    rw [hn, cond_true] at e
    split at e
    · injection e with e; injection e with _ e; injection e with e1 e2; subst e1; subst e2
      exact Kp.refl _ _
    · cases e
  | false =>
    rw [hn, cond_false] at e
    exact buildSliceC0_kp e
theorem makeSliceC_kp {t : TypeId} {l k : CV} (e : makeSliceC P t l k h = some (c, h', lw)) : Kp h h' lw := by
  unfold makeSliceC at e
  split at e
  · split at e
    · obtain ⟨_, e⟩ := bif_some e
      injection e with e; injection e with _ e; injection e with e1 e2; subst e1; subst e2
      exact Kp.new _ _ _
    · cases e
  · split at e
    · obtain ⟨_, e⟩ := bif_some e
      split at e
      · injection e with e; injection e with _ e; injection e with e1 e2; subst e1; subst e2
        exact Kp.new _ _ _
      · cases e
    · cases e
  · cases e
theorem appendC0_kp {t : TypeId} {s x : CV} (e : appendC0 P t s x h = some (c, h', lw)) : Kp h h' lw := by
  unfold appendC0 at e
  split at e
  · split at e
    · rename_i z new m _ _
      cases hq : fitsC P _ z new m with
      | false => rw [hq] at e; simp at e
      | true =>
        rw [hq] at e
        simp only [Bool.not_true, cond_false] at e
        split at e
        · by_cases hm : m = 0
          · subst hm
            simp only [Nat.beq, cond_true] at e
            injection e with e; injection e with _ e; injection e with e1 e2; subst e1; subst e2
            exact Kp.refl _ _
          · have hb0 : Nat.beq m 0 = false := by rw [beq_dec]; simp [hm]
            rw [hb0] at e
            simp only [cond_false] at e
            obtain ⟨_, e⟩ := bif_some e
            injection e with e; injection e with _ e; injection e with e1 e2; subst e1; subst e2
            exact Kp.new _ _ _
        · by_cases hm : m = 0
          · subst hm
            simp only [Nat.beq, cond_true] at e
            injection e with e; injection e with _ e; injection e with e1 e2; subst e1; subst e2
            exact Kp.refl _ _
          · have hb0 : Nat.beq m 0 = false := by rw [beq_dec]; simp [hm]
            rw [hb0] at e
            simp only [cond_false] at e
            split at e
            · obtain ⟨_, e⟩ := bif_some e
              injection e with e; injection e with _ e; injection e with e1 e2; subst e1; subst e2
              exact (Kp.kill h _).trans (Kp.new _ _ _) (Nat.le_refl _) (Nat.le_refl _)
            · cases e
        · by_cases hm : m = 0
          · subst hm
            simp only [Nat.beq, cond_true] at e
            injection e with e; injection e with _ e; injection e with e1 e2; subst e1; subst e2
            exact Kp.refl _ _
          · have hb0 : Nat.beq m 0 = false := by rw [beq_dec]; simp [hm]
            rw [hb0] at e
            simp only [cond_false] at e
            split at e
            · split at e
              · obtain ⟨_, e⟩ := bif_some e
                injection e with e; injection e with _ e; injection e with e1 e2; subst e1; subst e2
                exact (Kp.kill h _).trans (Kp.new _ _ _) (Nat.le_refl _) (Nat.le_refl _)
              · cases e
            · cases e
        · cases e
    · cases e
  · cases e
theorem appendR_kp {t : TypeId} {s x : CV} (e : appendR P t s x h = some (c, h', lw)) : Kp h h' lw := by
  unfold appendR at e
  split at e
  · split at e
    · split at e
      · split at e
        · obtain ⟨_, e⟩ := bif_some e
          split at e
          · injection e with e; injection e with _ e; injection e with e1 e2; subst e1; subst e2
            exact Kp.new _ _ _
          · split at e
            · obtain ⟨_, e⟩ := bif_some e
              injection e with e; injection e with _ e; injection e with e1 e2; subst e1; subst e2
              exact (Kp.kill h _).trans (Kp.new _ _ _) (Nat.le_refl _) (Nat.le_refl _)
            · cases e
          · cases e
        · cases e
      · cases e
    · cases e
  · cases e
theorem appendZ_kp {t : TypeId} {s x : CV} (e : appendZ P t s x h = some (c, h', lw)) : Kp h h' lw := by
  unfold appendZ at e
  split at e
  · split at e
    · obtain ⟨_, e⟩ := bif_some e
      injection e with e; injection e with _ e; injection e with e1 e2; subst e1; subst e2
      exact Kp.new _ _ _
    · cases e
  · cases e
theorem appendC_kp {t : TypeId} {s x : CV} (e : appendC P t s x h = some (c, h', lw)) : Kp h h' lw := by
  unfold appendC at e
  split at e
  · rename_i r hr
    injection e with e; subst e
    exact appendC0_kp hr
  · split at e
    · rename_i r hr
      injection e with e; subst e
      exact appendR_kp hr
    · unfold appendS at e
      split at e
      · rename_i b o n z _ _
        split at e
        · rename_i l t' hb
          split at e
          · rename_i c' h'' lw' hr
            injection e with e; injection e with e1 e; injection e with e2 e3
            subst e1; subst e2; subst e3
            have k1 := Kp.put h b (.cells (l.take (o + n * z)) t' false) (by rw [hb]; simp)
            exact k1.trans (appendC0_kp hr) (Nat.min_le_right _ _) (Nat.min_le_left _ _)
          · cases e
        · cases e
      · cases e
theorem dfrs_kp {lw : Nat} : ∀ {df : List Nat} {h h' : CH}, dfrs lw h df = some h' → Kp h h' lw
  | [], h, h', e => by injection e with e; subst e; exact Kp.refl _ _
  | d :: df, h, h', e => by
    unfold dfrs at e
    split at e
    · obtain ⟨h1, e⟩ := bif_some e
      have := ble_le h1
      exact ((Kp.kill h d).weak this).trans (dfrs_kp e) (Nat.le_refl _) (Nat.le_refl _)
    · cases e
theorem callC0_kp (hrun : RunKp run) {f : FuncId} {args : List CV} (e : callC0 P run f args h = some (c, h', lw)) : Kp h h' lw ∧ lw ≤ h.n := by
  unfold callC0 at e
  split at e
  · split at e
    · obtain ⟨_, e⟩ := bif_some e
      have main : ∀ {ce : CE} {s : St} {cd : Code} {fn : Func} {t : Tr CV} {nt : Nat} {lc : Loc}, run none lc cd ⟨t, nt, [], h, h.n⟩ = some (ce, s) → endC P fn s = some (c, h', lw) → Kp h h' lw ∧ lw ≤ h.n := by
        intro ce s cd fn t nt lc hr he
        obtain ⟨g1, g2⟩ := hrun hr
        unfold endC at he
        split at he
        · rename_i h2 hd
          split at he
          · injection he with he; injection he with _ e; injection e with e1 e2; subst e1; subst e2
            exact ⟨g1.trans (dfrs_kp hd) (Nat.le_refl _) (Nat.le_refl _), g2⟩
          · cases he
        · cases he
      split at e
      · rename_i hr; exact main hr e
      · rename_i hr; exact main hr e
      · cases e
    · cases e
  · cases e
theorem callC_kp (hrun : RunKp run) {f : FuncId} {args : List CV} (e : callC P run f args h = some (c, h', lw)) : Kp h h' lw ∧ lw ≤ h.n := by
  unfold callC at e
  split at e
  · rename_i r hc
    injection e with e; subst e
    exact Env.knKp hc
  · exact callC0_kp hrun e
theorem yieldC_kp (hrun : RunKp run) {b : Nat} {args : List CV} (e : yieldC P run b args h = some (c, h', lw)) : Kp h h' lw := by
  unfold yieldC at e
  split at e
  · split at e
    · split at e
      · rename_i s1 hr1
        split at e
        · rename_i hb1
          split at e
          · rename_i e2 s2 hr2
            split at e
            · rename_i hb2
              obtain ⟨g1, g2⟩ := hrun hr1
              obtain ⟨g3, g4⟩ := hrun hr2
              have g4' : s2.lw ≤ s1.lw := g4
              have k1 : Kp h s1.h s2.lw := g1.weak g4'
              have k3 : Kp h s2.h (min s2.lw b) := by
                refine Kp.trans (h' := s1.h.put b (some (.loop .busy _ _ _ _ _ _))) (lw := min s2.lw b) (lw' := s2.lw) ?_ g3 (Nat.le_refl _) (Nat.min_le_left _ _)
                exact k1.trans (Kp.put s1.h b _ (by rw [hb1]; simp)) (Nat.min_le_left _ _) (Nat.min_le_right _ _)
              cases e2 <;>
                (injection e with e; injection e with _ e; injection e with e1 e2; subst e1; subst e2
                 exact k3.trans (Kp.put s2.h b _ (by rw [hb2]; simp)) (Nat.le_refl _) (Nat.min_le_right _ _))
            · cases e
          · cases e
        · cases e
      · cases e
    · cases e
  · cases e
theorem invokeC_kp (hrun : RunKp run) {f : CV} {args : List CV} (e : invokeC P run f args h = some (c, h', lw)) : Kp h h' lw := by
  unfold invokeC at e
  split at e
  · exact (callC_kp hrun e).1
  · exact yieldC_kp hrun e
  · cases e
theorem copyC_kp {t : TypeId} {d s : CV} (e : copyC P t d s h = some (c, h', lw)) : Kp h h' lw := by
  unfold copyC at e
  split at e
  · split at e
    · rename_i hb _
      obtain ⟨_, e⟩ := bif_some e
      injection e with e; injection e with _ e; injection e with e1 e2; subst e1; subst e2
      exact Kp.put _ _ _ (by rw [hb]; simp)
    · cases e
  · cases e
theorem rangeMC_kp {t : TypeId} {x : CV} (e : rangeMC P t x h = some (c, h', lw)) : Kp h h' lw := by
  unfold rangeMC at e
  split at e
  · split at e
    · injection e with e; injection e with _ e; injection e with e1 e2; subst e1; subst e2
      exact Kp.new _ _ _
    · cases e
  · cases e
theorem nextTo_kp {b m since : Nat} {seen : List Nat} {l : List (CV × CV)} (hb : h.get b ≠ none) : ∀ {x : Option Nat}, nextTo h b m since seen l x = some (c, h', lw) → Kp h h' lw ∧ lw ≤ max h.n b
  | none, e => by injection e with e; injection e with _ e; injection e with e1 e2; subst e1; subst e2; exact ⟨Kp.refl _ _, by omega⟩
  | some i, e => by
    simp only [nextTo] at e
    split at e
    · injection e with e; injection e with _ e; injection e with e1 e2; subst e1; subst e2; exact ⟨Kp.put _ _ _ hb, by omega⟩
    · cases e
theorem nextAll_kp {b m since : Nat} {seen : List Nat} {l : List (CV × CV)} (hb : h.get b ≠ none) : ∀ {xs : List (Option Nat)} {outs : List (CV × CH × Nat)}, nextAll h b m since seen l xs = some outs → ∀ r ∈ outs, Kp h r.2.1 r.2.2
  | [], outs, e, r, hr => by injection e with e; subst e; cases hr
  | x :: xs, outs, e, r, hr => by
    unfold nextAll at e
    split at e
    · rename_i r0 rs h1 h2
      injection e with e; subst e
      rcases List.mem_cons.1 hr with rfl | hr
      · exact (nextTo_kp hb (x := x) (c := r.1) (h' := r.2.1) (lw := r.2.2) h1).1
      · exact nextAll_kp hb h2 r hr
    · cases e
theorem nextsC_kp {it : CV} {outs : List (CV × CH × Nat)} (e : nextsC h it = some outs) : ∀ r ∈ outs, Kp h r.2.1 r.2.2 := by
  unfold nextsC at e
  split at e
  · split at e
    · rename_i hb
      split at e
      · obtain ⟨_, e⟩ := bif_some e
        exact nextAll_kp (by rw [hb]; simp) e
      · cases e
    · cases e
  · cases e
theorem nextC_kp {it : CV} (e : nextC h it = some (c, h', lw)) : Kp h h' lw := by
  unfold nextC at e
  split at e
  · rename_i r hr
    injection e with e; subst e
    exact nextsC_kp hr _ List.mem_cons_self
  · cases e
theorem opC_kp (hrun : RunKp run) {op : Op} (e : opC P run op ts h = some (c, h', lw)) : Kp h h' lw := by
  unfold opC at e
  split at e
  all_goals first
    | exact vC_kp e
    | (injection e with e; injection e with _ e; injection e with e1 e2; subst e1; subst e2; exact Kp.new _ _ _)
    | (cases e; done)
    | skip
  all_goals
    split at e
    all_goals first
      | exact vC_kp e
      | exact copyC_kp e
      | exact buildSliceC_kp e
      | exact makeSliceC_kp e
      | exact rangeMC_kp e
      | exact nextC_kp e
      | (obtain ⟨e1, _⟩ := uC_inv e; exact storeC_kp e1)
      | (obtain ⟨e1, _⟩ := uC_inv e; exact insertC_kp e1)
      | (injection e with e; injection e with _ e; injection e with e1 e2; subst e1; subst e2; exact Kp.new _ _ _)
      | (obtain ⟨_, e⟩ := bif_some e; injection e with e; injection e with _ e; injection e with e1 e2; subst e1; subst e2; exact Kp.new _ _ _)
      | (cases e; done)
      | skip
  all_goals
    split at e
    all_goals first
      | exact vC_kp e
      | exact copyC_kp e
      | (cases e; done)
      | skip
  all_goals
    split at e
    all_goals first
      | exact vC_kp e
      | exact copyC_kp e
      | exact invokeC_kp hrun e
      | (cases e; done)
      | skip
  all_goals
    split at e
    · exact appendC_kp e
    · exact appendZ_kp e
    · cases e
end
end Go.Proofs.YthffbfkcmbgghaaGreat.Cm
