/-
  The clean machine and the model: a region in its one order.
-/
import Derived.Test.YthffbfkcmbgghaaGreatZCs
import Derived.OrdersIn
set_option linter.all false
namespace Go.Proofs.YthffbfkcmbgghaaGreat.Cm
open Go Go.RowKit
variable [Env]
section
variable {P : Program} {φ : Phi} {w : World} {run : Runs} {a : Act} {ops : Array Oper}
theorem wanted_rel {ts : Tr CV} {tm : Array Value} {o : Oper} {b : Bool} (ht : ∀ d c, (∃ j wt, o.guard = some (j, wt) ∧ (ops[j]?).bind (·.dst) = some d) → ts.get d = some c → ∃ v, tm[d]? = some v ∧ VR φ c v) (e : wantedC ops ts o = some b) : Region.wanted o (yielded ops tm) = b := by
 unfold wantedC at e
 unfold Region.wanted
 split at e
 ·rename_i hg; rw [hg]; injection e with e
 ·rename_i j want hg
  rw [hg]
  simp only
  split at e
  ·rename_i d hd
   split at e
   ·rename_i x hx
    injection e with e; subst e
    obtain ⟨c0, hx0, hx1⟩ := Option.bind_eq_some_iff.1 hx
    obtain ⟨v, hv, hr0⟩ := ht d _ ⟨j, want, hg, hd⟩ hx0
    have hr := useC_rel hr0 hx1
    cases hr
    have : yielded ops tm j = some x := by unfold yielded; rw [hd]; simp [hv]
    rw [this]; rfl
   ·rename_i hx
    injection e with e; subst e
    obtain ⟨c0, hx0, hx1⟩ := Option.bind_eq_some_iff.1 hx
    obtain ⟨v, hv, hr0⟩ := ht d _ ⟨j, want, hg, hd⟩ hx0
    have hr := useC_rel hr0 hx1
    cases hr with
    | tup hl =>
     cases hl
     have : yielded ops tm j = none := by unfold yielded; rw [hd]; simp [hv]
     rw [this]; rfl
   ·cases e
  ·cases e
theorem SR.put {s : St} (hs : SR φ s a w) (d : Option Tmp) {c : CV} {v : Value} (hc : VR φ c v) : SR φ (putC s d c) (a.put d v) w := by
 cases d with
 | none => exact hs
 | some d =>
  unfold putC Act.put
  simp only
  by_cases hd : d < s.nt
  ·rw [show Nat.blt d s.nt = true from Nat.ble_eq_true_of_le hd]
   exact ⟨hs.tr.put hd hc, hs.df, hs.hr⟩
  ·have hb : Nat.blt d s.nt = false := by
    cases hq : Nat.blt d s.nt with
    | false => rfl
    | true => exact absurd (blt_lt hq) hd
   rw [hb]
   have : a.tmps.setIfInBounds d v = a.tmps := by
    apply Array.ext_getElem?
    intro j
    rw [Array.getElem?_setIfInBounds]
    by_cases e : d = j
    ·subst e
     have hsz : a.tmps.size ≤ d := by rw [hs.tr.size]; exact Nat.le_of_not_lt hd
     rw [if_pos rfl, if_neg (Nat.not_lt_of_le hsz), Array.getElem?_eq_none hsz]
    ·rw [if_neg e]
   rw [this]; exact hs
theorem putC_h (s : St) (d : Option Tmp) (c : CV) : (putC s d c).h = s.h ∧ (putC s d c).lw = s.lw ∧ (putC s d c).nt = s.nt ∧ (putC s d c).df = s.df := by
 cases d with
 | none => exact ⟨rfl, rfl, rfl, rfl⟩
 | some d => unfold putC; simp only; cases Nat.blt d s.nt <;> exact ⟨rfl, rfl, rfl, rfl⟩
theorem stepC_kp (hkp : RunKp run) {o : Oper} {s s1 : St} {b : Nat} (e : stepC P run ops o s = some (s1, b)) : Kp s.h s1.h b ∧ s1.lw = min s.lw (if b < s.h.n then b else s1.lw) ∧ s1.lw ≤ s.lw ∧ Kp s.h s1.h s1.lw := by
 unfold stepC at e
 split at e
 ·split at e
  ·rename_i c h b' ho
   injection e with e; injection e with e1 e2; subst e1; subst e2
   obtain ⟨q1, q2, _⟩ := putC_h { s with h := h, lw := min s.lw b' } o.dst c
   rw [q1, q2]
   have := opC_kp hkp ho
   exact ⟨this, by simp only; split <;> omega, Nat.min_le_left _ _, this.weak (Nat.min_le_right _ _)⟩
  ·cases e
 ·injection e with e; injection e with e1 e2; subst e1; subst e2
  obtain ⟨q1, q2, _⟩ := putC_h s o.dst (.tup [])
  rw [q1, q2]
  exact ⟨Kp.refl _ _, by split <;> omega, Nat.le_refl _, Kp.refl _ _⟩
 ·cases e
theorem evl_of {ts : Tr CV} {nt : Nat} (ht : TR φ ts nt a.tmps) (l : List Operand) : EvL φ ts a l := by
 intro x _ c e
 cases x with
 | tmp t =>
  obtain ⟨c0, e0, e1⟩ := Option.bind_eq_some_iff.1 e
  obtain ⟨v, hv, hr⟩ := ht.get t c0 e0
  have : a.eval (.tmp t) = v := by show a.tmps.getD t undef = v; simp [hv]
  rw [this]; exact useC_rel hr e1
 | const v => exact ofV_rel e
 | global g => cases e
 | func f => injection e with e; subst e; exact .fn .nil .nil
theorem step_in {F : Fence} (hF : FW F) (hrun : RunsOk P run) {n i : Nat} {o : Oper} {s s1 : St} {b : Nat} {K : Act → World → Prop} {Q : Exit → Act → World → Prop} (ho : ops[i]? = some o) (e : stepC P run ops o s = some (s1, b)) (hs : SR φ s a w)
  (hk : ∀ φ' a' w', Went φ s.h.n s1.lw w φ' w' → SR φ' s1 a' w' → K a' w') : wpOpIn F n P ops Q i K a w := by
 unfold wpOpIn
 simp only [ho]
 unfold stepC at e
 split at e
 ·rename_i hw
  rw [wanted_rel (fun d c _ h => hs.tr.get d c h) hw, if_pos rfl]
  split at e
  ·rename_i c h b' hop
   injection e with e; injection e with e1 e2; subst e1; subst e2
   obtain ⟨q1, q2, _⟩ := putC_h { s with h := h, lw := min s.lw b' } o.dst c
   refine op_in hF hrun hop hs.hr (evl_of hs.tr _) K Q fun φ' v w' g1 g2 g3 => hk φ' _ w' ?_ ?_
   ·rw [q2]; exact g1.weak (Nat.min_le_right _ _) (Nat.le_refl _)
   ·exact SR.put (s := { s with h := h, lw := min s.lw b' }) ⟨hs.tr.mono g1.le, hs.df.mono g1.le, g2⟩ o.dst g3
  ·cases e
 ·rename_i hw
  rw [wanted_rel (fun d c _ h => hs.tr.get d c h) hw, if_neg (by simp)]
  injection e with e; injection e with e1 e2; subst e1; subst e2
  exact ⟨fun f _ => hF.fn f, hk φ _ w (Went.refl _ _ _ _) (hs.put o.dst (.tup .nil))⟩
 ·cases e
theorem opsC_kp (hkp : RunKp run) : ∀ {l : List Oper} {s s' : St}, opsC P run ops l s = some s' → Kp s.h s'.h s'.lw ∧ s'.lw ≤ s.lw
 | [], s, s', e => by injection e with e; subst e; exact ⟨Kp.refl _ _, Nat.le_refl _⟩
 | o :: l, s, s', e => by
  unfold opsC at e
  split at e
  ·rename_i s1 b h1
   obtain ⟨g1, g2⟩ := opsC_kp hkp e
   obtain ⟨_, _, g3, g4⟩ := stepC_kp hkp h1
   exact ⟨(g4.weak g2).trans g1 (Nat.le_refl _) (Nat.le_refl _), Nat.le_trans g2 g3⟩
  ·cases e
theorem seq_in {F : Fence} (hF : FW F) (hkp : RunKp run) (hrun : RunsOk P run) {n : Nat} {Q : Exit → Act → World → Prop} : ∀ {l : List Oper} {k : Nat} {s s' : St} {φ : Phi} {a : Act} {w : World}, (∀ j, ops[k + j]? = l[j]?) → opsC P run ops l s = some s' → SR φ s a w →
  (∀ φ' a' w', Went φ s.h.n s'.lw w φ' w' → SR φ' s' a' w' → Q .normal a' w') → wpOpsIn F n P ops Q (List.range' k l.length) a w
 | [], k, s, s', φ, a, w, _, e, hs, hk => by injection e with e; subst e; exact hk φ a w (Went.refl _ _ _ _) hs
 | o :: l, k, s, s', φ, a, w, hl, e, hs, hk => by
  unfold opsC at e
  split at e
  ·rename_i s1 b h1
   rw [List.length_cons, List.range'_succ, wpOpsIn_cons]
   have ho : ops[k]? = some o := by simpa using hl 0
   obtain ⟨_, g2⟩ := opsC_kp hkp e
   obtain ⟨_, _, g3, g4⟩ := stepC_kp hkp h1
   refine step_in hF hrun ho h1 hs fun φ' a' w' r1 r2 => ?_
   refine seq_in hF hkp hrun (fun j => ?_) e r2 fun φ2 a2 w2 r3 r4 => hk φ2 a2 w2 (r1.trans r3 g4.n g2 (Nat.le_refl _)) r4
   have := hl (j + 1)
   rw [List.getElem?_cons_succ] at this
   rw [← this]; congr 1; omega
  ·cases e
end
end Go.Proofs.YthffbfkcmbgghaaGreat.Cm
