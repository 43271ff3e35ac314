/-
  The clean machine and the model: an operation that calls.
-/
import Derived.Test.YthffbfkcmbgghaaGreatZCp
set_option linter.all false
namespace Go.Proofs.YthffbfkcmbgghaaGreat.Cm
open Go Go.RowKit
variable [Env]
section
variable {P : Program} {φ : Phi} {h : CH} {w : World} {run : Runs} {ts : Tr CV} {a : Act}
theorem run_enter {f : FuncId} {fn : Func} {c : Code} (hf : P.funcs[f]? = some fn) (hname : (fn.name == "runtime.NumGoroutine") = false) (hb : fn.body = some c) (args : Array Value) (w : World) : (callFunc f args).run P w = .ok (.enter f args) w := by
 have h1 : fn.name ≠ "runtime.NumGoroutine" := by simpa using hname
 simp [callFunc, hf, h1, hb]
theorem op_call {F : Fence} (hF : FW F) (hrun : RunsOk P run) {n : Nat} {dst : Option Tmp} {ty : TypeId} {pos : String} {af : Array Edge} {gd : Option (Nat × Bool)} {k : Call} {c : CV} {h' : CH} {lw : Nat} (e : opC P run (.call k) ts h = some (c, h', lw)) (hh : HR φ h w) (he : EvL φ ts a (Op.call k).operands.toList) :
  Goes P F n ⟨dst, .call k, ty, pos, af, gd⟩ a w φ h.n lw c h' := by
 obtain ⟨callee, ⟨args⟩, ⟨atys⟩⟩ := k
 simp only [opC] at e
 split at e
 ·rename_i cs hcs
  have hargs : VRs φ cs (args.map a.eval) := args_rel (he.mono fun x hx => by cases callee <;> simp [Op.operands, Call.operands] <;> first | exact hx | exact .inr hx) hcs
  split at e
  ·-- a function value
   rename_i f
   split at e
   ·rename_i g hg
    have hgv : VR φ g (a.eval f) := he f (by simp [Op.operands, Call.operands]) g hg
    unfold invokeC at e
    split at e
    ·rename_i gf first cap
     generalize hfv : a.eval f = fv at hgv
     cases hgv with
     | fn h1 h2 =>
      rename_i first' cap'
      obtain ⟨⟨fn, cd, q1, q2, q3⟩, _, _, hc⟩ := call_in hrun e hh ((h1.append hargs).append h2) hF (n - 1)
      intro K Q hk
      refine ⟨fun f _ => hF.fn f, ?_⟩
      rw [Oper.semAt_eq _ _ _ (fun _ => by simp)]
      have hx : (execOp a.eval ⟨dst, .call ⟨.value f, ⟨args⟩, ⟨atys⟩⟩, ty, pos, af, gd⟩).run P w = .ok (.enter gf ⟨first' ++ args.map a.eval ++ cap'⟩) w := by
       have := run_enter q1 q3 q2 (⟨first' ++ args.map a.eval ++ cap'⟩ : Array Value) w
       simpa [execOp, resolve, hfv, Deferred.ofValue, invoke] using this
      rw [hx]
      refine ⟨hF.dep n, hc.mono ?_⟩
      rintro en w' ⟨v, φ', rfl, g1, g2, g3⟩
      exact hk φ' v w' g1 g2 g3
    ·rename_i b
     generalize hfv : a.eval f = fv at hgv
     cases hgv with
     | yield hp =>
      rename_i p
      obtain ⟨_, fnid, tm, asg, body, hy, hr⟩ := yield_in hrun e hh hargs hp hF (n - 1)
      intro K Q hk
      refine ⟨fun f _ => hF.fn f, ?_⟩
      rw [Oper.semAt_eq _ _ _ (fun _ => by simp)]
      have hx : (execOp a.eval ⟨dst, .call ⟨.value f, ⟨args⟩, ⟨atys⟩⟩, ty, pos, af, gd⟩).run P w = .ok (.round p.r fnid tm asg body) w := by
       simpa [execOp, resolve, hfv, Deferred.ofValue, invoke] using hy
      rw [hx]
      refine ⟨hF.dep n, hr.mono ?_⟩
      rintro en w' ⟨v, φ', rfl, g1, g2, g3⟩
      exact hk φ' v w' g1 g2 g3
    ·cases e
   ·cases e
  ·-- len
   split at e
   ·rename_i x t
    refine goes_v hF e hh (fun _ => by simp) fun c hc => ?_
    obtain ⟨xo, rfl⟩ : ∃ xo, args = [xo] := by
     have := hargs.len
     simp at this
     exact List.length_eq_one_iff.1 this.symm
    cases hargs with
    | cons h1 t1 =>
     obtain ⟨u, hr, hv⟩ := len_rel (P := P) hh (ty := ty) h1.nn hc
     exact ⟨u, by simp [execOp, resolve, invoke, builtin, hr], hv⟩
   ·cases e
  ·-- append
   split at e
   ·rename_i s x t tx
    split at e
    ·rename_i el hu
     obtain ⟨so, xo, rfl⟩ : ∃ so xo, args = [so, xo] := by
      have := hargs.len
      simp at this
      match args, this with
      | [so, xo], _ => exact ⟨so, xo, rfl⟩
     cases hargs with
     | cons h1 t1 => cases t1 with
      | cons h2 t2 =>
       obtain ⟨u, w', φ', hr, r2, r3, r4⟩ := append_rel (P := P) (ty := ty) hh hu h1.nn h2.nn e
       exact goes_value hF (fun _ => by simp) (by simp [execOp, resolve, invoke, builtin, hr]) r2 r3 r4
    ·rename_i kn hu
     obtain ⟨so, xo, rfl⟩ : ∃ so xo, args = [so, xo] := by
      have := hargs.len
      simp at this
      match args, this with
      | [so, xo], _ => exact ⟨so, xo, rfl⟩
     cases hargs with
     | cons h1 t1 => cases t1 with
      | cons h2 t2 =>
       obtain ⟨u, w', φ', hr, r2, r3, r4⟩ := appendZ_rel (P := P) (ty := ty) hh hu h1.nn h2.nn e
       exact goes_value hF (fun _ => by simp) (by simp [execOp, resolve, invoke, builtin, hr]) r2 r3 r4
    ·cases e
   ·cases e
  ·-- cap
   split at e
   ·rename_i x t
    refine goes_v hF e hh (fun _ => by simp) fun c hc => ?_
    obtain ⟨xo, rfl⟩ : ∃ xo, args = [xo] := by
     have := hargs.len
     simp at this
     exact List.length_eq_one_iff.1 this.symm
    cases hargs with
    | cons h1 t1 =>
     obtain ⟨u, hr, hv⟩ := cap_rel (P := P) (w := w) (ty := ty) h1.nn hc
     exact ⟨u, by simp [execOp, resolve, invoke, builtin, hr], hv⟩
   ·cases e
  ·-- copy
   split at e
   ·rename_i s x t tx
    obtain ⟨so, xo, rfl⟩ : ∃ so xo, args = [so, xo] := by
     have := hargs.len
     simp at this
     match args, this with
     | [so, xo], _ => exact ⟨so, xo, rfl⟩
    cases hargs with
    | cons h1 t1 => cases t1 with
     | cons h2 t2 =>
      obtain ⟨u, w', hr, r2, r3, r4⟩ := copy_rel (P := P) (tx := tx) (ty := ty) hh h1.nn h2.nn e
      exact goes_value hF (fun _ => by simp) (by simp [execOp, resolve, invoke, builtin, hr]) r2 r3 r4
   ·cases e
  ·refine goes_v hF e hh (fun _ => by simp) fun c hc => ?_
   have hm : ∃ u, (Builtin.min_ ⟨atys⟩ ty ⟨args.map a.eval⟩).run P w = .ok u w ∧ VR φ c u := by
    generalize args.map a.eval = vs at hargs
    unfold minC at hc
    split at hc
    ·split at hc
     ·rename_i q hq
      obtain ⟨kd, ex⟩ := q
      cases hargs with
      | cons h1 t1 =>
       obtain ⟨u, hr, hv⟩ := min_rel (P := P) h1 t1 hc w
       have h2 := exOf_rel h1 hq
       subst h2
       exact ⟨u, by simpa [Builtin.min_] using hr, hv⟩
     ·cases hc
    ·cases hc
   obtain ⟨u, hr, hv⟩ := hm
   exact ⟨u, by simp [execOp, resolve, invoke, builtin, hr], hv⟩
  ·refine goes_v hF e hh (fun _ => by simp) fun c hc => ?_
   have hm : ∃ u, (Builtin.max_ ⟨atys⟩ ty ⟨args.map a.eval⟩).run P w = .ok u w ∧ VR φ c u := by
    generalize args.map a.eval = vs at hargs
    unfold minC at hc
    split at hc
    ·split at hc
     ·rename_i q hq
      obtain ⟨kd, ex⟩ := q
      cases hargs with
      | cons h1 t1 =>
       obtain ⟨u, hr, hv⟩ := min_rel (P := P) h1 t1 hc w
       have h2 := exOf_rel h1 hq
       subst h2
       exact ⟨u, by simpa [Builtin.max_] using hr, hv⟩
     ·cases hc
    ·cases hc
   obtain ⟨u, hr, hv⟩ := hm
   exact ⟨u, by simp [execOp, resolve, invoke, builtin, hr], hv⟩
  ·refine goes_v hF e hh (fun _ => by simp) fun c hc => ?_
   rw [Option.bind_eq_some_iff] at hc
   obtain ⟨vs, h1, h2⟩ := hc
   obtain ⟨u, hr, hv⟩ := lit_rel (P := P) (φ := φ) h2 w
   rw [← plains_rel h1 hargs] at hr
   have hr : (Builtin.complex_ ⟨atys⟩ ty ⟨args.map a.eval⟩).run P w = .ok u w := hr
   exact ⟨u, by simp [execOp, resolve, invoke, builtin, hr], hv⟩
  ·refine goes_v hF e hh (fun _ => by simp) fun c hc => ?_
   rw [Option.bind_eq_some_iff] at hc
   obtain ⟨vs, h1, h2⟩ := hc
   obtain ⟨u, hr, hv⟩ := lit_rel (P := P) (φ := φ) h2 w
   rw [← plains_rel h1 hargs] at hr
   have hr : (Builtin.real_ ⟨atys⟩ ty ⟨args.map a.eval⟩).run P w = .ok u w := hr
   exact ⟨u, by simp [execOp, resolve, invoke, builtin, hr], hv⟩
  ·refine goes_v hF e hh (fun _ => by simp) fun c hc => ?_
   rw [Option.bind_eq_some_iff] at hc
   obtain ⟨vs, h1, h2⟩ := hc
   obtain ⟨u, hr, hv⟩ := lit_rel (P := P) (φ := φ) h2 w
   rw [← plains_rel h1 hargs] at hr
   have hr : (Builtin.imag_ ⟨atys⟩ ty ⟨args.map a.eval⟩).run P w = .ok u w := hr
   exact ⟨u, by simp [execOp, resolve, invoke, builtin, hr], hv⟩
  ·cases e
 ·cases e
theorem op_in {F : Fence} (hF : FW F) (hrun : RunsOk P run) {n : Nat} {o : Oper} {c : CV} {h' : CH} {lw : Nat} (e : opC P run o.op ts h = some (c, h', lw)) (hh : HR φ h w) (he : EvL φ ts a o.op.operands.toList) : Goes P F n o a w φ h.n lw c h' := by
 obtain ⟨dst, op, ty, pos, af, gd⟩ := o
 by_cases hc : ∃ k, op = .call k
 ·obtain ⟨k, rfl⟩ := hc
  exact op_call hF hrun e hh he
 ·exact op_plain hF e hh he fun k hk => hc ⟨k, hk⟩
end
end Go.Proofs.YthffbfkcmbgghaaGreat.Cm
