/-
  The clean machine and the model: functions.
-/
import Derived.Test.YthffbfkcmbgghaaGreatZCk
set_option linter.all false
namespace Go.Proofs.YthffbfkcmbgghaaGreat.Cm
open Go Go.RowKit
section
variable [Val]
inductive DRs (φ : Phi) : List Nat → List Deferred → Prop
 | nil : DRs φ [] []
 | cons {d : Nat} {p : Pl} {l : List Nat} {l' : List Deferred} (h : φ d = some p) (t : DRs φ l l') : DRs φ (d :: l) ({ target := .collected p.r, args := #[] } :: l')
theorem DRs.mono {φ φ' : Phi} (hle : φ.le φ') : ∀ {l : List Nat} {l' : List Deferred}, DRs φ l l' → DRs φ' l l'
 | _, _, .nil => .nil
 | _, _, .cons h t => .cons (hle _ _ h) (t.mono hle)
structure SR (φ : Phi) (s : St) (a : Act) (w : World) : Prop where
 tr : TR φ s.ts s.nt a.tmps
 df : DRs φ s.df a.defers
 hr : HR φ s.h w
def CE.way : CE → Exit
 | .normal => .normal
 | .exit id => .exit id
 | .ret => .ret
 | .goto l => .goto l
def CPost (φ : Phi) (s : St) (e : CE) (s' : St) (w : World) : Exit → Act → World → Prop := fun x a' w' =>
 x = e.way ∧ ∃ φ', Went φ s.h.n s'.lw w φ' w' ∧ SR φ' s' a' w'
end
variable [Env]
structure FW (F : Fence) : Prop where
 fn : ∀ f, F.fn f
 depth : F.depth = none
 dead : F.alive = false
theorem FW.inRound {F : Fence} (h : FW F) (l : Nat) : FW (F.inRound l) := ⟨h.fn, h.depth, h.dead⟩
theorem FW.plain {F : Fence} (h : FW F) : FW F.plain := ⟨h.fn, h.depth, h.dead⟩
theorem FW.plain_wide {F : Fence} (h : FW F) : F.plain = Fence.wide := by
 have h1 : F.fn = fun _ => True := funext fun f => propext ⟨fun _ => trivial, fun _ => h.fn f⟩
 obtain ⟨fn, depth, alive, round⟩ := F
 have h2 := h.depth
 have h3 := h.dead
 simp only at h1 h2 h3
 subst h1; subst h2; subst h3
 rfl
theorem FW.dep {F : Fence} (h : FW F) (n : Nat) : F.depth.isSome = true → 1 ≤ n := fun e => by rw [h.depth] at e; cases e
theorem callsIn_plain {F : Fence} {n : Nat} {P : Program} {f : FuncId} {args : Array Value} {w : World} {R : Ending → World → Prop} (h : CallsIn F.plain n P f args w R) : CallsIn F n P f args w R := h
def RdIs (F : Fence) (φ : Phi) : Option Nat → Prop
 | none => F.round = none
 | some l => ∃ p, φ l = some p ∧ F.round = some p.r
structure KnownOk (P : Program) : Prop where
 cod : ∀ l, Val.cod l = rangeAt P l
 calls : ∀ f args h c h' lw, Dec.known f args h = some (c, h', lw) → (∃ fn cd, P.funcs[f]? = some fn ∧ fn.body = some cd ∧ (fn.name == "runtime.NumGoroutine") = false) ∧
 ∀ (φ : Phi) (args' : List Value) (w : World), HR φ h w → VRs φ args args' → Calls P f ⟨args'⟩ w fun e w' => ∃ v φ', e = .returned v ∧ Went φ h.n lw w φ' w' ∧ HR φ' h' w' ∧ VR φ' c v
structure RunsOk (P : Program) (run : Runs) : Prop where
 kn : KnownOk P
 lw : ∀ {rd l c s e s'}, run rd l c s = some (e, s') → s'.lw ≤ s.lw ∧ s.h.n ≤ s'.h.n
 wp : ∀ {rd l c s e s'}, run rd l c s = some (e, s') → LocOk P l c → ∀ (F : Fence) (n : Nat) (φ : Phi) (a : Act) (w : World), FW F → RdIs F φ rd → SR φ s a w → c.wpIn F n P (CPost φ s e s' w) a w
section
variable {P : Program} {φ : Phi} {h : CH} {w : World} {run : Runs}
theorem loadVar_rel (hh : HR φ h w) {t : TypeId} {x c : CV} {v : Value} (hv : VR φ x v) (e : loadC P h t x = some c) : ∃ a u, v = .pointer (some a) ∧ (loadVar t a).run P w = .ok u w ∧ VR φ c u := by
 obtain ⟨u, hr, hc⟩ := load_rel hh hv e
 cases hv <;> first
  | (cases e; done)
  | exact ⟨_, u, rfl, by simpa [Instr.loadAt, Instr.sureAddr] using hr, hc⟩
def resV (tm : Array Value) : ResultVar → Sem Value
 | .tmp t => pure (tm.getD t undef)
 | .cell b t => do loadVar t (← asAddr (tm.getD b undef))
theorem results_eq (fn : Func) (tm : Array Value) : results fn tm = (do let vs ← fn.results.mapM (resV tm); pure (if h : vs.size = 1 then vs[0] else .tuple vs)) := by
 unfold results
 congr 1
theorem res_rel {s : St} {a : Act} (hs : SR φ s a w) : ∀ {rs : List ResultVar} {l : List CV}, resC P s rs = some l →
  ∃ vs, (rs.mapM (resV a.tmps) : Sem (List Value)).run P w = .ok vs w ∧ VRs φ l vs
 | [], l, e => by injection e with e; subst e; exact ⟨[], by simp, .nil⟩
 | .tmp t :: rs, l, e => by
  unfold resC at e
  split at e
  ·rename_i c cs h1 h2
   injection e with e; subst e
   obtain ⟨vs, hr, hv⟩ := res_rel hs h2
   obtain ⟨v, hv1, hv2⟩ := hs.tr.get _ _ h1
   refine ⟨v :: vs, ?_, .cons hv2 hv⟩
   have hg : a.tmps.getD t undef = v := by simp [hv1]
   rw [List.mapM_cons]
   show ((pure (a.tmps.getD t undef) : Sem Value) >>= _).run P w = _
   simp only [hg, pure_bind, Sem.run_bind, hr, Result.andThen_ok, Sem.run_pure]
  ·cases e
 | .cell b t :: rs, l, e => by
  unfold resC at e
  split at e
  ·rename_i c cs h1 h2
   injection e with e; subst e
   obtain ⟨vs, hr, hv⟩ := res_rel hs h2
   rw [Option.bind_eq_some_iff] at h1
   obtain ⟨x, hx, hl⟩ := h1
   obtain ⟨v, hv1, hv2⟩ := hs.tr.get _ _ hx
   obtain ⟨ad, u, rfl, hu, hc⟩ := loadVar_rel (P := P) hs.hr hv2 hl
   refine ⟨u :: vs, ?_, .cons hc hv⟩
   have hg : a.tmps.getD b undef = .pointer (some ad) := by simp [hv1]
   have ha : asAddr (a.tmps.getD b undef) = pure ad := by rw [hg]; rfl
   rw [List.mapM_cons]
   show ((asAddr (a.tmps.getD b undef) >>= fun x => loadVar t x) >>= _).run P w = _
   simp only [ha, pure_bind, Sem.run_bind, hu, hr, Result.andThen_ok, Sem.run_pure]
  ·cases e
theorem results_rel {s : St} {a : Act} (hs : SR φ s a w) {fn : Func} {l : List CV} (e : resC P s fn.results.toList = some l) : ∃ v, (results fn a.tmps).run P w = .ok v w ∧ VR φ (one l) v := by
 obtain ⟨vs, hr, hv⟩ := res_rel hs e
 obtain ⟨nm, og, ta, ps, rt, nf, nt, ⟨rs⟩, bd, nr⟩ := fn
 have hm : ∀ (f : ResultVar → Sem Value), ((⟨rs⟩ : Array ResultVar).mapM f) = List.toArray <$> rs.mapM f := fun f => by
  have := List.mapM_toArray (m := Sem) (f := f) (l := rs)
  exact this
 rw [results_eq]
 simp only [hm, Sem.run_bind, Sem.run_map, hr, Result.andThen_ok, Sem.run_pure]
 cases hv with
 | nil => exact ⟨.tuple #[], by simp, .tup .nil⟩
 | cons h1 t1 => cases t1 with
  | nil => exact ⟨_, by simp, h1⟩
  | cons h2 t2 => exact ⟨_, by simp, .tup (.cons h1 (.cons h2 t2))⟩
end
end Go.Proofs.YthffbfkcmbgghaaGreat.Cm
