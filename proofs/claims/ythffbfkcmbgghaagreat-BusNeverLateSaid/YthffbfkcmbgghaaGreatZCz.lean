/-
  The clean machine and the model: what the machine says of code holds.
-/
import Derived.Test.YthffbfkcmbgghaaGreatZCy
import Derived.LoopNIn
import Derived.RangeFuncNested
set_option linter.all false
namespace Go.Proofs.YthffbfkcmbgghaaGreat.Cm
open Go Go.RowKit
variable [Env]
section
variable {P : Program} {run : Runs} {s s' : St} {φ : Phi} {a : Act} {w : World}
theorem dfrC_kp {rd : Option Nat} {d : Nat} (e : dfrC rd s = some (d, s')) : Kp s.h s'.h s'.lw ∧ s'.lw = s.lw ∧ s'.ts = s.ts ∧ s'.nt = s.nt := by
 unfold dfrC at e
 split at e
 ·split at e
  ·injection e with e; injection e with _ e; subst e; exact ⟨Kp.refl _ _, rfl, rfl, rfl⟩
  ·cases e
 ·injection e with e; injection e with _ e; subst e; exact ⟨Kp.new _ _ _, rfl, rfl, rfl⟩
theorem afterC_inv {pe : Option CE} {c : CE} (e : afterC s pe = some (c, s')) : s' = s ∧ (pe = none ∧ c = .normal ∨ pe = some c) := by
 cases pe with
 | none => injection e with e; injection e with e1 e2; exact ⟨e2.symm, .inl ⟨rfl, e1.symm⟩⟩
 | some x => injection e with e; injection e with e1 e2; subst e1; exact ⟨e2.symm, .inr rfl⟩
theorem endRangeC_inv {b lw : Nat} {h : CH} {c : CE} (e : endRangeC b s h lw = some (c, s')) : ∃ st pe ts nt ps l df, h.get b = some (.loop st pe ts nt ps l df) ∧ st ≠ .busy ∧ s' = { s with h := h.put b (some (.loop .exhausted pe ts nt ps l df)), lw := min s.lw (min lw b) } ∧ (pe = none ∧ c = .normal ∨ pe = some c) := by
 unfold endRangeC at e
 split at e
 ·rename_i st pe ts nt ps l df hb
  have : st ≠ .busy ∧ afterC { s with h := h.put b (some (.loop .exhausted pe ts nt ps l df)), lw := min s.lw (min lw b) } pe = some (c, s') := by
   cases st <;> first
    | (cases e; done)
    | exact ⟨by simp, e⟩
  obtain ⟨h1, h2⟩ := afterC_inv this.2
  exact ⟨st, pe, ts, nt, ps, l, df, hb, this.1, h1, h2⟩
 ·cases e
theorem rangeC_inv {rd : Option Nat} {lc : Loc} {f : Operand} {ps : List Tmp} {c : CE} (e : rangeC P run rd lc f ps s = some (c, s')) :
  ∃ g first cap d s1 v h lw l, lc = some l ∧ argC s.ts f = some (.fn g first cap) ∧ dfrC rd s = some (d, s1) ∧ callC P run g (first ++ [.yield s1.h.n] ++ cap) (s1.h.new (.loop .ready none s1.ts s1.nt ps l d)) = some (v, h, lw) ∧ endRangeC s1.h.n s1 h lw = some (c, s') := by
 unfold rangeC at e
 split at e
 ·rename_i g first cap l hf
  split at e
  ·rename_i d s1 hd
   split at e
   ·rename_i v h lw hc
    exact ⟨g, first, cap, d, s1, v, h, lw, l, rfl, hf, hd, hc, e⟩
   ·cases e
  ·cases e
 ·cases e
theorem rangeC_kp (hkp : RunKp run) {rd : Option Nat} {lc : Loc} {f : Operand} {ps : List Tmp} {c : CE} (e : rangeC P run rd lc f ps s = some (c, s')) : Kp s.h s'.h s'.lw ∧ s'.lw ≤ s.lw := by
 obtain ⟨g, first, cap, d, s1, v, h, lw, l, _, _, hd, hc, he⟩ := rangeC_inv e
 obtain ⟨k1, k2, _, _⟩ := dfrC_kp hd
 obtain ⟨k3, k4⟩ := callC_kp hkp hc
 obtain ⟨st, pe, ts, nt, ps', l', df, hb, _, rfl, _⟩ := endRangeC_inv he
 refine ⟨?_, by show min s1.lw _ ≤ _; rw [k2]; exact Nat.min_le_left _ _⟩
 show Kp s.h (h.put s1.h.n _) (min s1.lw (min lw s1.h.n))
 have h1 : min s1.lw (min lw s1.h.n) ≤ s1.lw := Nat.min_le_left _ _
 have h2 : min s1.lw (min lw s1.h.n) ≤ lw := Nat.le_trans (Nat.min_le_right _ _) (Nat.min_le_left _ _)
 have h3 : min s1.lw (min lw s1.h.n) ≤ s1.h.n := Nat.le_trans (Nat.min_le_right _ _) (Nat.min_le_right _ _)
 have a1 := (k1.weak h1).trans (Kp.new s1.h (.loop .ready none s1.ts s1.nt ps l d) _) (Nat.le_refl _) (Nat.le_refl _)
 have a2 := a1.trans k3 (Nat.le_refl _) h2
 exact a2.trans (Kp.put h s1.h.n _ (by rw [hb]; simp)) (Nat.le_refl _) h3
theorem scopeC_kp (hkp : RunKp run) {rd : Option Nat} {c : Code} {h0 : CH} {lw0 : Nat} : ∀ (f : Nat) {r : Option (CE × St)} {e : CE} {s' : St}, (∀ x s, r = some (x, s) → Kp h0 s.h s.lw ∧ s.lw ≤ lw0) → scopeC run rd c f r = some (e, s') → Kp h0 s'.h s'.lw ∧ s'.lw ≤ lw0
 | 0, r, e, s', hr, h => by
  unfold scopeC at h
  split at h
  ·cases h
  ·exact hr _ _ h
 | f + 1, r, e, s', hr, h => by
  unfold scopeC at h
  split at h
  ·rename_i l s1
   obtain ⟨a1, a2⟩ := hr _ _ rfl
   split at h
   ·rename_i x hx
    refine scopeC_kp hkp f (fun y s2 hy => ?_) h
    obtain ⟨b1, b2⟩ := hkp hy
    exact ⟨(a1.weak b2).trans b1 (Nat.le_refl _) (Nat.le_refl _), Nat.le_trans b2 a2⟩
   ·injection h with h; injection h with _ h; subst h; exact ⟨a1, a2⟩
  ·exact hr _ _ h
theorem codeC_kp (P : Program) (n : Nat) : RunKp (codeC P n) := by
 induction n with
 | zero => intro rd l c s e s' h; cases h
 | succ n ih =>
  intro rd l c s e s' h
  have here : ∀ {x : CE} {y : St}, some (x, y) = some (e, s') → y = s → Kp s.h s'.h s'.lw ∧ s'.lw ≤ s.lw := fun h1 h2 => by
   injection h1 with h1; injection h1 with _ h1; subst h1; subst h2; exact ⟨Kp.refl _ _, Nat.le_refl _⟩
  cases c with
  | skip => exact here h rfl
  | label l => exact here h rfl
  | ret => exact here h rfl
  | exit id => exact here h rfl
  | goto l => exact here h rfl
  | scope c =>
   simp only [codeC] at h
   exact scopeC_kp ih n (fun x s1 hx => ih hx) h
  | region id ops mixed =>
   cases mixed with
   | false =>
    simp only [codeC] at h
    split at h
    ·rename_i s1 h1
     injection h with h; injection h with _ h; subst h
     exact opsC_kp ih h1
    ·cases h
   | true =>
    simp only [codeC] at h
    split at h
    ·rename_i ds s1 h1
     obtain ⟨_, h⟩ := bif_some h
     injection h with h; injection h with _ h; subst h
     exact opsC_kp ih (opsD_opsC h1)
    ·cases h
  | seq x y =>
   simp only [codeC] at h
   split at h
   ·rename_i s1 h1
    obtain ⟨a1, a2⟩ := ih h1
    obtain ⟨b1, b2⟩ := ih h
    exact ⟨(a1.weak b2).trans b1 (Nat.le_refl _) (Nat.le_refl _), Nat.le_trans b2 a2⟩
   ·exact ih h
  | cond x y z =>
   simp only [codeC] at h
   split at h
   ·exact ih h
   ·cases h
  | block id c =>
   simp only [codeC] at h
   split at h
   ·rename_i i s1 h1
    cases hq : Nat.beq i id <;> rw [hq] at h <;> (injection h with h; injection h with _ h; subst h; exact ih h1)
   ·exact ih h
  | loop c =>
   simp only [codeC] at h
   split at h
   ·rename_i s1 h1
    obtain ⟨a1, a2⟩ := ih h1
    obtain ⟨b1, b2⟩ := ih h
    exact ⟨(a1.weak b2).trans b1 (Nat.le_refl _) (Nat.le_refl _), Nat.le_trans b2 a2⟩
   ·exact ih h
  | rangeFunc f ps asg body => exact rangeC_kp ih h
  | _ => cases h
theorem enter_in {F : Fence} {rd : Option Nat} {d : Nat} {s1 : St} (hrd : RdIs F φ rd) (e : dfrC rd s = some (d, s1)) (hs : SR φ s a w) :
  ∃ φ1 mark w1 pd, Went φ s.h.n s.lw w φ1 w1 ∧ SR φ1 s1 { a with defers := mark ++ a.defers } w1 ∧ φ1 d = some pd ∧ ∀ fn ps asg body, (Instr.enterLoop fn a.tmps ps asg body F.round).run P w = .ok (w1.heap.size, mark) (w1.alloc (.loop { state := .ready, pending := none, fn, tmps := a.tmps, params := ps, assign := asg, body, defers := pd.r })) := by
 cases rd with
 | some l =>
  obtain ⟨p, hp, hr⟩ := hrd
  simp only [dfrC] at e
  split at e
  ·rename_i st pe ts nt ps' asg' body' df hb
   injection e with e; injection e with e1 e2; subst e1; subst e2
   obtain ⟨pd, tm, fnid, h1, h2, h3⟩ := hs.hr.ob l _ p hb hp
   refine ⟨φ, [], w, pd, Went.refl _ _ _ _, ⟨hs.tr, by simpa using hs.df, hs.hr⟩, h1, fun fn ps asg body => ?_⟩
   rw [hr]
   exact run_enterLoop_inner h2 _ _ _ _ _
  ·cases e
 | none =>
  injection e with e; injection e with e1 e2; subst e1; subst e2
  have hr : F.round = none := hrd
  obtain ⟨pd, hpd⟩ : ∃ pd : Pl, pd = ⟨w.heap.size, 0, 0⟩ := ⟨_, rfl⟩
  have hpr : pd.r = w.heap.size := by rw [hpd]
  have hw := Went.alloc hs.hr s.lw pd hpr (.deferred (some []))
  refine ⟨φ.put s.h.n pd, [{ target := .collected w.heap.size, args := #[] }], w.alloc (.deferred (some [])), pd, hw, ⟨hs.tr.mono hw.le, ?_, hs.hr.new hpr rfl⟩, Phi.put_same _ _ _, fun fn ps asg body => ?_⟩
  ·rw [← hpr]
   exact .cons (Phi.put_same _ _ _) (hs.df.mono hw.le)
  ·rw [hr, run_enterLoop_outer, World.size_alloc, hpr]
theorem range_in {F : Fence} (hF : FW F) (hrun : RunsOk P run) {n : Nat} {rd : Option Nat} (hrd : RdIs F φ rd) {lc : Loc} {f : Operand} {ps : Array Tmp} {asg body : Code} {c : CE} (hl : LocOk P lc (.rangeFunc f ps asg body)) (e : rangeC P run rd lc f ps.toList s = some (c, s')) (hs : SR φ s a w) :
  (Code.rangeFunc f ps asg body).wpIn F n P (CPost φ s c s' w) a w := by
 obtain ⟨g, first, cap, d, s1, v, h, lw, lo, rfl, hf, hd, hc, he⟩ := rangeC_inv e
 have hcod : Val.cod lo = (asg, body) := by
  rw [hrun.kn.cod lo]
  show (kidC (codeAt P lo.1 lo.2) 0, kidC (codeAt P lo.1 lo.2) 1) = _
  rw [show codeAt P lo.1 lo.2 = _ from hl]
  rfl
 obtain ⟨k1, k2, k3, k4⟩ := dfrC_kp hd
 obtain ⟨φ1, mark, w1, pd, g1, g2, g3, g4⟩ := enter_in (P := P) hrd hd hs
 have hfv := evl_of (φ := φ) (a := a) hs.tr [f] f (by simp) _ hf
 generalize hfe : a.eval f = fv at hfv
 cases hfv with
 | fn q1 q2 =>
  rename_i first' cap'
  refine wpIn_rangeFunc fun fn _ => ?_
  obtain ⟨pl, hpl⟩ : ∃ pl : Pl, pl = ⟨w1.heap.size, 0, 0⟩ := ⟨_, rfl⟩
  have hplr : pl.r = w1.heap.size := by rw [hpl]
  obtain ⟨ob, hob⟩ : ∃ ob : Obj, ob = .loop { state := .ready, pending := none, fn, tmps := a.tmps, params := ps, assign := asg, body, defers := pd.r } := ⟨_, rfl⟩
  have hw := Went.alloc g2.hr (min s1.lw (min lw s1.h.n)) pl hplr ob
  have hr2 : HR (φ1.put s1.h.n pl) (s1.h.new (.loop .ready none s1.ts s1.nt ps.toList lo d)) (w1.alloc ob) := by
   refine g2.hr.new hplr ⟨pd, a.tmps, fn, hw.le _ _ g3, by rw [hob, hcod]; rfl, g2.tr.mono hw.le⟩
  have hle := Phi.le_trans g1.le hw.le
  have hargs : VRs (φ1.put s1.h.n pl) (first ++ [.yield s1.h.n] ++ cap) (first' ++ [.func (.yield pl.r) #[] #[]] ++ cap') := ((q1.mono hle).append (.cons (.yield (Phi.put_same _ _ _)) .nil)).append (q2.mono hle)
  obtain ⟨⟨fd, cd, r1, r2, r3⟩, hlw, hn, hcall⟩ := call_in hrun hc hr2 hargs hF (n - 1)
  refine ⟨w1.heap.size, mark, w1.alloc ob, { target := .fn (.func g) ⟨cap'⟩, args := ⟨first'⟩ ++ #[.func (.yield w1.heap.size) #[] #[]] }, w1.alloc ob, g, ⟨first' ++ [.func (.yield pl.r) #[] #[]] ++ cap'⟩, w1.alloc ob, ?_, ?_, ?_, ?_, ?_, ?_⟩
  ·rw [hob]; exact g4 fn ps asg body
  ·show Sem.run P (Deferred.ofValue (a.eval f) (#[Operand.const (.func (.yield w1.heap.size) #[] #[])].map a.eval)) _ = _
   rw [hfe]; simp [Deferred.ofValue, Act.eval]
  ·exact fun f' _ => hF.fn f'
  ·have := run_enter r1 r3 r2 (⟨first' ++ [.func (.yield pl.r) #[] #[]] ++ cap'⟩ : Array Value) (w1.alloc ob)
   rw [hplr] at this
   rw [hplr]
   simpa [invoke] using this
  ·exact hF.dep n
  ·refine hcall.mono ?_
   rintro en w3 ⟨u, φ3, rfl, m1, m2, m3⟩
   obtain ⟨st, pe, ts, nt, ps', l', df, hb, hst, hs', hpe⟩ := endRangeC_inv he
   have hp3 : φ3 s1.h.n = some pl := m1.le _ _ (Phi.put_same _ _ _)
   obtain ⟨r, t1, t2, t3, t4⟩ := loop_put (st' := .exhausted) (pe' := pe) m2 hp3 hb
   obtain ⟨t5, t6⟩ := t4 _ rfl
   rw [← t3] at t5 t6
   rw [hplr] at t1 t5 t6
   have hend := run_endLoop (P := P) t1 (by rw [t2]; exact hst)
   have x1 : min s1.lw (min lw s1.h.n) ≤ s1.lw := Nat.min_le_left _ _
   have x2 : min s1.lw (min lw s1.h.n) ≤ lw := Nat.le_trans (Nat.min_le_right _ _) (Nat.min_le_left _ _)
   have x3 : min s1.lw (min lw s1.h.n) ≤ s1.h.n := Nat.le_trans (Nat.min_le_right _ _) (Nat.min_le_right _ _)
   have hn0 := k1.n
   have c1 : Went φ s.h.n (min s1.lw (min lw s1.h.n)) w (φ1.put s1.h.n pl) (w1.alloc ob) := g1.trans hw hn0 (by rw [← k2]; exact x1) (Nat.le_refl _)
   have hnn : s1.h.n + 1 ≤ h.n := hn
   have c2 : Went φ s.h.n (min s1.lw (min lw s1.h.n)) w φ3 w3 := c1.trans m1 (by show s.h.n ≤ s1.h.n + 1; omega) (Nat.le_refl _) x2
   generalize hW : w3.putObj w1.heap.size (.loop { r with state := .exhausted }) = W at t5 t6 hend
   have c3 := c2.trans t5 (by omega) (Nat.le_refl _) x3
   refine ⟨_, _, hend, ?_⟩
   have post : ∀ {x : Exit}, x = c.way → CPost φ s c s' w x { a with defers := mark ++ a.defers } W := fun hx => by
    refine ⟨hx, φ3, ?_, ?_⟩
    ·rw [hs']; exact c3
    ·rw [hs']
     have hle3 := Phi.le_trans hw.le m1.le
     exact ⟨g2.tr.mono hle3, g2.df.mono hle3, t6⟩
   rw [t3]
   rcases hpe with ⟨rfl, rfl⟩ | rfl
   ·exact post rfl
   ·cases c with
    | normal => exact wpIn_skip (post rfl)
    | exit id => exact wpIn_exit (post rfl)
    | ret => exact wpIn_ret (post rfl)
    | goto l => exact wpIn_goto (post rfl)
/-! ### Scopes -/
def scopeQ (F : Fence) (n : Nat) (P : Program) (c : Code) : Nat → (Exit → Act → World → Prop) → Exit → Act → World → Prop
 | 0, Q, e, a, w => match e with
  | .goto l => match findLabel c l with
   | some _ => False
   | none => Q (.goto l) a w
  | e => Q e a w
 | f + 1, Q, e, a, w => match e with
  | .goto l => match findLabel c l with
   | some x => x.wpIn F n P (scopeQ F n P c f Q) a w
   | none => Q (.goto l) a w
  | e => Q e a w
theorem stepR_scope' {b : Frame} {a : Act} {k : List Item} {cs : List Frame} {w : World} {c : Code} : step P (lone (b.atR a (.code (.scope c) :: k)) cs w) = .next (lone (b.atR a (.code c :: .inScope c :: k)) cs w) :=
 step_lone_go (by simp [stepG, stepG.exec, Frame.atR])
theorem stepR_inScope' {b : Frame} {a : Act} {k : List Item} {cs : List Frame} {w : World} {c : Code} : step P (lone (b.atR a (.inScope c :: k)) cs w) = .next (lone (b.atR a k) cs w) :=
 step_lone_go (by simp [stepG, stepG.exec, Frame.atR])
theorem arrives_scope {F : Fence} {n : Nat} {c : Code} {Q : Exit → Act → World → Prop} {b : Frame} {k : List Item} {cs : List Frame} {m : Machine} (hb0 : b.roundOf = F.round) (hb : F.fn b.fn) (hr : F.room (cs.length + 1 + n)) :
  ∀ (f : Nat) (e : Exit) (a : Act) (w : World), scopeQ F n P c f Q e a w → ArrivesIn (Machine.fenced P F) P m b (.inScope c :: k) cs e a w → ∃ e' a' w', Q e' a' w' ∧ ArrivesIn (Machine.fenced P F) P m b k cs e' a' w' := by
 intro f
 induction f with
 | zero =>
  intro e a w hq harr
  cases e with
  | normal => exact ⟨.normal, a, w, hq, StepsIn.trans harr (.one (fenced_calm hb hr rfl) stepR_inScope')⟩
  | exit id =>
   have hx : exitTo id (.inScope c :: k) = exitTo id k := by simp [exitTo]
   exact ⟨.exit id, a, w, hq, fun k' hk => harr.1 k' (by rw [hx]; exact hk), fun hr' hk => harr.2 hr' (by rw [hx]; exact hk)⟩
  | goto l =>
   cases hf : findLabel c l with
   | some x => simp only [scopeQ, hf] at hq
   | none =>
    simp only [scopeQ, hf] at hq
    have hx : gotoIn l (.inScope c :: k) = gotoIn l k := by simp [gotoIn, hf]
    exact ⟨.goto l, a, w, hq, fun k' hk => harr.1 k' (by rw [hx]; exact hk), fun hr' hk => harr.2 hr' (by rw [hx]; exact hk)⟩
  | ret => exact ⟨_, a, w, hq, harr⟩
  | panic ch => exact ⟨_, a, w, hq, harr⟩
  | outgrown => exact ⟨_, a, w, hq, harr⟩
 | succ f ih =>
  intro e a w hq harr
  cases e with
  | normal => exact ⟨.normal, a, w, hq, StepsIn.trans harr (.one (fenced_calm hb hr rfl) stepR_inScope')⟩
  | exit id =>
   have hx : exitTo id (.inScope c :: k) = exitTo id k := by simp [exitTo]
   exact ⟨.exit id, a, w, hq, fun k' hk => harr.1 k' (by rw [hx]; exact hk), fun hr' hk => harr.2 hr' (by rw [hx]; exact hk)⟩
  | goto l =>
   cases hf : findLabel c l with
   | some x =>
    simp only [scopeQ, hf] at hq
    obtain ⟨e2, a2, w2, hq2, harr2⟩ := hq b (.inScope c :: k) cs hb0 hb hr
    exact ih e2 a2 w2 hq2 (ArrivesIn.of_steps (harr.1 (.code x :: .inScope c :: k) (by simp [gotoIn, hf])) harr2)
   | none =>
    simp only [scopeQ, hf] at hq
    have hx : gotoIn l (.inScope c :: k) = gotoIn l k := by simp [gotoIn, hf]
    exact ⟨.goto l, a, w, hq, fun k' hk => harr.1 k' (by rw [hx]; exact hk), fun hr' hk => harr.2 hr' (by rw [hx]; exact hk)⟩
  | ret => exact ⟨_, a, w, hq, harr⟩
  | panic ch => exact ⟨_, a, w, hq, harr⟩
  | outgrown => exact ⟨_, a, w, hq, harr⟩
theorem wpIn_scope' {F : Fence} {n : Nat} {c : Code} {Q : Exit → Act → World → Prop} {a : Act} {w : World} (f : Nat) (h : c.wpIn F n P (scopeQ F n P c f Q) a w) : (Code.scope c).wpIn F n P Q a w := by
 intro b k cs hb0 hb hr
 obtain ⟨e, a1, w1, hq, harr⟩ := h b (.inScope c :: k) cs hb0 hb hr
 obtain ⟨e2, a2, w2, hq2, harr2⟩ := arrives_scope hb0 hb hr f e a1 w1 hq harr
 exact ⟨e2, a2, w2, hq2, ArrivesIn.of_steps (.one (fenced_calm hb hr rfl) stepR_scope') harr2⟩
theorem codeC_ok (hm : P.follows .mixedOrders = true) (hk : KnownOk P) : ∀ n, RunsOk P (codeC P n) ∧ ∀ {rd l c s e s'}, codeC P n rd l (.loop c) s = some (e, s') → LocOk P l (.loop c) → ∀ (F : Fence) (k : Nat) (φ : Phi) (a : Act) (w : World) (Q : Exit → Act → World → Prop), FW F → RdIs F φ rd → SR φ s a w → (∀ x a' w', CPost φ s e s' w x a' w' → Q x a' w') → Code.roundsIn F k P c Q n a w
 | 0 => ⟨⟨hk, (fun e => by cases e), (fun e => by cases e)⟩, (fun e => by cases e)⟩
 | n + 1 => by
  obtain ⟨ih, ihl⟩ := codeC_ok hm hk n
  have kp : RunKp (codeC P n) := codeC_kp P n
  have chain : ∀ {s s1 s' : St} {e : CE} {φ φ1 : Phi} {w w1 : World} {x : Exit} {a' : Act} {w' : World}, Went φ s.h.n s1.lw w φ1 w1 → s.h.n ≤ s1.h.n → s'.lw ≤ s1.lw → CPost φ1 s1 e s' w1 x a' w' → CPost φ s e s' w x a' w' := fun h1 h2 h3 ⟨hx, φ2, h4, h5⟩ => ⟨hx, φ2, h1.trans h4 h2 h3 (Nat.le_refl _), h5⟩
  have loops : ∀ {rd l c s e s'}, codeC P (n + 1) rd l (.loop c) s = some (e, s') → LocOk P l (.loop c) → ∀ (F : Fence) (k : Nat) (φ : Phi) (a : Act) (w : World) (Q : Exit → Act → World → Prop), FW F → RdIs F φ rd → SR φ s a w → (∀ x a' w', CPost φ s e s' w x a' w' → Q x a' w') → Code.roundsIn F k P c Q (n + 1) a w := by
   intro rd l c s e s' h hlo F k φ a w Q hF hrd hs hQ
   rw [roundsIn_succ]
   simp only [codeC] at h
   split at h
   ·rename_i s1 h1
    refine wpIn_mono (ih.wp h1 (hlo.kid 0) F k φ a w hF hrd hs) ?_
    rintro x a1 w1 ⟨rfl, φ1, g1, g2⟩
    have hrd1 : RdIs F φ1 rd := by
     cases rd with
     | none => exact hrd
     | some l => obtain ⟨p, q1, q2⟩ := hrd; exact ⟨p, g1.le _ _ q1, q2⟩
    exact ihl h hlo F k φ1 a1 w1 Q hF hrd1 g2 fun x a' w' hp => hQ x a' w' (chain g1 (kp h1).1.n (kp h).2 hp)
   ·rename_i r hr
    refine wpIn_mono (ih.wp h (hlo.kid 0) F k φ a w hF hrd hs) ?_
    rintro x a1 w1 hp
    have hx := hp.1
    cases e with
    | normal => exact absurd h (hr s')
    | exit id => subst hx; exact hQ _ _ _ hp
    | ret => subst hx; exact hQ _ _ _ hp
    | goto l => subst hx; exact hQ _ _ _ hp
  refine ⟨⟨hk, fun h => ⟨(codeC_kp P (n + 1) h).2, (codeC_kp P (n + 1) h).1.n⟩, ?_⟩, loops⟩
  intro rd l c s e s' h hlo F k φ a w hF hrd hs
  have here : ∀ {x : CE} {y : St}, some (x, y) = some (e, s') → y = s → CPost φ s e s' w x.way a w := fun h1 h2 => by
   injection h1 with h1; injection h1 with h0 h1; subst h0; subst h1; subst h2; exact ⟨rfl, φ, Went.refl _ _ _ _, hs⟩
  cases c with
  | skip => exact wpIn_skip (here h rfl)
  | label l => exact wpIn_label (here h rfl)
  | ret => exact wpIn_ret (here h rfl)
  | exit id => exact wpIn_exit (here h rfl)
  | goto l => exact wpIn_goto (here h rfl)
  | scope c =>
   simp only [codeC] at h
   refine wpIn_scope' n ?_
   have go : ∀ (f : Nat) (e1 : CE) (s1 : St) (x : Exit) (a1 : Act) (w1 : World), scopeC (codeC P n) rd c f (some (e1, s1)) = some (e, s') → s.h.n ≤ s1.h.n → s'.lw ≤ s1.lw → CPost φ s e1 s1 w x a1 w1 → scopeQ F k P c f (CPost φ s e s' w) x a1 w1 := by
    intro f
    induction f with
    | zero =>
     intro e1 s1 x a1 w1 h1 hn1 hl1 hp
     have hx := hp.1
     unfold scopeC at h1
     cases e1 with
     | goto l => cases h1
     | normal => injection h1 with h1; injection h1 with h2 h3; subst h2; subst h3; subst hx; exact hp
     | exit id => injection h1 with h1; injection h1 with h2 h3; subst h2; subst h3; subst hx; exact hp
     | ret => injection h1 with h1; injection h1 with h2 h3; subst h2; subst h3; subst hx; exact hp
    | succ f ihf =>
     intro e1 s1 x a1 w1 h1 hn1 hl1 hp
     have hx := hp.1
     unfold scopeC at h1
     cases e1 with
     | normal => injection h1 with h1; injection h1 with h2 h3; subst h2; subst h3; subst hx; exact hp
     | exit id => injection h1 with h1; injection h1 with h2 h3; subst h2; subst h3; subst hx; exact hp
     | ret => injection h1 with h1; injection h1 with h2 h3; subst h2; subst h3; subst hx; exact hp
     | goto l =>
      subst hx
      show (match findLabel c l with | some x => x.wpIn F k P (scopeQ F k P c f (CPost φ s e s' w)) a1 w1 | none => CPost φ s e s' w (.goto l) a1 w1)
      simp only at h1
      cases hf : findLabel c l with
      | none =>
       rw [hf] at h1
       injection h1 with h1; injection h1 with h2 h3; subst h2; subst h3; exact hp
      | some y =>
       rw [hf] at h1
       simp only at h1 ⊢
       cases hr2 : codeC P n rd none y s1 with
       | none =>
        rw [hr2] at h1
        cases f <;> cases h1
       | some r2 =>
        obtain ⟨e2, s2⟩ := r2
        rw [hr2] at h1
        obtain ⟨_, φ1, g1, g2⟩ := hp
        have hrd1 : RdIs F φ1 rd := by
         cases rd with
         | none => exact hrd
         | some l => obtain ⟨p, q1, q2⟩ := hrd; exact ⟨p, g1.le _ _ q1, q2⟩
        have kn := (kp hr2).1.n
        have kl := (kp hr2).2
        have kend := scopeC_kp (h0 := s2.h) (lw0 := s2.lw) kp f (fun x s hx => by injection hx with hx; injection hx with _ hx; subst hx; exact ⟨Kp.refl _ _, Nat.le_refl _⟩) h1
        refine wpIn_mono (ih.wp hr2 trivial F k φ1 a1 w1 hF hrd1 g2) fun x2 a2 w2 hp2 => ihf e2 s2 x2 a2 w2 h1 (by omega) kend.2 (chain g1 hn1 kl hp2)
   cases hr1 : codeC P n rd (kidL 0 l) c s with
   | none =>
    rw [hr1] at h
    cases n <;> cases h
   | some r1 =>
    obtain ⟨e1, s1⟩ := r1
    rw [hr1] at h
    have kend := scopeC_kp (h0 := s1.h) (lw0 := s1.lw) kp n (fun x s hx => by injection hx with hx; injection hx with _ hx; subst hx; exact ⟨Kp.refl _ _, Nat.le_refl _⟩) h
    exact wpIn_mono (ih.wp hr1 (hlo.kid 0) F k φ a w hF hrd hs) fun x a1 w1 hp => go n e1 s1 x a1 w1 h (kp hr1).1.n kend.2 hp
  | region id ops mixed =>
   cases mixed with
   | false =>
    simp only [codeC] at h
    split at h
    ·rename_i s1 h1
     injection h with h; injection h with h0 h; subst h; subst h0
     refine wpIn_region ?_
     rw [show List.range ops.size = List.range' 0 ops.toList.length by rw [List.range_eq_range']; simp]
     exact seq_in hF kp ih (fun j => by simp) h1 hs fun φ' a' w' g1 g2 => ⟨rfl, φ', g1, g2⟩
    ·cases h
   | true =>
    simp only [codeC] at h
    split at h
    ·rename_i ds s1 h1
     obtain ⟨hok, h⟩ := bif_some h
     injection h with h; injection h with h0 h; subst h; subst h0
     rw [Bool.or_eq_true, Bool.and_eq_true] at hok
     rcases hok with hok | ⟨_, hok⟩
     ·exact drawn_in hF ih kp hm h1 hok hs fun φ' a' w' g1 g2 => ⟨rfl, φ', g1, g2⟩
     ·exact drawn_all hF ih kp hm hok hs fun φ' a' w' g1 g2 => ⟨rfl, φ', g1, g2⟩
    ·cases h
  | seq x y =>
   simp only [codeC] at h
   refine wpIn_seq ?_
   split at h
   ·rename_i s1 h1
    refine wpIn_mono (ih.wp h1 (hlo.kid 0) F k φ a w hF hrd hs) ?_
    rintro x a1 w1 ⟨rfl, φ1, g1, g2⟩
    have hrd1 : RdIs F φ1 rd := by
     cases rd with
     | none => exact hrd
     | some l => obtain ⟨p, q1, q2⟩ := hrd; exact ⟨p, g1.le _ _ q1, q2⟩
    exact wpIn_mono (ih.wp h (hlo.kid 1) F k φ1 a1 w1 hF hrd1 g2) fun x a' w' hp => chain g1 (kp h1).1.n (kp h).2 hp
   ·rename_i r hr
    refine wpIn_mono (ih.wp h (hlo.kid 0) F k φ a w hF hrd hs) ?_
    rintro x a1 w1 hp
    have hx := hp.1
    cases e with
    | normal => exact absurd h (hr s')
    | exit id => subst hx; exact hp
    | ret => subst hx; exact hp
    | goto l => subst hx; exact hp
  | cond x y z =>
   simp only [codeC] at h
   split at h
   ·rename_i t ht
    have hv := evl_of (φ := φ) (a := a) hs.tr [x] x (by simp) _ ht
    generalize hxe : a.eval x = xv at hv
    cases hv
    refine wpIn_cond hxe ?_
    cases t with
    | true => exact ih.wp h (hlo.kid 0) F k φ a w hF hrd hs
    | false => exact ih.wp h (hlo.kid 1) F k φ a w hF hrd hs
   ·cases h
  | block id c =>
   simp only [codeC] at h
   refine wpIn_block ?_
   split at h
   ·rename_i i s1 h1
    refine wpIn_mono (ih.wp h1 (hlo.kid 0) F k φ a w hF hrd hs) ?_
    rintro x a1 w1 ⟨rfl, φ1, g1, g2⟩
    show if i = id then _ else _
    rw [beq_dec] at h
    by_cases hi : i = id
    ·rw [if_pos hi]
     rw [decide_eq_true hi] at h
     injection h with h; injection h with h0 h; subst h; subst h0
     exact ⟨rfl, φ1, g1, g2⟩
    ·rw [if_neg hi]
     rw [decide_eq_false hi] at h
     injection h with h; injection h with h0 h; subst h; subst h0
     exact ⟨rfl, φ1, g1, g2⟩
   ·rename_i r hr
    refine wpIn_mono (ih.wp h (hlo.kid 0) F k φ a w hF hrd hs) ?_
    rintro x a1 w1 hp
    have hx := hp.1
    cases e with
    | normal => subst hx; exact hp
    | exit id => exact absurd h (hr id s')
    | ret => subst hx; exact hp
    | goto l => subst hx; exact hp
  | loop c => exact wpIn_loop_rounds (n + 1) (loops h hlo F k φ a w _ hF hrd hs fun _ _ _ hp => hp)
  | rangeFunc f ps asg body => exact range_in hF ih hrd hlo h hs
  | _ => cases h
end
end Go.Proofs.YthffbfkcmbgghaaGreat.Cm
