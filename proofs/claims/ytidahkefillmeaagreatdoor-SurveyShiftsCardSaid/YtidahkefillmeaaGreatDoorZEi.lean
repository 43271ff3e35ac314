/-
  The clean machine: code that ranges over a map, in all orders of its entries.
-/
import Derived.Test.YtidahkefillmeaaGreatDoorZEg
set_option linter.all false
namespace Go.Proofs.YtidahkefillmeaaGreatDoor.Cm
open Go Go.RowKit
def bindL {α β : Type} (f : α → Option (List β)) : List α → Option (List β)
  | [] => some []
  | x :: l => match f x, bindL f l with
    | some a, some b => some (a ++ b)
    | _, _ => none
theorem bindL_fwd {α β : Type} {f : α → Option (List β)} : ∀ {l : List α} {m : List β}, bindL f l = some m → ∀ x ∈ l, ∃ y, f x = some y ∧ ∀ o ∈ y, o ∈ m
  | [], _, _, x, hx => by cases hx
  | z :: l, m, e, x, hx => by
    unfold bindL at e
    split at e
    · rename_i a b h1 h2
      injection e with e; subst e
      rcases List.mem_cons.1 hx with rfl | hx
      · exact ⟨a, h1, fun o ho => List.mem_append.2 (.inl ho)⟩
      · obtain ⟨y, h3, h4⟩ := bindL_fwd h2 x hx
        exact ⟨y, h3, fun o ho => List.mem_append.2 (.inr (h4 o ho))⟩
    · cases e
theorem bindL_bwd {α β : Type} {f : α → Option (List β)} : ∀ {l : List α} {m : List β}, bindL f l = some m → ∀ o ∈ m, ∃ x ∈ l, ∃ y, f x = some y ∧ o ∈ y
  | [], m, e, o, ho => by injection e with e; subst e; cases ho
  | z :: l, m, e, o, ho => by
    unfold bindL at e
    split at e
    · rename_i a b h1 h2
      injection e with e; subst e
      rcases List.mem_append.1 ho with ho | ho
      · exact ⟨z, List.mem_cons_self, a, h1, ho⟩
      · obtain ⟨x, h3, h4⟩ := bindL_bwd h2 o ho
        exact ⟨x, List.mem_cons_of_mem _ h3, h4⟩
    · cases e
section
variable [Dec]
def putN (s : St) (d : Option Tmp) (r : CV × CH × Nat) : St := putC { s with h := r.2.1, lw := min s.lw r.2.2 } d r.1
def isNext (o : Oper) : Option Operand := match o.op, o.guard with
  | .next x false, none => some x
  | _, _ => none
def opsL (P : Program) (run : Runs) (ops : Array Oper) : List Oper → St → Option (List St)
  | [], s => some [s]
  | o :: l, s => match isNext o with
    | some x => match (argC s.ts x).bind (nextsC s.h) with
      | some outs => bindL (fun r => opsL P run ops l (putN s o.dst r)) outs
      | none => none
    | none => match stepC P run ops o s with
      | some (s1, _) => opsL P run ops l s1
      | none => none
def outL (id : Nat) (o : CE × St) : CE × St := match o.1 with
  | .exit i => bif Nat.beq i id then (.normal, o.2) else o
  | _ => o
def codeL (P : Program) : Nat → Code → St → Option (List (CE × St))
  | 0, _, _ => none
  | n + 1, c, s => match c with
    | .region _ ops false => match opsL P (codeC P n) ops ops.toList s with
      | some l => some (l.map fun s => (CE.normal, s))
      | none => none
    | .seq a b => match codeL P n a s with
      | some l => bindL (fun o => match o.1 with | .normal => codeL P n b o.2 | _ => some [o]) l
      | none => none
    | .cond x a b => match argC s.ts x with
      | some (.bool t) => codeL P n (bif t then a else b) s
      | _ => none
    | .block id c => match codeL P n c s with
      | some l => some (l.map (outL id))
      | none => none
    | .loop c => match codeL P n c s with
      | some l => bindL (fun o => match o.1 with | .normal => codeL P n (.loop c) o.2 | _ => some [o]) l
      | none => none
    | c => match codeC P n none c s with
      | some o => some [o]
      | none => none
end
section
variable [E : Env] {P : Program} {run : Runs}
theorem opsL_kp (hkp : RunKp run) {ops : Array Oper} : ∀ {l : List Oper} {s : St} {m : List St}, opsL P run ops l s = some m → ∀ s' ∈ m, Kp s.h s'.h s'.lw ∧ s'.lw ≤ s.lw
  | [], s, m, e, s', hs => by
    injection e with e; subst e
    rw [List.mem_singleton] at hs; subst hs
    exact ⟨Kp.refl _ _, Nat.le_refl _⟩
  | o :: l, s, m, e, s', hs => by
    unfold opsL at e
    split at e
    · split at e
      · rename_i outs ho
        obtain ⟨it, _, hn⟩ := Option.bind_eq_some_iff.1 ho
        obtain ⟨r, hr, y, hy, hs'⟩ := bindL_bwd e s' hs
        have k1 := nextsC_kp hn r hr
        obtain ⟨g1, g2⟩ := opsL_kp hkp hy s' hs'
        obtain ⟨q1, q2, _⟩ := putC_h { s with h := r.2.1, lw := min s.lw r.2.2 } o.dst r.1
        unfold putN at g1 g2
        rw [q1] at g1; rw [q2] at g2
        have g2 : s'.lw ≤ min s.lw r.2.2 := g2
        exact ⟨(k1.weak (Nat.le_trans g2 (Nat.min_le_right _ _))).trans g1 (Nat.le_refl _) (Nat.le_refl _), Nat.le_trans g2 (Nat.min_le_left _ _)⟩
      · cases e
    · split at e
      · rename_i s1 b h1
        obtain ⟨g1, g2⟩ := opsL_kp hkp e s' hs
        obtain ⟨_, _, g3, g4⟩ := stepC_kp hkp h1
        exact ⟨(g4.weak g2).trans g1 (Nat.le_refl _) (Nat.le_refl _), Nat.le_trans g2 g3⟩
      · cases e
theorem chainL {P : Program} {n : Nat} {f : CE × St → Option (List (CE × St))} {s : St} {l m : List (CE × St)} (hl : ∀ o ∈ l, Kp s.h o.2.h o.2.lw ∧ o.2.lw ≤ s.lw) (hf : ∀ o ∈ l, ∀ y, f o = some y → ∀ o' ∈ y, Kp o.2.h o'.2.h o'.2.lw ∧ o'.2.lw ≤ o.2.lw) (e : bindL f l = some m) : ∀ o ∈ m, Kp s.h o.2.h o.2.lw ∧ o.2.lw ≤ s.lw := fun o' ho => by
  obtain ⟨o, h1, y, h2, h3⟩ := bindL_bwd e o' ho
  obtain ⟨a1, a2⟩ := hl o h1
  obtain ⟨b1, b2⟩ := hf o h1 y h2 o' h3
  exact ⟨(a1.weak b2).trans b1 (Nat.le_refl _) (Nat.le_refl _), Nat.le_trans b2 a2⟩
theorem codeL_kp (P : Program) : ∀ {n : Nat} {c : Code} {s : St} {l : List (CE × St)}, codeL P n c s = some l → ∀ o ∈ l, Kp s.h o.2.h o.2.lw ∧ o.2.lw ≤ s.lw
  | 0, _, _, _, e => by cases e
  | n + 1, c, s, l, e => by
    have next : ∀ {o : CE × St} {c' : Code} {y : List (CE × St)}, (match o.1 with | .normal => codeL P n c' o.2 | _ => some [o]) = some y → ∀ o' ∈ y, Kp o.2.h o'.2.h o'.2.lw ∧ o'.2.lw ≤ o.2.lw := fun {o c' y} e o' ho => by
      split at e
      · exact codeL_kp P e o' ho
      · injection e with e; subst e
        rw [List.mem_singleton] at ho; subst ho
        exact ⟨Kp.refl _ _, Nat.le_refl _⟩
    have other : (match codeC P n none c s with | some o => some [o] | none => none) = some l → ∀ o ∈ l, Kp s.h o.2.h o.2.lw ∧ o.2.lw ≤ s.lw := fun e o ho => by
      split at e
      · rename_i o1 h1
        injection e with e; subst e
        rw [List.mem_singleton] at ho; subst ho
        exact codeC_kp P n h1
      · cases e
    cases c with
    | region id ops mixed =>
      cases mixed with
      | true => exact other e
      | false =>
        simp only [codeL] at e
        split at e
        · rename_i m h1
          injection e with e; subst e
          intro o ho
          obtain ⟨s1, h2, rfl⟩ := List.mem_map.1 ho
          exact opsL_kp (codeC_kp P n) h1 s1 h2
        · cases e
    | seq a b =>
      simp only [codeL] at e
      split at e
      · rename_i m h1
        exact chainL (P := P) (n := n) (codeL_kp P h1) (fun o _ y h => next h) e
      · cases e
    | cond x a b =>
      simp only [codeL] at e
      split at e
      · exact codeL_kp P e
      · cases e
    | block id c =>
      simp only [codeL] at e
      split at e
      · rename_i m h1
        injection e with e; subst e
        intro o ho
        obtain ⟨o1, h2, rfl⟩ := List.mem_map.1 ho
        have := codeL_kp P h1 o1 h2
        unfold outL
        split
        · rename_i i _
          cases Nat.beq i id <;> exact this
        · exact this
      · cases e
    | loop c =>
      simp only [codeL] at e
      split at e
      · rename_i m h1
        exact chainL (P := P) (n := n) (codeL_kp P h1) (fun o _ y h => next h) e
      · cases e
    | _ => exact other e
def LPost (φ : Phi) (s : St) (l : List (CE × St)) (w : World) : Exit → Act → World → Prop := fun x a' w' => ∃ o ∈ l, CPost φ s o.1 o.2 w x a' w'
theorem opsL_in {F : Fence} (hF : FW F) (hkp : RunKp run) (hrun : RunsOk P run) {ops : Array Oper} {n : Nat} {Q : Exit → Act → World → Prop} : ∀ {l : List Oper} {k : Nat} {s : St} {m : List St} {φ : Phi} {a : Act} {w : World}, (∀ j, ops[k + j]? = l[j]?) → opsL P run ops l s = some m → SR φ s a w →
    (∀ s' ∈ m, ∀ φ' a' w', Went φ s.h.n s'.lw w φ' w' → SR φ' s' a' w' → Q .normal a' w') → wpOpsIn F n P ops Q (List.range' k l.length) a w
  | [], k, s, m, φ, a, w, _, e, hs, hk => by injection e with e; subst e; exact hk s List.mem_cons_self φ a w (Went.refl _ _ _ _) hs
  | o :: l, k, s, m, φ, a, w, hl, e, hs, hk => by
    have hl' : ∀ j, ops[k + 1 + j]? = l[j]? := fun j => by
      have := hl (j + 1)
      rw [List.getElem?_cons_succ] at this
      rw [← this]; congr 1; omega
    have ho : ops[k]? = some o := by simpa using hl 0
    unfold opsL at e
    rw [List.length_cons, List.range'_succ, wpOpsIn_cons]
    split at e
    · rename_i x hx
      split at e
      · rename_i outs hq
        obtain ⟨it, hit, hn⟩ := Option.bind_eq_some_iff.1 hq
        unfold isNext at hx
        split at hx
        · rename_i y hop hgd
          injection hx with hx; subst hx
          obtain ⟨dst, op, ty, pos, af, gd⟩ := o
          simp only at hop hgd
          subst hop; subst hgd
          have hv := evl_of (φ := φ) (a := a) hs.tr [y] y (by simp) _ hit
          obtain ⟨r, hr, u, w', hrun', g1, g2, g3⟩ := nexts_rel (P := P) hs.hr hv hn ty
          obtain ⟨z, hz, hzm⟩ := bindL_fwd e r hr
          unfold wpOpIn
          simp only [ho]
          rw [show Region.wanted (⟨dst, .next y false, ty, pos, af, none⟩ : Oper) (yielded ops a.tmps) = true from rfl, if_pos rfl]
          refine goes_value (P := P) (φ := φ) (m := s.h.n) (lw := r.2.2) (c := r.1) (h' := r.2.1) hF (fun _ => by simp) (exec_v (s := Instr.next (a.eval y) false ty) rfl hrun') g1 g2 g3 _ _ fun φ' v w2 r1 r2 r3 => ?_
          obtain ⟨q1, q2, _⟩ := putC_h { s with h := r.2.1, lw := min s.lw r.2.2 } dst r.1
          have kk := nextsC_kp hn r hr
          refine opsL_in hF hkp hrun hl' hz (SR.put (s := { s with h := r.2.1, lw := min s.lw r.2.2 }) ⟨hs.tr.mono r1.le, hs.df.mono r1.le, r2⟩ dst r3) fun s' hs' φ2 a2 w3 t1 t2 => ?_
          have t3 := (opsL_kp hkp hz s' hs').2
          unfold putN at t1 t3
          rw [q1] at t1; rw [q2] at t3
          have t3 : s'.lw ≤ min s.lw r.2.2 := t3
          exact hk s' (hzm s' hs') φ2 a2 w3 (r1.trans t1 kk.n (Nat.le_trans t3 (Nat.min_le_right _ _)) (Nat.le_refl _)) t2
        · cases hx
      · cases e
    · split at e
      · rename_i s1 b h1
        obtain ⟨_, _, g3, g4⟩ := stepC_kp hkp h1
        refine step_in hF hrun ho h1 hs fun φ' a' w' r1 r2 => ?_
        refine opsL_in hF hkp hrun hl' e r2 fun s' hs' φ2 a2 w2 r3 r4 => hk s' hs' φ2 a2 w2 (r1.trans r3 g4.n (opsL_kp hkp e s' hs').2 (Nat.le_refl _)) r4
      · cases e
theorem codeL_ok (hm : P.follows .mixedOrders = true) (hk : KnownOk P) : ∀ n, (∀ {c s l}, codeL P n c s = some l → ∀ (F : Fence) (k : Nat) (φ : Phi) (a : Act) (w : World), FW F → F.round = none → SR φ s a w → c.wpIn F k P (LPost φ s l w) a w) ∧
    ∀ {c s l}, codeL P n (.loop c) s = some l → ∀ (F : Fence) (k : Nat) (φ : Phi) (a : Act) (w : World) (Q : Exit → Act → World → Prop), FW F → F.round = none → SR φ s a w → (∀ x a' w', LPost φ s l w x a' w' → Q x a' w') → Code.roundsIn F k P c Q n a w
  | 0 => ⟨(fun e => by cases e), (fun e => by cases e)⟩
  | n + 1 => by
    obtain ⟨ih, ihl⟩ := codeL_ok hm hk n
    have hC := (codeC_ok hm hk n).1
    have chain : ∀ {s s1 : St} {o : CE × St} {φ φ1 : Phi} {w w1 : World} {x : Exit} {a' : Act} {w' : World}, Went φ s.h.n s1.lw w φ1 w1 → s.h.n ≤ s1.h.n → o.2.lw ≤ s1.lw → CPost φ1 s1 o.1 o.2 w1 x a' w' → CPost φ s o.1 o.2 w x a' w' := fun h1 h2 h3 ⟨hx, φ2, h4, h5⟩ => ⟨hx, φ2, h1.trans h4 h2 h3 (Nat.le_refl _), h5⟩
    have loops : ∀ {c s l}, codeL P (n + 1) (.loop c) s = some l → ∀ (F : Fence) (k : Nat) (φ : Phi) (a : Act) (w : World) (Q : Exit → Act → World → Prop), FW F → F.round = none → SR φ s a w → (∀ x a' w', LPost φ s l w x a' w' → Q x a' w') → Code.roundsIn F k P c Q (n + 1) a w := by
      intro c s l h F k φ a w Q hF hrd hs hQ
      rw [roundsIn_succ]
      simp only [codeL] at h
      split at h
      · rename_i m h1
        refine wpIn_mono (ih h1 F k φ a w hF hrd hs) ?_
        rintro x a1 w1 ⟨o, ho, hx, φ1, g1, g2⟩
        obtain ⟨y, hy, hym⟩ := bindL_fwd h o ho
        have kk := codeL_kp P h1 o ho
        obtain ⟨e, s1⟩ := o
        simp only at hy hx g1 g2 kk
        cases e with
        | normal =>
          subst hx
          exact ihl hy F k φ1 a1 w1 Q hF hrd g2 fun x a' w' ⟨o', ho', hp⟩ => hQ x a' w' ⟨o', hym o' ho', chain g1 kk.1.n (codeL_kp P hy o' ho').2 hp⟩
        | exit id => subst hx; injection hy with hy; subst hy; exact hQ _ _ _ ⟨_, hym _ List.mem_cons_self, rfl, φ1, g1, g2⟩
        | ret => subst hx; injection hy with hy; subst hy; exact hQ _ _ _ ⟨_, hym _ List.mem_cons_self, rfl, φ1, g1, g2⟩
        | goto l => subst hx; injection hy with hy; subst hy; exact hQ _ _ _ ⟨_, hym _ List.mem_cons_self, rfl, φ1, g1, g2⟩
      · cases h
    refine ⟨?_, loops⟩
    intro c s l h F k φ a w hF hrd hs
    have other : (match codeC P n none c s with | some o => some [o] | none => none) = some l → c.wpIn F k P (LPost φ s l w) a w := fun h => by
      split at h
      · rename_i o h1
        injection h with h; subst h
        exact wpIn_mono (hC.wp h1 F k φ a w hF hrd hs) fun x a' w' hp => ⟨o, List.mem_cons_self, hp⟩
      · cases h
    cases c with
    | region id ops mixed =>
      cases mixed with
      | true => exact other h
      | false =>
        simp only [codeL] at h
        split at h
        · rename_i m h1
          injection h with h; subst h
          refine wpIn_region ?_
          rw [show List.range ops.size = List.range' 0 ops.toList.length by rw [List.range_eq_range']; simp]
          exact opsL_in hF (codeC_kp P n) hC (fun j => by simp) h1 hs fun s' hs' φ' a' w' g1 g2 => ⟨(.normal, s'), List.mem_map.2 ⟨s', hs', rfl⟩, rfl, φ', g1, g2⟩
        · cases h
    | seq x y =>
      simp only [codeL] at h
      refine wpIn_seq ?_
      split at h
      · rename_i m h1
        refine wpIn_mono (ih h1 F k φ a w hF hrd hs) ?_
        rintro x1 a1 w1 ⟨o, ho, hx, φ1, g1, g2⟩
        obtain ⟨z, hz, hzm⟩ := bindL_fwd h o ho
        have kk := codeL_kp P h1 o ho
        obtain ⟨e, s1⟩ := o
        simp only at hz hx g1 g2 kk
        cases e with
        | normal =>
          subst hx
          exact wpIn_mono (ih hz F k φ1 a1 w1 hF hrd g2) fun x a' w' ⟨o', ho', hp⟩ => ⟨o', hzm o' ho', chain g1 kk.1.n (codeL_kp P hz o' ho').2 hp⟩
        | exit id => subst hx; injection hz with hz; subst hz; exact ⟨_, hzm _ List.mem_cons_self, rfl, φ1, g1, g2⟩
        | ret => subst hx; injection hz with hz; subst hz; exact ⟨_, hzm _ List.mem_cons_self, rfl, φ1, g1, g2⟩
        | goto l => subst hx; injection hz with hz; subst hz; exact ⟨_, hzm _ List.mem_cons_self, rfl, φ1, g1, g2⟩
      · cases h
    | cond x y z =>
      simp only [codeL] at h
      split at h
      · rename_i t ht
        have hv := evl_of (φ := φ) (a := a) hs.tr [x] x (by simp) _ ht
        generalize hxe : a.eval x = xv at hv
        cases hv
        refine wpIn_cond hxe ?_
        have := ih h F k φ a w hF hrd hs
        cases t <;> exact this
      · cases h
    | block id c =>
      simp only [codeL] at h
      refine wpIn_block ?_
      split at h
      · rename_i m h1
        injection h with h; subst h
        refine wpIn_mono (ih h1 F k φ a w hF hrd hs) ?_
        rintro x1 a1 w1 ⟨o, ho, hx, φ1, g1, g2⟩
        have hmem : outL id o ∈ m.map (outL id) := List.mem_map.2 ⟨o, ho, rfl⟩
        obtain ⟨e, s1⟩ := o
        simp only at hx g1 g2
        cases e with
        | normal => subst hx; exact ⟨_, hmem, rfl, φ1, g1, g2⟩
        | ret => subst hx; exact ⟨_, hmem, rfl, φ1, g1, g2⟩
        | goto l => subst hx; exact ⟨_, hmem, rfl, φ1, g1, g2⟩
        | exit i =>
          subst hx
          show if i = id then _ else _
          have e0 : outL id (.exit i, s1) = bif Nat.beq i id then (.normal, s1) else (.exit i, s1) := rfl
          rw [e0, beq_dec] at hmem
          by_cases hi : i = id
          · rw [if_pos hi]
            rw [decide_eq_true hi, cond_true] at hmem
            exact ⟨(.normal, s1), hmem, rfl, φ1, g1, g2⟩
          · rw [if_neg hi]
            rw [decide_eq_false hi, cond_false] at hmem
            exact ⟨(.exit i, s1), hmem, rfl, φ1, g1, g2⟩
      · cases h
    | loop c => exact wpIn_loop_rounds (n + 1) (loops h F k φ a w _ hF hrd hs fun _ _ _ hp => hp)
    | _ => exact other h
end
/-! ### A call in all orders -/
section
variable [Dec]
def endL (P : Program) (fn : Func) (o : CE × St) : Out := match o.1 with
  | .normal => endC P fn o.2
  | .ret => endC P fn o.2
  | _ => none
def allR (P : Program) (fn : Func) (m l0 : Nat) (R : Res) : List (CE × St) → Option (List (List Eqn))
  | [] => some []
  | o :: l => match callR m l0 R (endL P fn o), allR P fn m l0 R l with
    | some x, some y => some (x :: y)
    | _, _ => none
def callL (P : Program) (n : Nat) (f : FuncId) (args : List CV) (h : CH) : Option (Func × List (CE × St)) :=
  match P.funcs[f]? with
  | some fn => match fn.body with
    | some c => bif Nat.ble args.length fn.ntmps && !(fn.name == "runtime.NumGoroutine") then
      match codeL P n c ⟨setArgs .e 0 args, fn.ntmps, [], h, h.n⟩ with
      | some l => some (fn, l)
      | none => none
      else none
    | none => none
  | none => none
def closedL (P : Program) (n f : Nat) (args : List CV) (O : Objs) (l0 : Nat) (R : Res) : Option (List (List Eqn)) :=
  match callL P n f args (heapO O) with
  | some (fn, l) => allR P fn O.length l0 R l
  | none => none
end
def eqnsAll (V V' : Val) : List (List Eqn) → Prop
  | [] => True
  | q :: l => eqnsOk V V' q ∧ eqnsAll V V' l
theorem allR_mem [Dec] {P : Program} {fn : Func} {m l0 : Nat} {R : Res} {V V' : Val} : ∀ {l : List (CE × St)} {qs : List (List Eqn)}, allR P fn m l0 R l = some qs → eqnsAll V V' qs → ∀ o ∈ l, ∃ q, callR m l0 R (endL P fn o) = some q ∧ eqnsOk V V' q
  | [], _, _, _, o, ho => by cases ho
  | x :: l, qs, e, hq, o, ho => by
    unfold allR at e
    split at e
    · rename_i q rs h1 h2
      injection e with e; subst e
      rcases List.mem_cons.1 ho with rfl | ho
      · exact ⟨q, h1, hq.1⟩
      · exact allR_mem h2 hq.2 o ho
    · cases e
theorem closedL_of {P : Program} (hm : P.follows .mixedOrders = true) (x : Fx) {V V' : Val} (hx : x.ok V) (hk : knsOk P V x.kns) {n f l0 : Nat} {args : List CV} {O : Objs} {R : Res} {qs : List (List Eqn)} (e : @closedL (decF x) P n f args O l0 R = some qs) (hq : eqnsAll V V' qs) : CallOk P f V args O l0 V' R.c R.O := by
  obtain ⟨hL, _⟩ := @codeL_ok (envF x V hx) P hm (known_env hk) n
  unfold closedL at e
  split at e
  · rename_i fn l hc
    unfold callL at hc
    split at hc
    · rename_i fn0 hfn
      split at hc
      · rename_i cd hcd
        obtain ⟨h1, hc⟩ := bif_s hc
        simp only [Bool.and_eq_true, Bool.not_eq_true'] at h1
        obtain ⟨h1, hname⟩ := h1
        have h1 := ble_s h1
        split at hc
        · rename_i l1 hl
          injection hc with hc; injection hc with e1 e2; subst e1; subst e2
          have hkp := @codeL_kp (envF x V hx) P _ _ _ _ hl
          refine ⟨⟨fn0, cd, hfn, hcd, hname⟩, fun φ args' w hh ha => callsIn_wide.1 (?_ : CallsIn Fence.wide 0 P f ⟨args'⟩ w _)⟩
          refine callsIn_of_wp_marks hfn hcd trivial ?_ rfl
          refine wpIn_mono (hL hl Fence.wide 0 φ _ w wide_fw rfl (@SR.mk V _ _ _ _ (@args_tr (envF x V hx) _ _ _ ha _ h1) .nil hh)) ?_
          rintro x1 a1 w1 ⟨o, ho, hx1, φ1, k1, k2⟩
          obtain ⟨q, r1, r2⟩ := @allR_mem (decF x) _ _ _ _ _ _ _ _ _ e hq o ho
          obtain ⟨ce, s1⟩ := o
          obtain ⟨kk1, kk2⟩ := hkp _ ho
          simp only at hx1 k1 k2 kk1 kk2
          have main : (ce = .normal ∨ ce = .ret) → callR O.length l0 R (@endC (decF x) P fn0 s1) = some q → LeavesInM Fence.wide 0 P fn0 a1.tmps (RPost V' R.c R.O O.length l0 φ w) a1.defers .returning w1 := fun _ r1 => by
            unfold callR at r1
            split at r1
            · rename_i c h' lw he
              obtain ⟨_, hlw⟩ := @end_in (envF x V hx) P Fence.wide 0 fn0 s1 c h' lw φ1 a1 w1 (fun _ _ => True) k2 he (fun _ _ _ _ _ _ => trivial)
              have hl0 : l0 ≤ lw := by
                have e2 := r1
                unfold chkR at e2
                obtain ⟨c1, _⟩ := bif_s e2
                simp only [Bool.and_eq_true] at c1
                exact Nat.le_of_ble_eq_true c1.1.1.1.1
              refine (@end_in (envF x V hx) P Fence.wide 0 fn0 s1 c h' lw φ1 a1 w1 _ k2 he fun u φ2 w2 t1 t2 t3 => ?_).1
              rw [heapO_n] at k1
              have hn : O.length ≤ s1.h.n := by have := @Kp.n _ _ _ kk1; rwa [heapO_n] at this
              have x1 := @Went.trans V _ _ _ _ _ _ _ _ _ _ _ k1 t1 hn (Nat.le_refl _) (Nat.le_refl _)
              exact chkR_post (@Went.weak V _ _ _ _ _ _ _ _ x1 (by omega) (Nat.le_refl _)) t2 t3 (fun b p ep => by have := (@HR.lt V _ _ _ hh b p ep).1; rwa [heapO_n] at this) r1 r2
            · cases r1
          cases ce with
          | normal => subst hx1; exact main (.inl rfl) r1
          | ret => subst hx1; exact main (.inr rfl) r1
          | exit i => cases r1
          | goto l => cases r1
        · cases hc
      · cases hc
    · cases hc
  · cases e
end Go.Proofs.YtidahkefillmeaaGreatDoor.Cm
