/-
  The clean machine and the model: a region that draws its order, walked.
-/
import Derived.Test.YthffbfkcmbgghaaGreatZCw
set_option linter.all false
namespace Go.Proofs.YthffbfkcmbgghaaGreat.Cm
open Go Go.RowKit
variable [Env]
theorem sameCs_eq {f : CV → CV → Bool} (hf : ∀ {a b : CV}, f a b = true → a = b) : ∀ {l m : List CV}, sameCs f l m = true → l = m
 | [], [], _ => rfl
 | a :: l, b :: m, h => by
  simp only [sameCs, Bool.and_eq_true] at h
  rw [hf h.1, sameCs_eq hf h.2]
 | [], _ :: _, h => by cases h
 | _ :: _, [], h => by cases h
theorem sameC'_eq : ∀ {d : Nat} {a b : CV}, sameC' d a b = true → a = b
 | 0, _, _, h => by cases h
 | d + 1, a, b, h => by
  unfold sameC' at h
  split at h <;> first
   | rfl
   | (cases h; done)
   | (simp only [Bool.and_eq_true, decide_eq_true_eq, beq_iff_eq] at h)
   | skip
  ·rename_i a b; rw [show a = b from by simpa using h]
  ·rw [Ex.eq_of_beq h]
  ·rw [h.1, h.2]
  ·rw [h.1, Ex.eq_of_beq h.2]
  ·rw [h]
  ·rw [Ex.eq_of_beq h]
  ·rw [beq_eq' h.1, beq_eq' h.2]
  ·rw [beq_eq' h.1.1.1, beq_eq' h.1.1.2, beq_eq' h.1.2, beq_eq' h.2]
  ·rw [beq_eq' h.1.1.1.1, beq_eq' h.1.1.1.2, Ex.eq_of_beq h.1.1.2, beq_eq' h.1.2, h.2]
  ·rw [beq_eq' h.1.1.1.1, beq_eq' h.1.1.1.2, Ex.eq_of_beq h.1.1.2, beq_eq' h.1.2, beq_eq' h.2]
  ·rw [beq_eq' h]
  ·rw [h.1.1, sameCs_eq sameC'_eq h.1.2, sameCs_eq sameC'_eq h.2]
  ·rw [beq_eq' h]
  ·rw [sameCs_eq sameC'_eq h]
  ·rw [sameCs_eq sameC'_eq h]
theorem sameNs_eq : ∀ {l m : List Nat}, sameNs l m = true → l = m
 | [], [], _ => rfl
 | a :: l, b :: m, h => by
  simp only [sameNs, Bool.and_eq_true] at h
  rw [beq_eq' h.1, sameNs_eq h.2]
 | [], _ :: _, h => by cases h
 | _ :: _, [], h => by cases h
theorem sameOb_eq {a b : CObj} (h : sameOb a b = true) : a = b := by
 unfold sameOb at h
 split at h
 ·simp only [Bool.and_eq_true, beq_iff_eq] at h
  rw [sameCs_eq sameC'_eq h.1.1, beq_eq' h.1.2, h.2]
 ·simp only [Bool.and_eq_true, beq_iff_eq] at h
  rw [beq_eq' h.1.1.1, sameCs_eq sameC'_eq h.1.1.2, beq_eq' h.1.2, h.2]
 ·rfl
 ·simp only [Bool.and_eq_true] at h
  rw [beq_eq' h.1.1.1, beq_eq' h.1.1.2, sameNs_eq h.1.2, beq_eq' h.2]
 ·simp only [Bool.and_eq_true, decide_eq_true_eq] at h
  rw [beq_eq' h.1.1, h.1.2, sameNs_eq h.2]
 ·cases h
theorem sameOpt_eq {α : Type} {f : α → α → Bool} (hf : ∀ {a b : α}, f a b = true → a = b) {a b : Option α} (h : sameOpt f a b = true) : a = b := by
 cases a <;> cases b <;> first
  | rfl
  | (cases h; done)
  | rw [hf h]
theorem sameOptOb_eq {a b : Option CObj} (h : sameOpt sameOb a b = true) : a = b := sameOpt_eq sameOb_eq h
theorem Drawn.le {ops : Array Oper} {D : Nat → Did} {bf : Nat → Nat → Prop} {nt : Nat} (W : Drawn ops nt D bf) {i j : Nat} (h : bf i j) : j ≤ i :=
 W.down (fun x => x ≤ i) (fun x o ho hx e he hb => by have := W.edge x o ho e he hb; omega) i j h (Nat.le_refl _)
section
variable {P : Program} {run : Runs} {ops : Array Oper} {s s' : St} {σ : Nat → St} {D : Nat → Did} {bf : Nat → Nat → Prop}
theorem vC_any {h h' : CH} {lw : Nat} {oc : Option CV} {c : CV} (e : vC h oc = some (c, h', lw)) : h' = h ∧ lw = h.n ∧ ∀ h2 : CH, vC h2 oc = some (c, h2, h2.n) := by
 obtain ⟨e1, e2, e3⟩ := vC_inv e
 exact ⟨e2, e3, fun h2 => by rw [e1]; rfl⟩
theorem silent_val {op : Op} {ts : Tr CV} (hs : silent op = true) : ∃ oc, ∀ h, opC P run op ts h = vC h oc := by
 cases op with
 | move x => exact ⟨argC ts x, fun h => rfl⟩
 | assign x => exact ⟨argC ts x, fun h => rfl⟩
 | unOp o t x => exact ⟨_, fun h => rfl⟩
 | fieldAddr a x f => exact ⟨_, fun h => rfl⟩
 | field a x f => exact ⟨_, fun h => rfl⟩
 | sliceToArrayPointer a x => exact ⟨_, fun h => rfl⟩
 | pick k x y =>
  cases hc : argC ts k with
  | none => exact ⟨none, fun h => by simp only [opC, hc] <;> rfl⟩
  | some c => cases c with
   | bool b => exact ⟨bif b then argC ts x else argC ts y, fun h => by simp only [opC, hc]⟩
   | _ => exact ⟨none, fun h => by simp only [opC, hc] <;> rfl⟩
 | build t ps =>
  cases hc : partsC ts ps.toList with
  | none => exact ⟨none, fun h => by simp only [opC, hc] <;> rfl⟩
  | some l => exact ⟨buildC P t l, fun h => by simp only [opC, hc]⟩
 | nilCheck x =>
  cases hc : argC ts x with
  | none => exact ⟨none, fun h => by simp only [opC, hc] <;> rfl⟩
  | some c => cases c with
   | ptr b o => exact ⟨some (.ptr b o), fun h => by simp only [opC, hc]⟩
   | fn f l m => exact ⟨some (.fn f l m), fun h => by simp only [opC, hc]⟩
   | yield b => exact ⟨some (.yield b), fun h => by simp only [opC, hc]⟩
   | gp b k x z d => exact ⟨some (.gp b k x z d), fun h => by simp only [opC, hc]⟩
   | _ => exact ⟨none, fun h => by simp only [opC, hc] <;> rfl⟩
 | binOp o t x y z => exact ⟨_, fun h => rfl⟩
 | indexAddr t x y =>
  cases hx : argC ts x with
  | none => exact ⟨none, fun h => by simp only [opC, hx] <;> rfl⟩
  | some cx => cases hy : argC ts y with
   | none => exact ⟨none, fun h => by simp only [opC, hx, hy] <;> rfl⟩
   | some cy => exact ⟨indexAddrC P t cx cy, fun h => by simp only [opC, hx, hy]⟩
 | index t x y =>
  cases hx : argC ts x with
  | none => exact ⟨none, fun h => by simp only [opC, hx] <;> rfl⟩
  | some cx => cases hy : argC ts y with
   | none => exact ⟨none, fun h => by simp only [opC, hx, hy] <;> rfl⟩
   | some cy => exact ⟨indexC P t cx cy, fun h => by simp only [opC, hx, hy]⟩
 | makeFunc f a b =>
  cases f with
  | func f =>
   cases hx : argsC ts a.toList with
   | none => exact ⟨none, fun h => by simp only [opC, hx] <;> rfl⟩
   | some cx => cases hy : argsC ts b.toList with
    | none => exact ⟨none, fun h => by simp only [opC, hx, hy] <;> rfl⟩
    | some cy => exact ⟨some (.fn f cx cy), fun h => by simp only [opC, hx, hy]⟩
  | _ => exact ⟨none, fun h => rfl⟩
 | extract x i =>
  cases hc : argC ts x with
  | none => exact ⟨none, fun h => by simp only [opC, hc] <;> rfl⟩
  | some c => cases c with
   | tup l => exact ⟨l[i]?, fun h => by simp only [opC, hc]⟩
   | _ => exact ⟨none, fun h => by simp only [opC, hc] <;> rfl⟩
 | call k =>
  obtain ⟨callee, args, atys⟩ := k
  cases hc : argsC ts args.toList with
  | none => exact ⟨none, fun h => by simp only [opC, hc] <;> rfl⟩
  | some l => cases callee with
   | value f => simp [silent] at hs
   | invoke a b => simp [silent] at hs
   | builtin b => cases b with
    | min => exact ⟨minC false l, fun h => by simp only [opC, hc]⟩
    | max => exact ⟨minC true l, fun h => by simp only [opC, hc]⟩
    | complex => exact ⟨_, fun h => by simp only [opC, hc]; rfl⟩
    | real => exact ⟨_, fun h => by simp only [opC, hc]; rfl⟩
    | imag => exact ⟨_, fun h => by simp only [opC, hc]; rfl⟩
    | _ => simp [silent] at hs
 | _ => simp [silent] at hs
theorem len_val {op : Op} {ts : Tr CV} (hs : lenOk P op = true) : ∃ oc, ∀ h, opC P run op ts h = vC h oc := by
 unfold lenOk at hs
 split at hs
 ·rename_i args t
  have hl : ∀ x, ∃ oc, ∀ h, lenC P t x h = oc := fun x => by
   split at hs
   ·rename_i hu
    refine ⟨lenC P t x ⟨0, .e⟩, fun h => ?_⟩
    unfold lenC
    rw [hu]
    cases x <;> first
     | rfl
     | (rename_i e _ _; cases e <;> rfl)
     | (split <;> simp_all)
   ·rename_i hu
    refine ⟨lenC P t x ⟨0, .e⟩, fun h => ?_⟩
    unfold lenC
    rw [hu]
    cases x <;> first
     | rfl
     | (split <;> simp_all)
   ·cases hs
  cases hc : argsC ts args.toList with
  | none => exact ⟨none, fun h => by simp only [opC, hc] <;> rfl⟩
  | some l =>
   match l with
   | [] => exact ⟨none, fun h => by simp only [opC, hc] <;> rfl⟩
   | [x] =>
    obtain ⟨oc, ho⟩ := hl x.nn
    exact ⟨oc, fun h => by simp only [opC, hc, ho]⟩
   | _ :: _ :: _ => exact ⟨none, fun h => by simp only [opC, hc] <;> rfl⟩
 ·cases hs
theorem quiet_val {op : Op} {ts : Tr CV} (hs : quiet P op = true) : ∃ oc, ∀ h, opC P run op ts h = vC h oc := by
 unfold quiet at hs
 rw [Bool.or_eq_true, Bool.or_eq_true] at hs
 rcases hs with (hs | hs) | hs
 ·exact silent_val hs
 ·exact len_val hs
 ·cases op with
  | convert s d x =>
   have hd : isStrT P d = false := by simpa [convOk] using hs
   exact ⟨(argC ts x).bind (convL P s d), fun h => by simp only [opC, hd]; rfl⟩
  | _ => simp [convOk] at hs
theorem silent_any {op : Op} {ts : Tr CV} {h h' : CH} {c : CV} {lw : Nat} (hs : quiet P op = true) (e : opC P run op ts h = some (c, h', lw)) : h' = h ∧ lw = h.n ∧ ∀ h2 : CH, opC P run op ts h2 = some (c, h2, h2.n) := by
 obtain ⟨oc, ho⟩ := quiet_val (P := P) (run := run) (ts := ts) hs
 rw [ho h] at e
 obtain ⟨e1, e2, e3⟩ := vC_any e
 exact ⟨e1, e2, fun h2 => by rw [ho h2]; exact e3 h2⟩
variable {φ φ' : Phi} {w w' : World} {a a' : Act} {listed : Array Bool} {m : Nat}
theorem mem_opTmps {t : Tmp} : ∀ {l : List Operand}, Operand.tmp t ∈ l → t ∈ opTmps l
 | [], h => by cases h
 | x :: l, h => by
  rcases List.mem_cons.1 h with e | h2
  ·subst e; exact List.mem_cons_self
  ·have ih := mem_opTmps h2
   cases x <;> simp [opTmps, ih]
theorem rdy_evl {nt : Nat} (T : Trace P run ops s s' σ D) (hkp : RunKp run) (W : Drawn ops nt D bf) (I : Inv ops σ D φ w a s s' listed m φ' a' w') {i : Nat} {o : Oper} (R : Rdy ops listed i o) : EvL (φ'.cut (σ i).h.n) (σ i).ts a' o.op.operands.toList := by
 intro x hx c e
 cases x with
 | tmp t =>
  have hm : t ∈ namesC ops o := by unfold namesC; simp [mem_opTmps hx]
  obtain ⟨c0, e0, e1⟩ := Option.bind_eq_some_iff.1 e
  obtain ⟨v, hv, hr⟩ := slot_read T hkp W I R hm c0 e0
  have : a'.eval (.tmp t) = v := by show a'.tmps.getD t undef = v; simp [hv]
  rw [this]; exact useC_rel hr e1
 | const v => exact ofV_rel e
 | global g => cases e
 | func f => injection e with e; subst e; exact .fn .nil .nil
theorem put_val {s0 : St} {o : Oper} {c : CV} {nt : Nat} (hnt : s0.nt = nt) (hd : ∀ d, o.dst = some d → d < nt) : ∀ d, o.dst = some d → ∀ c', (putC s0 o.dst c).ts.get d = some c' → c' = c := by
 intro d h c' e
 rw [h, putC_own s0 d c (by rw [hnt]; exact hd d h)] at e
 injection e with e; exact e.symm
mutual
theorem below_rel {φ : Phi} {n : Nat} : ∀ (d : Nat) {c : CV} {v : Value}, belowC n d c = true → VR φ c v → VR (φ.cut n) c v
 | 0, _, _, e, _ => by cases e
 | d + 1, c, v, e, h => by
  have cut : ∀ {b : Nat} {p : Pl}, Nat.blt b n = true → φ b = some p → (φ.cut n) b = some p := fun hb hp => Phi.cut_some.2 ⟨blt_lt hb, hp⟩
  unfold belowC at e
  cases h with
  | bool b => exact .bool b
  | bs x => exact .bs x
  | int k n => exact .int k n
  | sym k x => exact .sym k x
  | str s => exact .str s
  | ss x => exact .ss x
  | nilp => exact .nilp
  | ptr h => exact .ptr (cut e h)
  | nils => exact .nils
  | sl h ho hn hz => exact .sl (cut e h) ho hn hz
  | gs hn hc ha => exact .gs hn hc (ha.imp (fun ⟨p, h, r⟩ => ⟨p, cut e h, r⟩) id)
  | gp h hx => exact .gp (cut e h) hx
  | nilm => exact .nilm
  | map h => exact .map (cut e h)
  | fn h k =>
   simp only [Bool.and_eq_true] at e
   exact .fn (belows_rel d e.1 h) (belows_rel d e.2 k)
  | yield h => exact .yield (cut e h)
  | nilf => exact .nilf
  | agg h => exact .agg (belows_rel d e h)
  | tup h => exact .tup (belows_rel d e h)
  | niln => exact .niln
  | litf k x => exact .litf k x
  | litc k x y => exact .litc k x y
theorem belows_rel {φ : Phi} {n : Nat} : ∀ (d : Nat) {l : List CV} {vs : List Value}, l.all (belowC n d) = true → VRs φ l vs → VRs (φ.cut n) l vs
 | _, _, _, _, .nil => .nil
 | d, _, _, e, .cons h t => by
  rw [List.all_cons, Bool.and_eq_true] at e
  exact .cons (below_rel d e.1 h) (belows_rel d e.2 t)
end
theorem loadC_get {t : TypeId} {p : CV} {r : Nat} {h h2 : CH} (hp : blockOf p = some r) (e : h2.get r = h.get r) : loadC P h2 t p = loadC P h t p := by
 cases p <;> first
  | (cases hp; done)
  | (injection hp with hp; subst hp; simp only [loadC, readC, e])
theorem readOf_at {n0 : Nat} {o : Oper} {s : St} {r : Nat} (h : readOf P n0 o s = some r) : ∃ t x p c, o.op = .load t x ∧ argC s.ts x = some p ∧ blockOf p = some r ∧ loadC P s.h t p = some c ∧ r < n0 ∧ belowC n0 9 c = true := by
 unfold readOf at h
 split at h
 ·rename_i t x ho
  split at h
  ·rename_i p hp
   split at h
   ·rename_i b c h1 h2
    obtain ⟨h3, h4⟩ := bif_some h
    injection h4 with h4; subst h4
    simp only [Bool.and_eq_true] at h3
    exact ⟨t, x, p, c, ho, hp, h1, h2, blt_lt h3.1, h3.2⟩
   ·cases h
  ·cases h
 ·cases h
theorem get_seg (T : Trace P run ops s s' σ D) (hkp : RunKp run) {r : Nat} (hr : r < s.h.n) : ∀ (d i : Nat), i + d ≤ ops.size → (∀ k, i ≤ k → k < i + d → D k = .wrote → (σ (k + 1)).h.get r = (σ k).h.get r) → (σ (i + d)).h.get r = (σ i).h.get r
 | 0, i, _, _ => rfl
 | d + 1, i, hd, h => by
  have ih := get_seg T hkp hr d i (by omega) (fun k h1 h2 => h k h1 (by omega))
  rw [← ih]
  obtain ⟨_, _, _, _, b5, _⟩ := T.one hkp (i := i + d) (by omega)
  have hn := (T.mono hkp (i := 0) (j := i + d) (by omega) (by omega)).1
  rw [T.s0] at hn
  by_cases hw : D (i + d) = .wrote
  ·exact h (i + d) (by omega) (by omega) hw
  ·exact b5 hw r (by omega)
theorem maker_any {op : Op} {ts : Tr CV} {h h' : CH} {c : CV} {lw : Nat} (hs : maker op = true) (e : opC P run op ts h = some (c, h', lw)) :
  (h' = h ∧ ∀ h2 : CH, h2.n = h.n → opC P run op ts h2 = some (c, h2, h2.n)) ∨ (∃ ob, h' = h.new ob ∧ ∀ h2 : CH, h2.n = h.n → opC P run op ts h2 = some (c, h2.new ob, h2.n + 1)) := by
 cases op with
 | alloc t =>
  simp only [opC] at e ⊢
  split at e
  ·rename_i z n hz hn
   obtain ⟨h1, h2⟩ := bif_some e
   injection h2 with h2; injection h2 with q1 q2; injection q2 with q2 q3
   exact .inr ⟨_, q2.symm, fun h2 hn2 => by simp only [h1, cond_true, hn2, q1]⟩
  ·cases e
 | box t x =>
  simp only [opC] at e ⊢
  split at e
  ·rename_i z hz
   injection e with h2; injection h2 with q1 q2; injection q2 with q2 q3
   exact .inr ⟨_, q2.symm, fun h2 hn2 => by simp only [hn2, q1]⟩
  ·cases e
 | buildSlice t n ps =>
  simp only [opC] at e ⊢
  split at e
  ·rename_i l hl
   have base : ∀ {h h' : CH} {c : CV} {lw : Nat}, buildSliceC0 P t n l h = some (c, h', lw) → ∃ ob, h' = h.new ob ∧ ∀ h2 : CH, h2.n = h.n → buildSliceC0 P t n l h2 = some (c, h2.new ob, h2.n + 1) := fun {h h' c lw} e => by
    unfold buildSliceC0 at e ⊢
    split at e
    ·split at e
     ·obtain ⟨g1, g2⟩ := bif_some e
      split at g2
      ·injection g2 with h2; injection h2 with q1 q2; injection q2 with q2 q3
       rename_i hc
       exact ⟨_, q2.symm, fun h2 hn2 => by simp only [g1, cond_true, hc, hn2, q1]⟩
      ·cases g2
     ·cases e
    ·cases e
   unfold buildSliceC at e ⊢
   cases hz : Nat.beq n 0 with
   | true =>
    rw [hz] at e
    simp only [cond_true] at e ⊢
    split at e
    ·rename_i r hr
     injection e with h2; injection h2 with q1 q2; injection q2 with q2 q3
     obtain ⟨c0, h0, l0⟩ := r
     obtain ⟨ob, _, k⟩ := base hr
     refine .inl ⟨q2.symm, fun h2 hn2 => ?_⟩
     simp only [k h2 hn2, q1]
    ·cases e
   | false =>
    rw [hz] at e
    simp only [cond_false] at e ⊢
    exact .inr (base e)
  ·cases e
 | makeSlice t a b =>
  simp only [opC] at e ⊢
  split at e
  ·unfold makeSliceC at e ⊢
   split at e
   ·split at e
    ·obtain ⟨g1, g2⟩ := bif_some e
     injection g2 with h2; injection h2 with q1 q2; injection q2 with q2 q3
     exact .inr ⟨_, q2.symm, fun h2 hn2 => by simp only [g1, cond_true, hn2, q1]⟩
    ·cases e
   ·split at e
    ·obtain ⟨g1, g2⟩ := bif_some e
     split at g2
     ·rename_i hm
      injection g2 with h2; injection h2 with q1 q2; injection q2 with q2 q3
      exact .inr ⟨_, q2.symm, fun h2 hn2 => by simp only [g1, cond_true, hm, hn2, q1]⟩
     ·cases g2
    ·cases e
   ·cases e
  ·cases e
 | makeMap t r =>
  cases r with
  | none =>
   simp only [opC] at e ⊢
   injection e with h2; injection h2 with q1 q2; injection q2 with q2 q3
   exact .inr ⟨_, q2.symm, fun h2 hn2 => by rw [hn2, q1]⟩
  | some r => simp [maker] at hs
 | _ => simp [maker] at hs
theorem get_seg2 (T : Trace P run ops s s' σ D) (hkp : RunKp run) {r : Nat} : ∀ (d i : Nat), r < (σ i).h.n → i + d ≤ ops.size → (∀ k, i ≤ k → k < i + d → D k = .wrote → (σ (k + 1)).h.get r = (σ k).h.get r) → (σ (i + d)).h.get r = (σ i).h.get r
 | 0, i, _, _, _ => rfl
 | d + 1, i, hr, hd, h => by
  have ih := get_seg2 T hkp d i hr (by omega) (fun k h1 h2 => h k h1 (by omega))
  rw [← ih]
  obtain ⟨_, _, _, _, b5, _⟩ := T.one hkp (i := i + d) (by omega)
  have hn := (T.mono hkp (i := i) (j := i + d) (by omega) (by omega)).1
  by_cases hw : D (i + d) = .wrote
  ·exact h (i + d) (by omega) (by omega) hw
  ·exact b5 hw r (by omega)
theorem drawn_step {F : Fence} (hF : FW F) (hrun : RunsOk P run) {n : Nat} {nt : Nat} (MK : Makes ops σ D bf) (RD : Reads P s.h.n ops σ D bf) (T : Trace P run ops s s' σ D) (hkp : RunKp run) (hwf : ∀ b, (σ 0).h.n ≤ b → (σ 0).h.get b = none) (W : Drawn ops nt D bf) (I : Inv ops σ D φ w a s s' listed m φ' a' w') (hnt : s.nt = nt) {i : Nat} {o : Oper} (R : Rdy ops listed i o)
  {K : Act → World → Prop} {Q : Exit → Act → World → Prop} (hk : ∀ m' φ'' a'' w'', Inv ops σ D φ w a s s' (listed.setIfInBounds i true) m' φ'' a'' w'' → K a'' w'') : wpOpIn F n P ops Q i K a' w' := by
 have hi := R.lt
 obtain ⟨b, hst, hDi⟩ := T.st i o R.get
 have hnti : (σ i).nt = nt := by rw [(T.mono hkp (i := 0) (j := i) (by omega) (by omega)).2.2.1, T.s0, hnt]
 have hrm : HR (φ'.cut (σ m).h.n) (σ m).h w' := I.hr m (Nat.le_refl _) (fun j h1 h2 => by omega)
 have hcutlt : ∀ k b p, (φ'.cut k) b = some p → b < k := fun k b p e => (Phi.cut_some.1 e).1
 unfold wpOpIn
 simp only [R.get]
 unfold stepC at hst
 split at hst
 ·-- it is wanted
  rename_i hw
  rw [wanted_rel (φ := φ'.cut (σ i).h.n) (fun d c ⟨j, wt, h1, h2⟩ h3 => slot_read T hkp W I R (by unfold namesC; rw [h1]; simp [h2]) c h3) hw, if_pos rfl]
  split at hst
  ·rename_i c h b' hop
   injection hst with hst; injection hst with e1 e2
   subst e2
   have hh : (σ (i + 1)).h = h ∧ (σ (i + 1)).lw = min (σ i).lw b' := by
    rw [← e1]; obtain ⟨q1, q2, _⟩ := putC_h { (σ i) with h := h, lw := min (σ i).lw b' } o.dst c; exact ⟨q1, q2⟩
   have hval : ∀ d, o.dst = some d → ∀ c', (σ (i + 1)).ts.get d = some c' → c' = c := by
    rw [← e1]; exact put_val (s0 := { (σ i) with h := h, lw := min (σ i).lw b' }) hnti (fun d hd => W.dst i o d R.get hd)
   have hev := rdy_evl T hkp W I R
   cases hDD : D i with
   | wrote =>
    -- a writer: it is the next one
    have him : i = m := by
     have h1 := (I.wr i hi hDD)
     have h2 : ¬ i < m := fun h => R.un (h1.2 h)
     rcases Nat.lt_or_ge m i with h | h
     ·rcases I.m_wr with e | e
      ·omega
      ·rcases W.pair i m h hi with h3 | h3
       ·rw [e, hDD] at h3; cases h3
       ·rcases bf_listed W I R h3 with h4 | h4
        ·omega
        ·exact absurd ((I.wr m (by omega) e).1 h4) (by omega)
     ·omega
    subst him
    refine op_in hF hrun hop hrm hev K Q fun φ'' v w'' g1 g2 g3 => ?_
    have hlw : s'.lw ≤ b' := by
     have := (T.mono hkp (i := i + 1) (j := ops.size) (by omega) (Nat.le_refl _)).2.1
     rw [T.sN, hh.2] at this
     omega
    rw [← hh.1] at g2
    obtain ⟨m', φ2, hI⟩ := adv_write T hkp hwf W I hnt R hDD hlw g1 g2 (val := v) (fun d hd c' hc => by rw [hval d hd c' hc]; exact g3)
    exact hk m' φ2 _ w'' hI
   | none =>
    -- silent
    have hsil : quiet P o.op = true ∧ ¬ b' < (σ i).h.n := by
     rw [hDD] at hDi
     unfold didOf at hDi
     cases hq : Nat.blt b' (σ i).h.n with
     | true => rw [hq] at hDi; cases hDi
     | false =>
      rw [hq] at hDi
      cases hs : quiet P o.op with
      | false => rw [hs] at hDi; simp only [cond_false] at hDi; cases hmm : maker o.op <;> rw [hmm] at hDi <;> simp only [cond_true, cond_false] at hDi <;> first | (cases hDi; done) | (split at hDi <;> cases hDi)
      | true => exact ⟨rfl, fun h => by
        have := Nat.ble_eq_true_of_le h
        rw [show Nat.blt b' (σ i).h.n = Nat.ble (b' + 1) (σ i).h.n from rfl] at hq
        rw [hq] at this; cases this⟩
    obtain ⟨k1, k2, k3⟩ := silent_any hsil.1 hop
    have hop0 := k3 ⟨(σ i).h.n, .e⟩
    have hr0 : HR (φ'.cut (σ i).h.n) ⟨(σ i).h.n, .e⟩ w' := ⟨(fun b o p e _ => by cases e), (fun b b' o o' p p' e => by cases e), fun b p e => ⟨hcutlt _ b p e, I.lt b p (Phi.cut_le _ _ b p e)⟩, fun b _ => rfl, fun b o e _ => by cases e⟩
    refine op_in hF hrun hop0 hr0 hev K Q fun φ1 v w1 g1 g2 g3 => hk m φ' _ w1 ?_
    have hback : φ1.le (φ'.cut (σ i).h.n) := fun b p e => by
     rcases g1.new b p e with h | ⟨h, _⟩
     ·exact h
     ·have := (g2.lt b p e).1
      exact absurd this (by simpa using h)
    have hfr : ∀ r, r < w'.heap.size → w1.heap[r]? = w'.heap[r]? := fun r hr => g1.fr r hr fun b p hb e => absurd (hcutlt _ b p e) (by simpa using hb)
    have hn : (σ (i + 1)).h.n = (σ i).h.n := by rw [hh.1, k1]
    exact adv_pure T hkp W I hnt R (by rw [hDD]; simp) (Phi.le_refl _) (fun x p h => .inl h) g1.os g1.tape g1.output g1.size hfr (fun k _ hkm hs => (I.hr k hkm hs).still g1.size hfr) (.inr (.inr rfl)) (fun b p e => Nat.lt_of_lt_of_le (I.lt b p e) g1.size) (fun hm => by rw [hDD] at hm; cases hm)
     (fun d hd c' hc => by rw [hval d hd c' hc, hn]; exact g3.mono hback)
   | read =>
    -- a load of an old block that is as it was
    obtain ⟨r, hrd⟩ : ∃ r, readOf P s.h.n o (σ i) = some r := by
     rw [hDD] at hDi
     unfold didOf at hDi
     cases hq : Nat.blt b' (σ i).h.n with
     | true => rw [hq] at hDi; cases hDi
     | false =>
      rw [hq] at hDi
      cases hs : quiet P o.op with
      | true => rw [hs] at hDi; cases hDi
      | false =>
       rw [hs] at hDi
       cases hmm : maker o.op with
       | true => rw [hmm] at hDi; cases hDi
       | false =>
        rw [hmm] at hDi
        cases hr : readOf P s.h.n o (σ i) with
        | some r => exact ⟨r, rfl⟩
        | none => rw [hr] at hDi; cases hDi
    obtain ⟨t, x, p, c0, ho, hx, hbl, hld, hr0, hbe⟩ := readOf_at hrd
    have same : ∀ j, j < ops.size → D j = .wrote → ¬ bf i j → ¬ bf j i → (σ (j + 1)).h.get r = (σ j).h.get r := fun j hj hw h1 h2 => by
     rcases RD i o r j R.get hrd hj hw with h3 | h3 | h3
     ·exact absurd h3 h1
     ·exact absurd h3 h2
     ·exact (sameOptOb_eq h3).symm
    have heq : (σ m).h.get r = (σ i).h.get r := by
     rcases Nat.lt_or_ge i m with h | h
     ·have := get_seg T hkp hr0 (m - i) i (by have := I.m_le; omega) (fun k h1 h2 hw => by
       have hl := (I.wr k (by have := I.m_le; omega) hw).2 (by omega)
       have hki : k ≠ i := fun e => R.un (e ▸ hl)
       refine same k (by have := I.m_le; omega) hw (fun hb => ?_) (fun hb => R.un (bf_down W I hl hb))
       have := W.le hb; omega)
      rwa [show i + (m - i) = m by omega] at this
     ·have := get_seg T hkp hr0 (i - m) m (by omega) (fun k h1 h2 hw => by
       refine same k (by omega) hw (fun hb => ?_) (fun hb => ?_)
       ·rcases bf_listed W I R hb with e | hl
        ·omega
        ·exact absurd ((I.wr k (by omega) hw).1 hl) (by omega)
       ·have := W.le hb; omega)
      rw [show m + (i - m) = i by omega] at this
      exact this.symm
    have hc0 : c = c0 ∧ h = (σ i).h := by
     rw [ho] at hop
     simp only [opC, hx, Option.bind_some, hld, vC] at hop
     injection hop with hop; injection hop with q1 q2; injection q2 with q2 q3
     exact ⟨q1.symm, q2.symm⟩
    obtain ⟨rfl, hh2⟩ := hc0
    have hop2 : opC P run o.op (σ i).ts (σ m).h = some (c, (σ m).h, (σ m).h.n) := by
     rw [ho]
     simp only [opC, hx, Option.bind_some, loadC_get hbl heq, hld, vC]
    have hnm0 : s.h.n ≤ (σ m).h.n := by
     have := (T.mono hkp (i := 0) (j := m) (by omega) I.m_le).1
     rwa [T.s0] at this
    refine op_in hF hrun hop2 hrm (fun y hy cy ey => ?_) K Q fun φ1 v w1 g1 g2 g3 => hk m φ' _ w1 ?_
    ·have hyx : y = x := by rw [ho] at hy; simpa [Op.operands] using hy
     have hv0 := hev y hy cy ey
     rw [hyx, hx] at ey
     injection ey with ey
     rw [← ey] at hv0 ⊢
     have hb1 : belowC s.h.n 1 p = true := by
      cases p <;> first
       | (cases hbl; done)
       | (injection hbl with hbl; subst hbl; exact Nat.ble_eq_true_of_le hr0)
     refine (below_rel 1 hb1 hv0).mono fun b q e => ?_
     obtain ⟨e1, e2⟩ := Phi.cut_some.1 e
     exact Phi.cut_some.2 ⟨by omega, (Phi.cut_some.1 e2).2⟩
    have hback : φ1.le φ' := fun b p e => by
     rcases g1.new b p e with h | ⟨h, _⟩
     ·exact (Phi.cut_some.1 h).2
     ·have := (g2.lt b p e).1; omega
    have hfr : ∀ r, r < w'.heap.size → w1.heap[r]? = w'.heap[r]? := fun r hr => g1.fr r hr fun b p hb e => absurd (hcutlt _ b p e) (by omega)
    have hn : (σ (i + 1)).h.n = (σ i).h.n := by rw [hh.1, hh2]
    have n0 : s.h.n ≤ (σ (i + 1)).h.n := by
     have := (T.mono hkp (i := 0) (j := i + 1) (by omega) (by omega)).1
     rwa [T.s0] at this
    exact adv_pure T hkp W I hnt R (by rw [hDD]; simp) (Phi.le_refl _) (fun x p h => .inl h) g1.os g1.tape g1.output g1.size hfr (fun k _ hkm hs => (I.hr k hkm hs).still g1.size hfr) (.inr (.inr rfl)) (fun b p e => Nat.lt_of_lt_of_le (I.lt b p e) g1.size) (fun hm => by rw [hDD] at hm; cases hm)
     (fun d hd c' hc => by rw [hval d hd c' hc]; exact (below_rel 9 hbe (g3.mono hback)).mono (Phi.cut_cut (Phi.le_refl _) n0))
   | made =>
    -- a maker: it looks at no memory
    have hmk : maker o.op = true := by
     rw [hDD] at hDi
     unfold didOf at hDi
     cases hq : Nat.blt b' (σ i).h.n with
     | true => rw [hq] at hDi; cases hDi
     | false =>
      rw [hq] at hDi
      cases hs : quiet P o.op with
      | true => rw [hs] at hDi; cases hDi
      | false =>
       rw [hs] at hDi
       cases hmm : maker o.op with
       | true => rfl
       | false => rw [hmm] at hDi; simp only [cond_false] at hDi; split at hDi <;> cases hDi
    have hr0 : HR (φ'.cut (σ i).h.n) ⟨(σ i).h.n, .e⟩ w' := ⟨(fun b o p e _ => by cases e), (fun b b' o o' p p' e => by cases e), fun b p e => ⟨hcutlt _ b p e, I.lt b p (Phi.cut_le _ _ b p e)⟩, fun b _ => rfl, fun b o e _ => by cases e⟩
    rcases maker_any hmk hop with ⟨k1, k3⟩ | ⟨ob, k1, k3⟩
    ·refine op_in hF hrun (k3 ⟨(σ i).h.n, .e⟩ rfl) hr0 hev K Q fun φ1 v w1 g1 g2 g3 => hk m φ' _ w1 ?_
     have hback : φ1.le (φ'.cut (σ i).h.n) := fun b p e => by
      rcases g1.new b p e with h | ⟨h, _⟩
      ·exact h
      ·have := (g2.lt b p e).1
       exact absurd this (by simpa using h)
     have hfr : ∀ r, r < w'.heap.size → w1.heap[r]? = w'.heap[r]? := fun r hr => g1.fr r hr fun b p hb e => absurd (hcutlt _ b p e) (by simpa using hb)
     have hn : (σ (i + 1)).h.n = (σ i).h.n := by rw [hh.1, k1]
     exact adv_pure T hkp W I hnt R (by rw [hDD]; simp) (Phi.le_refl _) (fun x p h => .inl h) g1.os g1.tape g1.output g1.size hfr (fun k _ hkm hs => (I.hr k hkm hs).still g1.size hfr) (.inr (.inr rfl)) (fun b p e => Nat.lt_of_lt_of_le (I.lt b p e) g1.size) (fun _ x p h1 h2 => by omega)
      (fun d hd c' hc => by rw [hval d hd c' hc, hn]; exact g3.mono hback)
    ·refine op_in hF hrun (k3 ⟨(σ i).h.n, .e⟩ rfl) hr0 hev K Q fun φ1 v w1 g1 g2 g3 => ?_
     have hn : (σ (i + 1)).h.n = (σ i).h.n + 1 := by rw [hh.1, k1]; rfl
     have hget : (σ (i + 1)).h.get (σ i).h.n = some ob := by rw [hh.1, k1, CH.get_new, if_pos rfl]
     have hfr : ∀ r, r < w'.heap.size → w1.heap[r]? = w'.heap[r]? := fun r hr => g1.fr r hr fun b p hb e => absurd (hcutlt _ b p e) (by simp only at hb; omega)
     have hlow : ∀ x p, φ1 x = some p → x < (σ i).h.n → φ' x = some p := fun x p e hx => by
      rcases g1.new x p e with h | ⟨h, _⟩
      ·exact Phi.cut_le _ _ x p h
      ·simp only at h; omega
     have hhigh : ∀ x p, φ1 x = some p → (σ i).h.n ≤ x → w'.heap.size ≤ p.r := fun x p e hx => by
      rcases g1.new x p e with h | ⟨_, h | ⟨b0, p0, h1, h2, _⟩⟩
      ·exact absurd (hcutlt _ x p h) (by omega)
      ·exact h
      ·exact absurd (hcutlt _ b0 p0 h2) (by simp only at h1; omega)
     have hlim : ∀ x p, φ1 x = some p → x < (σ i).h.n + 1 := fun x p e => (g2.lt x p e).1
     have hnone : φ' (σ i).h.n = none := I.own i hi R.un _ (Nat.le_refl _) (by omega)
     obtain ⟨φ'', hφ⟩ : ∃ φ'' : Phi, φ'' = fun x => if x = (σ i).h.n then φ1 x else φ' x := ⟨_, rfl⟩
     have hin : φ'' (σ i).h.n = φ1 (σ i).h.n := by rw [hφ]; exact if_pos rfl
     have hout : ∀ x, x ≠ (σ i).h.n → φ'' x = φ' x := fun x h => by rw [hφ]; exact if_neg h
     have hle : φ'.le φ'' := fun x p e => by
      by_cases h : x = (σ i).h.n
      ·rw [h, hnone] at e; cases e
      ·rw [hout x h]; exact e
     have hle1 : φ1.le φ'' := fun x p e => by
      have hx := hlim x p e
      by_cases h : x = (σ i).h.n
      ·rw [h, hin, ← h]; exact e
      ·rw [hout x h]; exact hlow x p e (by omega)
     have hle1c : ∀ k, i < k → k ≤ ops.size → φ1.le (φ''.cut (σ k).h.n) := fun k h1 h2 x p e => Phi.cut_some.2 ⟨by have := hlim x p e; have := (T.mono hkp (i := i + 1) (j := k) (by omega) h2).1; omega, hle1 x p e⟩
     have cls : ∀ x p, φ'' x = some p → (x = (σ i).h.n ∧ φ1 x = some p ∧ w'.heap.size ≤ p.r) ∨ (x ≠ (σ i).h.n ∧ φ' x = some p ∧ p.r < w'.heap.size) := fun x p e => by
      by_cases h : x = (σ i).h.n
      ·rw [h, hin] at e
       exact .inl ⟨h, by rw [h]; exact e, hhigh x p (by rw [h]; exact e) (by omega)⟩
      ·rw [hout x h] at e; exact .inr ⟨h, e, I.lt x p e⟩
     have hobj : ∀ p, φ1 (σ i).h.n = some p → OR φ1 w1.heap[p.r]? p ob := fun p e => g2.ob (σ i).h.n ob p (by rw [CH.get_new]; exact if_pos rfl) e
     have hlt'' : ∀ x p, φ'' x = some p → p.r < w1.heap.size := fun x p e => by
      rcases cls x p e with ⟨_, h, _⟩ | ⟨_, _, h⟩
      ·exact (g2.lt x p h).2
      ·exact Nat.lt_of_lt_of_le h g1.size
     refine hk m φ'' _ w1 (adv_pure T hkp W I hnt R (by rw [hDD]; simp) hle (fun x p e => ?_) g1.os g1.tape g1.output g1.size hfr (fun k h1 h2 h3 => ?_) (.inr (.inl hDD)) hlt'' (fun _ x p h1 h2 e => ?_) (fun d hd c' hc => by rw [hval d hd c' hc]; exact g3.mono (hle1c (i + 1) (by omega) (by omega))))
     ·rcases cls x p e with ⟨h1, h2, h3⟩ | ⟨_, h, _⟩
      ·exact .inr ⟨by omega, by omega, h3⟩
      ·exact .inl h
     ·have hk := I.hr k h2 h3
      have hkN : k ≤ ops.size := Nat.le_trans h2 I.m_le
      have hgk : (σ k).h.get (σ i).h.n = some ob := by
       rw [← hget, show k = (i + 1) + (k - (i + 1)) by omega]
       refine get_seg2 T hkp (k - (i + 1)) (i + 1) (by omega) (by omega) fun u u1 u2 hw => ?_
       have hlu := (I.wr u (by omega) hw).2 (by omega)
       rcases MK i u (by omega) (by omega) hDD hw with h | h
       ·exact absurd (bf_down W I hlu h) R.un
       ·exact blocksSame_get (f := sameOb) sameOptOb_eq h _ (Nat.le_refl _) (by omega)
      have hcl : (φ'.cut (σ k).h.n).le (φ''.cut (σ k).h.n) := Phi.cut_cut hle (Nat.le_refl _)
      refine ⟨fun x y p e1 e2 => ?_, fun x x' y y' p p' e1 e1' e2 e2' er => ?_, fun x p e => ⟨(Phi.cut_some.1 e).1, hlt'' x p (Phi.cut_some.1 e).2⟩, hk.nw, fun x y e1 e2 => by
       obtain ⟨p, hp⟩ := hk.gl x y e1 e2
       exact ⟨p, hcl x p hp⟩⟩
      ·obtain ⟨c0, c1⟩ := Phi.cut_some.1 e2
       rcases cls x p c1 with ⟨c2, c3, _⟩ | ⟨_, c3, c4⟩
       ·rw [c2, hgk] at e1
        injection e1 with e1; subst e1
        rw [c2] at c3
        exact (hobj p c3).mono (hle1c k h1 hkN)
       ·rw [hfr p.r c4]
        exact (hk.ob x y p e1 (Phi.cut_some.2 ⟨c0, c3⟩)).mono hcl
      ·obtain ⟨c0, c1⟩ := Phi.cut_some.1 e2
       obtain ⟨d0, d1⟩ := Phi.cut_some.1 e2'
       rcases cls x p c1 with ⟨c2, c3, c4⟩ | ⟨_, c3, c4⟩ <;> rcases cls x' p' d1 with ⟨d2, d3, d4⟩ | ⟨_, d3, d4⟩
       ·exact .inl (c2.trans d2.symm)
       ·omega
       ·omega
       ·exact hk.ap x x' y y' p p' e1 e1' (Phi.cut_some.2 ⟨c0, c3⟩) (Phi.cut_some.2 ⟨d0, d3⟩) er
     ·have hx : x = (σ i).h.n := by omega
      subst hx
      rw [hin] at e
      refine ⟨fun o' ho' => ?_, fun y q ey er => ?_⟩
      ·rw [hget] at ho'
       injection ho' with ho'; subst ho'
       exact (hobj p e).mono (hle1c (i + 1) (by omega) (by omega))
      ·rcases cls y q ey with ⟨h, _⟩ | ⟨_, _, h⟩
       ·exact h
       ·have := hhigh _ p e (Nat.le_refl _); omega
   | looked =>
    have hb' : ¬ b' < (σ i).h.n := by
     intro h
     have := (did_wrote (P := P) (n0 := s.h.n) (o := o) (s := σ i) (b := b')).2 h
     rw [← hDi, hDD] at this
     cases this
    have him : i < m := by
     rcases Nat.lt_or_ge i m with h | h
     ·exact h
     ·rcases I.m_wr with e | e
      ·omega
      ·have hne : i ≠ m := fun h => by rw [h, e] at hDD; cases hDD
       rcases W.pair i m (by omega) hi with h3 | h3
       ·rw [e, hDD] at h3; cases h3
       ·rcases bf_listed W I R h3 with h4 | h4
        ·omega
        ·exact absurd ((I.wr m (by omega) e).1 h4) (by omega)
    have hno : ∀ j, i ≤ j → j < m → D j ≠ .wrote := fun j h1 h2 hd => by
     have hl := (I.wr j (by have := I.m_le; omega) hd).2 h2
     have hji : j ≠ i := fun e => R.un (e ▸ hl)
     rcases W.pair j i (by omega) (by have := I.m_le; omega) with h3 | h3
     ·rw [hd, hDD] at h3; cases h3
     ·exact R.un (bf_down W I hl h3)
    have hri := I.hr i (by omega) hno
    refine op_in hF hrun hop hri hev K Q fun φ1 v w1 g1 g2 g3 => ?_
    rw [← hh.1] at g2
    have hfr : ∀ r, r < w'.heap.size → w1.heap[r]? = w'.heap[r]? := fun r hr => g1.fr r hr fun b p hb e => absurd (hcutlt _ b p e) (by omega)
    have hn1 := (T.mono hkp (i := i) (j := i + 1) (by omega) (by omega)).1
    have hlow : ∀ x p, φ1 x = some p → x < (σ i).h.n → φ' x = some p := fun x p e hx => by
     rcases g1.new x p e with h | ⟨h, _⟩
     ·exact Phi.cut_le _ _ x p h
     ·omega
    have hhigh : ∀ x p, φ1 x = some p → (σ i).h.n ≤ x → w'.heap.size ≤ p.r := fun x p e hx => by
     rcases g1.new x p e with h | ⟨_, h | ⟨b0, p0, h1, h2, _⟩⟩
     ·exact absurd (hcutlt _ x p h) (by omega)
     ·exact h
     ·exact absurd (hcutlt _ b0 p0 h2) (by omega)
    have hnone : ∀ x, (σ i).h.n ≤ x → x < (σ (i + 1)).h.n → φ' x = none := I.own i hi R.un
    obtain ⟨φ'', hφ⟩ : ∃ φ'' : Phi, φ'' = fun x => if (σ i).h.n ≤ x ∧ x < (σ (i + 1)).h.n then φ1 x else φ' x := ⟨_, rfl⟩
    have hin : ∀ x, (σ i).h.n ≤ x → x < (σ (i + 1)).h.n → φ'' x = φ1 x := fun x h1 h2 => by rw [hφ]; exact if_pos ⟨h1, h2⟩
    have hout : ∀ x, ¬ ((σ i).h.n ≤ x ∧ x < (σ (i + 1)).h.n) → φ'' x = φ' x := fun x h => by rw [hφ]; exact if_neg h
    have hle : φ'.le φ'' := fun x p e => by
     by_cases h : (σ i).h.n ≤ x ∧ x < (σ (i + 1)).h.n
     ·rw [hnone x h.1 h.2] at e; cases e
     ·rw [hout x h]; exact e
    have hle1 : φ1.le φ'' := fun x p e => by
     have hx := (g2.lt x p e).1
     by_cases h : (σ i).h.n ≤ x
     ·rw [hin x h hx]; exact e
     ·rw [hout x (fun h' => h h'.1)]; exact hlow x p e (by omega)
    have hle1c : ∀ k, i < k → k ≤ ops.size → φ1.le (φ''.cut (σ k).h.n) := fun k h1 h2 x p e => Phi.cut_some.2 ⟨by have := (g2.lt x p e).1; have := (T.mono hkp (i := i + 1) (j := k) (by omega) h2).1; omega, hle1 x p e⟩
    refine hk m φ'' _ w1 (adv_pure T hkp W I hnt R (by rw [hDD]; simp) hle (fun x p e => ?_) g1.os g1.tape g1.output g1.size hfr (fun k h1 h2 h3 => ?_) (.inl him) (fun x p e => ?_) (fun hm => by rw [hDD] at hm; cases hm) (fun d hd c' hc => by rw [hval d hd c' hc]; exact g3.mono (hle1c (i + 1) (by omega) (by omega))))
    ·by_cases h : (σ i).h.n ≤ x ∧ x < (σ (i + 1)).h.n
     ·rw [hin x h.1 h.2] at e
      exact .inr ⟨h.1, h.2, hhigh x p e h.1⟩
     ·rw [hout x h] at e; exact .inl e
    ·-- the heap from here on
     have hk := I.hr k h2 h3
     have hkN : k ≤ ops.size := Nat.le_trans h2 I.m_le
     have hseg := T.seg hkp (i := i + 1) (j := k) (by omega) hkN (fun j g4 g5 => hno j (by omega) (by omega))
     have hmono := (T.mono hkp (i := i + 1) (j := k) (by omega) hkN).1
     have hcl : (φ'.cut (σ k).h.n).le (φ''.cut (σ k).h.n) := Phi.cut_cut hle (Nat.le_refl _)
     have cls : ∀ x p, (φ''.cut (σ k).h.n) x = some p → ((σ i).h.n ≤ x ∧ x < (σ (i + 1)).h.n ∧ φ1 x = some p ∧ (σ k).h.get x = (σ (i + 1)).h.get x ∧ w'.heap.size ≤ p.r) ∨ ((φ'.cut (σ k).h.n) x = some p) := fun x p e => by
      obtain ⟨e1, e2⟩ := Phi.cut_some.1 e
      by_cases h : (σ i).h.n ≤ x ∧ x < (σ (i + 1)).h.n
      ·rw [hin x h.1 h.2] at e2
       exact .inl ⟨h.1, h.2, e2, hseg x h.2, hhigh x p e2 h.1⟩
      ·rw [hout x h] at e2
       exact .inr (Phi.cut_some.2 ⟨e1, e2⟩)
     refine ⟨fun x y p e1 e2 => ?_, fun x x' y y' p p' e1 e1' e2 e2' er => ?_, fun x p e => ?_, hk.nw, fun x y e1 e2 => by
      obtain ⟨p, hp⟩ := hk.gl x y e1 e2
      exact ⟨p, hcl x p hp⟩⟩
     ·rcases cls x p e2 with ⟨_, _, c3, c4, _⟩ | c1
      ·rw [c4] at e1
       exact (g2.ob x y p e1 c3).mono (hle1c k h1 hkN)
      ·rw [hfr p.r (hk.lt x p c1).2]
       exact (hk.ob x y p e1 c1).mono hcl
     ·rcases cls x p e2 with ⟨_, _, c3, c4, c5⟩ | c1 <;> rcases cls x' p' e2' with ⟨_, _, d3, d4, d5⟩ | d1
      ·rw [c4] at e1; rw [d4] at e1'
       exact g2.ap x x' y y' p p' e1 e1' c3 d3 er
      ·have := (hk.lt x' p' d1).2; omega
      ·have := (hk.lt x p c1).2; omega
      ·exact hk.ap x x' y y' p p' e1 e1' c1 d1 er
     ·refine ⟨(Phi.cut_some.1 e).1, ?_⟩
      rcases cls x p e with ⟨_, _, c3, _, _⟩ | c1
      ·exact (g2.lt x p c3).2
      ·exact Nat.lt_of_lt_of_le (hk.lt x p c1).2 g1.size
    ·by_cases h : (σ i).h.n ≤ x ∧ x < (σ (i + 1)).h.n
     ·rw [hin x h.1 h.2] at e; exact (g2.lt x p e).2
     ·rw [hout x h] at e; exact Nat.lt_of_lt_of_le (I.lt x p e) g1.size
  ·cases hst
 ·-- it is not wanted
  rename_i hw
  rw [wanted_rel (φ := φ'.cut (σ i).h.n) (fun d c ⟨j, wt, h1, h2⟩ h3 => slot_read T hkp W I R (by unfold namesC; rw [h1]; simp [h2]) c h3) hw, if_neg (by simp)]
  injection hst with hst; injection hst with e1 e2
  refine ⟨fun f _ => hF.fn f, hk m φ' _ w' ?_⟩
  have hDn : D i ≠ .wrote := by
   rw [hDi, ← e2]
   intro h
   exact absurd (did_wrote.1 h) (by omega)
  have hnn : (σ (i + 1)).h.n = (σ i).h.n := by
   rw [← e1]; obtain ⟨q1, _⟩ := putC_h (σ i) o.dst (.tup []); rw [q1]
  have hval : ∀ d, o.dst = some d → ∀ c', (σ (i + 1)).ts.get d = some c' → c' = .tup [] := by
   rw [← e1]; exact put_val hnti (fun d hd => W.dst i o d R.get hd)
  exact adv_pure T hkp W I hnt R hDn (Phi.le_refl _) (fun x p h => .inl h) rfl rfl rfl (Nat.le_refl _) (fun _ _ => rfl) (fun k _ hkm hs => I.hr k hkm hs) (.inr (.inr rfl)) I.lt (fun _ x p h1 h2 => by omega) (fun d hd c' hc => by rw [hval d hd c' hc]; exact .tup .nil)
 ·cases hst
end
end Go.Proofs.YthffbfkcmbgghaaGreat.Cm
